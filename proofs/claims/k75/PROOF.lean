import PyProof.Rows.All
import Wide.All
import OpenK.AllK
import Wide.FinOn
import PyProof.EqAt
import PyProof.EqKinds
import PyProof.TupleCall
import PyProof.NoPylong
import PyProof.Fits
import HandS.ForMost
import HandS.ForExc
import HandS.Wide
import HandS.Gcd
import HandS.ExcInit
import HandS.ExcField
import HandS.TryMany
import HandS.IsInst
import HandS.Flow
import HandS.Evl
import HandS.Style
import HandS.More
import HandS.TupAny
import HandS.Zip
import HandS.Deep
import HandS.NoneIn
import HandS.Walk
import PyProof.P3In
import Flt.RightSqrt
import KE.KMathG
import HandS.List
import HandS.Call
import PySem.Challenge.RW_wholefloors_k75_whole_numbers_divided
set_option Elab.async false
set_option linter.all false
set_option maxRecDepth 100000
set_option maxHeartbeats 4000000
/-! Lz: what a piece of a def does, by data; some lists (the cells) may be written; what is wanted of an outcome is told behind it. -/
namespace Wz
open PySem PySem.Spec PyProof.Rows L2 Evl

/-! ### the least that is asked -/
def WE (X : Cx) (e : Expr) (st : L2.St) (H : Hp) (Q : VK) : Prop :=
  ∀ (pins : List (Addr × Obj)) (s : Shared), Inv X pins st H s → wpAny (model X.prog X.w) X.A (eval e X.env) (EP X pins st Q) X.xe s
def WT (X : Cx) (e : Expr) (st : L2.St) (H : Hp) (Q : Bool → Hp → Prop) : Prop :=
  ∀ (pins : List (Addr × Obj)) (s : Shared), Inv X pins st H s → wpAny (model X.prog X.w) X.A (isTrue e X.env (eval e X.env)) (TP X pins st Q) X.xe s
def WW (X : Cx) (e : Expr) (st : L2.St) (H : Hp) (Q : Bool → Hp → Prop) : Prop :=
  ∀ (wh : Sem Value) (pins : List (Addr × Obj)) (s : Shared), Inv X pins st H s → wpAny (model X.prog X.w) X.A (isTrue e X.env wh) (TP X pins st Q) X.xe s
def WA (X : Cx) (es : List Expr) (st : L2.St) (H : Hp) (Q : List V → Hp → Prop) : Prop :=
  ∀ (pos : Pos) (pins : List (Addr × Obj)) (s : Shared), Inv X pins st H s → wpAny (model X.prog X.w) X.A (spliced (backTo pos (starEach es X.env))) (AP X pins st Q) X.xe s
def WK (X : Cx) (ks : List Keyword) (st : L2.St) (H : Hp) (Q : List V → Hp → Prop) : Prop :=
  ∀ (pos : Pos) (pins : List (Addr × Obj)) (s : Shared), Inv X pins st H s → wpAny (model X.prog X.w) X.A (evalAll ((backToKw pos (keywordEach ks X.env)).map (·.2))) (AP X pins st Q) X.xe s
def WS (X : Cx) (e : Stmt) (D : Ends) (st : L2.St) (H : Hp) : Prop :=
  ∀ (pins : List (Addr × Obj)) (s : Shared), Inv X pins st H s → wpAny (model X.prog X.w) X.A (exec e X.env) (SP X pins D) X.xe s
def WB (X : Cx) (es : List Stmt) (D : Ends) (st : L2.St) (H : Hp) : Prop :=
  ∀ (pins : List (Addr × Obj)) (s : Shared), Inv X pins st H s → wpAny (model X.prog X.w) X.A (execs es X.env) (SP X pins D) X.xe s
section
variable {X : Cx}
theorem pe_w {e : Expr} : PE X e (WE X e) := ⟨fun pins s _ _ _ I h => h pins s I⟩
theorem pt_w {e : Expr} : PT X e (WT X e) := ⟨fun pins s _ _ _ I h => h pins s I⟩
theorem pw_w {e : Expr} : PW X e (WW X e) := ⟨fun wh pins s _ _ _ I h => h wh pins s I⟩
theorem pa_w {es : List Expr} : PA X es (WA X es) := ⟨fun pos pins s _ _ _ I h => h pos pins s I⟩
theorem pk_w {es : List Keyword} : PK X es (WK X es) := ⟨fun pos pins s _ _ _ I h => h pos pins s I⟩
theorem ps_w {e : Stmt} : PS X e (WS X e) := ⟨fun pins s _ _ _ I h => h pins s I⟩
theorem pss_w {es : List Stmt} : PSs X es (WB X es) := ⟨fun pins s _ _ _ I h => h pins s I⟩
theorem we {e : Expr} {t : TE} (h : PE X e t) {st : L2.St} {H : Hp} {Q : VK} (q : t st H Q) : WE X e st H Q := fun pins s I => h.run pins s st H Q I q
theorem wt {e : Expr} {t : TT} (h : PT X e t) {st : L2.St} {H : Hp} {Q : Bool → Hp → Prop} (q : t st H Q) : WT X e st H Q := fun pins s I => h.run pins s st H Q I q
theorem ww {e : Expr} {t : TT} (h : PW X e t) {st : L2.St} {H : Hp} {Q : Bool → Hp → Prop} (q : t st H Q) : WW X e st H Q := fun wh pins s I => h.run wh pins s st H Q I q
theorem wa {es : List Expr} {t : TA} (h : PA X es t) {st : L2.St} {H : Hp} {Q : List V → Hp → Prop} (q : t st H Q) : WA X es st H Q := fun pos pins s I => h.run pos pins s st H Q I q
theorem wk {es : List Keyword} {t : TA} (h : PK X es t) {st : L2.St} {H : Hp} {Q : List V → Hp → Prop} (q : t st H Q) : WK X es st H Q := fun pos pins s I => h.run pos pins s st H Q I q
theorem wss {e : Stmt} {t : TS} (h : PS X e t) {st : L2.St} {H : Hp} {D : Ends} (q : t D st H) : WS X e D st H := fun pins s I => h.run pins s st H D I q
theorem wb {es : List Stmt} {t : TS} (h : PSs X es t) {st : L2.St} {H : Hp} {D : Ends} (q : t D st H) : WB X es D st H := fun pins s I => h.run pins s st H D I q
end

/-! ### data -/
inductive Dat where
  | non | bl (b : Bool) | int (i : Int) | str (x : Str) | tup (xs : List Dat) | lst (xs : List Dat) | cel (i : Nat) | raw (v : V) | obj (C : Addr) (ns : List Str) (ds : List Dat)
abbrev Cs := List (List Dat)
abbrev Os := List Addr

/-- there is no list in it, and no cell -/
def noL : Dat → Bool
  | .lst _ => false
  | .cel _ => false
  | .raw _ => false
  | .obj _ _ _ => false
  | .tup xs => noLs xs
  | _ => true
where noLs : List Dat → Bool
  | [] => true
  | d :: ds => noL d && noLs ds
/-- all but the cells is kept -/
def Kp (o : Os) (H H' : Hp) : Prop := ∀ b u, b ∉ o → H b = some u → H' b = some u
theorem Kp.refl (o : Os) (H : Hp) : Kp o H H := fun _ _ _ h => h
theorem Kp.trans {o : Os} {H H1 H2 : Hp} (a : Kp o H H1) (b : Kp o H1 H2) : Kp o H H2 := fun x u n h => b x u n (a x u n h)
theorem Kp.of_ex {o : Os} {H H1 : Hp} (a : Ex H H1) : Kp o H H1 := fun x u _ h => a x u h
theorem Kp.ex {H H1 : Hp} (a : Kp [] H H1) : Ex H H1 := fun x u h => a x u (fun z => by cases z) h
theorem Kp.more {o o' : Os} {H H1 : Hp} (a : Kp o H H1) (h : ∀ b, b ∈ o → b ∈ o') : Kp o' H H1 := fun x u n g => a x u (fun z => n (h x z)) g

/-- a list that is read: no cell, or one of the module's own -/
def LS (K : PySem.W.Frag) (o : Os) (H : Hp) (a : Addr) (xs : List V) : Prop :=
  (Rd H a (.lst xs) ∧ a ∉ o) ∨ ∃ (ob : Obj) (its : Array Value) (n : Nat), K.lookup a = some ob ∧ ob.cls = .type "list" ∧ ob.dict = none ∧ ob.data = .seq its n ∧ its.size ≤ sizeLine ∧ Vals xs its.toList
theorem LS.sq {K : PySem.W.Frag} {o : Os} {H : Hp} {a : Addr} {xs : List V} (h : LS K o H a xs) : SqL K H a xs := by
  rcases h with h | h
  · exact .inl h.1
  · exact .inr h
theorem LS.of {K : PySem.W.Frag} {H : Hp} {a : Addr} {xs : List V} (h : SqL K H a xs) : LS K [] H a xs := by
  rcases h with h | h
  · exact .inl ⟨h, fun z => by cases z⟩
  · exact .inr h
theorem LS.less {K : PySem.W.Frag} {o o' : Os} {H : Hp} {a : Addr} {xs : List V} (w : ∀ b, b ∈ o' → b ∈ o) (h : LS K o H a xs) : LS K o' H a xs := by
  rcases h with h | h
  · exact .inl ⟨h.1, fun z => h.2 (w _ z)⟩
  · exact .inr h
theorem LS.plus {K : PySem.W.Frag} {o : Os} {H : Hp} {a p : Addr} {xs : List V} (n : H p = none) (h : LS K o H a xs) : LS K (o ++ [p]) H a xs := by
  rcases h with ⟨s, m⟩ | h
  · refine .inl ⟨s, fun z => ?_⟩
    rcases List.mem_append.mp z with z | z
    · exact m z
    · have e := List.mem_singleton.mp z
      subst e
      rcases s with s | ⟨ob, s⟩
      · rw [n] at s; cases s
      · rw [n] at s; cases s
  · exact .inr h
/-- v is d, of what stands in H, and no list of it is a cell -/
inductive DV (K : PySem.W.Frag) (o : Os) (H : Hp) : V → Dat → Prop
  | non : DV K o H .non .non
  | bl (b : Bool) : DV K o H (.bl b) (.bl b)
  | int (i : Int) : DV K o H (.int i) (.int i)
  | str (x : Str) : DV K o H (.str x) (.str x)
  | tup {a : Addr} {xs : List V} {ds : List Dat} : SqT K H a xs → xs.length = ds.length → (∀ (i : Nat) (v : V) (d : Dat), xs[i]? = some v → ds[i]? = some d → DV K o H v d) → DV K o H (.ref a) (.tup ds)
  | lst {a : Addr} {xs : List V} {ds : List Dat} : LS K o H a xs → xs.length = ds.length → (∀ (i : Nat) (v : V) (d : Dat), xs[i]? = some v → ds[i]? = some d → DV K o H v d) → DV K o H (.ref a) (.lst ds)
  | raw (v : V) : DV K o H v (.raw v)
  | obj {a C dx : Addr} {ns : List Str} {xs : List V} {ds : List Dat} : H a = some (.ins C dx (ns.zip xs)) → a ∉ o → ns.length = ds.length → xs.length = ds.length → (∀ (i : Nat) (v : V) (d : Dat), xs[i]? = some v → ds[i]? = some d → DV K o H v d) → DV K o H (.ref a) (.obj C ns ds)
def DVs (K : PySem.W.Frag) (o : Os) (H : Hp) (vs : List V) (ds : List Dat) : Prop := vs.length = ds.length ∧ ∀ (i : Nat) (v : V) (d : Dat), vs[i]? = some v → ds[i]? = some d → DV K o H v d
/-- v is d, a cell too -/
inductive DT (K : PySem.W.Frag) (o : Os) (H : Hp) : V → Dat → Prop
  | v {v : V} {d : Dat} : DV K o H v d → DT K o H v d
  | cel {a : Addr} {i : Nat} : o[i]? = some a → DT K o H (.ref a) (.cel i)
def DTs (K : PySem.W.Frag) (o : Os) (H : Hp) (vs : List V) (ds : List Dat) : Prop := vs.length = ds.length ∧ ∀ (i : Nat) (v : V) (d : Dat), vs[i]? = some v → ds[i]? = some d → DT K o H v d
/-- the cells -/
structure DK (K : PySem.W.Frag) (o : Os) (k : Cs) (H : Hp) : Prop where
  len : o.length = k.length
  nd : o.Nodup
  nl : ∀ s ∈ k, s.all noL = true
  at_ : ∀ (i : Nat) (a : Addr) (as : List Dat), o[i]? = some a → k[i]? = some as → ∃ xs, H a = some (.lst xs) ∧ DVs K o H xs as
theorem kp_rd {o : Os} {H H' : Hp} {a : Addr} {u : HO} (e : Kp o H H') (n : a ∉ o) (h : Rd H a u) : Rd H' a u := by
  rcases h with h | ⟨ob, h⟩
  · exact Or.inl (e a _ n h)
  · exact Or.inr ⟨ob, e a _ n h⟩
variable {K : PySem.W.Frag} {o : Os} {k : Cs} {H H' : Hp} {v : V} {d : Dat} {vs : List V} {ds as : List Dat} {a : Addr} {xs : List V}
theorem DK.cell (h : DK K o k H) (m : a ∈ o) : ∃ xs, H a = some (.lst xs) := by
  obtain ⟨i, hi⟩ := List.getElem?_of_mem m
  have hl : i < k.length := by rw [← h.len]; exact (List.getElem?_eq_some_iff.mp hi).1
  obtain ⟨xs, hx, _⟩ := h.at_ i a _ hi (List.getElem?_eq_getElem hl)
  exact ⟨xs, hx⟩
/-- what stands at a tuple's address is no cell -/
theorem LS.kp {K : PySem.W.Frag} {o o' : Os} {H H' : Hp} {a : Addr} {xs : List V} (h : LS K o' H a xs) (e : Kp o H H') (w : ∀ b, b ∈ o → b ∈ o') : LS K o' H' a xs := by
  rcases h with h | h
  · exact .inl ⟨kp_rd e (fun z => h.2 (w _ z)) h.1, h.2⟩
  · exact .inr h
theorem dk_tup (h : DK K o k H) (r : Rd H a (.tup xs)) : a ∉ o := fun m => by
  obtain ⟨ys, hy⟩ := h.cell m
  rcases r with r | ⟨ob, r⟩
  · rw [hy] at r; cases r
  · rw [hy] at r; cases r
theorem DK.ne (h : DK K o k H) (n : H a = none) : a ∉ o := fun m => by
  obtain ⟨ys, hy⟩ := h.cell m
  rw [n] at hy; cases hy
theorem kp_t (e : Kp o H H') (h0 : DK K o k H) (h : SqT K H a xs) : SqT K H' a xs := by
  rcases h with h | h
  · exact Or.inl (kp_rd e (dk_tup h0 h) h)
  · exact Or.inr h
theorem DV.kp (e : Kp o H H') (h0 : DK K o k H) (h : DV K o H v d) : DV K o H' v d := by
  induction h with
  | non => exact .non
  | bl b => exact .bl b
  | int i => exact .int i
  | str x => exact .str x
  | tup s l _ ih => exact .tup (kp_t e h0 s) l ih
  | lst s l _ ih => exact .lst (s.kp e fun _ z => z) l ih
  | raw v => exact .raw v
  | obj s n m l _ ih => exact .obj (e _ _ n s) n m l ih
theorem DV.kp' {o' : Os} (e : Kp o H H') (h0 : DK K o k H) (w : ∀ b, b ∈ o → b ∈ o') (h : DV K o' H v d) : DV K o' H' v d := by
  induction h with
  | non => exact .non
  | bl b => exact .bl b
  | int i => exact .int i
  | str x => exact .str x
  | tup s l _ ih => exact .tup (kp_t e h0 s) l ih
  | lst s l _ ih => exact .lst (s.kp e w) l ih
  | raw v => exact .raw v
  | obj s n m l _ ih => exact .obj (e _ _ (fun z => n (w _ z)) s) n m l ih
theorem DVs.kp (e : Kp o H H') (h0 : DK K o k H) (h : DVs K o H vs ds) : DVs K o H' vs ds := ⟨h.1, fun i v d a b => (h.2 i v d a b).kp e h0⟩
theorem DT.kp (e : Kp o H H') (h0 : DK K o k H) (h : DT K o H v d) : DT K o H' v d := by
  cases h with
  | v h => exact .v (h.kp e h0)
  | cel h => exact .cel h
theorem DTs.kp (e : Kp o H H') (h0 : DK K o k H) (h : DTs K o H vs ds) : DTs K o H' vs ds := ⟨h.1, fun i v d a b => (h.2 i v d a b).kp e h0⟩
theorem DVs.dts (h : DVs K o H vs ds) : DTs K o H vs ds := ⟨h.1, fun i v d a b => .v (h.2 i v d a b)⟩
/-- what stands new -/
theorem DK.ex (h : DK K o k H) (e : Ex H H') : DK K o k H' := ⟨h.len, h.nd, h.nl, fun i a as hi ha => by
  obtain ⟨xs, hx, hd⟩ := h.at_ i a as hi ha
  exact ⟨xs, e a _ hx, hd.kp (Kp.of_ex e) h⟩⟩
/-- fewer cells -/
theorem DV.less {o o' : Os} (h : ∀ b, b ∈ o' → b ∈ o) (q : DV K o H v d) : DV K o' H v d := by
  induction q with
  | non => exact .non
  | bl b => exact .bl b
  | int i => exact .int i
  | str x => exact .str x
  | tup s l _ ih => exact .tup s l ih
  | lst s l _ ih => exact .lst (s.less h) l ih
  | raw v => exact .raw v
  | obj s n m l _ ih => exact .obj s (fun z => n (h _ z)) m l ih
theorem DVs.less {o o' : Os} (h : ∀ b, b ∈ o' → b ∈ o) (q : DVs K o H vs ds) : DVs K o' H vs ds := ⟨q.1, fun i v d a b => (q.2 i v d a b).less h⟩
/-- a new cell -/
theorem DV.plus {p : Addr} (n : H p = none) (h : DV K o H v d) : DV K (o ++ [p]) H v d := by
  induction h with
  | non => exact .non
  | bl b => exact .bl b
  | int i => exact .int i
  | str x => exact .str x
  | tup s l _ ih => exact .tup s l ih
  | lst s l _ ih => exact .lst (s.plus n) l ih
  | raw v => exact .raw v
  | obj s n' m l _ ih => exact .obj s (fun z => by
      rcases List.mem_append.mp z with z | z
      · exact n' z
      · have e := List.mem_singleton.mp z
        subst e
        rw [n] at s; cases s) m l ih
theorem DVs.plus {p : Addr} (n : H p = none) (h : DVs K o H vs ds) : DVs K (o ++ [p]) H vs ds := ⟨h.1, fun i v d a b => (h.2 i v d a b).plus n⟩
theorem DT.plus {p : Addr} (n : H p = none) (h : DT K o H v d) : DT K (o ++ [p]) H v d := by
  cases h with
  | v h => exact .v (h.plus n)
  | cel h => exact .cel (by rw [List.getElem?_append_left (List.getElem?_eq_some_iff.mp h).1]; exact h)
theorem noLs_at : ∀ {ds : List Dat} {i : Nat} {d : Dat}, noL.noLs ds = true → ds[i]? = some d → noL d = true
  | [], _, _, _, h => by simp at h
  | d :: ds, 0, e, h, q => by
    rw [noL.noLs, Bool.and_eq_true] at h
    have : d = e := by simpa using q
    rw [← this]; exact h.1
  | d :: ds, i + 1, e, h, q => by
    rw [noL.noLs, Bool.and_eq_true] at h
    exact noLs_at h.2 (by simpa using q)
theorem DV.back (h : DV K o H v d) : noL d = true → ∀ o', DV K o' H v d := by
  induction h with
  | non => exact fun _ _ => .non
  | bl b => exact fun _ _ => .bl b
  | int i => exact fun _ _ => .int i
  | str x => exact fun _ _ => .str x
  | tup s l _ ih =>
    intro h o'
    rw [noL] at h
    exact .tup s l fun i v d a b => ih i v d a b (noLs_at h b) o'
  | lst s l _ ih => intro h; rw [noL] at h; cases h
  | raw v => intro h; rw [noL] at h; cases h
  | obj s n m l _ ih => intro h; rw [noL] at h; cases h
/-- no cell at the top -/
def noC : Dat → Bool
  | .cel _ => false
  | _ => true
theorem DT.unc (h : DT K o H v d) (n : noC d = true) : DV K o H v d := by
  cases h with
  | v h => exact h
  | cel h => cases n
theorem DTs.unc (h : DTs K o H vs ds) (n : ds.all noC = true) : DVs K o H vs ds := ⟨h.1, fun i v d a b => (h.2 i v d a b).unc (List.all_eq_true.mp n d (List.mem_of_getElem? b))⟩
theorem DVs.at (h : DVs K o H vs ds) {i : Nat} (e : ds[i]? = some d) : ∃ v, vs[i]? = some v ∧ DV K o H v d := by
  have hi : i < ds.length := (List.getElem?_eq_some_iff.mp e).1
  have hv : vs[i]? = some (vs[i]'(by rw [h.1]; exact hi)) := List.getElem?_eq_getElem _
  exact ⟨_, hv, h.2 i _ d hv e⟩
theorem DTs.at (h : DTs K o H vs ds) {i : Nat} (e : ds[i]? = some d) : ∃ v, vs[i]? = some v ∧ DT K o H v d := by
  have hi : i < ds.length := (List.getElem?_eq_some_iff.mp e).1
  have hv : vs[i]? = some (vs[i]'(by rw [h.1]; exact hi)) := List.getElem?_eq_getElem _
  exact ⟨_, hv, h.2 i _ d hv e⟩
theorem DVs.nil : DVs K o H [] [] := ⟨rfl, fun i v d a _ => by simp at a⟩
theorem DVs.cons (h : DV K o H v d) (r : DVs K o H vs ds) : DVs K o H (v :: vs) (d :: ds) :=
  ⟨congrArg Nat.succ r.1, fun i => match i with
    | 0 => fun w e a b => by simp at a b; subst a b; exact h
    | i + 1 => fun w e a b => r.2 i w e (by simpa using a) (by simpa using b)⟩
theorem DTs.nil : DTs K o H [] [] := ⟨rfl, fun i v d a _ => by simp at a⟩
theorem DTs.cons (h : DT K o H v d) (r : DTs K o H vs ds) : DTs K o H (v :: vs) (d :: ds) :=
  ⟨congrArg Nat.succ r.1, fun i => match i with
    | 0 => fun w e a b => by simp at a b; subst a b; exact h
    | i + 1 => fun w e a b => r.2 i w e (by simpa using a) (by simpa using b)⟩
theorem DVs.append {us : List V} {es : List Dat} (h : DVs K o H vs ds) (r : DVs K o H us es) : DVs K o H (vs ++ us) (ds ++ es) := by
  refine ⟨by rw [List.length_append, List.length_append, h.1, r.1], fun i v d ga gb => ?_⟩
  by_cases hi : i < vs.length
  · rw [List.getElem?_append_left hi] at ga
    rw [List.getElem?_append_left (by rw [← h.1]; exact hi)] at gb
    exact h.2 i v d ga gb
  · rw [List.getElem?_append_right (by omega)] at ga
    rw [List.getElem?_append_right (by rw [← h.1]; omega), ← h.1] at gb
    exact r.2 _ v d ga gb
theorem DTs.uncons {v0 : V} {d0 : Dat} (h : DTs K o H (v0 :: vs) (d0 :: ds)) : DT K o H v0 d0 ∧ DTs K o H vs ds := ⟨h.2 0 _ _ rfl rfl, by simpa using h.1, fun i v d a b => h.2 (i + 1) v d (by simpa using a) (by simpa using b)⟩
theorem DVs.uncons {v0 : V} {d0 : Dat} (h : DVs K o H (v0 :: vs) (d0 :: ds)) : DV K o H v0 d0 ∧ DVs K o H vs ds := ⟨h.2 0 _ _ rfl rfl, by simpa using h.1, fun i v d a b => h.2 (i + 1) v d (by simpa using a) (by simpa using b)⟩
theorem DT.unint {i : Int} (h : DT K o H v (.int i)) : v = .int i := by cases h with | v h => cases h; rfl
theorem DT.unbl {i : Bool} (h : DT K o H v (.bl i)) : v = .bl i := by cases h with | v h => cases h; rfl
theorem DT.unraw {w : V} (h : DT K o H v (.raw w)) : v = w := by cases h with | v h => cases h; rfl
theorem DT.uncel {i : Nat} (h : DT K o H v (.cel i)) : ∃ a, v = .ref a ∧ o[i]? = some a := by
  cases h with
  | v h => cases h
  | cel h => exact ⟨_, rfl, h⟩
theorem DV.untup (h : DV K o H v (.tup ds)) : ∃ a xs, v = .ref a ∧ SqT K H a xs ∧ DVs K o H xs ds := by
  cases h with
  | tup s l r => exact ⟨_, _, rfl, s, l, r⟩
theorem DV.unlst (h : DV K o H v (.lst ds)) : ∃ a xs, v = .ref a ∧ LS K o H a xs ∧ DVs K o H xs ds := by
  cases h with
  | lst s l r => exact ⟨_, _, rfl, s, l, r⟩
theorem DT.untup (h : DT K o H v (.tup ds)) : ∃ a xs, v = .ref a ∧ SqT K H a xs ∧ DVs K o H xs ds := (h.unc rfl).untup
theorem DT.unlst (h : DT K o H v (.lst ds)) : ∃ a xs, v = .ref a ∧ LS K o H a xs ∧ DVs K o H xs ds := (h.unc rfl).unlst
theorem DV.tup' (s : SqT K H a xs) (r : DVs K o H xs ds) : DV K o H (.ref a) (.tup ds) := .tup s r.1 r.2
theorem DV.lst' (s : Rd H a (.lst xs)) (n : a ∉ o) (r : DVs K o H xs ds) : DV K o H (.ref a) (.lst ds) := .lst (.inl ⟨s, n⟩) r.1 r.2
theorem DV.lstS (s : LS K o H a xs) (r : DVs K o H xs ds) : DV K o H (.ref a) (.lst ds) := .lst s r.1 r.2
/-- a cell is written -/
theorem noLs_all {ds : List Dat} (h : ds.all noL = true) {i : Nat} {d : Dat} (e : ds[i]? = some d) : noL d = true := List.all_eq_true.mp h d (List.mem_of_getElem? e)
theorem DVs.back (h : DVs K o H vs ds) (n : ds.all noL = true) (o' : Os) : DVs K o' H vs ds := ⟨h.1, fun i v d a b => (h.2 i v d a b).back (noLs_all n b) o'⟩
theorem dk_set {i : Nat} {ys : List V} {bs : List Dat} (h : DK K o k H) (hi : o[i]? = some a) (hy : DVs K o H ys bs) (nb : bs.all noL = true) : DK K o (k.set i bs) (upd H a (.lst ys)) ∧ Kp o H (upd H a (.lst ys)) := by
  have hm : a ∈ o := List.mem_of_getElem? hi
  have kp : Kp o H (upd H a (.lst ys)) := fun b u nb hb => by
    rw [upd_ne (fun z => nb (by rw [z]; exact hm))]
    exact hb
  refine ⟨⟨by rw [List.length_set]; exact h.len, h.nd, fun s hs => ?_, fun j b cs hj hc => ?_⟩, kp⟩
  · rcases List.mem_or_eq_of_mem_set hs with hs | rfl
    · exact h.nl s hs
    · exact nb
  by_cases e : i = j
  · subst e
    rw [hi] at hj
    cases hj
    have hl : i < k.length := by rw [← h.len]; exact (List.getElem?_eq_some_iff.mp hi).1
    rw [List.getElem?_set_self hl] at hc
    cases hc
    exact ⟨ys, upd_same, hy.kp kp h⟩
  · rw [List.getElem?_set_ne e] at hc
    obtain ⟨xs, hx, hd⟩ := h.at_ j b cs hj hc
    refine ⟨xs, ?_, hd.kp kp h⟩
    rw [upd_ne (fun z => ?_)]
    · exact hx
    · subst z
      have l1 := (List.getElem?_eq_some_iff.mp hi).1
      have l2 := (List.getElem?_eq_some_iff.mp hj).1
      exact e ((List.getElem?_inj l1 h.nd).mp (by rw [hi, hj]))
/-- a cell more -/
theorem dk_plus {p : Addr} (h : DK K o k H) (np : p ∉ o) (hp : H p = some (.lst xs)) (hd : DVs K o H xs as) (nb : as.all noL = true) : DK K (o ++ [p]) (k ++ [as]) H := by
  refine ⟨by rw [List.length_append, List.length_append, h.len]; rfl, ?_, fun s hs => ?_, fun i b bs hi hb => ?_⟩
  · exact List.nodup_append.mpr ⟨h.nd, by simp, fun x hx y hy z => np (by rw [List.mem_singleton] at hy; rw [← hy, ← z]; exact hx)⟩
  · rcases List.mem_append.mp hs with hs | hs
    · exact h.nl s hs
    · rw [List.mem_singleton] at hs
      rw [hs]
      exact nb
  · by_cases e : i < o.length
    · rw [List.getElem?_append_left e] at hi
      rw [List.getElem?_append_left (by rw [← h.len]; exact e)] at hb
      obtain ⟨ys, h1, h2⟩ := h.at_ i b bs hi hb
      exact ⟨ys, h1, h2.back (h.nl bs (List.mem_of_getElem? hb)) _⟩
    · rw [List.getElem?_append_right (by omega)] at hi
      rw [List.getElem?_append_right (by rw [← h.len]; omega), ← h.len] at hb
      cases hz : i - o.length with
      | zero =>
        rw [hz] at hi hb
        cases hi
        cases hb
        exact ⟨xs, hp, hd.back nb _⟩
      | succ q =>
        rw [hz] at hi
        simp at hi
/-- fewer cells -/
theorem dk_take {l : Os} (h : DK K (o ++ l) k H) : DK K o (k.take o.length) H := by
  refine ⟨?_, (List.nodup_append.mp h.nd).1, fun s hs => h.nl s (List.mem_of_mem_take hs), fun i b bs hi hb => ?_⟩
  · have := h.len
    rw [List.length_append] at this
    rw [List.length_take]
    omega
  · have hl := (List.getElem?_eq_some_iff.mp hi).1
    rw [List.getElem?_take] at hb
    rw [if_pos hl] at hb
    obtain ⟨ys, h1, h2⟩ := h.at_ i b bs (by rw [List.getElem?_append_left hl]; exact hi) hb
    exact ⟨ys, h1, h2.back (h.nl bs (List.mem_of_getElem? hb)) _⟩

/-- the names hold ds (none: not told) -/
def Sat (K : PySem.W.Frag) (o : Os) (st : L2.St) (H : Hp) (ds : List (Option Dat)) : Prop :=
  st.length = ds.length ∧ ∀ (i : Nat) (d : Dat), ds[i]? = some (some d) → ∃ v, st[i]? = some (some v) ∧ DT K o H v d
variable {st : L2.St} {es fs : List (Option Dat)}
theorem Sat.kp (h : Sat K o st H es) (e : Kp o H H') (h0 : DK K o k H) : Sat K o st H' es := ⟨h.1, fun i d hd => let ⟨v, a, b⟩ := h.2 i d hd; ⟨v, a, b.kp e h0⟩⟩
theorem Sat.set (h : Sat K o st H es) {i : Nat} (hv : DT K o H v d) : Sat K o (st.set i (some v)) H (es.set i (some d)) := by
  refine ⟨by rw [List.length_set, List.length_set]; exact h.1, fun j e he => ?_⟩
  by_cases hj : i = j
  · subst hj
    rw [List.getElem?_set] at he
    rw [if_pos rfl] at he
    by_cases hl : i < es.length
    · rw [if_pos hl] at he
      cases he
      refine ⟨v, ?_, hv⟩
      rw [List.getElem?_set_self (by rw [h.1]; exact hl)]
    · rw [if_neg hl] at he
      cases he
  · rw [List.getElem?_set_ne hj] at he
    obtain ⟨w, a, b⟩ := h.2 j e he
    exact ⟨w, by rw [List.getElem?_set_ne hj]; exact a, b⟩
/-- knowing less -/
theorem Sat.weak (h : Sat K o st H es) (hl : fs.length = es.length) (w : ∀ (i : Nat) (d : Dat), fs[i]? = some (some d) → es[i]? = some (some d)) : Sat K o st H fs :=
  ⟨h.1.trans hl.symm, fun i d hd => h.2 i d (w i d hd)⟩
/-- a slot without the cells from n on -/
@[reducible] def lowC (n : Nat) : Option Dat → Option Dat
  | some (.cel j) => if j < n then some (.cel j) else none
  | x => x
theorem Sat.low {l : Os} (h : Sat K (o ++ l) st H es) : Sat K o st H (es.map (lowC o.length)) := by
  refine ⟨by rw [List.length_map]; exact h.1, fun i d hd => ?_⟩
  rw [List.getElem?_map] at hd
  cases he : es[i]? with
  | none => rw [he] at hd; cases hd
  | some x =>
    rw [he] at hd
    have hd' : lowC o.length x = some d := by simpa using hd
    cases x with
    | none => cases hd'
    | some d0 =>
      obtain ⟨v, h1, h2⟩ := h.2 i d0 he
      cases h2 with
      | v h2 =>
        have e : lowC o.length (some d0) = some d0 := by cases h2 <;> rfl
        rw [e] at hd'
        cases hd'
        exact ⟨v, h1, .v (h2.less fun b hb => List.mem_append_left _ hb)⟩
      | cel h2 =>
        rename_i a j
        have hd2 : (if j < o.length then some (Dat.cel j) else none) = some d := hd'
        by_cases hj : j < o.length
        · rw [if_pos hj] at hd2
          cases hd2
          rw [List.getElem?_append_left hj] at h2
          exact ⟨_, h1, .cel h2⟩
        · rw [if_neg hj] at hd2
          cases hd2
theorem Sat.plus {p : Addr} (n : H p = none) (h : Sat K o st H es) : Sat K (o ++ [p]) st H es := ⟨h.1, fun i d hd => let ⟨v, a, b⟩ := h.2 i d hd; ⟨v, a, b.plus n⟩⟩

/-! ### judgements -/
def EvC (X : Cx) (o : Os) (e : Expr) (ds : List (Option Dat)) (k : Cs) (R : Dat → Cs → Prop) : Prop :=
  ∀ st H Q, Sat X.K o st H ds → DK X.K o k H → (∀ d k' v H', R d k' → Kp o H H' → DK X.K o k' H' → DT X.K o H' v d → Q v H') → WE X e st H Q
/-- a new list -/
def EvN (X : Cx) (o : Os) (e : Expr) (ds : List (Option Dat)) (k : Cs) (R : List Dat → Cs → Prop) : Prop :=
  ∀ st H Q, Sat X.K o st H ds → DK X.K o k H → (∀ as k' p xs H', R as k' → H p = none → Kp o H H' → DK X.K o k' H' → H' p = some (.lst xs) → DVs X.K o H' xs as → Q (.ref p) H') → WE X e st H Q
def EvT (X : Cx) (o : Os) (e : Expr) (ds : List (Option Dat)) (k : Cs) (R : Bool → Cs → Prop) : Prop :=
  ∀ st H Q, Sat X.K o st H ds → DK X.K o k H → (∀ b k' H', R b k' → Kp o H H' → DK X.K o k' H' → Q b H') → WT X e st H Q
def EvW (X : Cx) (o : Os) (e : Expr) (ds : List (Option Dat)) (k : Cs) (R : Bool → Cs → Prop) : Prop :=
  ∀ st H Q, Sat X.K o st H ds → DK X.K o k H → (∀ b k' H', R b k' → Kp o H H' → DK X.K o k' H' → Q b H') → WW X e st H Q
def EvA (X : Cx) (o : Os) (es : List Expr) (ds : List (Option Dat)) (k : Cs) (R : List Dat → Cs → Prop) : Prop :=
  ∀ st H Q, Sat X.K o st H ds → DK X.K o k H → (∀ as k' vs H', R as k' → Kp o H H' → DK X.K o k' H' → DTs X.K o H' vs as → Q vs H') → WA X es st H Q
def EvK (X : Cx) (o : Os) (es : List Keyword) (ds : List (Option Dat)) (k : Cs) (R : List Dat → Cs → Prop) : Prop :=
  ∀ st H Q, Sat X.K o st H ds → DK X.K o k H → (∀ as k' vs H', R as k' → Kp o H H' → DK X.K o k' H' → DTs X.K o H' vs as → Q vs H') → WK X es st H Q
/-- one outcome alone -/
def Ev (X : Cx) (o : Os) (e : Expr) (ds : List (Option Dat)) (k : Cs) (d : Dat) (k' : Cs) : Prop := ∀ R : Dat → Cs → Prop, R d k' → EvC X o e ds k R
def Et (X : Cx) (o : Os) (e : Expr) (ds : List (Option Dat)) (k : Cs) (b : Bool) (k' : Cs) : Prop := ∀ R : Bool → Cs → Prop, R b k' → EvT X o e ds k R
end Wz

set_option Elab.async false
set_option linter.all false
set_option maxRecDepth 100000
set_option maxHeartbeats 4000000
namespace Wz
open PySem PySem.Spec PyProof.Rows L2 Evl
@[reducible] def onI (x : Dat) (C : Int → Prop) : Prop := match x with | .int i => C i | _ => False
@[reducible] def onB (x : Dat) (C : Bool → Prop) : Prop := match x with | .bl i => C i | _ => False
@[reducible] def onT (x : Dat) (C : List Dat → Prop) : Prop := match x with | .tup i => C i | _ => False
@[reducible] def bc (b : Bool) (p q : Prop) : Prop := match b with | true => p | false => q
/-- what a list holds, a cell too -/
@[reducible] def onL (k : Cs) (x : Dat) (C : List Dat → Prop) : Prop := match x with
  | .lst as => C as
  | .cel i => match k[i]? with | some as => C as | none => False
  | _ => False
section
variable {X : Cx} {o : Os} {ds : List (Option Dat)} {k k1 k2 k3 k0 : Cs} {e a b c e1 e2 e3 : Expr} {es : List Expr} {d d1 d2 d3 : Dat} {as : List Dat} {pos p p2 p3 : Pos} {R : Dat → Cs → Prop} {RT : Bool → Cs → Prop} {x : Str}
theorem onI_ex {d : Dat} {C : Int → Prop} (h : onI d C) : ∃ i, d = .int i ∧ C i := by
  cases d <;> first | exact ⟨_, rfl, h⟩ | exact h.elim
theorem onB_ex {d : Dat} {C : Bool → Prop} (h : onB d C) : ∃ i, d = .bl i ∧ C i := by
  cases d <;> first | exact ⟨_, rfl, h⟩ | exact h.elim
theorem onT_ex {d : Dat} {C : List Dat → Prop} (h : onT d C) : ∃ i, d = .tup i ∧ C i := by
  cases d <;> first | exact ⟨_, rfl, h⟩ | exact h.elim
theorem onII_ex {d e : Dat} {C : Int → Int → Prop} (h : onI d fun i => onI e (C i)) : ∃ i j, d = .int i ∧ e = .int j ∧ C i j := by
  cases d with
  | int i =>
    cases e with
    | int j => exact ⟨i, j, rfl, rfl, h⟩
    | _ => exact h.elim
  | _ => exact h.elim
/-- a list that is read: its place, its items -/
theorem onL_ex {K : PySem.W.Frag} {H : Hp} {v : V} {C : List Dat → Prop} (hk : DK K o k H) (h : onL k d C) (hd : DT K o H v d) : ∃ p xs as, v = .ref p ∧ SqL K H p xs ∧ DVs K o H xs as ∧ C as := by
  cases d with
  | lst as =>
    obtain ⟨p, xs, rfl, h1, h2⟩ := hd.unlst
    exact ⟨p, xs, as, rfl, h1.sq, h2, h⟩
  | cel i =>
    obtain ⟨p, rfl, hp⟩ := hd.uncel
    cases hi : k[i]? with
    | none => simp only [onL, hi] at h
    | some as =>
      simp only [onL, hi] at h
      obtain ⟨xs, h1, h2⟩ := hk.at_ i p as hp hi
      exact ⟨p, xs, as, rfl, .inl (.inl h1), h2, h⟩
  | _ => exact h.elim

theorem c_name {i : Nat} (h : ds[i]? = some (some d)) (hR : R d k) (hN : X.N[i]? = some x := by rfl) (hv : Vis X.env.scope x := by first | exact Or.inl rfl | exact Or.inr (Or.inl rfl) | exact Or.inr (Or.inr rfl)) (hd : (x == ("__debug__" : Str)) = false := by decide) (hcd : (x == ("__classdict__" : Str)) = false := by decide) : EvC X o (.Name x pos) ds k R := by
  intro st H Q S hk q
  obtain ⟨v, h1, h2⟩ := S.2 i d h
  exact we (pe_var hN hv hd hcd) ⟨v, h1, q d k v H hR (Kp.refl _ _) hk h2⟩
/-- a name by its slot -/
theorem nm (i : Nat) (h : ds[i]? = some (some d)) (hR : R d k) (hN : X.N[i]? = some x := by rfl) (hv : Vis X.env.scope x := by first | exact Or.inl rfl | exact Or.inr (Or.inl rfl) | exact Or.inr (Or.inr rfl)) (hd : (x == ("__debug__" : Str)) = false := by decide) (hcd : (x == ("__classdict__" : Str)) = false := by decide) : EvC X o (.Name x pos) ds k R := c_name h hR hN hv hd hcd
theorem c_int {i : Int} {j} (hR : R (.int i) k) : EvC X o (.Constant (.int i) j pos) ds k R := fun _ H _ _ hk q => we pe_int (q _ _ _ H hR (Kp.refl _ _) hk (.v (.int _)))
theorem c_bl {i : Bool} {j} (hR : R (.bl i) k) : EvC X o (.Constant (.bool i) j pos) ds k R := fun _ H _ _ hk q => we pe_bl (q _ _ _ H hR (Kp.refl _ _) hk (.v (.bl _)))
theorem c_non {j} (hR : R .non k) : EvC X o (.Constant .none j pos) ds k R := fun _ H _ _ hk q => we pe_non (q _ _ _ H hR (Kp.refl _ _) hk (.v .non))
theorem c_str {z : Str} {j} (hR : R (.str z) k) : EvC X o (.Constant (.str z) j pos) ds k R := fun _ H _ _ hk q => we pe_str (q _ _ _ H hR (Kp.refl _ _) hk (.v (.str _)))
theorem c_raw {v : V} (h : PE X e (fun _ H Q => Q v H)) (hR : R (.raw v) k) : EvC X o e ds k R := fun _ H _ _ hk q => we h (q _ _ _ H hR (Kp.refl _ _) hk (.v (.raw _)))
theorem EvC.mono {R' : Dat → Cs → Prop} (h : EvC X o e ds k R) (w : ∀ d k, R d k → R' d k) : EvC X o e ds k R' := fun st H Q S hk q => h st H Q S hk fun d k' v H' r => q d k' v H' (w d k' r)
/-- a new list as a value -/
theorem c_ofN (h : EvN X o e ds k fun as k1 => R (.lst as) k1) : EvC X o e ds k R := fun st H Q S hk q => h st H Q S hk fun as k' p xs H' r np kp hk' hp hd => q _ k' _ H' r kp hk' (.v (.lst' (.inl hp) (hk.ne np) hd))
theorem c_det (h : Ev X o e ds k d k1) (r : R d k1) : EvC X o e ds k R := h R r
theorem det (h : ∀ R : Dat → Cs → Prop, R d k1 → EvC X o e ds k R) : Ev X o e ds k d k1 := h

/-! operators of ints -/
theorem c_opI {op : Operator} {C : Int → Int → Prop} {g : Int → Int → V} {z : Int → Int → Dat} (ho : OpR X (binaryOp op) (rI C g)) (hz : ∀ H i j, DT X.K o H (g i j) (z i j))
    (ha : EvC X o a ds k fun x k1 => EvC X o b ds k1 fun y k2 => onI x fun i => onI y fun j => C i j ∧ R (z i j) k2) : EvC X o (.BinOp a op b pos) ds k R := fun st H Q S hk q =>
  we (pe_op ho pe_w pe_w) (ha st H _ S hk fun x k1 v H1 hx e1 hk1 h1 => hx st H1 _ (S.kp e1 hk) hk1 fun y k2 w H2 hy e2 hk2 h2 => by
    obtain ⟨i, j, rfl, rfl, hc, hr⟩ := onII_ex hy
    exact ⟨i, j, h1.unint, h2.unint, hc, q _ k2 _ H2 hr (e1.trans e2) hk2 (hz _ _ _)⟩)
theorem c_opI0 {op : Operator} {g : Int → Int → V} {z : Int → Int → Dat} (ho : OpR X (binaryOp op) (rI0 g)) (hz : ∀ H i j, DT X.K o H (g i j) (z i j))
    (ha : EvC X o a ds k fun x k1 => EvC X o b ds k1 fun y k2 => onI x fun i => onI y fun j => R (z i j) k2) : EvC X o (.BinOp a op b pos) ds k R := fun st H Q S hk q =>
  we (pe_op ho pe_w pe_w) (ha st H _ S hk fun x k1 v H1 hx e1 hk1 h1 => hx st H1 _ (S.kp e1 hk) hk1 fun y k2 w H2 hy e2 hk2 h2 => by
    obtain ⟨i, j, rfl, rfl, hr⟩ := onII_ex hy
    exact ⟨i, j, h1.unint, h2.unint, q _ k2 _ H2 hr (e1.trans e2) hk2 (hz _ _ _)⟩)
theorem c_add (h : EvC X o a ds k fun x k1 => EvC X o b ds k1 fun y k2 => onI x fun i => onI y fun j => R (.int (i + j)) k2) : EvC X o (.BinOp a .Add b pos) ds k R := c_opI0 op_add (fun _ _ _ => .v (.int _)) h
theorem c_sub (h : EvC X o a ds k fun x k1 => EvC X o b ds k1 fun y k2 => onI x fun i => onI y fun j => R (.int (i - j)) k2) : EvC X o (.BinOp a .Sub b pos) ds k R := c_opI0 op_sub (fun _ _ _ => .v (.int _)) h
theorem c_mul (h : EvC X o a ds k fun x k1 => EvC X o b ds k1 fun y k2 => onI x fun i => onI y fun j => CMulW i j ∧ R (.int (i * j)) k2) : EvC X o (.BinOp a .Mult b pos) ds k R := c_opI op_mulW (fun _ _ _ => .v (.int _)) h
theorem c_mod (h : EvC X o a ds k fun x k1 => EvC X o b ds k1 fun y k2 => onI x fun i => onI y fun j => 0 < j ∧ R (.int (i % j)) k2) : EvC X o (.BinOp a .Mod b pos) ds k R := c_opI op_mod (fun _ _ _ => .v (.int _)) h
theorem c_fdiv (h : EvC X o a ds k fun x k1 => EvC X o b ds k1 fun y k2 => onI x fun i => onI y fun j => CDivW i j ∧ R (.int (i / j)) k2) : EvC X o (.BinOp a .FloorDiv b pos) ds k R := c_opI op_fdivW (fun _ _ _ => .v (.int _)) h
/-- // by any divisor but 0 below 2 ^ 9000 -/
def CDivX (_ j : Int) : Prop := j ≠ 0 ∧ j.natAbs.log2 < 9000
theorem op_fdivX : OpR X (binaryOp .FloorDiv) (rI CDivX fun i j => .int (i.fdiv j)) := opI fun i j _ _ _ _ _ hc q => floordiv_int hc.1 q (.inl (PyProof.noPylong_of_log2 hc.2))
theorem c_fdivX (h : EvC X o a ds k fun x k1 => EvC X o b ds k1 fun y k2 => onI x fun i => onI y fun j => CDivX i j ∧ R (.int (i.fdiv j)) k2) : EvC X o (.BinOp a .FloorDiv b pos) ds k R := c_opI op_fdivX (fun _ _ _ => .v (.int _)) h
theorem c_pow (h : EvC X o a ds k fun x k1 => EvC X o b ds k1 fun y k2 => onI x fun i => onI y fun j => CPow i j ∧ R (.int (i ^ j.toNat)) k2) : EvC X o (.BinOp a .Pow b pos) ds k R := c_opI op_pow (fun _ _ _ => .v (.int _)) h
theorem c_neg (h : EvC X o a ds k fun x k1 => onI x fun i => R (.int (-i)) k1) : EvC X o (.UnaryOp .USub a pos) ds k R := fun st H Q S hk q =>
  we (pe_un un_neg pe_w) (h st H _ S hk fun x k1 v H1 hx e1 hk1 h1 => by
    obtain ⟨i, rfl, hr⟩ := onI_ex hx
    exact ⟨i, h1.unint, q _ k1 _ H1 hr e1 hk1 (.v (.int _))⟩)
/-! comparisons -/
theorem c_cmp {op : CmpOp} {r : R2} (ho : OpR X (compareOp op) r) (hm : behindInMarks op b = false) {C : Dat → Dat → Cs → Bool → Prop} (hc : ∀ x y k2 v w H Q, (∃ z, C x y k2 z) → DK X.K o k2 H → DT X.K o H v x → DT X.K o H w y → (∀ z, C x y k2 z → Q (V.bl z) H) → r v w H Q)
    (h : EvC X o a ds k fun x k1 => EvC X o b ds k1 fun y k2 => (∃ z, C x y k2 z) ∧ ∀ z, C x y k2 z → R (.bl z) k2) : EvC X o (.Compare a [op] [b] pos) ds k R := fun st H Q S hk q =>
  we (pe_cmpR ho pe_w pe_w hm) (h st H _ S hk fun x k1 v H1 hx e1 hk1 h1 => hx st H1 _ (S.kp e1 hk) hk1 fun y k2 w H2 hy e2 hk2 h2 =>
    hc x y k2 v w H2 _ hy.1 hk2 (h1.kp e2 hk1) h2 fun z hz => q _ k2 _ H2 (hy.2 z hz) (e1.trans e2) hk2 (.v (.bl _)))
theorem tc_cmp {op : CmpOp} {r : R2} (ho : OpR X (compareOp op) r) (hm : behindInMarks op b = false) {C : Dat → Dat → Cs → Bool → Prop} (hc : ∀ x y k2 v w H Q, (∃ z, C x y k2 z) → DK X.K o k2 H → DT X.K o H v x → DT X.K o H w y → (∀ z, C x y k2 z → Q (V.bl z) H) → r v w H Q)
    (h : EvC X o a ds k fun x k1 => EvC X o b ds k1 fun y k2 => (∃ z, C x y k2 z) ∧ ∀ z, C x y k2 z → RT z k2) : EvT X o (.Compare a [op] [b] pos) ds k RT := fun st H Q S hk q =>
  wt (pt_cmpR ho pe_w pe_w hm) (h st H _ S hk fun x k1 v H1 hx e1 hk1 h1 => hx st H1 _ (S.kp e1 hk) hk1 fun y k2 w H2 hy e2 hk2 h2 =>
    hc x y k2 v w H2 _ hy.1 hk2 (h1.kp e2 hk1) h2 fun z hz => ⟨z, rfl, q _ k2 H2 (hy.2 z hz) (e1.trans e2) hk2⟩)
/-- two ints compared -/
def CI (g : Int → Int → Bool) (x y : Dat) (_ : Cs) (z : Bool) : Prop := onI x fun i => onI y fun j => z = g i j
theorem ci_r {g : Int → Int → Bool} (x y : Dat) (k2 : Cs) (v w : V) (H : Hp) (Q : VK) (h : ∃ z, CI g x y k2 z) (_ : DK X.K o k2 H) (h1 : DT X.K o H v x) (h2 : DT X.K o H w y) (q : ∀ z, CI g x y k2 z → Q (V.bl z) H) : rI0 (fun i j => .bl (g i j)) v w H Q := by
  obtain ⟨z, hz⟩ := h
  obtain ⟨i, j, rfl, rfl, hz⟩ := onII_ex hz
  exact ⟨i, j, h1.unint, h2.unint, q _ rfl⟩
theorem c_cmpI {op : CmpOp} {g : Int → Int → Bool} (ho : OpR X (compareOp op) (rI0 fun i j => .bl (g i j))) (hm : behindInMarks op b = false)
    (h : EvC X o a ds k fun x k1 => EvC X o b ds k1 fun y k2 => onI x fun i => onI y fun j => R (.bl (g i j)) k2) : EvC X o (.Compare a [op] [b] pos) ds k R :=
  c_cmp ho hm (C := CI g) ci_r (h.mono fun x k1 hx => hx.mono fun y k2 hy => by
    obtain ⟨i, j, rfl, rfl, hy⟩ := onII_ex hy
    exact ⟨⟨_, rfl⟩, fun z hz => by rw [show z = g i j from hz]; exact hy⟩)
theorem tc_cmpI {op : CmpOp} {P : Int → Int → Prop} [∀ i j, Decidable (P i j)] (ho : OpR X (compareOp op) (rI0 fun i j => .bl (decide (P i j)))) (hm : behindInMarks op b = false)
    (h : EvC X o a ds k fun x k1 => EvC X o b ds k1 fun y k2 => onI x fun i => onI y fun j => (P i j → RT true k2) ∧ (¬ P i j → RT false k2)) : EvT X o (.Compare a [op] [b] pos) ds k RT :=
  tc_cmp ho hm (C := CI fun i j => decide (P i j)) ci_r (h.mono fun x k1 hx => hx.mono fun y k2 hy => by
    obtain ⟨i, j, rfl, rfl, hy⟩ := onII_ex hy
    refine ⟨⟨_, rfl⟩, fun z hz => ?_⟩
    rw [show z = decide (P i j) from hz]
    by_cases hp : P i j
    · rw [decide_eq_true hp]; exact hy.1 hp
    · rw [decide_eq_false hp]; exact hy.2 hp)
theorem c_lt (h : EvC X o a ds k fun x k1 => EvC X o b ds k1 fun y k2 => onI x fun i => onI y fun j => R (.bl (decide (i < j))) k2) : EvC X o (.Compare a [.Lt] [b] pos) ds k R := c_cmpI op_lt (nobehind _ (by decide) (by decide)) h
theorem c_le (h : EvC X o a ds k fun x k1 => EvC X o b ds k1 fun y k2 => onI x fun i => onI y fun j => R (.bl (decide (i ≤ j))) k2) : EvC X o (.Compare a [.LtE] [b] pos) ds k R := c_cmpI op_le (nobehind _ (by decide) (by decide)) h
theorem c_gt (h : EvC X o a ds k fun x k1 => EvC X o b ds k1 fun y k2 => onI x fun i => onI y fun j => R (.bl (decide (j < i))) k2) : EvC X o (.Compare a [.Gt] [b] pos) ds k R := c_cmpI op_gt (nobehind _ (by decide) (by decide)) h
theorem c_ge (h : EvC X o a ds k fun x k1 => EvC X o b ds k1 fun y k2 => onI x fun i => onI y fun j => R (.bl (decide (j ≤ i))) k2) : EvC X o (.Compare a [.GtE] [b] pos) ds k R := c_cmpI op_ge (nobehind _ (by decide) (by decide)) h
theorem t_lt (h : EvC X o a ds k fun x k1 => EvC X o b ds k1 fun y k2 => onI x fun i => onI y fun j => (i < j → RT true k2) ∧ (¬ i < j → RT false k2)) : EvT X o (.Compare a [.Lt] [b] pos) ds k RT := tc_cmpI op_lt (nobehind _ (by decide) (by decide)) h
theorem t_le (h : EvC X o a ds k fun x k1 => EvC X o b ds k1 fun y k2 => onI x fun i => onI y fun j => (i ≤ j → RT true k2) ∧ (¬ i ≤ j → RT false k2)) : EvT X o (.Compare a [.LtE] [b] pos) ds k RT := tc_cmpI op_le (nobehind _ (by decide) (by decide)) h
theorem t_gt (h : EvC X o a ds k fun x k1 => EvC X o b ds k1 fun y k2 => onI x fun i => onI y fun j => (j < i → RT true k2) ∧ (¬ j < i → RT false k2)) : EvT X o (.Compare a [.Gt] [b] pos) ds k RT := tc_cmpI (P := fun i j => j < i) op_gt (nobehind _ (by decide) (by decide)) h
theorem t_ge (h : EvC X o a ds k fun x k1 => EvC X o b ds k1 fun y k2 => onI x fun i => onI y fun j => (j ≤ i → RT true k2) ∧ (¬ j ≤ i → RT false k2)) : EvT X o (.Compare a [.GtE] [b] pos) ds k RT := tc_cmpI (P := fun i j => j ≤ i) op_ge (nobehind _ (by decide) (by decide)) h
/-! == and != of plain things: what they are is told by scal -/
@[reducible] def fl : Dat → Option V
  | .non => some .non
  | .bl b => some (.bl b)
  | .int i => some (.int i)
  | .str x => some (.str x)
  | _ => none
theorem fl_is {K : PySem.W.Frag} {H : Hp} {v w : V} (f : fl d = some v) (h : DT K o H w d) : w = v := by
  cases h with
  | cel h => cases f
  | v h => cases h <;> first | (cases f; rfl) | cases f
/-- flat things compared -/
def CF (n : Bool) (x y : Dat) (_ : Cs) (z : Bool) : Prop := ∃ u w, fl x = some u ∧ fl y = some w ∧ scal u w = true ∧ z = (if n = true then !decide (u = w) else decide (u = w))
theorem bl_int (i j : Int) : decide (V.int i = V.int j) = decide (i = j) := by
  by_cases h : i = j
  · subst h
    simp
  · rw [decide_eq_false h, decide_eq_false (fun z => h (V.int.inj z))]
theorem c_eqF {u w : V} (h : EvC X o a ds k fun x k1 => EvC X o b ds k1 fun y k2 => fl x = some u ∧ fl y = some w ∧ scal u w = true ∧ R (.bl (decide (u = w))) k2) : EvC X o (.Compare a [.Eq] [b] pos) ds k R :=
  c_cmp op_eq (nobehind _ (by decide) (by decide)) (C := CF false) (fun x y k2 v w' H Q hz _ h1 h2 q => by
    obtain ⟨z, u, w, f1, f2, hs, rfl⟩ := hz
    have q1 := fl_is f1 h1
    have q2 := fl_is f2 h2
    subst q1 q2
    exact ⟨hs, q _ ⟨_, _, f1, f2, hs, rfl⟩⟩) (h.mono fun x k1 hx => hx.mono fun y k2 ⟨f1, f2, hs, hy⟩ => ⟨⟨_, _, _, f1, f2, hs, rfl⟩, fun z ⟨u', w', g1, g2, hs', e⟩ => by
      rw [f1] at g1; rw [f2] at g2
      cases g1; cases g2
      rw [e]
      exact hy⟩)
theorem t_eqF {u w : V} (h : EvC X o a ds k fun x k1 => EvC X o b ds k1 fun y k2 => fl x = some u ∧ fl y = some w ∧ scal u w = true ∧ RT (decide (u = w)) k2) : EvT X o (.Compare a [.Eq] [b] pos) ds k RT :=
  tc_cmp op_eq (nobehind _ (by decide) (by decide)) (C := CF false) (fun x y k2 v w' H Q hz _ h1 h2 q => by
    obtain ⟨z, u, w, f1, f2, hs, rfl⟩ := hz
    have q1 := fl_is f1 h1
    have q2 := fl_is f2 h2
    subst q1 q2
    exact ⟨hs, q _ ⟨_, _, f1, f2, hs, rfl⟩⟩) (h.mono fun x k1 hx => hx.mono fun y k2 ⟨f1, f2, hs, hy⟩ => ⟨⟨_, _, _, f1, f2, hs, rfl⟩, fun z ⟨u', w', g1, g2, hs', e⟩ => by
      rw [f1] at g1; rw [f2] at g2
      cases g1; cases g2
      rw [e]
      exact hy⟩)
theorem ci_eq (x y : Dat) (k2 : Cs) (v w : V) (H : Hp) (Q : VK) (h : ∃ z, CI (fun i j => decide (i = j)) x y k2 z) (_ : DK X.K o k2 H) (h1 : DT X.K o H v x) (h2 : DT X.K o H w y) (q : ∀ z, CI (fun i j => decide (i = j)) x y k2 z → Q (V.bl z) H) : scal v w = true ∧ Q (.bl (decide (v = w))) H := by
  obtain ⟨z, hz⟩ := h
  obtain ⟨i, j, rfl, rfl, hz⟩ := onII_ex hz
  have q1 := h1.unint
  have q2 := h2.unint
  subst q1 q2
  exact ⟨rfl, by rw [bl_int]; exact q _ rfl⟩
theorem ci_ne (x y : Dat) (k2 : Cs) (v w : V) (H : Hp) (Q : VK) (h : ∃ z, CI (fun i j => !decide (i = j)) x y k2 z) (_ : DK X.K o k2 H) (h1 : DT X.K o H v x) (h2 : DT X.K o H w y) (q : ∀ z, CI (fun i j => !decide (i = j)) x y k2 z → Q (V.bl z) H) : scal v w = true ∧ Q (.bl (!decide (v = w))) H := by
  obtain ⟨z, hz⟩ := h
  obtain ⟨i, j, rfl, rfl, hz⟩ := onII_ex hz
  have q1 := h1.unint
  have q2 := h2.unint
  subst q1 q2
  exact ⟨rfl, by rw [bl_int]; exact q _ rfl⟩
theorem c_eqI (h : EvC X o a ds k fun x k1 => EvC X o b ds k1 fun y k2 => onI x fun i => onI y fun j => R (.bl (decide (i = j))) k2) : EvC X o (.Compare a [.Eq] [b] pos) ds k R :=
  c_cmp op_eq (nobehind _ (by decide) (by decide)) (C := CI fun i j => decide (i = j)) ci_eq (h.mono fun x k1 hx => hx.mono fun y k2 hy => by
    obtain ⟨i, j, rfl, rfl, hy⟩ := onII_ex hy
    exact ⟨⟨_, rfl⟩, fun z hz => by rw [show z = decide (i = j) from hz]; exact hy⟩)
theorem t_eqI (h : EvC X o a ds k fun x k1 => EvC X o b ds k1 fun y k2 => onI x fun i => onI y fun j => (i = j → RT true k2) ∧ (¬ i = j → RT false k2)) : EvT X o (.Compare a [.Eq] [b] pos) ds k RT :=
  tc_cmp op_eq (nobehind _ (by decide) (by decide)) (C := CI fun i j => decide (i = j)) ci_eq (h.mono fun x k1 hx => hx.mono fun y k2 hy => by
    obtain ⟨i, j, rfl, rfl, hy⟩ := onII_ex hy
    refine ⟨⟨_, rfl⟩, fun z hz => ?_⟩
    rw [show z = decide (i = j) from hz]
    by_cases hp : i = j
    · rw [decide_eq_true hp]; exact hy.1 hp
    · rw [decide_eq_false hp]; exact hy.2 hp)
theorem c_neI (h : EvC X o a ds k fun x k1 => EvC X o b ds k1 fun y k2 => onI x fun i => onI y fun j => R (.bl (!decide (i = j))) k2) : EvC X o (.Compare a [.NotEq] [b] pos) ds k R :=
  c_cmp op_ne (nobehind _ (by decide) (by decide)) (C := CI fun i j => !decide (i = j)) ci_ne (h.mono fun x k1 hx => hx.mono fun y k2 hy => by
    obtain ⟨i, j, rfl, rfl, hy⟩ := onII_ex hy
    exact ⟨⟨_, rfl⟩, fun z hz => by rw [show z = !decide (i = j) from hz]; exact hy⟩)
theorem t_neI (h : EvC X o a ds k fun x k1 => EvC X o b ds k1 fun y k2 => onI x fun i => onI y fun j => (¬ i = j → RT true k2) ∧ (i = j → RT false k2)) : EvT X o (.Compare a [.NotEq] [b] pos) ds k RT :=
  tc_cmp op_ne (nobehind _ (by decide) (by decide)) (C := CI fun i j => !decide (i = j)) ci_ne (h.mono fun x k1 hx => hx.mono fun y k2 hy => by
    obtain ⟨i, j, rfl, rfl, hy⟩ := onII_ex hy
    refine ⟨⟨_, rfl⟩, fun z hz => ?_⟩
    rw [show z = !decide (i = j) from hz]
    by_cases hp : i = j
    · rw [decide_eq_true hp]; exact hy.2 hp
    · rw [decide_eq_false hp]; exact hy.1 hp)
/-! is None -/
@[reducible] def isN : Dat → Option Bool
  | .non => some true
  | .raw _ => none
  | .obj _ _ _ => some false
  | _ => some false
theorem isN_is {K : PySem.W.Frag} {H : Hp} {v : V} {b : Bool} (f : isN d = some b) (h : DT K o H v d) : decide (v = .non) = b := by
  cases h with
  | cel h => cases f; exact decide_eq_false (fun z => by cases z)
  | v h => cases h <;> first | (cases f; rfl) | (cases f; exact decide_eq_false (fun z => by cases z)) | cases f
theorem t_isN {j pos'} (h : EvC X o a ds k fun x k1 => match isN x with | some b => RT b k1 | none => False) : EvT X o (.Compare a [.Is] [.Constant .none j pos'] pos) ds k RT := fun st H Q S hk q =>
  wt (pt_cmp (pc_isN pe_w)) (h st H _ S hk fun x k1 v H1 hx e1 hk1 h1 => by
    cases hb : isN x with
    | none => simp only [hb] at hx
    | some b =>
      simp only [hb] at hx
      exact ⟨_, rfl, by rw [isN_is hb h1]; exact q _ k1 H1 hx e1 hk1⟩)
theorem c_isN {j pos'} (h : EvC X o a ds k fun x k1 => match isN x with | some b => R (.bl b) k1 | none => False) : EvC X o (.Compare a [.Is] [.Constant .none j pos'] pos) ds k R := fun st H Q S hk q =>
  we (pe_cmp (pc_isN pe_w)) (h st H _ S hk fun x k1 v H1 hx e1 hk1 h1 => by
    cases hb : isN x with
    | none => simp only [hb] at hx
    | some b =>
      simp only [hb] at hx
      rw [isN_is hb h1]
      exact q _ k1 _ H1 hx e1 hk1 (.v (.bl _)))
/-! and, or, not of bools, as values -/
theorem c_one {op : BoolOp} (h : EvC X o a ds k R) : EvC X o (.BoolOp op [a] pos) ds k R := fun st H Q S hk q => we (pe_one pe_w) (h st H Q S hk q)
theorem c_and {rest : List Expr} (h : EvC X o a ds k fun x k1 => onB x fun z => bc z (EvC X o (.BoolOp .And (b :: rest) pos) ds k1 R) (R (.bl false) k1)) : EvC X o (.BoolOp .And (a :: b :: rest) pos) ds k R := fun st H Q S hk q =>
  we (pe_and pe_w pe_w) (h st H _ S hk fun x k1 v H1 hx e1 hk1 h1 => by
    obtain ⟨z, rfl, hx⟩ := onB_ex hx
    refine ⟨z, h1.unbl, ?_⟩
    cases z with
    | true => exact hx st H1 Q (S.kp e1 hk) hk1 fun y k2 w H2 hy e2 hk2 h2 => q y k2 w H2 hy (e1.trans e2) hk2 h2
    | false => exact q _ k1 _ H1 hx e1 hk1 (.v (.bl _)))
theorem c_or {rest : List Expr} (h : EvC X o a ds k fun x k1 => onB x fun z => bc z (R (.bl true) k1) (EvC X o (.BoolOp .Or (b :: rest) pos) ds k1 R)) : EvC X o (.BoolOp .Or (a :: b :: rest) pos) ds k R := fun st H Q S hk q =>
  we (pe_or pe_w pe_w) (h st H _ S hk fun x k1 v H1 hx e1 hk1 h1 => by
    obtain ⟨z, rfl, hx⟩ := onB_ex hx
    refine ⟨z, h1.unbl, ?_⟩
    cases z with
    | false => exact hx st H1 Q (S.kp e1 hk) hk1 fun y k2 w H2 hy e2 hk2 h2 => q y k2 w H2 hy (e1.trans e2) hk2 h2
    | true => exact q _ k1 _ H1 hx e1 hk1 (.v (.bl _)))
theorem c_not (h : EvC X o a ds k fun x k1 => onB x fun z => R (.bl (!z)) k1) : EvC X o (.UnaryOp .Not a pos) ds k R := fun st H Q S hk q =>
  we (pe_not pe_w) (h st H _ S hk fun x k1 v H1 hx e1 hk1 h1 => by
    obtain ⟨z, rfl, hx⟩ := onB_ex hx
    exact ⟨z, h1.unbl, q _ k1 _ H1 hx e1 hk1 (.v (.bl _))⟩)
/-! tests -/
theorem t_val (h : EvC X o e ds k fun x k1 => onB x fun z => RT z k1) (he : ∀ whole, isTrue e X.env whole = (do let v ← whole; standAt e.pos; holding [v] (truthy v)) := by intro _; rfl) : EvT X o e ds k RT := fun st H Q S hk q =>
  wt (pt_val pe_w he) (h st H _ S hk fun x k1 v H1 hx e1 hk1 h1 => by
    obtain ⟨z, rfl, hx⟩ := onB_ex hx
    exact ⟨z, h1.unbl, q _ k1 H1 hx e1 hk1⟩)
/-- the truth of an int -/
theorem t_tru (h : EvC X o e ds k fun x k1 => onI x fun i => (i ≠ 0 → RT true k1) ∧ (i = 0 → RT false k1)) (he : ∀ whole, isTrue e X.env whole = (do let v ← whole; standAt e.pos; holding [v] (truthy v)) := by intro _; rfl) : EvT X o e ds k RT := fun st H Q S hk q =>
  wt (pt_truth pe_w he) (h st H _ S hk fun x k1 v H1 hx e1 hk1 h1 => by
    obtain ⟨i, rfl, hx⟩ := onI_ex hx
    have := h1.unint
    subst this
    by_cases z : i = 0
    · exact ⟨_, rfl, by rw [show (i != 0) = false by simp [z]]; exact q _ k1 H1 (hx.2 z) e1 hk1⟩
    · exact ⟨_, rfl, by rw [show (i != 0) = true by simp [z]]; exact q _ k1 H1 (hx.1 z) e1 hk1⟩)
theorem EvT.mono {RT' : Bool → Cs → Prop} (h : EvT X o e ds k RT) (w : ∀ d k, RT d k → RT' d k) : EvT X o e ds k RT' := fun st H Q S hk q => h st H Q S hk fun d k' H' r => q d k' H' (w d k' r)
theorem t_w (h : EvW X o e ds k RT) : EvT X o e ds k RT := fun st H Q S hk q => wt pw_w.pt (h st H Q S hk q)
theorem w_and1 (h : EvT X o a ds k RT) : EvW X o (.BoolOp .And [a] pos) ds k RT := fun st H Q S hk q => ww (pw_and1 pt_w) (h st H Q S hk q)
theorem w_or1 (h : EvT X o a ds k RT) : EvW X o (.BoolOp .Or [a] pos) ds k RT := fun st H Q S hk q => ww (pw_or1 pt_w) (h st H Q S hk q)
theorem w_and {rest : List Expr} (h : EvT X o a ds k fun x k1 => bc x (EvW X o (.BoolOp .And (b :: rest) pos) ds k1 RT) (RT false k1)) : EvW X o (.BoolOp .And (a :: b :: rest) pos) ds k RT := fun st H Q S hk q =>
  ww (pw_and pt_w pw_w) (h st H _ S hk fun x k1 H1 hx e1 hk1 => by
    cases x with
    | true => exact hx st H1 Q (S.kp e1 hk) hk1 fun y k2 H2 hy e2 hk2 => q y k2 H2 hy (e1.trans e2) hk2
    | false => exact q _ k1 H1 hx e1 hk1)
theorem w_or {rest : List Expr} (h : EvT X o a ds k fun x k1 => bc x (RT true k1) (EvW X o (.BoolOp .Or (b :: rest) pos) ds k1 RT)) : EvW X o (.BoolOp .Or (a :: b :: rest) pos) ds k RT := fun st H Q S hk q =>
  ww (pw_or pt_w pw_w) (h st H _ S hk fun x k1 H1 hx e1 hk1 => by
    cases x with
    | false => exact hx st H1 Q (S.kp e1 hk) hk1 fun y k2 H2 hy e2 hk2 => q y k2 H2 hy (e1.trans e2) hk2
    | true => exact q _ k1 H1 hx e1 hk1)
theorem t_not (h : EvT X o a ds k fun x k1 => RT (!x) k1) : EvT X o (.UnaryOp .Not a pos) ds k RT := fun st H Q S hk q => wt (pt_not pt_w) (h st H _ S hk fun x k1 H1 hx e1 hk1 => q _ k1 H1 hx e1 hk1)
theorem c_if (h : EvT X o c ds k fun x k1 => bc x (EvC X o a ds k1 R) (EvC X o b ds k1 R)) : EvC X o (.IfExp c a b pos) ds k R := fun st H Q S hk q =>
  we (pe_ifExp pt_w pe_w pe_w) (h st H _ S hk fun x k1 H1 hx e1 hk1 => by
    cases x with
    | true => exact hx st H1 Q (S.kp e1 hk) hk1 fun y k2 v H2 hy e2 hk2 h2 => q y k2 v H2 hy (e1.trans e2) hk2 h2
    | false => exact hx st H1 Q (S.kp e1 hk) hk1 fun y k2 v H2 hy e2 hk2 h2 => q y k2 v H2 hy (e1.trans e2) hk2 h2)
/-- both ways joined -/
theorem c_ifJ {J : Dat → Cs → Prop} (h : EvT X o c ds k fun x k1 => bc x (EvC X o a ds k1 J) (EvC X o b ds k1 J)) (hJ : ∀ d k', J d k' → R d k') : EvC X o (.IfExp c a b pos) ds k R := (c_if h).mono hJ
/-! arguments, displays -/
theorem ca_nil {RA : List Dat → Cs → Prop} (h : RA [] k) : EvA X o [] ds k RA := fun st H Q S hk q => wa pa_nil (q [] k [] H h (Kp.refl _ _) hk DTs.nil)
theorem ca_cons {RA : List Dat → Cs → Prop} (h : EvC X o e ds k fun x k1 => EvA X o es ds k1 fun xs k2 => RA (x :: xs) k2) (hs : starEach (e :: es) X.env = (false, eval e X.env) :: starEach es X.env := by rfl) : EvA X o (e :: es) ds k RA := fun st H Q S hk q =>
  wa (pa_cons pe_w pa_w hs) (h st H _ S hk fun x k1 v H1 hx e1 hk1 h1 => hx st H1 _ (S.kp e1 hk) hk1 fun xs k2 vs H2 hy e2 hk2 h2 => q _ k2 _ H2 hy (e1.trans e2) hk2 (DTs.cons (h1.kp e2 hk1) h2))
theorem EvA.mono {RA RA' : List Dat → Cs → Prop} (h : EvA X o es ds k RA) (w : ∀ d k, RA d k → RA' d k) : EvA X o es ds k RA' := fun st H Q S hk q => h st H Q S hk fun d k' v H' r => q d k' v H' (w d k' r)
theorem ck_nil {RA : List Dat → Cs → Prop} (h : RA [] k) : EvK X o [] ds k RA := fun st H Q S hk q => wk pk_nil (q [] k [] H h (Kp.refl _ _) hk DTs.nil)
theorem ck_cons {RA : List Dat → Cs → Prop} {nm : Option Str} {kpos : Pos} {ks : List Keyword} (h : EvC X o e ds k fun x k1 => EvK X o ks ds k1 fun xs k2 => RA (x :: xs) k2) : EvK X o (⟨nm, e, kpos⟩ :: ks) ds k RA := fun st H Q S hk q =>
  wk (pk_cons pe_w pk_w) (h st H _ S hk fun x k1 v H1 hx e1 hk1 h1 => hx st H1 _ (S.kp e1 hk) hk1 fun xs k2 vs H2 hy e2 hk2 h2 => q _ k2 _ H2 hy (e1.trans e2) hk2 (DTs.cons (h1.kp e2 hk1) h2))
theorem c_tup {cx : Nat} (h : EvA X o es ds k fun xs k1 => (xs.all noC = true ∧ xs.length ≤ 1000) ∧ R (.tup xs) k1) : EvC X o (.Tuple es cx pos) ds k R := fun st H Q S hk q =>
  we (pe_tup pa_w) (h st H _ S hk fun xs k1 vs H1 hx e1 hk1 h1 => ⟨by rw [h1.1]; exact Nat.le_trans hx.1.2 (by decide), fun p np => q _ k1 _ _ hx.2 (e1.trans (Kp.of_ex (Ex.new np))) (hk1.ex (Ex.new np)) (.v (.tup' (.inl (.inl upd_same)) ((h1.unc hx.1.1).kp (Kp.of_ex (Ex.new np)) hk1)))⟩)
theorem ex_back {H H' : Hp} {q : Addr} (e : Kp o H H') (hk : DK X.K o k H) (np : H' q = none) : H q = none ∨ q ∈ o := by
  by_cases m : q ∈ o
  · exact .inr m
  · refine .inl ?_
    cases h : H q with
    | none => rfl
    | some u =>
      have := e q u m h
      rw [np] at this
      cases this
theorem fresh_back {H H' : Hp} {q : Addr} (e : Kp o H H') (hk' : DK X.K o k H') (np : H' q = none) : H q = none := by
  cases h : H q with
  | none => rfl
  | some u =>
    have := e q u (hk'.ne np) h
    rw [np] at this
    cases this
theorem n_disp {RN : List Dat → Cs → Prop} (h : EvA X o es ds k fun xs k1 => (xs.all noC = true ∧ xs.length ≤ 1000) ∧ RN xs k1) : EvN X o (.List es pos) ds k RN := fun st H Q S hk q =>
  we (pe_lst pa_w) (h st H _ S hk fun xs k1 vs H1 hx e1 hk1 h1 => ⟨by rw [h1.1]; exact Nat.le_trans hx.1.2 (by decide), fun p np => q _ k1 p vs _ hx.2 (fresh_back e1 hk1 np) (e1.trans (Kp.of_ex (Ex.new np))) (hk1.ex (Ex.new np)) upd_same ((h1.unc hx.1.1).kp (Kp.of_ex (Ex.new np)) hk1)⟩)
theorem c_lst (h : EvA X o es ds k fun xs k1 => (xs.all noC = true ∧ xs.length ≤ 1000) ∧ R (.lst xs) k1) : EvC X o (.List es pos) ds k R := c_ofN (n_disp h)
/-! t[i], xs[i] -/
@[reducible] def onAt (as : List Dat) (i : Int) (C : Dat → Prop) : Prop := ∃ (j : Nat) (d : Dat), i = (j : Int) ∧ as[j]? = some d ∧ C d
theorem c_ixT (h : EvC X o a ds k fun x k1 => EvC X o b ds k1 fun y k2 => onT x fun as => onI y fun i => onAt as i fun d => R d k2) (hp : PlainIx b := by exact fun _ _ => rfl) : EvC X o (.Subscript a b pos) ds k R := fun st H Q S hk q =>
  we (pe_ix ix_tup pe_w pe_w hp) (h st H _ S hk fun x k1 v H1 hx e1 hk1 h1 => hx st H1 _ (S.kp e1 hk) hk1 fun y k2 w H2 hy e2 hk2 h2 => by
    obtain ⟨as, rfl, hy⟩ := onT_ex hy
    obtain ⟨i, rfl, j, d, rfl, hj, hr⟩ := onI_ex hy
    have h1' := h1.kp e2 hk1
    obtain ⟨p, xs, rfl, hs, hd⟩ := h1'.untup
    obtain ⟨v, g1, g2⟩ := hd.at hj
    exact ⟨_, _, _, v, rfl, h2.unint, hs, atI_nat g1, q _ k2 v H2 hr (e1.trans e2) hk2 (.v g2)⟩)
theorem c_ixL (h : EvC X o a ds k fun x k1 => EvC X o b ds k1 fun y k2 => onL k2 x fun as => onI y fun i => onAt as i fun d => R d k2) (hp : PlainIx b := by exact fun _ _ => rfl) : EvC X o (.Subscript a b pos) ds k R := fun st H Q S hk q =>
  we (pe_ix ix_list pe_w pe_w hp) (h st H _ S hk fun x k1 v H1 hx e1 hk1 h1 => hx st H1 _ (S.kp e1 hk) hk1 fun y k2 w H2 hy e2 hk2 h2 => by
    obtain ⟨p, xs, as, rfl, hs, hd, hy⟩ := onL_ex hk2 hy (h1.kp e2 hk1)
    obtain ⟨i, rfl, j, d, rfl, hj, hr⟩ := onI_ex hy
    obtain ⟨v, g1, g2⟩ := hd.at hj
    exact ⟨_, _, _, v, rfl, h2.unint, hs, atI_nat g1, q _ k2 v H2 hr (e1.trans e2) hk2 (.v g2)⟩)
end
end Wz

set_option Elab.async false
set_option linter.all false
set_option maxRecDepth 100000
set_option maxHeartbeats 4000000
namespace Wz
open PySem PySem.Spec PyProof.Rows L2 Evl

/-! ### defs -/
abbrev FP := List Dat → (Dat → Prop) → Prop
abbrev FN := List Dat → (List Dat → Prop) → Prop
abbrev FD := List Dat → List Dat → (Dat → List Dat → Prop) → Prop
abbrev FE := List Dat → List Dat → (List Dat → List Dat → Prop) → Prop
/-- a def without side -/
def spP (K : PySem.W.Frag) (F : FP) : Sp := fun vs H Q _ => ∃ ds G, DTs K [] H vs ds ∧ F ds G ∧ ∀ d, G d → ∀ v H', Kp [] H H' → DV K [] H' v d → Q v H'
/-- one that tells a new list -/
def spN (K : PySem.W.Frag) (F : FN) : Sp := fun vs H Q _ => ∃ ds G, DTs K [] H vs ds ∧ F ds G ∧ ∀ as, G as → ∀ p xs H', H p = none → Kp [] H H' → H' p = some (.lst xs) → DVs K [] H' xs as → Q (.ref p) H'
/-- one whose first argument is a cell -/
def spD (K : PySem.W.Frag) (F : FD) : Sp := fun vs H Q _ => ∃ (a : Addr) (ws : List V) (ds s : List Dat) (G : Dat → List Dat → Prop), vs = .ref a :: ws ∧ DK K [a] [s] H ∧ DVs K [a] H ws ds ∧ F ds s G ∧ ∀ d s', G d s' → ∀ v H', Kp [a] H H' → DK K [a] [s'] H' → DV K [a] H' v d → Q v H'
/-- such a one that tells a new list -/
def spE (K : PySem.W.Frag) (F : FE) : Sp := fun vs H Q _ => ∃ (a : Addr) (ws : List V) (ds s : List Dat) (G : List Dat → List Dat → Prop), vs = .ref a :: ws ∧ DK K [a] [s] H ∧ DVs K [a] H ws ds ∧ F ds s G ∧ ∀ as s', G as s' → ∀ p xs H', H p = none → Kp [a] H H' → DK K [a] [s'] H' → H' p = some (.lst xs) → DVs K [a] H' xs as → Q (.ref p) H'
structure Cl (P : Program) (w : World) (K : PySem.W.Frag) (mg : Str → Option Value) (base : Heap) (k : Nat) (x : Str) (ps : List Str) (sp : Sp) : Prop where
  ex : ∃ (f : Addr) (fd : FuncData), mg x = some (.ref f) ∧ PySem.W.keepIn K (.ref f) = true ∧ Binds K fd ps [] ∧ FnOk P w K mg base CX0 k f fd ps sp
theorem Cl.mono {P : Program} {w : World} {K : PySem.W.Frag} {mg : Str → Option Value} {base : Heap} {j k : Nat} {x : Str} {ps : List Str} {sp : Sp} (c : Cl P w K mg base j x ps sp) (h : j ≤ k) : Cl P w K mg base k x ps sp := by
  obtain ⟨f, fd, a, b, c1, F⟩ := c.ex
  exact ⟨f, fd, a, b, c1, F.mono h⟩
/-- an argument as what is read -/
@[reducible] def rd (k : Cs) : Dat → Dat
  | .cel i => .lst (k.getD i [])
  | d => d
theorem rd_dt {K : PySem.W.Frag} {o : Os} {k : Cs} {H : Hp} {v : V} {d : Dat} (hk : DK K o k H) (h : DT K o H v d) : DT K [] H v (rd k d) := by
  cases h with
  | v h =>
    have h' : DV K [] H v d := h.less (fun b z => by cases z)
    have e : rd k d = d := by cases h <;> rfl
    rw [e]
    exact .v h'
  | cel hi =>
    rename_i a i
    have hl : i < k.length := by rw [← hk.len]; exact (List.getElem?_eq_some_iff.mp hi).1
    have hki : k[i]? = some (k.getD i []) := by rw [List.getD_eq_getElem?_getD, List.getElem?_eq_getElem hl]; rfl
    obtain ⟨xs, hx, hd⟩ := hk.at_ i a _ hi hki
    exact .v (.lst' (.inl hx) (fun z => by cases z) (hd.less fun b z => by cases z))
theorem rd_dts {K : PySem.W.Frag} {o : Os} {k : Cs} {H : Hp} {vs : List V} {ds : List Dat} (hk : DK K o k H) (h : DTs K o H vs ds) : DTs K [] H vs (ds.map (rd k)) := by
  refine ⟨by rw [List.length_map]; exact h.1, fun i v d a b => ?_⟩
  rw [List.getElem?_map] at b
  cases hd : ds[i]? with
  | none => rw [hd] at b; cases b
  | some d0 =>
    rw [hd] at b
    cases b
    exact rd_dt hk (h.2 i v d0 a hd)
/-- the first argument is a cell -/
@[reducible] def onD (k : Cs) (as : List Dat) (C : Nat → List Dat → List Dat → Prop) : Prop := match as with
  | .cel i :: bs => match k[i]? with
    | some s => C i s bs
    | none => False
  | _ => False
theorem onD_ex {k : Cs} {as : List Dat} {C : Nat → List Dat → List Dat → Prop} (h : onD k as C) : ∃ i s bs, as = .cel i :: bs ∧ k[i]? = some s ∧ C i s bs := by
  cases as with
  | nil => exact h.elim
  | cons a bs =>
    cases a with
    | cel i =>
      cases hi : k[i]? with
      | none => simp only [onD, hi] at h
      | some s =>
        simp only [onD, hi] at h
        exact ⟨i, s, bs, rfl, hi, h⟩
    | _ => exact h.elim
/-- the one cell alone -/
theorem dk_one {K : PySem.W.Frag} {o : Os} {k : Cs} {H : Hp} {i : Nat} {a : Addr} {s : List Dat} (hk : DK K o k H) (hi : o[i]? = some a) (hs : k[i]? = some s) : DK K [a] [s] H := by
  refine ⟨rfl, by simp, fun z hz => by rw [List.mem_singleton] at hz; rw [hz]; exact hk.nl s (List.mem_of_getElem? hs), fun j b cs hj hc => ?_⟩
  cases j with
  | zero =>
    cases hj
    cases hc
    obtain ⟨xs, h1, h2⟩ := hk.at_ i _ _ hi hs
    exact ⟨xs, h1, h2.less fun b hb => by rw [List.mem_singleton] at hb; rw [hb]; exact List.mem_of_getElem? hi⟩
  | succ j => cases hj
theorem dk_back {K : PySem.W.Frag} {o : Os} {k : Cs} {H H' : Hp} {i : Nat} {a : Addr} {s : List Dat} (hk : DK K o k H) (hi : o[i]? = some a) (e : Kp [a] H H') (h : DK K [a] [s] H') : DK K o (k.set i s) H' ∧ Kp o H H' := by
  have n : s.all noL = true := h.nl _ (List.mem_singleton.mpr rfl)
  have hm : a ∈ o := List.mem_of_getElem? hi
  have kp : Kp o H H' := e.more fun b hb => by rw [List.mem_singleton] at hb; rw [hb]; exact hm
  refine ⟨⟨by rw [List.length_set]; exact hk.len, hk.nd, fun z hz => ?_, fun j b cs hj hc => ?_⟩, kp⟩
  · rcases List.mem_or_eq_of_mem_set hz with hz | rfl
    · exact hk.nl z hz
    · exact h.nl _ (List.mem_singleton.mpr rfl)
  by_cases z : i = j
  · subst z
    rw [hi] at hj
    cases hj
    have hl : i < k.length := by rw [← hk.len]; exact (List.getElem?_eq_some_iff.mp hi).1
    rw [List.getElem?_set_self hl] at hc
    cases hc
    obtain ⟨xs, h1, h2⟩ := h.at_ 0 _ _ rfl rfl
    exact ⟨xs, h1, h2.back n o⟩
  · rw [List.getElem?_set_ne z] at hc
    obtain ⟨xs, hx, hd⟩ := hk.at_ j b cs hj hc
    refine ⟨xs, e b _ (fun hb => ?_) hx, hd.kp kp hk⟩
    rw [List.mem_singleton] at hb
    subst hb
    have l1 := (List.getElem?_eq_some_iff.mp hi).1
    exact z ((List.getElem?_inj l1 hk.nd).mp (by rw [hi, hj]))
section
variable {X : Cx} {o : Os} {ds : List (Option Dat)} {k k1 k2 : Cs} {e : Expr} {es : List Expr} {p pos : Pos} {R : Dat → Cs → Prop} {RN : List Dat → Cs → Prop} {x : Str} {ps : List Str} {k' : Nat}
theorem c_call {F : FP} (c : Cl X.prog X.w X.K X.mg X.base k' x ps (spP X.K F)) (hr : Room k' X.A) (h : EvA X o (e :: es) ds k fun as k1 => F (as.map (rd k1)) fun d => noL d = true ∧ R d k1) (hg : Gl X x := by rfl) (hdb : (x == ("__debug__" : Str)) = false := by decide)
    (he : starEach (e :: es) X.env = (false, eval e X.env) :: starEach es X.env := by rfl) (hpl : (backTo pos (starEach es X.env)).any (·.1) = false := by rfl) : EvC X o (.Call (.Name x p) (e :: es) [] pos) ds k R := fun st H Q St hk q => by
  obtain ⟨f, fd, a, b, c1, F1⟩ := c.ex
  refine we (pe_call F1 hr hg a b c1 .nil pass0 pa_w hdb he hpl) (h st H _ St hk fun as k1 vs H1 hx e1 hk1 h1 => ?_)
  refine ⟨as.map (rd k1), _, by rw [List.append_nil]; exact rd_dts hk1 h1, hx, fun d hd v H' e' h' => ?_⟩
  have e2 : Ex H1 H' := e'.ex
  exact q d k1 v H' hd.2 (e1.trans (Kp.of_ex e2)) (hk1.ex e2) (.v (h'.back hd.1 o))
theorem n_call {F : FN} (c : Cl X.prog X.w X.K X.mg X.base k' x ps (spN X.K F)) (hr : Room k' X.A) (h : EvA X o (e :: es) ds k fun as k1 => F (as.map (rd k1)) fun bs => bs.all noL = true ∧ RN bs k1) (hg : Gl X x := by rfl) (hdb : (x == ("__debug__" : Str)) = false := by decide)
    (he : starEach (e :: es) X.env = (false, eval e X.env) :: starEach es X.env := by rfl) (hpl : (backTo pos (starEach es X.env)).any (·.1) = false := by rfl) : EvN X o (.Call (.Name x p) (e :: es) [] pos) ds k RN := fun st H Q St hk q => by
  obtain ⟨f, fd, a, b, c1, F1⟩ := c.ex
  refine we (pe_call F1 hr hg a b c1 .nil pass0 pa_w hdb he hpl) (h st H _ St hk fun as k1 vs H1 hx e1 hk1 h1 => ?_)
  refine ⟨as.map (rd k1), _, by rw [List.append_nil]; exact rd_dts hk1 h1, hx, fun bs hd p xs H' np e' hp h' => ?_⟩
  have e2 : Ex H1 H' := e'.ex
  exact q bs k1 p xs H' hd.2 (fresh_back e1 hk1 np) (e1.trans (Kp.of_ex e2)) (hk1.ex e2) hp (h'.back hd.1 o)
/-- a cell handed on -/
theorem dts_cell {K : PySem.W.Frag} {o : Os} {k : Cs} {H : Hp} {vs : List V} {i : Nat} {s bs : List Dat} (hk : DK K o k H) (h : DTs K o H vs (.cel i :: bs)) (hs : k[i]? = some s) (n : bs.all noC = true) : ∃ a ws, vs = .ref a :: ws ∧ o[i]? = some a ∧ DK K [a] [s] H ∧ DVs K [a] H ws bs := by
  cases vs with
  | nil => exact absurd h.1 (by simp)
  | cons v ws =>
    obtain ⟨h1, h2⟩ := h.uncons
    obtain ⟨a, rfl, ha⟩ := h1.uncel
    exact ⟨a, ws, rfl, ha, dk_one hk ha hs, (h2.unc n).less fun b hb => by rw [List.mem_singleton] at hb; rw [hb]; exact List.mem_of_getElem? ha⟩
theorem c_callD {F : FD} (c : Cl X.prog X.w X.K X.mg X.base k' x ps (spD X.K F)) (hr : Room k' X.A) (h : EvA X o (e :: es) ds k fun as k1 => onD k1 as fun i s bs => bs.all noC = true ∧ F bs s fun d s' => noL d = true ∧ R d (k1.set i s')) (hg : Gl X x := by rfl) (hdb : (x == ("__debug__" : Str)) = false := by decide)
    (he : starEach (e :: es) X.env = (false, eval e X.env) :: starEach es X.env := by rfl) (hpl : (backTo pos (starEach es X.env)).any (·.1) = false := by rfl) : EvC X o (.Call (.Name x p) (e :: es) [] pos) ds k R := fun st H Q St hk q => by
  obtain ⟨f, fd, a, b, c1, F1⟩ := c.ex
  refine we (pe_call F1 hr hg a b c1 .nil pass0 pa_w hdb he hpl) (h st H _ St hk fun as k1 vs H1 hx e1 hk1 h1 => ?_)
  obtain ⟨i, s, bs, rfl, hs, hn, hx⟩ := onD_ex hx
  obtain ⟨aa, ws, rfl, ha, hk2, h2⟩ := dts_cell hk1 h1 hs hn
  refine ⟨aa, ws, bs, s, _, by rw [List.append_nil], hk2, h2, hx, fun d s' hd v H' e' hk' h' => ?_⟩
  obtain ⟨hk3, e3⟩ := dk_back hk1 ha e' hk'
  exact q d _ v H' hd.2 (e1.trans e3) hk3 (.v (h'.back hd.1 o))
theorem n_callD {F : FE} (c : Cl X.prog X.w X.K X.mg X.base k' x ps (spE X.K F)) (hr : Room k' X.A) (h : EvA X o (e :: es) ds k fun as k1 => onD k1 as fun i s bs => bs.all noC = true ∧ F bs s fun cs s' => cs.all noL = true ∧ RN cs (k1.set i s')) (hg : Gl X x := by rfl) (hdb : (x == ("__debug__" : Str)) = false := by decide)
    (he : starEach (e :: es) X.env = (false, eval e X.env) :: starEach es X.env := by rfl) (hpl : (backTo pos (starEach es X.env)).any (·.1) = false := by rfl) : EvN X o (.Call (.Name x p) (e :: es) [] pos) ds k RN := fun st H Q St hk q => by
  obtain ⟨f, fd, a, b, c1, F1⟩ := c.ex
  refine we (pe_call F1 hr hg a b c1 .nil pass0 pa_w hdb he hpl) (h st H _ St hk fun as k1 vs H1 hx e1 hk1 h1 => ?_)
  obtain ⟨i, s, bs, rfl, hs, hn, hx⟩ := onD_ex hx
  obtain ⟨aa, ws, rfl, ha, hk2, h2⟩ := dts_cell hk1 h1 hs hn
  refine ⟨aa, ws, bs, s, _, by rw [List.append_nil], hk2, h2, hx, fun cs s' hd p xs H' np e' hk' hp h' => ?_⟩
  obtain ⟨hk3, e3⟩ := dk_back hk1 ha e' hk'
  exact q cs _ p xs H' hd.2 (fresh_back e1 hk1 np) (e1.trans e3) hk3 hp (h'.back hd.1 o)
end
/-! keywords alone -/
def kperm (pi : List Nat) (n : Nat) {α : Type} (us ws : List α) : List α := match us with
  | [] => if ws.length = n then pi.filterMap (fun i => ws[i]?) else []
  | _ :: _ => []
theorem kperm_rel (pi : List Nat) (n : Nat) {vs : List V} {us : List Value} {zs : List V} {ws : List Value} (r : Vals vs us) (r2 : Vals zs ws) : Vals (kperm pi n vs zs) (kperm pi n us ws) := by
  cases r with
  | cons _ _ => exact .nil
  | nil =>
    unfold kperm
    by_cases hn : zs.length = n
    · have e2 : ws.length = n := by rw [← r2.length]; exact hn
      show Vals (if zs.length = n then pi.filterMap (fun i => zs[i]?) else []) (if ws.length = n then pi.filterMap (fun i => ws[i]?) else [])
      rw [if_pos hn, if_pos e2]
      induction pi with
      | nil => exact .nil
      | cons i pi ih =>
        rw [List.filterMap_cons, List.filterMap_cons]
        cases hz : zs[i]? with
        | none =>
          rw [r2.none_of hz]
          exact ih
        | some z =>
          obtain ⟨u, hu, ru⟩ := r2.get hz
          rw [hu]
          exact .cons ru ih
    · have e2 : ¬ ws.length = n := by rw [← r2.length]; exact hn
      show Vals (if zs.length = n then pi.filterMap (fun i => zs[i]?) else []) (if ws.length = n then pi.filterMap (fun i => ws[i]?) else [])
      rw [if_neg hn, if_neg e2]
      exact .nil
theorem Fun.kb {K : PySem.W.Frag} {x qual : Str} {st : Stmt} {f : Addr} {fd : FuncData} {ps ks : List Str} (F : Fun K x qual st f fd) (pi : List Nat) (n : Nat) (hp : 0 < ps.length)
    (h : ∀ (kV doc pm : Value) (an : Option Addr) (cdv ct : Value) (ws : List Value), ws.length = n → bindArgs (PySem.W.fnOf x qual (defArgs st) (defBody st) (defScope st) .none kV doc pm an cdv ct) ⟨[], ks.zip ws⟩ = pure (ps.zip (kperm pi n [] ws))) : KBinds K fd ps ks (kperm pi n) (kperm pi n) := by
  obtain ⟨oc, od, kV, doc, pm, an, cdv, ct, osl, rfl, lk, hcd⟩ := F.ex
  refine ⟨fun s us ws _ hl => ?_, fun r r2 => kperm_rel pi n r r2⟩
  cases us with
  | cons u us =>
    have hl' : (0 : Nat) = ps.length := hl
    omega
  | nil =>
    by_cases hw : ws.length = n
    · exact .of_eq (h kV doc pm an cdv ct ws hw)
    · have e : kperm pi n ([] : List Value) ws = [] := by
        unfold kperm
        rw [if_neg hw]
      rw [e] at hl
      have hl' : (0 : Nat) = ps.length := hl
      omega
@[reducible] def permD (pi : List Nat) (as : List Dat) : List Dat := pi.filterMap (fun i => as[i]?)
theorem DTs.perm {K : PySem.W.Frag} {o : Os} {H : Hp} {vs : List V} {as : List Dat} (h : DTs K o H vs as) (pi : List Nat) : DTs K o H (pi.filterMap fun i => vs[i]?) (permD pi as) := by
  unfold permD
  induction pi with
  | nil => exact DTs.nil
  | cons i pi ih =>
    rw [List.filterMap_cons, List.filterMap_cons]
    cases ha : as[i]? with
    | none =>
      have : vs[i]? = none := by
        rw [List.getElem?_eq_none_iff] at ha ⊢
        rw [h.1]
        exact ha
      rw [this]
      exact ih
    | some dd =>
      obtain ⟨v, hv, hd⟩ := h.at ha
      rw [hv]
      exact DTs.cons hd ih
structure ClK (P : Program) (w : World) (K : PySem.W.Frag) (mg : Str → Option Value) (base : Heap) (k : Nat) (x : Str) (ps ks : List Str) (pi : List Nat) (sp : Sp) : Prop where
  ex : ∃ (f : Addr) (fd : FuncData), mg x = some (.ref f) ∧ PySem.W.keepIn K (.ref f) = true ∧ KBinds K fd ps ks (kperm pi ks.length) (kperm pi ks.length) ∧ FnOk P w K mg base CX0 k f fd ps sp
section
variable {X : Cx} {o : Os} {ds : List (Option Dat)} {k k1 k2 : Cs} {e : Expr} {es : List Expr} {p pos : Pos} {R : Dat → Cs → Prop} {RN : List Dat → Cs → Prop} {x : Str} {ps ks : List Str} {k' : Nat} {pi : List Nat} {kws : List Keyword}
theorem c_callK {F : FP} (c : ClK X.prog X.w X.K X.mg X.base k' x ps ks pi (spP X.K F)) (hr : Room k' X.A) (h : EvK X o kws ds k fun as k1 => as.length = ks.length ∧ F (permD pi (as.map (rd k1))) fun d => noL d = true ∧ R d k1) (hg : Gl X x := by rfl)
    (hall : (backToKw pos (keywordEach kws X.env)).all (·.1.isSome) = true := by rfl) (hks : (backToKw pos (keywordEach kws X.env)).filterMap (·.1) = ks := by rfl) (hdb : (x == ("__debug__" : Str)) = false := by decide)
    (hpl : ((backTo pos (starEach [] X.env)).any (·.1) || (backToKw pos (keywordEach kws X.env)).any (·.1.isNone)) = false := by rfl) : EvC X o (.Call (.Name x p) [] kws pos) ds k R := fun st H Q St hk q => by
  obtain ⟨f, fd, hm, hkp, hb, F1⟩ := c.ex
  intro pins s I
  refine wpAny_Call_Name_kw (ld_glob I hg hm ?_ hdb)
  refine PySem.W.callWith_KW0 (h₀ := X.base) I.ok.mod.kin hkp hall (thn (h st H (fun zs H2 => spP X.K F (kperm pi ks.length [] zs) H2 Q E0) St hk (fun as k1 vs H1 hx e1 hk1 h1 => ?_) pos pins s I) fun ws s2 ⟨zs, H2, I2, rz, q2⟩ => ⟨I2.kIn, ?_⟩) hpl
  · refine ⟨permD pi (as.map (rd k1)), _, ?_, hx.2, fun d hd v H' e' h' => ?_⟩
    · unfold kperm
      rw [if_pos (by rw [h1.1]; exact hx.1)]
      exact (rd_dts hk1 h1).perm pi
    · exact q d k1 v H' hd.2 (e1.trans (Kp.of_ex e'.ex)) (hk1.ex e'.ex) (.v (h'.back hd.1 o))
  · rw [hks]
    exact run_fnk F1 hr hb pass0 I2 .nil rz q2
theorem n_callK {F : FN} (c : ClK X.prog X.w X.K X.mg X.base k' x ps ks pi (spN X.K F)) (hr : Room k' X.A) (h : EvK X o kws ds k fun as k1 => as.length = ks.length ∧ F (permD pi (as.map (rd k1))) fun bs => bs.all noL = true ∧ RN bs k1) (hg : Gl X x := by rfl)
    (hall : (backToKw pos (keywordEach kws X.env)).all (·.1.isSome) = true := by rfl) (hks : (backToKw pos (keywordEach kws X.env)).filterMap (·.1) = ks := by rfl) (hdb : (x == ("__debug__" : Str)) = false := by decide)
    (hpl : ((backTo pos (starEach [] X.env)).any (·.1) || (backToKw pos (keywordEach kws X.env)).any (·.1.isNone)) = false := by rfl) : EvN X o (.Call (.Name x p) [] kws pos) ds k RN := fun st H Q St hk q => by
  obtain ⟨f, fd, hm, hkp, hb, F1⟩ := c.ex
  intro pins s I
  refine wpAny_Call_Name_kw (ld_glob I hg hm ?_ hdb)
  refine PySem.W.callWith_KW0 (h₀ := X.base) I.ok.mod.kin hkp hall (thn (h st H (fun zs H2 => spN X.K F (kperm pi ks.length [] zs) H2 Q E0) St hk (fun as k1 vs H1 hx e1 hk1 h1 => ?_) pos pins s I) fun ws s2 ⟨zs, H2, I2, rz, q2⟩ => ⟨I2.kIn, ?_⟩) hpl
  · refine ⟨permD pi (as.map (rd k1)), _, ?_, hx.2, fun bs hd pp xs H' np e' hp h' => ?_⟩
    · unfold kperm
      rw [if_pos (by rw [h1.1]; exact hx.1)]
      exact (rd_dts hk1 h1).perm pi
    · exact q bs k1 pp xs H' hd.2 (fresh_back e1 hk1 np) (e1.trans (Kp.of_ex e'.ex)) (hk1.ex e'.ex) hp (h'.back hd.1 o)
  · rw [hks]
    exact run_fnk F1 hr hb pass0 I2 .nil rz q2
end

/-! ### blocks -/
/-- the cells are those of the entry, and new ones -/
structure Frs (o0 o : Os) (H0 : Hp) : Prop where
  pre : ∃ l, o = o0 ++ l
  new : ∀ b ∈ o, b ∉ o0 → H0 b = none
theorem Frs.kp {o0 o : Os} {H0 H H1 : Hp} (f : Frs o0 o H0) (e0 : Kp o0 H0 H) (e : Kp o H H1) : Kp o0 H0 H1 := fun b u nb hb => by
  refine e b u (fun m => ?_) (e0 b u nb hb)
  rw [f.new b m nb] at hb
  cases hb
/-- from any heap behind H0, where the names hold ds, the block does what D wants -/
def AS (X : Cx) (o0 o : Os) (sts : List Stmt) (D : Ends) (ds : List (Option Dat)) (k : Cs) (H0 : Hp) : Prop :=
  ∀ st H, Sat X.K o st H ds → DK X.K o k H → Kp o0 H0 H → Frs o0 o H0 → WB X sts D st H
/-- what a def's end wants -/
def RetC (K : PySem.W.Frag) (o0 : Os) (H0 : Hp) (rt : VK) (G : Dat → Cs → Prop) : Prop := ∀ d k' v H1, G d k' → Kp o0 H0 H1 → DK K o0 k' H1 → DV K o0 H1 v d → rt v H1
def RetN (K : PySem.W.Frag) (o0 : Os) (H0 : Hp) (rt : VK) (G : List Dat → Cs → Prop) : Prop := ∀ as k' p xs H1, G as k' → H0 p = none → p ∉ o0 → Kp o0 H0 H1 → DK K o0 k' H1 → H1 p = some (.lst xs) → DVs K o0 H1 xs as → rt (.ref p) H1
section
variable {X : Cx} {o0 o : Os} {ds : List (Option Dat)} {k k1 k2 : Cs} {e c : Expr} {d : Dat} {as : List Dat} {pos pos' : Pos} {rest body orelse : List Stmt} {D : Ends} {H0 : Hp} {G : Dat → Cs → Prop} {GN : List Dat → Cs → Prop}
theorem as_nil (h : ∀ st H, Sat X.K o st H ds → DK X.K o k H → Kp o0 H0 H → Frs o0 o H0 → D.nx st H) : AS X o0 o [] D ds k H0 := fun st H S hk e0 fr => wb pss_nil (h st H S hk e0 fr)
theorem wb_cons {s : Stmt} {st : L2.St} {H : Hp} (h : WS X s { D with nx := fun st' H' => WB X rest D st' H' } st H) : WB X (s :: rest) D st H := wb (pss_cons ps_w pss_w) h
theorem as_asg {i : Nat} {x : Str} (hN : X.N.Nodup) (h : EvC X o e ds k fun d k1 => AS X o0 o rest D (ds.set i (some d)) k1 H0) (hi : X.N[i]? = some x := by rfl) (hx : Loc X.env.scope x := by exact Or.inl rfl) (hs : swapsWith e (some (.Name x pos')) pos.line X.env = pure false := by rfl)
    (hf : X.fn x = true ∨ X.env.scope.names.lookup x = some .local := by exact .inl rfl) : AS X o0 o (.Assign [.Name x pos'] e pos :: rest) D ds k H0 := fun st H S hk e0 fr =>
  wb_cons (wss (ps_set hN hi hx pe_w hs hf) (h st H _ S hk fun d k1 v H1 hr e1 hk1 h1 => hr _ H1 ((S.kp e1 hk).set h1) hk1 (fr.kp e0 e1) fr))
/-- a new cell -/
theorem as_asgN {i : Nat} {x : Str} (hN : X.N.Nodup) (h : EvN X o e ds k fun as k1 => as.all noL = true ∧ ∀ p, AS X o0 (o ++ [p]) rest D (ds.set i (some (.cel k1.length))) (k1 ++ [as]) H0) (hi : X.N[i]? = some x := by rfl) (hx : Loc X.env.scope x := by exact Or.inl rfl) (hs : swapsWith e (some (.Name x pos')) pos.line X.env = pure false := by rfl)
    (hf : X.fn x = true ∨ X.env.scope.names.lookup x = some .local := by exact .inl rfl) : AS X o0 o (.Assign [.Name x pos'] e pos :: rest) D ds k H0 := fun st H S hk e0 fr =>
  wb_cons (wss (ps_set hN hi hx pe_w hs hf) (h st H _ S hk fun as k1 p xs H1 hr np e1 hk1 hp h1 => by
    have n1 := hk.ne np
    have hk2 := dk_plus hk1 n1 hp h1 hr.1
    have fit : ∀ (v : V) (d : Dat), DT X.K o H v d → DT X.K (o ++ [p]) H1 v d := fun v d q => by
      cases q with
      | v q => exact .v ((q.plus np).kp' e1 hk fun b hb => List.mem_append_left _ hb)
      | cel q => exact .cel (by rw [List.getElem?_append_left (List.getElem?_eq_some_iff.mp q).1]; exact q)
    have S1 : Sat X.K (o ++ [p]) st H1 ds := ⟨S.1, fun j d hd => let ⟨v, a, b⟩ := S.2 j d hd; ⟨v, a, fit v d b⟩⟩
    refine hr.2 p _ H1 (S1.set (.cel ?_)) hk2 (fr.kp e0 e1) ⟨?_, fun b hb nb => ?_⟩
    · rw [← hk1.len, List.getElem?_append_right (Nat.le_refl _), Nat.sub_self]
      rfl
    · obtain ⟨l, rfl⟩ := fr.pre
      exact ⟨l ++ [p], by rw [List.append_assoc]⟩
    · rcases List.mem_append.mp hb with hb | hb
      · exact fr.new b hb nb
      · rw [List.mem_singleton] at hb
        subst hb
        cases h0 : H0 b with
        | none => rfl
        | some u =>
          have := e0 b u nb h0
          rw [np] at this
          cases this))
theorem as_drop (h : EvC X o e ds k fun _ k1 => AS X o0 o rest D ds k1 H0) (hs : swapsWith e none pos.line X.env = pure false := by rfl) : AS X o0 o (.Expr e pos :: rest) D ds k H0 := fun st H S hk e0 fr =>
  wb_cons (wss (ps_expr pe_w hs) (h st H _ S hk fun d k1 v H1 hr e1 hk1 h1 => hr _ H1 (S.kp e1 hk) hk1 (fr.kp e0 e1) fr))
theorem as_ret (hq : RetC X.K o0 H0 D.rt G) (h : EvC X o e ds k fun d k1 => noC d = true ∧ G d (k1.take o0.length)) : AS X o0 o (.Return (some e) pos :: rest) D ds k H0 := fun st H S hk e0 fr =>
  wb_cons (wss (ps_ret pe_w) (h st H _ S hk fun d k1 v H1 hr e1 hk1 h1 => by
    obtain ⟨l, rfl⟩ := fr.pre
    exact hq d _ v H1 hr.2 (fr.kp e0 e1) (dk_take hk1) ((h1.unc hr.1).less fun b hb => List.mem_append_left _ hb)))
theorem as_retN (hq : RetN X.K o0 H0 D.rt GN) (h : EvN X o e ds k fun as k1 => GN as (k1.take o0.length)) : AS X o0 o (.Return (some e) pos :: rest) D ds k H0 := fun st H S hk e0 fr =>
  wb_cons (wss (ps_ret pe_w) (h st H _ S hk fun as k1 p xs H1 hr np e1 hk1 hp h1 => by
    have n1 := hk.ne np
    have h0 : H0 p = none := by
      cases h0 : H0 p with
      | none => rfl
      | some u =>
        obtain ⟨l, rfl⟩ := fr.pre
        have := e0 p u (fun z => n1 (List.mem_append_left _ z)) h0
        rw [np] at this
        cases this
    obtain ⟨l, rfl⟩ := fr.pre
    exact hq as _ p xs H1 hr h0 (fun z => n1 (List.mem_append_left _ z)) (fr.kp e0 e1) (dk_take hk1) hp (h1.less fun b hb => List.mem_append_left _ hb)))
/-- return x, x a cell of the def's own -/
theorem as_retC (hq : RetN X.K o0 H0 D.rt GN) (h : EvC X o e ds k fun d k1 => ∃ i s, d = .cel i ∧ o0.length ≤ i ∧ k1[i]? = some s ∧ GN s (k1.take o0.length)) : AS X o0 o (.Return (some e) pos :: rest) D ds k H0 := fun st H S hk e0 fr =>
  wb_cons (wss (ps_ret pe_w) (h st H _ S hk fun d k1 v H1 hr e1 hk1 h1 => by
    obtain ⟨i, s, rfl, hi, hs, hr⟩ := hr
    obtain ⟨a, rfl, ha⟩ := h1.uncel
    obtain ⟨xs, hx, hd⟩ := hk1.at_ i a s ha hs
    have nd := hk1.nd
    obtain ⟨l, rfl⟩ := fr.pre
    have na : a ∉ o0 := fun m => by
      rw [List.getElem?_append_right hi] at ha
      exact (List.nodup_append.mp nd).2.2 a m a (List.mem_of_getElem? ha) rfl
    exact hq s _ a xs H1 hr (fr.new a (List.mem_of_getElem? ha) na) na (fr.kp e0 e1) (dk_take hk1) hx (hd.less fun b hb => List.mem_append_left _ hb)))
theorem as_if (h : EvT X o c ds k fun b k1 => bc b (AS X o0 o body { D with nx := fun st' H' => WB X rest D st' H' } ds k1 H0) (AS X o0 o orelse { D with nx := fun st' H' => WB X rest D st' H' } ds k1 H0)) : AS X o0 o (.If c body orelse pos :: rest) D ds k H0 := fun st H S hk e0 fr =>
  wb_cons (wss (ps_if pt_w pss_w pss_w) (h st H _ S hk fun b k1 H1 hb e1 hk1 => by
    cases b with
    | true => exact hb st H1 (S.kp e1 hk) hk1 (fr.kp e0 e1) fr
    | false => exact hb st H1 (S.kp e1 hk) hk1 (fr.kp e0 e1) fr))
/-- the end of a branch: what follows the if -/
theorem as_go (h : AS X o0 o rest D ds k H0) : AS X o0 o [] { D with nx := fun st' H' => WB X rest D st' H' } ds k H0 := as_nil h
theorem as_ifn (h : EvT X o c ds k fun b k1 => bc b (AS X o0 o body { D with nx := fun st' H' => WB X rest D st' H' } ds k1 H0) (AS X o0 o rest D ds k1 H0)) : AS X o0 o (.If c body [] pos :: rest) D ds k H0 :=
  as_if (h.mono fun b k1 hb => by
    cases b with
    | true => exact hb
    | false => exact as_go hb)
/-- what is known of both branches' ends -/
theorem as_join {J : List (Option Dat) → Cs → Prop} (hJ : ∀ es q, J es q → AS X o0 o rest D es q H0) (h : AS X o0 o body { D with nx := fun st' H' => ∃ es q, J es q ∧ Sat X.K o st' H' es ∧ DK X.K o q H' ∧ Kp o0 H0 H' ∧ Frs o0 o H0 } ds k H0) : AS X o0 o body { D with nx := fun st' H' => WB X rest D st' H' } ds k H0 := fun st H S hk e0 fr => by
  have h1 := h st H S hk e0 fr
  intro pins s I
  refine thn (h1 pins s I) fun f s' hf => ?_
  cases f with
  | next =>
    obtain ⟨σ', H', I', es, q, j, S', hk', e', fr'⟩ := hf
    exact ⟨σ', H', I', hJ es q j σ' H' S' hk' e' fr'⟩
  | brk => exact hf
  | cont => exact hf
  | ret u => exact hf
theorem as_joined {J : List (Option Dat) → Cs → Prop} (j : J ds k) (hD : D.nx = fun st' H' => ∃ es q, J es q ∧ Sat X.K o st' H' es ∧ DK X.K o q H' ∧ Kp o0 H0 H' ∧ Frs o0 o H0) : AS X o0 o [] D ds k H0 := as_nil fun st H S hk e0 fr => by
  rw [hD]
  exact ⟨ds, k, j, S, hk, e0, fr⟩
/-- if .., both ways going on as J -/
theorem as_ifJ (J : List (Option Dat) → Cs → Prop) (h : EvT X o c ds k fun b k1 => bc b (AS X o0 o body { D with nx := fun st' H' => ∃ es q, J es q ∧ Sat X.K o st' H' es ∧ DK X.K o q H' ∧ Kp o0 H0 H' ∧ Frs o0 o H0 } ds k1 H0) (AS X o0 o orelse { D with nx := fun st' H' => ∃ es q, J es q ∧ Sat X.K o st' H' es ∧ DK X.K o q H' ∧ Kp o0 H0 H' ∧ Frs o0 o H0 } ds k1 H0)) (hJ : ∀ es q, J es q → AS X o0 o rest D es q H0) : AS X o0 o (.If c body orelse pos :: rest) D ds k H0 :=
  as_if (h.mono fun b k1 hb => by
    cases b with
    | true => exact as_join hJ hb
    | false => exact as_join hJ hb)
/-- a, b = t -/
theorem as_unp2 {i j : Nat} {x y : Str} {px py pt : Pos} {kt : Nat} (hN : X.N.Nodup) (hc : X.calm = true) (h : EvC X o e ds k fun d k1 => onT d fun as => ∃ d1 d2, as = [d1, d2] ∧ AS X o0 o rest D ((ds.set i (some d1)).set j (some d2)) k1 H0)
    (hi : X.N[i]? = some x := by rfl) (hj : X.N[j]? = some y := by rfl) (hx : Loc X.env.scope x := by exact Or.inl rfl) (hy : Loc X.env.scope y := by exact Or.inl rfl) (hfx : X.fn x = true ∨ X.env.scope.names.lookup x = some .local := by exact .inl rfl) (hfy : X.fn y = true ∨ X.env.scope.names.lookup y = some .local := by exact .inl rfl)
    (hs : swapsWithSole [.Tuple [.Name x px, .Name y py] kt pt] e pos.line X.env = pure false := by rfl) (hw : swappedStores [.Tuple [.Name x px, .Name y py] kt pt] e X.env = pure none := by rfl) :
    AS X o0 o (.Assign [.Tuple [.Name x px, .Name y py] kt pt] e pos :: rest) D ds k H0 := fun st H S hk e0 fr =>
  wb_cons (wss (ps_asg pe_w (pg_tup hc (pgs_cons (pg_name hN hi hx hfx) (pgs_cons (pg_name hN hj hy hfy) pgs_nil))) hs hw) (h st H _ S hk fun d k1 v H1 hr e1 hk1 h1 => by
    obtain ⟨as, rfl, hz⟩ := onT_ex hr
    obtain ⟨d1, d2, rfl, hy⟩ := hz
    obtain ⟨a, xs, rfl, hsq, hd⟩ := h1.untup
    match xs, hd with
    | [v1, v2], hd =>
      exact ⟨a, _, rfl, hsq, rfl, v1, _, rfl, v2, _, rfl, rfl, hy _ H1 (((S.kp e1 hk).set (.v (hd.2 0 _ _ rfl rfl))).set (.v (hd.2 1 _ _ rfl rfl))) hk1 (fr.kp e0 e1) fr⟩))
theorem as_unp3 {i j l : Nat} {x y z : Str} {px py pz pt : Pos} {kt : Nat} (hN : X.N.Nodup) (hc : X.calm = true) (h : EvC X o e ds k fun d k1 => onT d fun as => ∃ d1 d2 d3, as = [d1, d2, d3] ∧ AS X o0 o rest D (((ds.set i (some d1)).set j (some d2)).set l (some d3)) k1 H0)
    (hi : X.N[i]? = some x := by rfl) (hj : X.N[j]? = some y := by rfl) (hl : X.N[l]? = some z := by rfl) (hx : Loc X.env.scope x := by exact Or.inl rfl) (hy : Loc X.env.scope y := by exact Or.inl rfl) (hz : Loc X.env.scope z := by exact Or.inl rfl)
    (hfx : X.fn x = true ∨ X.env.scope.names.lookup x = some .local := by exact .inl rfl) (hfy : X.fn y = true ∨ X.env.scope.names.lookup y = some .local := by exact .inl rfl) (hfz : X.fn z = true ∨ X.env.scope.names.lookup z = some .local := by exact .inl rfl)
    (hs : swapsWithSole [.Tuple [.Name x px, .Name y py, .Name z pz] kt pt] e pos.line X.env = pure false := by rfl) (hw : swappedStores [.Tuple [.Name x px, .Name y py, .Name z pz] kt pt] e X.env = pure none := by rfl) :
    AS X o0 o (.Assign [.Tuple [.Name x px, .Name y py, .Name z pz] kt pt] e pos :: rest) D ds k H0 := fun st H S hk e0 fr =>
  wb_cons (wss (ps_asg pe_w (pg_tup hc (pgs_cons (pg_name hN hi hx hfx) (pgs_cons (pg_name hN hj hy hfy) (pgs_cons (pg_name hN hl hz hfz) pgs_nil)))) hs hw) (h st H _ S hk fun d k1 v H1 hr e1 hk1 h1 => by
    obtain ⟨as, rfl, hz⟩ := onT_ex hr
    obtain ⟨d1, d2, d3, rfl, hy⟩ := hz
    obtain ⟨a, xs, rfl, hsq, hd⟩ := h1.untup
    match xs, hd with
    | [v1, v2, v3], hd =>
      exact ⟨a, _, rfl, hsq, rfl, v1, _, rfl, v2, _, rfl, v3, _, rfl, rfl, hy _ H1 ((((S.kp e1 hk).set (.v (hd.2 0 _ _ rfl rfl))).set (.v (hd.2 1 _ _ rfl rfl))).set (.v (hd.2 2 _ _ rfl rfl))) hk1 (fr.kp e0 e1) fr⟩))
/-- a, b = e1, e2, both plain names -/
theorem as_par {i j : Nat} {x y : Str} {e1 e2 : Expr} {px py pt pt2 : Pos} {kt kt2 : Nat} (hN : X.N.Nodup) (hc : X.calm = true) (h : EvA X o [e1, e2] ds k fun as k1 => ∃ d1 d2, as = [d1, d2] ∧ AS X o0 o rest D ((ds.set i (some d1)).set j (some d2)) k1 H0)
    (hi : X.N[i]? = some x := by rfl) (hj : X.N[j]? = some y := by rfl) (hij : i ≠ j := by decide) (hx : X.env.scope.names.lookup x = some .local := by rfl) (hy : X.env.scope.names.lookup y = some .local := by rfl)
    (hw : swappedStores [.Tuple [.Name x px, .Name y py] kt pt] (.Tuple [e1, e2] kt2 pt2) X.env = pure (some [x, y]) := by rfl) (hs : swapsWithSole [.Tuple [.Name x px, .Name y py] kt pt] (.Tuple [e1, e2] kt2 pt2) pos.line X.env = pure false := by rfl) :
    AS X o0 o (.Assign [.Tuple [.Name x px, .Name y py] kt pt] (.Tuple [e1, e2] kt2 pt2) pos :: rest) D ds k H0 := fun st H S hk e0 fr =>
  wb_cons (wss (ps_par hc hN hi hj hij hx hy pa_w hw hs) (h st H _ S hk fun as k1 vs H1 hr e1 hk1 h1 => by
    obtain ⟨d1, d2, rfl, hr⟩ := hr
    match vs, h1 with
    | [v1, v2], h1 =>
      exact ⟨v1, v2, rfl, hr _ H1 (((S.kp e1 hk).set (h1.2 0 _ _ rfl rfl)).set (h1.2 1 _ _ rfl rfl)) hk1 (fr.kp e0 e1) fr⟩))
theorem as_par3 {i j l : Nat} {x y z : Str} {e1 e2 e3 : Expr} {px py pz pt pt2 : Pos} {kt kt2 : Nat} (hN : X.N.Nodup) (hc : X.calm = true) (h : EvA X o [e1, e2, e3] ds k fun as k1 => ∃ d1 d2 d3, as = [d1, d2, d3] ∧ AS X o0 o rest D (((ds.set i (some d1)).set j (some d2)).set l (some d3)) k1 H0)
    (hi : X.N[i]? = some x := by rfl) (hj : X.N[j]? = some y := by rfl) (hl : X.N[l]? = some z := by rfl) (hij : i ≠ j := by decide) (hil : i ≠ l := by decide) (hjl : j ≠ l := by decide) (hx : X.env.scope.names.lookup x = some .local := by rfl) (hy : X.env.scope.names.lookup y = some .local := by rfl) (hz : X.env.scope.names.lookup z = some .local := by rfl)
    (hw : swappedStores [.Tuple [.Name x px, .Name y py, .Name z pz] kt pt] (.Tuple [e1, e2, e3] kt2 pt2) X.env = pure (some [x, y, z]) := by rfl) (hs : swapsWithSole [.Tuple [.Name x px, .Name y py, .Name z pz] kt pt] (.Tuple [e1, e2, e3] kt2 pt2) pos.line X.env = pure false := by rfl) :
    AS X o0 o (.Assign [.Tuple [.Name x px, .Name y py, .Name z pz] kt pt] (.Tuple [e1, e2, e3] kt2 pt2) pos :: rest) D ds k H0 := fun st H S hk e0 fr =>
  wb_cons (wss (ps_par3 hc hN hi hj hl hij hil hjl hx hy hz pa_w hw hs) (h st H _ S hk fun as k1 vs H1 hr e1 hk1 h1 => by
    obtain ⟨d1, d2, d3, rfl, hr⟩ := hr
    match vs, h1 with
    | [v1, v2, v3], h1 =>
      exact ⟨v1, v2, v3, rfl, hr _ H1 ((((S.kp e1 hk).set (h1.2 0 _ _ rfl rfl)).set (h1.2 1 _ _ rfl rfl)).set (h1.2 2 _ _ rfl rfl)) hk1 (fr.kp e0 e1) fr⟩))
/-- cell[j] = e -/
theorem as_cell {eo ei : Expr} (h : EvC X o e ds k fun d k1 => EvC X o eo ds k1 fun dc k2 => EvC X o ei ds k2 fun di k3 => noL d = true ∧ ∃ (i j : Nat) (s : List Dat), dc = .cel i ∧ di = .int (j : Int) ∧ k3[i]? = some s ∧ j < s.length ∧ AS X o0 o rest D ds (k3.set i (s.set j d)) H0) {tpos : Pos}
    (hs : swapsWithSole [.Subscript eo ei tpos] e pos.line X.env = pure false := by rfl) (hw : swappedStores [.Subscript eo ei tpos] e X.env = pure none := by rfl)
    (hpg : PG X (.Subscript eo ei tpos) (gSub (WE X eo) (WE X ei) rSetL) := by exact pg_sub pe_w pe_w set_list) :
    AS X o0 o (.Assign [.Subscript eo ei tpos] e pos :: rest) D ds k H0 := fun st H S hk e0 fr =>
  wb_cons (wss (ps_asg pe_w hpg hs hw) (h st H _ S hk fun d k1 v H1 hr e1 hk1 h1 => hr st H1 _ (S.kp e1 hk) hk1 fun dc k2 u H2 hr e2 hk2 h2 => hr st H2 _ ((S.kp e1 hk).kp e2 hk1) hk2 fun di k3 w H3 hr e3 hk3 h3 => by
    obtain ⟨nd, i, j, s, rfl, rfl, hs', hj, hr⟩ := hr
    obtain ⟨a, rfl, ha⟩ := h2.uncel
    have hw' := h3.unint
    subst hw'
    obtain ⟨xs, hx, hd⟩ := hk3.at_ i a s ha hs'
    have hv := ((h1.kp e2 hk1).kp e3 hk2).unc (by cases d <;> first | rfl | cases nd)
    have S3 := ((S.kp e1 hk).kp e2 hk1).kp e3 hk2
    have hlx : j < xs.length := by rw [hd.1]; exact hj
    have hdv : DVs X.K o H3 (xs.set j v) (s.set j d) := by
      refine ⟨by rw [List.length_set, List.length_set]; exact hd.1, fun l y z ga gb => ?_⟩
      by_cases e : j = l
      · subst e
        rw [List.getElem?_set_self hlx] at ga
        rw [List.getElem?_set_self hj] at gb
        cases ga
        cases gb
        exact hv
      · rw [List.getElem?_set_ne e] at ga gb
        exact hd.2 l y z ga gb
    have nl : (s.set j d).all noL = true := List.all_eq_true.mpr fun z hz => by
      rcases List.mem_or_eq_of_mem_set hz with hz | rfl
      · exact List.all_eq_true.mp (hk3.nl s (List.mem_of_getElem? hs')) z hz
      · exact nd
    obtain ⟨hk4, e4⟩ := dk_set hk3 ha hdv nl
    exact ⟨a, xs, (j : Int), j, rfl, rfl, hx, ixN_nat hlx, hr st _ (S3.kp e4 hk3) hk4 (fr.kp (fr.kp (fr.kp (fr.kp e0 e1) e2) e3) e4) fr⟩))
end

/-! ### a def from its body -/
section
variable {P : Program} {w : World} {K : PySem.W.Frag} {mg : Str → Option Value} {base : Heap} {f : Addr} {fd : FuncData} {N ps : List Str} {k : Nat}
theorem sat_start {H : Hp} {o : Os} {vs : List V} {ds : List Dat} {m : Nat} (h : DTs K o H vs ds) (hm : N.length = ds.length + m) : Sat K o (L2.start N vs) H (ds.map some ++ List.replicate m none) := by
  refine ⟨?_, fun i d e => ?_⟩
  · unfold L2.start
    rw [List.length_append, List.length_map, List.length_replicate, List.length_append, List.length_map, List.length_replicate, h.1]
    omega
  · by_cases hi : i < ds.length
    · rw [List.getElem?_append_left (by rw [List.length_map]; exact hi), List.getElem?_map] at e
      cases q : ds[i]? with
      | none => rw [q] at e; cases e
      | some d' =>
        rw [q] at e
        have e' : d' = d := by simpa using e
        subst e'
        obtain ⟨v, h1, h2⟩ := h.at q
        refine ⟨v, ?_, h2⟩
        unfold L2.start
        rw [List.getElem?_append_left (by rw [List.length_map, h.1]; exact hi), List.getElem?_map, h1]
        rfl
    · rw [List.getElem?_append_right (by rw [List.length_map]; omega), List.getElem?_replicate] at e
      split at e <;> cases e
theorem dk_none {K : PySem.W.Frag} {H : Hp} : DK K [] [] H := DK.mk rfl (by simp) (fun s hs => absurd hs (by simp)) (fun i a as hi _ => absurd hi (by simp))
theorem frs_self {o : Os} {H : Hp} : Frs o o H := ⟨⟨[], by rw [List.append_nil]⟩, fun b hb nb => absurd hb nb⟩
theorem fn_P {x qual : Str} {st : Stmt} {F : FP} (Fn : Fun K x qual st f fd) (Sc : FnScope N ps (defScope st)) (len : ∀ ds G, F ds G → ds.length = ps.length)
    (hb : ∀ (cdv : Value) (A : Around) (outer : List Env) (s : Shared) (H : Hp) (Q : VK) (E : XK) (ds : List Dat) (G : Dat → Prop), Room k (A.deeper (envOfC qual (defScope st) s.heap.objs.size f cdv)) → F ds G → RetC K [] H Q (fun d _ => G d) →
      AS (cxOf CX0 P w K mg base N qual (defScope st) f cdv A outer s H E).nox [] [] (defBody st) { nx := fun _ H' => Q .non H', rt := Q } (ds.map some ++ List.replicate (N.length - ds.length) none) [] H) : FnOk P w K mg base CX0 (k + 1) f fd ps (spP K F) := by
  refine Fn.ok Sc (fun vs H Q E h => ?_) (fun cdv A outer s H vs Q E hr h => ⟨_, pss_w, ?_⟩)
  · obtain ⟨ds, G, h1, h2, _⟩ := h
    exact h1.1.trans (len ds G h2)
  · obtain ⟨ds, G, h1, h2, q⟩ := h
    have hN : ps.length ≤ N.length := by
      have e := congrArg List.length Sc.pre
      rw [List.length_take] at e
      omega
    refine hb cdv A outer s H Q E ds G hr h2 (fun d k' v H1 g e _ hv => q d g v H1 e hv) _ H (sat_start h1 ?_) dk_none (Kp.refl _ _) frs_self
    have := len ds G h2
    omega
theorem fn_N {x qual : Str} {st : Stmt} {F : FN} (Fn : Fun K x qual st f fd) (Sc : FnScope N ps (defScope st)) (len : ∀ ds G, F ds G → ds.length = ps.length)
    (hb : ∀ (cdv : Value) (A : Around) (outer : List Env) (s : Shared) (H : Hp) (Q : VK) (E : XK) (ds : List Dat) (G : List Dat → Prop), Room k (A.deeper (envOfC qual (defScope st) s.heap.objs.size f cdv)) → F ds G → RetN K [] H Q (fun d _ => G d) →
      AS (cxOf CX0 P w K mg base N qual (defScope st) f cdv A outer s H E).nox [] [] (defBody st) { nx := fun _ H' => Q .non H', rt := Q } (ds.map some ++ List.replicate (N.length - ds.length) none) [] H) : FnOk P w K mg base CX0 (k + 1) f fd ps (spN K F) := by
  refine Fn.ok Sc (fun vs H Q E h => ?_) (fun cdv A outer s H vs Q E hr h => ⟨_, pss_w, ?_⟩)
  · obtain ⟨ds, G, h1, h2, _⟩ := h
    exact h1.1.trans (len ds G h2)
  · obtain ⟨ds, G, h1, h2, q⟩ := h
    have hN : ps.length ≤ N.length := by
      have e := congrArg List.length Sc.pre
      rw [List.length_take] at e
      omega
    refine hb cdv A outer s H Q E ds G hr h2 (fun as k' p xs H1 g np _ e _ hp hv => q as g p xs H1 np e hp hv) _ H (sat_start h1 ?_) dk_none (Kp.refl _ _) frs_self
    have := len ds G h2
    omega
theorem fn_D {x qual : Str} {st : Stmt} {F : FD} (Fn : Fun K x qual st f fd) (Sc : FnScope N ps (defScope st)) (len : ∀ ds s G, F ds s G → ds.length + 1 = ps.length)
    (hb : ∀ (cdv : Value) (A : Around) (outer : List Env) (s : Shared) (H : Hp) (Q : VK) (E : XK) (a : Addr) (ds c : List Dat) (G : Dat → List Dat → Prop), Room k (A.deeper (envOfC qual (defScope st) s.heap.objs.size f cdv)) → F ds c G → RetC K [a] H Q (fun d k' => ∃ c', k' = [c'] ∧ G d c') →
      AS (cxOf CX0 P w K mg base N qual (defScope st) f cdv A outer s H E).nox [a] [a] (defBody st) { nx := fun _ H' => Q .non H', rt := Q } ((Dat.cel 0 :: ds).map some ++ List.replicate (N.length - (ds.length + 1)) none) [c] H) : FnOk P w K mg base CX0 (k + 1) f fd ps (spD K F) := by
  refine Fn.ok Sc (fun vs H Q E h => ?_) (fun cdv A outer s H vs Q E hr h => ⟨_, pss_w, ?_⟩)
  · obtain ⟨a, ws, ds, c, G, rfl, h0, h1, h2, _⟩ := h
    show ws.length + 1 = ps.length
    rw [h1.1]
    exact len ds c G h2
  · obtain ⟨a, ws, ds, c, G, rfl, h0, h1, h2, q⟩ := h
    have hN : ps.length ≤ N.length := by
      have e := congrArg List.length Sc.pre
      rw [List.length_take] at e
      omega
    refine hb cdv A outer s H Q E a ds c G hr h2 (fun d k' v H1 ⟨c', hc, g⟩ e hk hv => q d c' g v H1 e (hc ▸ hk) hv) _ H (sat_start (DTs.cons (.cel rfl) h1.dts) ?_) h0 (Kp.refl _ _) frs_self
    have := len ds c G h2
    show N.length = (ds.length + 1) + _
    omega
theorem fn_E {x qual : Str} {st : Stmt} {F : FE} (Fn : Fun K x qual st f fd) (Sc : FnScope N ps (defScope st)) (len : ∀ ds s G, F ds s G → ds.length + 1 = ps.length)
    (hb : ∀ (cdv : Value) (A : Around) (outer : List Env) (s : Shared) (H : Hp) (Q : VK) (E : XK) (a : Addr) (ds c : List Dat) (G : List Dat → List Dat → Prop), Room k (A.deeper (envOfC qual (defScope st) s.heap.objs.size f cdv)) → F ds c G → RetN K [a] H Q (fun d k' => ∃ c', k' = [c'] ∧ G d c') →
      AS (cxOf CX0 P w K mg base N qual (defScope st) f cdv A outer s H E).nox [a] [a] (defBody st) { nx := fun _ H' => Q .non H', rt := Q } ((Dat.cel 0 :: ds).map some ++ List.replicate (N.length - (ds.length + 1)) none) [c] H) : FnOk P w K mg base CX0 (k + 1) f fd ps (spE K F) := by
  refine Fn.ok Sc (fun vs H Q E h => ?_) (fun cdv A outer s H vs Q E hr h => ⟨_, pss_w, ?_⟩)
  · obtain ⟨a, ws, ds, c, G, rfl, h0, h1, h2, _⟩ := h
    show ws.length + 1 = ps.length
    rw [h1.1]
    exact len ds c G h2
  · obtain ⟨a, ws, ds, c, G, rfl, h0, h1, h2, q⟩ := h
    have hN : ps.length ≤ N.length := by
      have e := congrArg List.length Sc.pre
      rw [List.length_take] at e
      omega
    refine hb cdv A outer s H Q E a ds c G hr h2 (fun as k' p xs H1 ⟨c', hc, g⟩ np _ e hk hp hv => q as c' g p xs H1 np e (hc ▸ hk) hp hv) _ H (sat_start (DTs.cons (.cel rfl) h1.dts) ?_) h0 (Kp.refl _ _) frs_self
    have := len ds c G h2
    show N.length = (ds.length + 1) + _
    omega
end
end Wz

set_option Elab.async false
set_option linter.all false
set_option maxRecDepth 100000
set_option maxHeartbeats 4000000
namespace Wz
open PySem PySem.Spec PyProof.Rows L2 Evl
/-- a list that is no cell, or a tuple -/
@[reducible] def onL0 (d : Dat) (C : List Dat → Prop) : Prop := match d with | .lst as => C as | _ => False
theorem onL0_ex {d : Dat} {C : List Dat → Prop} (h : onL0 d C) : ∃ i, d = .lst i ∧ C i := by
  cases d <;> first | exact ⟨_, rfl, h⟩ | exact h.elim
/-- the end of a piece: J holds of what the names hold -/
def NX (X : Cx) (o0 o : Os) (H0 : Hp) (J : List (Option Dat) → Cs → Prop) : L2.St → Hp → Prop := fun st' H' => ∃ es q, J es q ∧ Sat X.K o st' H' es ∧ DK X.K o q H' ∧ Kp o0 H0 H' ∧ Frs o0 o H0
section
variable {X : Cx} {o0 o : Os} {ds : List (Option Dat)} {k k1 k2 : Cs} {e c a b elt : Expr} {es : List Expr} {d : Dat} {as : List Dat} {pos pos' p p1 p2 p3 : Pos} {rest body orelse : List Stmt} {D : Ends} {H0 : Hp} {R : Dat → Cs → Prop} {RN : List Dat → Cs → Prop} {x : Str}
theorem as_end {J : List (Option Dat) → Cs → Prop} (hD : D.nx = NX X o0 o H0 J) (j : J ds k) : AS X o0 o [] D ds k H0 := as_nil fun st H S hk e0 fr => by
  rw [hD]
  exact ⟨ds, k, j, S, hk, e0, fr⟩
theorem as_endL {J : List (Option Dat) → Cs → Prop} {l : Os} (hD : D.nx = NX X o0 o H0 J) (hf : ∃ l', o = o0 ++ l') (j : J (ds.map (lowC o.length)) (k.take o.length)) : AS X o0 (o ++ l) [] D ds k H0 := as_nil fun st H S hk e0 fr => by
  rw [hD]
  exact ⟨_, _, j, S.low, dk_take hk, e0, hf, fun b hb nb => fr.new b (List.mem_append_left _ hb) nb⟩
theorem as_cont {J : List (Option Dat) → Cs → Prop} (hD : D.ct = NX X o0 o H0 J) (j : J ds k) : AS X o0 o (.Continue pos :: rest) D ds k H0 := fun st H S hk e0 fr =>
  wb_cons (wss ps_continue (show D.ct st H by rw [hD]; exact ⟨ds, k, j, S, hk, e0, fr⟩))
theorem as_brk {J : List (Option Dat) → Cs → Prop} (hD : D.bk = NX X o0 o H0 J) (j : J ds k) : AS X o0 o (.Break pos :: rest) D ds k H0 := fun st H S hk e0 fr =>
  wb_cons (wss ps_break (show D.bk st H by rw [hD]; exact ⟨ds, k, j, S, hk, e0, fr⟩))
/-- while; B: at a break -/
theorem as_while {W : Nat → List (Option Dat) → Cs → Prop} {B : List (Option Dat) → Cs → Prop} (hp : PassesOwn (model X.prog X.w) X.A X.env X.xe) (m : Nat) (h0 : W m ds k)
    (hs : ∀ m es q, W m es q → EvT X o c es q fun b q1 => bc b (AS X o0 o body { D with nx := NX X o0 o H0 (fun es q => ∃ m', m' < m ∧ W m' es q), ct := NX X o0 o H0 (fun es q => ∃ m', m' < m ∧ W m' es q), bk := NX X o0 o H0 B } es q1 H0) (AS X o0 o rest D es q1 H0))
    (hB : ∀ es q, B es q → AS X o0 o rest D es q H0) : AS X o0 o (.While c body [] pos :: rest) D ds k H0 := fun st H S hk e0 fr =>
  wb_cons (wss (ps_while hp pt_w pss_w) (by
    refine ⟨fun m st H => ∃ es q, W m es q ∧ Sat X.K o st H es ∧ DK X.K o q H ∧ Kp o0 H0 H, ⟨m, ds, k, h0, S, hk, e0⟩, ?_⟩
    rintro m st H ⟨es, q, w, S, hk, e0⟩
    refine hs m es q w st H _ S hk fun b q1 H1 hb e1 hk1 => ?_
    cases b with
    | true =>
      rw [if_pos rfl]
      refine ⟨NX X o0 o H0 (fun es q => ∃ m', m' < m ∧ W m' es q), ?_, ?_⟩
      · rintro st' H' ⟨es', q', ⟨m', l, w'⟩, S', hk', e', _⟩
        exact ⟨m', l, es', q', w', S', hk', e'⟩
      · refine fun pins s I => thn (hb st H1 (S.kp e1 hk) hk1 (fr.kp e0 e1) fr pins s I) fun f s' hf => ?_
        cases f with
        | next => exact hf
        | cont => exact hf
        | ret u => exact hf
        | brk =>
          obtain ⟨σ', H', I', es', q', j, S', hk', e', fr'⟩ := hf
          exact ⟨σ', H', I', hB es' q' j σ' H' S' hk' e' fr'⟩
    | false =>
      rw [if_neg Bool.false_ne_true]
      exact hb st H1 (S.kp e1 hk) hk1 (fr.kp e0 e1) fr))
/-- what a def's end wants, seen from within a loop -/
theorem RetC.sub {K : PySem.W.Frag} {o0 o : Os} {H0 H1 : Hp} {rt : VK} {G : Dat → Cs → Prop} (h : RetC K o0 H0 rt G) (e : Kp o0 H0 H1) (fr : Frs o0 o H0) : RetC K o H1 rt (fun d k' => G d (k'.take o0.length)) := fun d k' v H2 g e2 hk hv => by
  have e' := fr.kp e e2
  obtain ⟨l, rfl⟩ := fr.pre
  exact h d _ v H2 g e' (dk_take hk) (hv.less fun b hb => List.mem_append_left _ hb)
theorem RetN.sub {K : PySem.W.Frag} {o0 o : Os} {H0 H1 : Hp} {rt : VK} {G : List Dat → Cs → Prop} (h : RetN K o0 H0 rt G) (e : Kp o0 H0 H1) (fr : Frs o0 o H0) : RetN K o H1 rt (fun d k' => G d (k'.take o0.length)) := fun as k' p xs H2 g np no e2 hk hp hv => by
  have e' := fr.kp e e2
  obtain ⟨l, rfl⟩ := fr.pre
  have no' : p ∉ o0 := fun z => no (List.mem_append_left _ z)
  have n0 : H0 p = none := by
    cases h0 : H0 p with
    | none => rfl
    | some u =>
      have := e p u no' h0
      rw [np] at this
      cases this
  exact h as _ p xs H2 g n0 no' e' (dk_take hk) hp (hv.less fun b hb => List.mem_append_left _ hb)
/-- the body of a for: a break's heap made right -/
theorem for_bk {H1 : Hp} {W : List (Option Dat) → Cs → Prop} {B : List (Option Dat) → Cs → Prop} {st : L2.St} {H : Hp} (e01 : Kp o0 H0 H1) (fr : Frs o0 o H0) (hB : ∀ es q, B es q → AS X o0 o rest D es q H0)
    (h : WB X body { D with nx := NX X o o H1 W, ct := NX X o o H1 W, bk := NX X o o H1 B } st H) : WB X body { D with nx := NX X o o H1 W, ct := NX X o o H1 W, bk := fun st' H' => WB X rest D st' H' } st H := fun pins s I => thn (h pins s I) fun f s' hf => by
  cases f with
  | next => exact hf
  | cont => exact hf
  | ret u => exact hf
  | brk =>
    obtain ⟨σ', H', I', es', q', j, S', hk', e', fr'⟩ := hf
    exact ⟨σ', H', I', hB es' q' j σ' H' S' hk' (fr.kp e01 e') fr⟩
/-- what a for over items wants: W by the turn, B at a break; H1: the heap at its start -/
structure ForW (X : Cx) (o0 o : Os) (H0 : Hp) (body rest : List Stmt) (D : Ends) (n : Nat) (it : Nat → Option Dat) (sl : Dat → List (Option Dat) → List (Option Dat)) (W : Nat → List (Option Dat) → Cs → Prop) (B : List (Option Dat) → Cs → Prop) : Prop where
  turn : ∀ H1, Kp o0 H0 H1 → Frs o0 o H0 → ∀ j d es q, j < n → it j = some d → W j es q → AS X o o body { D with nx := NX X o o H1 (W (j + 1)), ct := NX X o o H1 (W (j + 1)), bk := NX X o o H1 B } (sl d es) q H1
  done : ∀ es q, W n es q → AS X o0 o rest D es q H0
  brk : ∀ es q, B es q → AS X o0 o rest D es q H0
/-- for x in range(a) -/
theorem as_forR1 {i : Nat} {pos2 pos3 : Pos} (hN : X.N.Nodup) (hcalm : X.calm = true) (hp : PassesOwn (model X.prog X.w) X.A X.env X.xe) (hm : X.mg "range" = none)
    (h : EvA X o [a] ds k fun as k1 => ∃ (n : Int) (W : Nat → List (Option Dat) → Cs → Prop) (B : List (Option Dat) → Cs → Prop), as = [.int n] ∧ (-(2 ^ 62) ≤ n ∧ n < 2 ^ 62) ∧ W 0 ds k1 ∧ ForW X o0 o H0 body rest D n.toNat (fun j => some (.int (j : Int))) (fun d es => es.set i (some d)) W B)
    (hg : Gl X "range" := by rfl) (hi : X.N[i]? = some x := by rfl) (hx : Loc X.env.scope x := by exact Or.inl rfl) (hf : X.fn x = true ∨ X.env.scope.names.lookup x = some .local := by exact .inl rfl)
    (hst : starEach [a] X.env = [(false, eval a X.env)] := by rfl) (hset : ∀ y, foldedSetIterable (.Call (.Name "range" p) [a] [] pos2) X.env y = pure y := by intro _; rfl) :
    AS X o0 o (.For (.Name x pos3) (.Call (.Name "range" p) [a] [] pos2) body [] pos :: rest) D ds k H0 := fun st H S hk e0 fr =>
  wb_cons (wss (ps_for hp hcalm (pi_range1 hg hm pa_w hst) (pg_name hN hi hx hf) pss_w hset) (h st H _ S hk fun as k1 vs H1 hr e1 hk1 h1 => by
    obtain ⟨n, W, B, rfl, hn, h0, F⟩ := hr
    match vs, h1 with
    | [v], h1 =>
      have hv := (h1.2 0 _ _ rfl rfl).unint
      subst hv
      have e01 := fr.kp e0 e1
      refine ⟨n, rfl, hn.1, hn.2, for_range (lo := 0) (n := n.toNat) (fun j => NX X o o H1 (W j)) ⟨ds, k1, h0, S.kp e1 hk, hk1, Kp.refl _ _, frs_self⟩ ?_ ?_⟩
      · rintro j st' H' hj ⟨es, q, w, S', hk', e', fr'⟩
        have e00 : (0 : Int) + (j : Int) = (j : Int) := Int.zero_add _
        show WB X body _ (st'.set i (some (.int ((0 : Int) + (j : Int))))) H'
        rw [e00]
        exact for_bk e01 fr F.brk (F.turn H1 e01 fr j _ es q hj rfl w _ H' (S'.set (.v (.int _))) hk' e' fr')
      · rintro st' H' ⟨es, q, w, S', hk', e', fr'⟩
        exact F.done es q w st' H' S' hk' (fr.kp e01 e') fr))
/-- for x in range(a, b) -/
theorem as_forR2 {i : Nat} {pos2 pos3 : Pos} (hN : X.N.Nodup) (hcalm : X.calm = true) (hp : PassesOwn (model X.prog X.w) X.A X.env X.xe) (hm : X.mg "range" = none)
    (h : EvA X o [a, b] ds k fun as k1 => ∃ (n m : Int) (W : Nat → List (Option Dat) → Cs → Prop) (B : List (Option Dat) → Cs → Prop), as = [.int n, .int m] ∧ (-(2 ^ 62) ≤ n ∧ n < 2 ^ 62 ∧ -(2 ^ 62) ≤ m ∧ m < 2 ^ 62) ∧ W 0 ds k1 ∧ ForW X o0 o H0 body rest D (m - n).toNat (fun j => some (.int (n + (j : Int)))) (fun d es => es.set i (some d)) W B)
    (hg : Gl X "range" := by rfl) (hi : X.N[i]? = some x := by rfl) (hx : Loc X.env.scope x := by exact Or.inl rfl) (hf : X.fn x = true ∨ X.env.scope.names.lookup x = some .local := by exact .inl rfl)
    (hst : starEach [a, b] X.env = [(false, eval a X.env), (false, eval b X.env)] := by rfl) (hst2 : starEach [b] X.env = [(false, eval b X.env)] := by rfl) (hset : ∀ y, foldedSetIterable (.Call (.Name "range" p) [a, b] [] pos2) X.env y = pure y := by intro _; rfl) :
    AS X o0 o (.For (.Name x pos3) (.Call (.Name "range" p) [a, b] [] pos2) body [] pos :: rest) D ds k H0 := fun st H S hk e0 fr =>
  wb_cons (wss (ps_for hp hcalm (pi_range2 hg hm pa_w hst hst2) (pg_name hN hi hx hf) pss_w hset) (h st H _ S hk fun as k1 vs H1 hr e1 hk1 h1 => by
    obtain ⟨n, m, W, B, rfl, hn, h0, F⟩ := hr
    match vs, h1 with
    | [v, v'], h1 =>
      have hv := (h1.2 0 _ _ rfl rfl).unint
      have hv' := (h1.2 1 _ _ rfl rfl).unint
      subst hv hv'
      have e01 := fr.kp e0 e1
      refine ⟨n, m, rfl, hn, for_range (lo := n) (n := (m - n).toNat) (fun j => NX X o o H1 (W j)) ⟨ds, k1, h0, S.kp e1 hk, hk1, Kp.refl _ _, frs_self⟩ ?_ ?_⟩
      · rintro j st' H' hj ⟨es, q, w, S', hk', e', fr'⟩
        exact for_bk e01 fr F.brk (F.turn H1 e01 fr j _ es q hj rfl w _ H' (S'.set (.v (.int _))) hk' e' fr')
      · rintro st' H' ⟨es, q, w, S', hk', e', fr'⟩
        exact F.done es q w st' H' S' hk' (fr.kp e01 e') fr))
/-- for x in t, t a tuple -/
theorem as_forT {i : Nat} {pos3 : Pos} (hN : X.N.Nodup) (hcalm : X.calm = true) (hp : PassesOwn (model X.prog X.w) X.A X.env X.xe)
    (h : EvC X o e ds k fun d k1 => onT d fun as => ∃ (W : Nat → List (Option Dat) → Cs → Prop) (B : List (Option Dat) → Cs → Prop), W 0 ds k1 ∧ ForW X o0 o H0 body rest D as.length (fun j => as[j]?) (fun d es => es.set i (some d)) W B)
    (hi : X.N[i]? = some x := by rfl) (hx : Loc X.env.scope x := by exact Or.inl rfl) (hf : X.fn x = true ∨ X.env.scope.names.lookup x = some .local := by exact .inl rfl) (hset : ∀ y, foldedSetIterable e X.env y = pure y := by intro _; rfl) :
    AS X o0 o (.For (.Name x pos3) e body [] pos :: rest) D ds k H0 := fun st H S hk e0 fr =>
  wb_cons (wss (ps_for hp hcalm (pi_tup pe_w) (pg_name hN hi hx hf) pss_w hset) (h st H _ S hk fun d k1 v H1 hr e1 hk1 h1 => by
    obtain ⟨as, rfl, W, B, h0, F⟩ := onT_ex hr
    obtain ⟨t, xs, rfl, hs, hd⟩ := h1.untup
    have e01 := fr.kp e0 e1
    refine ⟨t, rfl, ⟨xs, hs⟩, for_tup (xs := xs) (fun j => NX X o o H1 (W j)) ⟨ds, k1, h0, S.kp e1 hk, hk1, Kp.refl _ _, frs_self⟩ (fun _ _ H' _ ⟨_, _, _, _, _, e', _⟩ => kp_t e' hk1 hs) ?_ ?_⟩
    · rintro j y st' H' hy ⟨es, q, w, S', hk', e', fr'⟩
      have hj : j < as.length := by
        rw [← hd.1]
        exact (List.getElem?_eq_some_iff.mp hy).1
      have hda : as[j]? = some as[j] := List.getElem?_eq_getElem hj
      have hyd := (hd.2 j y _ hy hda).kp e' hk1
      exact for_bk e01 fr F.brk (F.turn H1 e01 fr j _ es q hj hda w _ H' (S'.set (.v hyd)) hk' e' fr')
    · rintro st' H' ⟨es, q, w, S', hk', e', fr'⟩
      exact F.done es q (by rw [hd.1] at w; exact w) st' H' S' hk' (fr.kp e01 e') fr))
/-- for x in xs, a list that is no cell -/
theorem as_forL {i : Nat} {pos3 : Pos} (hN : X.N.Nodup) (hcalm : X.calm = true) (hp : PassesOwn (model X.prog X.w) X.A X.env X.xe)
    (h : EvC X o e ds k fun d k1 => onL0 d fun as => ∃ (W : Nat → List (Option Dat) → Cs → Prop) (B : List (Option Dat) → Cs → Prop), W 0 ds k1 ∧ ForW X o0 o H0 body rest D as.length (fun j => as[j]?) (fun d es => es.set i (some d)) W B)
    (hi : X.N[i]? = some x := by rfl) (hx : Loc X.env.scope x := by exact Or.inl rfl) (hf : X.fn x = true ∨ X.env.scope.names.lookup x = some .local := by exact .inl rfl) (hset : ∀ y, foldedSetIterable e X.env y = pure y := by intro _; rfl) :
    AS X o0 o (.For (.Name x pos3) e body [] pos :: rest) D ds k H0 := fun st H S hk e0 fr =>
  wb_cons (wss (ps_for hp hcalm (pi_list pe_w) (pg_name hN hi hx hf) pss_w hset) (h st H _ S hk fun d k1 v H1 hr e1 hk1 h1 => by
    obtain ⟨as, rfl, W, B, h0, F⟩ := onL0_ex hr
    obtain ⟨t, xs, rfl, hs, hd⟩ := h1.unlst
    have e01 := fr.kp e0 e1
    refine ⟨t, rfl, ⟨xs, hs.sq⟩, for_list (xs := xs) (fun j => NX X o o H1 (W j)) ⟨ds, k1, h0, S.kp e1 hk, hk1, Kp.refl _ _, frs_self⟩ (fun _ _ H' _ ⟨_, _, _, _, _, e', _⟩ => (hs.kp e' fun _ z => z).sq) ?_ ?_⟩
    · rintro j y st' H' hy ⟨es, q, w, S', hk', e', fr'⟩
      have hj : j < as.length := by
        rw [← hd.1]
        exact (List.getElem?_eq_some_iff.mp hy).1
      have hda : as[j]? = some as[j] := List.getElem?_eq_getElem hj
      have hyd := (hd.2 j y _ hy hda).kp e' hk1
      exact for_bk e01 fr F.brk (F.turn H1 e01 fr j _ es q hj hda w _ H' (S'.set (.v hyd)) hk' e' fr')
    · rintro st' H' ⟨es, q, w, S', hk', e', fr'⟩
      exact F.done es q (by rw [hd.1] at w; exact w) st' H' S' hk' (fr.kp e01 e') fr))
end
end Wz

set_option Elab.async false
set_option linter.all false
set_option maxRecDepth 100000
set_option maxHeartbeats 4000000
namespace Wz
open PySem PySem.Spec PyProof.Rows L2 Evl
section
variable {X : Cx} {o0 o : Os} {ds : List (Option Dat)} {k k1 k2 : Cs} {e c a b elt e1 e2 e3 : Expr} {es : List Expr} {d : Dat} {as : List Dat} {pos pos' p p1 p2 p3 : Pos} {rest body orelse : List Stmt} {D : Ends} {H0 : Hp} {R : Dat → Cs → Prop} {RT : Bool → Cs → Prop} {RN : List Dat → Cs → Prop} {x : Str}
/-! built-ins by value -/
theorem c_bif {id : String} {r : List V → Hp → VK → Prop} (hc : CallR X (.builtin id) r) (hm : X.mg x = none) (hv : bootBuiltins x = some (.builtin id)) (h : EvA X o (e :: es) ds k fun as k1 => ∀ vs H Q, DTs X.K o H vs as → DK X.K o k1 H → (∀ d v H', R d k1 → Ex H H' → DT X.K o H' v d → Q v H') → r vs H Q)
    (hg : Gl X x := by rfl) (hn : x ≠ "__name__" := by decide) (hdb : (x == ("__debug__" : Str)) = false := by decide) (he : starEach (e :: es) X.env = (false, eval e X.env) :: starEach es X.env := by rfl) (hpl : (backTo pos (starEach es X.env)).any (·.1) = false := by rfl) :
    EvC X o (.Call (.Name x p) (e :: es) [] pos) ds k R := fun st H Q St hk q =>
  we (pe_callB hc hg hm hv pa_w hn hdb he hpl) (h st H _ St hk fun as k1 vs H1 hx e1 hk1 h1 => hx vs H1 Q h1 hk1 fun d v H2 hr ex h2 => q d k1 v H2 hr (e1.trans (Kp.of_ex ex)) (hk1.ex ex) h2)
theorem c_bty {T : String} {r : List V → Hp → VK → Prop} (hc : CallR X (.type T) r) (hm : X.mg x = none) (hv : bootBuiltins x = some (.type T)) (h : EvA X o (e :: es) ds k fun as k1 => ∀ vs H Q, DTs X.K o H vs as → DK X.K o k1 H → (∀ d v H', R d k1 → Ex H H' → DT X.K o H' v d → Q v H') → r vs H Q)
    (hg : Gl X x := by rfl) (hn : x ≠ "__name__" := by decide) (hdb : (x == ("__debug__" : Str)) = false := by decide) (he : starEach (e :: es) X.env = (false, eval e X.env) :: starEach es X.env := by rfl) (hpl : (backTo pos (starEach es X.env)).any (·.1) = false := by rfl) :
    EvC X o (.Call (.Name x p) (e :: es) [] pos) ds k R := fun st H Q St hk q =>
  we (pe_callTy hc hg hm hv pa_w hn hdb he hpl) (h st H _ St hk fun as k1 vs H1 hx e1 hk1 h1 => hx vs H1 Q h1 hk1 fun d v H2 hr ex h2 => q d k1 v H2 hr (e1.trans (Kp.of_ex ex)) (hk1.ex ex) h2)
theorem dts1 {K : PySem.W.Frag} {H : Hp} {vs : List V} {d1 : Dat} (h : DTs K o H vs [d1]) : ∃ v1, vs = [v1] ∧ DT K o H v1 d1 := by
  match vs, h with
  | [v1], h => exact ⟨v1, rfl, h.2 0 v1 d1 rfl rfl⟩
theorem dts2 {K : PySem.W.Frag} {H : Hp} {vs : List V} {d1 d2 : Dat} (h : DTs K o H vs [d1, d2]) : ∃ v1 v2, vs = [v1, v2] ∧ DT K o H v1 d1 ∧ DT K o H v2 d2 := by
  match vs, h with
  | [v1, v2], h => exact ⟨v1, v2, rfl, h.2 0 v1 d1 rfl rfl, h.2 1 v2 d2 rfl rfl⟩
theorem dts3 {K : PySem.W.Frag} {H : Hp} {vs : List V} {d1 d2 d3 : Dat} (h : DTs K o H vs [d1, d2, d3]) : ∃ v1 v2 v3, vs = [v1, v2, v3] ∧ DT K o H v1 d1 ∧ DT K o H v2 d2 ∧ DT K o H v3 d3 := by
  match vs, h with
  | [v1, v2, v3], h => exact ⟨v1, v2, v3, rfl, h.2 0 v1 d1 rfl rfl, h.2 1 v2 d2 rfl rfl, h.2 2 v3 d3 rfl rfl⟩
@[reducible] def on1 (as : List Dat) (C : Dat → Prop) : Prop := match as with | [d] => C d | _ => False
@[reducible] def on2 (as : List Dat) (C : Dat → Dat → Prop) : Prop := match as with | [d, e] => C d e | _ => False
theorem on1_ex {as : List Dat} {C : Dat → Prop} (h : on1 as C) : ∃ d, as = [d] ∧ C d := by
  match as, h with
  | [d], h => exact ⟨d, rfl, h⟩
theorem on2_ex {as : List Dat} {C : Dat → Dat → Prop} (h : on2 as C) : ∃ d e, as = [d, e] ∧ C d e := by
  match as, h with
  | [d, e], h => exact ⟨d, e, rfl, h⟩
theorem c_abs (hm : X.mg "abs" = none) (h : EvA X o [e] ds k fun as k1 => on1 as fun d => onI d fun i => R (.int (if i < 0 then -i else i)) k1) (hg : Gl X "abs" := by rfl) (he : starEach [e] X.env = (false, eval e X.env) :: starEach [] X.env := by rfl) : EvC X o (.Call (.Name "abs" p) [e] [] pos) ds k R :=
  c_bif call_abs hm (by decide +kernel) (h.mono fun as k1 ha vs H Q h1 _ q => by
    obtain ⟨d, rfl, ha⟩ := on1_ex ha
    obtain ⟨i, rfl, ha⟩ := onI_ex ha
    obtain ⟨v, rfl, g1⟩ := dts1 h1
    have q1 := g1.unint
    subst q1
    exact ⟨i, rfl, q _ _ H ha (Ex.refl _) (.v (.int _))⟩) hg (by decide) (by decide) he
theorem c_max (hc : X.calm = true) (hm : X.mg "max" = none) (h : EvA X o [e, e2] ds k fun as k1 => on2 as fun d1 d2 => onI d1 fun i => onI d2 fun j => R (.int (if j > i then j else i)) k1) (hg : Gl X "max" := by rfl) (he : starEach [e, e2] X.env = (false, eval e X.env) :: starEach [e2] X.env := by rfl) (hpl : (backTo pos (starEach [e2] X.env)).any (·.1) = false := by rfl) : EvC X o (.Call (.Name "max" p) [e, e2] [] pos) ds k R :=
  c_bif (call_max2 hc) hm (by decide +kernel) (h.mono fun as k1 ha vs H Q h1 _ q => by
    obtain ⟨d1, d2, rfl, ha⟩ := on2_ex ha
    obtain ⟨i, j, rfl, rfl, ha⟩ := onII_ex ha
    obtain ⟨v, w, rfl, g1, g2⟩ := dts2 h1
    have q1 := g1.unint
    have q2 := g2.unint
    subst q1 q2
    exact ⟨i, j, rfl, q _ _ H ha (Ex.refl _) (.v (.int _))⟩) hg (by decide) (by decide) he hpl
theorem c_min (hc : X.calm = true) (hm : X.mg "min" = none) (h : EvA X o [e, e2] ds k fun as k1 => on2 as fun d1 d2 => onI d1 fun i => onI d2 fun j => R (.int (if j < i then j else i)) k1) (hg : Gl X "min" := by rfl) (he : starEach [e, e2] X.env = (false, eval e X.env) :: starEach [e2] X.env := by rfl) (hpl : (backTo pos (starEach [e2] X.env)).any (·.1) = false := by rfl) : EvC X o (.Call (.Name "min" p) [e, e2] [] pos) ds k R :=
  c_bif (call_min2 hc) hm (by decide +kernel) (h.mono fun as k1 ha vs H Q h1 _ q => by
    obtain ⟨d1, d2, rfl, ha⟩ := on2_ex ha
    obtain ⟨i, j, rfl, rfl, ha⟩ := onII_ex ha
    obtain ⟨v, w, rfl, g1, g2⟩ := dts2 h1
    have q1 := g1.unint
    have q2 := g2.unint
    subst q1 q2
    exact ⟨i, j, rfl, q _ _ H ha (Ex.refl _) (.v (.int _))⟩) hg (by decide) (by decide) he hpl
theorem c_lenT (hm : X.mg "len" = none) (h : EvA X o [e] ds k fun as k1 => on1 as fun d => onT d fun xs => R (.int (xs.length : Int)) k1) (hg : Gl X "len" := by rfl) (he : starEach [e] X.env = (false, eval e X.env) :: starEach [] X.env := by rfl) : EvC X o (.Call (.Name "len" p) [e] [] pos) ds k R :=
  c_bif call_len_seq hm PySem.boot_len (h.mono fun as k1 ha vs H Q h1 _ q => by
    obtain ⟨d, rfl, ha⟩ := on1_ex ha
    obtain ⟨xs, rfl, ha⟩ := onT_ex ha
    obtain ⟨v, rfl, g1⟩ := dts1 h1
    obtain ⟨a, ys, rfl, hs, hl⟩ := g1.untup
    exact ⟨a, ys, rfl, .inr hs, by rw [hl.1]; exact q _ _ H ha (Ex.refl _) (.v (.int _))⟩) hg (by decide) (by decide) he
theorem c_lenL (hm : X.mg "len" = none) (h : EvA X o [e] ds k fun as k1 => on1 as fun d => onL k1 d fun xs => R (.int (xs.length : Int)) k1) (hg : Gl X "len" := by rfl) (he : starEach [e] X.env = (false, eval e X.env) :: starEach [] X.env := by rfl) : EvC X o (.Call (.Name "len" p) [e] [] pos) ds k R :=
  c_bif call_len_seq hm PySem.boot_len (h.mono fun as k1 ha vs H Q h1 hk q => by
    obtain ⟨d, rfl, ha⟩ := on1_ex ha
    obtain ⟨v, rfl, g1⟩ := dts1 h1
    obtain ⟨p, ys, xs, rfl, hs, hl, ha⟩ := onL_ex hk ha g1
    exact ⟨p, ys, rfl, .inl hs, by rw [hl.1]; exact q _ _ H ha (Ex.refl _) (.v (.int _))⟩) hg (by decide) (by decide) he
theorem c_intI (hm : X.mg "int" = none) (h : EvA X o [e] ds k fun as k1 => on1 as fun d => onI d fun i => R (.int i) k1) (hg : Gl X "int" := by rfl) (he : starEach [e] X.env = (false, eval e X.env) :: starEach [] X.env := by rfl) : EvC X o (.Call (.Name "int" p) [e] [] pos) ds k R :=
  c_bty call_int1 hm (by decide +kernel) (h.mono fun as k1 ha vs H Q h1 _ q => by
    obtain ⟨d, rfl, ha⟩ := on1_ex ha
    obtain ⟨i, rfl, ha⟩ := onI_ex ha
    obtain ⟨v, rfl, g1⟩ := dts1 h1
    have q1 := g1.unint
    subst q1
    exact Or.inl ⟨i, rfl, q _ _ H ha (Ex.refl _) (.v (.int _))⟩) hg (by decide) (by decide) he
theorem c_intB (hm : X.mg "int" = none) (h : EvA X o [e] ds k fun as k1 => on1 as fun d => onB d fun i => R (.int (if i then 1 else 0)) k1) (hg : Gl X "int" := by rfl) (he : starEach [e] X.env = (false, eval e X.env) :: starEach [] X.env := by rfl) : EvC X o (.Call (.Name "int" p) [e] [] pos) ds k R :=
  c_bty call_int1 hm (by decide +kernel) (h.mono fun as k1 ha vs H Q h1 _ q => by
    obtain ⟨d, rfl, ha⟩ := on1_ex ha
    obtain ⟨i, rfl, ha⟩ := onB_ex ha
    obtain ⟨v, rfl, g1⟩ := dts1 h1
    have q1 := g1.unbl
    subst q1
    exact Or.inr ⟨i, rfl, q _ _ H ha (Ex.refl _) (.v (.int _))⟩) hg (by decide) (by decide) he
/-- int of a comparison of ints -/
theorem c_ty {T : String} (hm : X.mg x = none) (hv : bootBuiltins x = some (.type T)) (hR : R (.raw (.ty T)) k) (hg : Gl X x := by rfl) (hn : x ≠ "__name__" := by decide) (hd : (x == ("__debug__" : Str)) = false := by decide) : EvC X o (.Name x pos) ds k R := fun st H Q St hk q =>
  we (pe_bltn hg hm hv (v := .ty T) rfl hn hd) (q _ _ _ H hR (Kp.refl _ _) hk (.v (.raw _)))
/-- a module's tuple -/
structure KT (K : PySem.W.Frag) (mg : Str → Option Value) (x : Str) (as : List Dat) : Prop where
  ex : ∃ (C : Addr) (xs : List V), mg x = some (.ref C) ∧ (∀ H, SqT K H C xs) ∧ ∀ o H, DVs K o H xs as
theorem c_kt (t : KT X.K X.mg x as) (hR : R (.tup as) k) (hg : Gl X x := by rfl) (hd : (x == ("__debug__" : Str)) = false := by decide) : EvC X o (.Name x pos) ds k R := fun st H Q St hk q => by
  obtain ⟨C, xs, hm, h1, h2⟩ := t.ex
  exact we (pe_glob hg hm (v := .ref C) rfl hd) (q _ _ _ H hR (Kp.refl _ _) hk (.v (.tup' (h1 H) (h2 o H))))
/-! isinstance -/
@[reducible] def tyN (k : Cs) : Dat → Option String
  | .non => some "NoneType"
  | .bl _ => some "bool"
  | .int _ => some "int"
  | .str _ => some "str"
  | .tup _ => some "tuple"
  | .lst _ => some "list"
  | .cel _ => some "list"
  | .raw _ => none
  | .obj _ _ _ => none
theorem ty_x {K : PySem.W.Frag} {H : Hp} {v : V} {T : String} (hk : DK K o k H) (t : tyN k d = some T) (h : DT K o H v d) : TyX K H v (.type T) := by
  cases h with
  | cel hi =>
    cases t
    have hm := List.mem_of_getElem? hi
    obtain ⟨xs, hx⟩ := hk.cell hm
    exact .base (.lst hx)
  | v h =>
    cases h with
    | non => cases t; exact .base .non
    | bl b => cases t; exact .base (.bl b)
    | int i => cases t; exact .base (.int i)
    | str z => cases t; exact .base (.str z)
    | tup hs _ _ =>
      cases t
      rcases hs with (hs | ⟨ob, hs⟩) | ⟨ob, its, n, h1, h2, _⟩
      · exact .base (.tup hs)
      · exact .fTuple hs
      · exact .kTuple h1 h2
    | lst hs _ _ =>
      cases t
      rcases hs with ⟨hs | ⟨ob, hs⟩, _⟩ | ⟨ob, its, n, h1, h2, _⟩
      · exact .base (.lst hs)
      · exact .base (.frz hs)
      · exact .kList h1 h2
    | raw v => cases t
    | obj _ _ _ _ _ => cases t
theorem kit2 {K : PySem.W.Frag} {T U1 U2 : String} {b1 b2 : Bool} (h1 : kitB T U1 = some b1) (h2 : kitB T U2 = some b2) : PySem.W.kitAny K (.type T) [.type U1, .type U2] = some (b1 || b2) := by
  refine kitAny_cons (kit_ty h1) (fun e => ?_) (fun e => by rw [e]; rfl)
  rw [e, Bool.false_or]
  refine kitAny_cons (kit_ty h2) (fun e => ?_) (fun e => e)
  rw [kitAny_nil, e]
theorem kit3 {K : PySem.W.Frag} {T U1 U2 U3 : String} {b1 b2 b3 : Bool} (h1 : kitB T U1 = some b1) (h2 : kitB T U2 = some b2) (h3 : kitB T U3 = some b3) : PySem.W.kitAny K (.type T) [.type U1, .type U2, .type U3] = some (b1 || (b2 || b3)) := by
  refine kitAny_cons (kit_ty h1) (fun e => ?_) (fun e => by rw [e]; rfl)
  rw [e, Bool.false_or]
  exact kit2 h2 h3
/-- isinstance(e, T) -/
@[reducible] def isT (U : String) : Dat → Bool
  | .bl _ => U == "bool" || U == "int"
  | .int _ => U == "int"
  | .str _ => U == "str"
  | .tup _ => U == "tuple"
  | .lst _ => U == "list"
  | .cel _ => U == "list"
  | _ => false
theorem c_isi {U : String} (hm : X.mg "isinstance" = none) (h : EvA X o [e1, e2] ds k fun as k1 => on2 as fun d1 d2 => d2 = .raw (.ty U) ∧ ∃ T b, tyN k1 d1 = some T ∧ kitB T U = some b ∧ R (.bl b) k1) (hg : Gl X "isinstance" := by rfl) (he : starEach [e1, e2] X.env = (false, eval e1 X.env) :: starEach [e2] X.env := by rfl)
    (hpl : (backTo pos (starEach [e2] X.env)).any (·.1) = false := by rfl) : EvC X o (.Call (.Name "isinstance" p) [e1, e2] [] pos) ds k R :=
  c_bif call_isi hm (by decide +kernel) (h.mono fun as k1 ha vs H Q h1 hk q => by
    obtain ⟨d1, d2, rfl, rfl, T, b, hT, hb, ha⟩ := on2_ex ha
    obtain ⟨v, w, rfl, g1, g2⟩ := dts2 h1
    have q2 := g2.unraw
    subst q2
    exact ⟨v, .ty U, _, _, b, rfl, .ty U, ty_x hk hT g1, kit_ty hb, q _ _ H ha (Ex.refl _) (.v (.bl _))⟩) hg (by decide) (by decide) he hpl
/-- isinstance(e, (T1, T2)) -/
theorem c_isi2 {U1 U2 : String} {n1 n2 : Str} {p1 p2 p3 : Pos} {cx : Nat} (hm : X.mg "isinstance" = none) (hm1 : X.mg n1 = none) (hv1 : bootBuiltins n1 = some (.type U1)) (hm2 : X.mg n2 = none) (hv2 : bootBuiltins n2 = some (.type U2))
    (h : EvC X o e1 ds k fun d k1 => ∃ T b1 b2, tyN k1 d = some T ∧ kitB T U1 = some b1 ∧ kitB T U2 = some b2 ∧ R (.bl (b1 || b2)) k1) (hg : Gl X "isinstance" := by rfl) (hg1 : Gl X n1 := by rfl) (hg2 : Gl X n2 := by rfl) (hn1 : n1 ≠ "__name__" := by decide) (hn2 : n2 ≠ "__name__" := by decide) (hd1 : (n1 == ("__debug__" : Str)) = false := by decide) (hd2 : (n2 == ("__debug__" : Str)) = false := by decide)
    (he : starEach [e1, .Tuple [.Name n1 p1, .Name n2 p2] cx p3] X.env = (false, eval e1 X.env) :: starEach [.Tuple [.Name n1 p1, .Name n2 p2] cx p3] X.env := by rfl)
    (hpl : (backTo pos (starEach [.Tuple [.Name n1 p1, .Name n2 p2] cx p3] X.env)).any (·.1) = false := by rfl) : EvC X o (.Call (.Name "isinstance" p) [e1, .Tuple [.Name n1 p1, .Name n2 p2] cx p3] [] pos) ds k R := fun st H Q St hk q =>
  we (pe_callB call_isiT hg hm (by decide +kernel) (pa_cons pe_w (pa_cons (pe_tup (pa_cons (pe_bltn hg1 hm1 hv1 (v := .ty U1) rfl hn1 hd1) (pa_cons (pe_bltn hg2 hm2 hv2 (v := .ty U2) rfl hn2 hd2) pa_nil))) pa_nil) he) (by decide) (by decide) he hpl) (h st H _ St hk fun d k1 v H1 hr ex hk1 h1 => by
    refine ⟨by show 2 ≤ sizeLine; decide, fun tp np => ?_⟩
    obtain ⟨T, b1, b2, hT, hb1, hb2, hr⟩ := hr
    have e2 := Kp.of_ex (o := o) (Ex.new (o := .tup [.ty U1, .ty U2]) np)
    have hk2 := hk1.ex (Ex.new (o := .tup [.ty U1, .ty U2]) np)
    exact ⟨v, tp, [.ty U1, .ty U2], _, [.type U1, .type U2], _, rfl, upd_same, .cons (.ty U1) (.cons (.ty U2) .nil), ty_x hk2 hT (h1.kp e2 hk1), kit2 hb1 hb2, q _ k1 _ _ hr (ex.trans e2) hk2 (.v (.bl _))⟩)
/-! slices of tuples and lists, t + u, xs + ys -/
theorem cutV_map {α β : Type} (xs : List α) (lo hi : Option Int) : True := trivial
def cutD (xs : List Dat) (lo hi : Option Int) : List Dat := (xs.drop (HT.sIx xs.length 0 lo)).take (HT.sIx xs.length xs.length hi - HT.sIx xs.length 0 lo)
theorem DVs.cut {K : PySem.W.Frag} {H : Hp} {vs : List V} {ds : List Dat} (h : DVs K o H vs ds) (lo hi : Option Int) : DVs K o H (cutV vs lo hi) (cutD ds lo hi) := by
  unfold cutV cutD
  rw [h.1]
  refine ⟨by rw [List.length_take, List.length_drop, List.length_take, List.length_drop, h.1], fun i v d a b => ?_⟩
  rw [List.getElem?_take] at a b
  split at a
  · rename_i hi'
    rw [if_pos hi'] at b
    rw [List.getElem?_drop] at a b
    exact h.2 _ v d a b
  · cases a
def WO (X : Cx) (oe : Option Expr) (st : L2.St) (H : Hp) (Q : Option Int → Hp → Prop) : Prop := ∀ (pins : List (Addr × Obj)) (s : Shared), Inv X pins st H s →
    wpAny (model X.prog X.w) X.A (evalPart oe X.env) (fun u s' => ∃ o H', Inv X pins st H' s' ∧ IsPart u o ∧ Q o H') X.xe s
theorem po_w {oe : Option Expr} : PO X oe (WO X oe) := ⟨fun pins s _ _ _ I h => h pins s I⟩
theorem wo {oe : Option Expr} {t : TO} (h : PO X oe t) {st : L2.St} {H : Hp} {Q : Option Int → Hp → Prop} (q : t st H Q) : WO X oe st H Q := fun pins s I => h.run pins s st H Q I q
/-- a part of a slice -/
def EvO (X : Cx) (o : Os) (oe : Option Expr) (ds : List (Option Dat)) (k : Cs) (R : Option Int → Cs → Prop) : Prop :=
  ∀ st H Q, Sat X.K o st H ds → DK X.K o k H → (∀ l k' H', R l k' → Kp o H H' → DK X.K o k' H' → Q l H') → WO X oe st H Q
theorem o_none {RO : Option Int → Cs → Prop} (h : RO none k) : EvO X o none ds k RO := fun st H Q S hk q => wo po_none (q none k H h (Kp.refl _ _) hk)
theorem o_some {RO : Option Int → Cs → Prop} (h : EvC X o e ds k fun d k1 => onI d fun i => RO (some i) k1) : EvO X o (some e) ds k RO := fun st H Q S hk q => wo (po_some pe_w) (h st H _ S hk fun d k1 v H1 hr e1 hk1 h1 => by
  obtain ⟨i, rfl, hr⟩ := onI_ex hr
  exact ⟨i, h1.unint, q _ k1 H1 hr e1 hk1⟩)
theorem cutD_all {ds : List Dat} {lo hi : Option Int} (h : HT.sIx ds.length 0 lo = 0 ∧ HT.sIx ds.length ds.length hi = ds.length) : cutD ds lo hi = ds := by
  unfold cutD
  rw [h.1, h.2, List.drop_zero, Nat.sub_zero, List.take_length]
theorem c_cutT {lo hi : Option Expr} (h : EvC X o e ds k fun d k1 => EvO X o lo ds k1 fun l k2 => EvO X o hi ds k2 fun u k3 => onT d fun as => R (.tup (cutD as l u)) k3) : EvC X o (.Subscript e (.Slice lo hi none p2) pos) ds k R := fun st H Q S hk q =>
  we (pe_slice sl_tupA pe_w po_w po_w) (h st H _ S hk fun d k1 v H1 hr e1 hk1 h1 => hr st H1 _ (S.kp e1 hk) hk1 fun l k2 H2 hr e2 hk2 => hr st H2 _ ((S.kp e1 hk).kp e2 hk1) hk2 fun u k3 H3 hr e3 hk3 => by
    obtain ⟨as, rfl, hr'⟩ := onT_ex hr
    obtain ⟨a, xs, rfl, hs, hd⟩ := ((h1.kp e2 hk1).kp e3 hk2).untup
    refine ⟨a, xs, rfl, hs, fun hw => ?_, fun hw p np => ?_⟩
    · rw [hd.1] at hw
      rw [cutD_all hw] at hr'
      exact q _ k3 _ H3 hr' ((e1.trans e2).trans e3) hk3 (.v (.tup' hs hd))
    · have e4 := Kp.of_ex (o := o) (Ex.new (o := .tup (cutV xs l u)) np)
      exact q _ k3 _ _ hr' (((e1.trans e2).trans e3).trans e4) (hk3.ex (Ex.new np)) (.v (.tup' (.inl (.inl upd_same)) ((hd.cut l u).kp e4 hk3))))
theorem n_cutL {lo hi : Option Expr} (h : EvC X o e ds k fun d k1 => EvO X o lo ds k1 fun l k2 => EvO X o hi ds k2 fun u k3 => onL k3 d fun as => RN (cutD as l u) k3) : EvN X o (.Subscript e (.Slice lo hi none p2) pos) ds k RN := fun st H Q S hk q =>
  we (pe_slice sl_list pe_w po_w po_w) (h st H _ S hk fun d k1 v H1 hr e1 hk1 h1 => hr st H1 _ (S.kp e1 hk) hk1 fun l k2 H2 hr e2 hk2 => hr st H2 _ ((S.kp e1 hk).kp e2 hk1) hk2 fun u k3 H3 hr e3 hk3 => by
    obtain ⟨a, xs, as, rfl, hs, hd, hr⟩ := onL_ex hk3 hr ((h1.kp e2 hk1).kp e3 hk2)
    refine ⟨a, xs, rfl, hs, fun p np => ?_⟩
    have e4 := Kp.of_ex (o := o) (Ex.new (o := .lst (cutV xs l u)) np)
    exact q _ k3 _ _ _ hr (fresh_back ((e1.trans e2).trans e3) hk3 np) (((e1.trans e2).trans e3).trans e4) (hk3.ex (Ex.new np)) upd_same ((hd.cut l u).kp e4 hk3))
theorem c_catT (h : EvC X o a ds k fun x k1 => EvC X o b ds k1 fun y k2 => onT x fun as => onT y fun bs => as.length + bs.length ≤ 1000 ∧ R (.tup (as ++ bs)) k2) : EvC X o (.BinOp a .Add b pos) ds k R := fun st H Q S hk q =>
  we (pe_op op_catA pe_w pe_w) (h st H _ S hk fun x k1 v H1 hx e1 hk1 h1 => hx st H1 _ (S.kp e1 hk) hk1 fun y k2 w H2 hy e2 hk2 h2 => by
    obtain ⟨as, rfl, hz⟩ := onT_ex hy
    obtain ⟨bs, rfl, hl, hr⟩ := onT_ex hz
    obtain ⟨pa, xs, rfl, hs, hd⟩ := (h1.kp e2 hk1).untup
    obtain ⟨pb, ys, rfl, hs2, hd2⟩ := h2.untup
    have e12 := e1.trans e2
    refine ⟨pa, pb, xs, ys, rfl, rfl, hs, hs2, ?_, fun hx => ?_, fun _ hy => ?_, fun _ _ p np => ?_⟩
    · rw [hd.1, hd2.1]
      exact Nat.le_trans hl (by decide)
    · have : as = [] := List.eq_nil_of_length_eq_zero (by rw [← hd.1, hx]; rfl)
      subst this
      exact q _ k2 _ H2 hr e12 hk2 (.v (.tup' hs2 hd2))
    · have : bs = [] := List.eq_nil_of_length_eq_zero (by rw [← hd2.1, hy]; rfl)
      subst this
      rw [List.append_nil] at hr
      exact q _ k2 _ H2 hr e12 hk2 (.v (.tup' hs hd))
    · have e4 := Kp.of_ex (o := o) (Ex.new (o := .tup (xs ++ ys)) np)
      exact q _ k2 _ _ hr (e12.trans e4) (hk2.ex (Ex.new np)) (.v (.tup' (.inl (.inl upd_same)) ((hd.append hd2).kp e4 hk2))))
def rCatR (K : PySem.W.Frag) : R2 := fun x y H Q => ∃ l b xs zs, x = .ref l ∧ y = .ref b ∧ SqL K H l xs ∧ SqL K H b zs ∧ xs.length + zs.length ≤ sizeLine ∧ ∀ p, H p = none → Q (.ref p) (upd H p (.lst (xs ++ zs)))
theorem op_catR : OpR X (binaryOp .Add) (rCatR X.K) := by
  intro pins s σ H x y v u Q I rx ry h
  obtain ⟨l, b, xs, zs, rfl, rfl, hH, hB, hz, q⟩ := h
  cases rx
  cases ry
  obtain ⟨its, r, pl, hl1⟩ := I.list hH
  obtain ⟨its2, r2, pl2, hl3⟩ := I.list hB
  have hl := r.length
  have hl2 := r2.length
  obtain ⟨⟨cls, dd, data, sl⟩, ho, hc, n, hd⟩ := pl.isList
  obtain ⟨⟨cls2, dd2, data2, sl2⟩, ho2, hc2, n2, hd2⟩ := pl2.isList
  simp only at hc hd hc2 hd2
  subst hc hd hc2 hd2
  have ea : its.toArray ++ its2.toArray = (its ++ its2).toArray := by simp
  refine concat_meets ⟨_, ho, rfl⟩ ⟨_, ho2, rfl⟩ noFill_list_add seq_list_add PySem.F.slot_list_add PySem.F.entry_list_add (PySem.F.args_list_add_2 _ _) (list_addW l b its.toArray its2.toArray n n2 dd dd2 sl sl2 (by rw [List.size_toArray, List.size_toArray]; omega)) ⟨ho, ho2, ?_⟩
  rw [ea]
  exact ⟨.ref _, _, I.lnew (t' := s.toks) (r.append r2) (by rw [List.length_append]; omega), rfl, q _ I.fresh⟩
theorem n_cat (h : EvC X o a ds k fun x k1 => EvC X o b ds k1 fun y k2 => onL k2 x fun as => onL k2 y fun bs => as.length + bs.length ≤ 10000 ∧ RN (as ++ bs) k2) : EvN X o (.BinOp a .Add b pos) ds k RN := fun st H Q S hk q =>
  we (pe_op op_catR pe_w pe_w) (h st H _ S hk fun x k1 v H1 hx e1 hk1 h1 => hx st H1 _ (S.kp e1 hk) hk1 fun y k2 w H2 hy e2 hk2 h2 => by
    obtain ⟨pa, xs, as, rfl, hs, hd, hz⟩ := onL_ex hk2 hy (h1.kp e2 hk1)
    obtain ⟨pb, ys, bs, rfl, hs2, hd2, hl, hr⟩ := onL_ex hk2 hz h2
    have e12 := e1.trans e2
    refine ⟨pa, pb, xs, ys, rfl, rfl, hs, hs2, ?_, fun p np => ?_⟩
    · rw [hd.1, hd2.1]
      exact Nat.le_trans hl (by decide)
    · have e4 := Kp.of_ex (o := o) (Ex.new (o := .lst (xs ++ ys)) np)
      exact q _ k2 p _ _ hr (fresh_back e12 hk2 np) (e12.trans e4) (hk2.ex (Ex.new np)) upd_same ((hd.append hd2).kp e4 hk2))
/-! methods of cells -/
@[reducible] def onC (x : Dat) (C : Nat → Prop) : Prop := match x with | .cel i => C i | _ => False
theorem onC_ex {d : Dat} {C : Nat → Prop} (h : onC d C) : ∃ i, d = .cel i ∧ C i := by
  cases d <;> first | exact ⟨_, rfl, h⟩ | exact h.elim
theorem cell_ty {K : PySem.W.Frag} {H : Hp} {a : Addr} {i : Nat} (hk : DK K o k H) (ha : o[i]? = some a) : tyV K "list" (.ref a) H := by
  obtain ⟨ys, hy⟩ := hk.cell (List.mem_of_getElem? ha)
  exact .inl ⟨rfl, ys, .inl (.inl hy)⟩
theorem noL_noC (n : noL d = true) : noC d = true := by cases d <;> first | rfl | cases n
theorem all_app {as bs : List Dat} (h1 : as.all noL = true) (h2 : bs.all noL = true) : (as ++ bs).all noL = true := by rw [List.all_append, h1, h2]; rfl
theorem all_one (h : noL d = true) : [d].all noL = true := by
  show (noL d && true) = true
  rw [h]; rfl
theorem c_append {eo : Expr} {apos cpos : Pos} (h : EvC X o eo ds k fun dc k1 => onC dc fun i => EvA X o [e1] ds k1 fun as k2 => on1 as fun d => noL d = true ∧ ∃ s, k2[i]? = some s ∧ s.length < 10000 ∧ R .non (k2.set i (s ++ [d])))
    (hbase : attributeBase eo "append" X.env (eval eo X.env) = eval eo X.env := by rfl)
    (hfew : ((backTo cpos (starEach [e1] X.env)).all (fun x => !x.1) && (backToKw cpos (keywordEach [] X.env)).all (fun x => x.1.isSome) && decide ([e1].length + ([] : List Keyword).length + (if ([] : List Keyword).isEmpty then 0 else 1) < 30)) = true := by rfl)
    (hline : (apos.endLine == cpos.line) = true := by rfl) (hs : starEach [e1] X.env = (false, eval e1 X.env) :: starEach [] X.env := by rfl) (hplain : (backTo cpos (starEach [] X.env)).any (·.1) = false := by rfl) : EvC X o (.Call (.Attribute eo "append" apos) [e1] [] cpos) ds k R := fun st H Q S hk q =>
  we (pe_bm PySem.F.plainAttrs_list PySem.F.slot_list_append PySem.F.type_list_append mt_append pe_w pa_w hbase hfew hline hs hplain) (h st H _ S hk fun dc k1 v H1 hx e1 hk1 h1 => by
    obtain ⟨i, rfl, hx⟩ := onC_ex hx
    obtain ⟨a, rfl, ha⟩ := h1.uncel
    refine ⟨cell_ty hk1 ha, hx st H1 _ (S.kp e1 hk) hk1 fun as k2 vs H2 hr e2 hk2 h2 => ?_⟩
    obtain ⟨d, rfl, nd, s, hs', hl, hr⟩ := on1_ex hr
    obtain ⟨w, rfl, g⟩ := dts1 h2
    obtain ⟨xs, hx', hd⟩ := hk2.at_ i a s ha hs'
    have hw := g.unc (noL_noC nd)
    obtain ⟨hk3, e3⟩ := dk_set hk2 ha (hd.append (DVs.cons hw DVs.nil)) (all_app (hk2.nl s (List.mem_of_getElem? hs')) (all_one nd))
    exact ⟨a, xs, w, rfl, rfl, hx', by rw [hd.1]; exact Nat.lt_of_lt_of_le hl (by decide), q _ _ _ _ hr ((e1.trans e2).trans e3) hk3 (.v .non)⟩)
theorem DVs.take {K : PySem.W.Frag} {H : Hp} {vs : List V} {ds : List Dat} (h : DVs K o H vs ds) (n : Nat) : DVs K o H (vs.take n) (ds.take n) := by
  refine ⟨by rw [List.length_take, List.length_take, h.1], fun i v d a b => ?_⟩
  rw [List.getElem?_take] at a b
  split at a
  · rename_i hi'
    rw [if_pos hi'] at b
    exact h.2 _ v d a b
  · cases a
theorem DVs.drop {K : PySem.W.Frag} {H : Hp} {vs : List V} {ds : List Dat} (h : DVs K o H vs ds) (n : Nat) : DVs K o H (vs.drop n) (ds.drop n) := by
  refine ⟨by rw [List.length_drop, List.length_drop, h.1], fun i v d a b => ?_⟩
  rw [List.getElem?_drop] at a b
  exact h.2 _ v d a b
theorem all_take {as : List Dat} {n : Nat} (h : as.all noL = true) : (as.take n).all noL = true := List.all_eq_true.mpr fun x hx => List.all_eq_true.mp h x (List.mem_of_mem_take hx)
theorem all_drop {as : List Dat} {n : Nat} (h : as.all noL = true) : (as.drop n).all noL = true := List.all_eq_true.mpr fun x hx => List.all_eq_true.mp h x (List.mem_of_mem_drop hx)
theorem c_insert {eo : Expr} {apos cpos : Pos} (h : EvC X o eo ds k fun dc k1 => onC dc fun i => EvA X o [e1, e2] ds k1 fun as k2 => on2 as fun dj d => onI dj fun j => noL d = true ∧ (0 ≤ j ∧ j < 2 ^ 63) ∧ ∃ s, k2[i]? = some s ∧ s.length < 10000 ∧ R .non (k2.set i (s.take j.toNat ++ [d] ++ s.drop j.toNat)))
    (hbase : attributeBase eo "insert" X.env (eval eo X.env) = eval eo X.env := by rfl)
    (hfew : ((backTo cpos (starEach [e1, e2] X.env)).all (fun x => !x.1) && (backToKw cpos (keywordEach [] X.env)).all (fun x => x.1.isSome) && decide ([e1, e2].length + ([] : List Keyword).length + (if ([] : List Keyword).isEmpty then 0 else 1) < 30)) = true := by rfl)
    (hline : (apos.endLine == cpos.line) = true := by rfl) (hs : starEach [e1, e2] X.env = (false, eval e1 X.env) :: starEach [e2] X.env := by rfl) (hplain : (backTo cpos (starEach [e2] X.env)).any (·.1) = false := by rfl) : EvC X o (.Call (.Attribute eo "insert" apos) [e1, e2] [] cpos) ds k R := fun st H Q S hk q =>
  we (pe_bm PySem.F.plainAttrs_list PySem.F.slot_list_insert PySem.F.type_list_insert mt_insert pe_w pa_w hbase hfew hline hs hplain) (h st H _ S hk fun dc k1 v H1 hx e1 hk1 h1 => by
    obtain ⟨i, rfl, hx⟩ := onC_ex hx
    obtain ⟨a, rfl, ha⟩ := h1.uncel
    refine ⟨cell_ty hk1 ha, hx st H1 _ (S.kp e1 hk) hk1 fun as k2 vs H2 hr e2 hk2 h2 => ?_⟩
    obtain ⟨dj, d, rfl, hr⟩ := on2_ex hr
    obtain ⟨j, rfl, nd, hj, s, hs', hl, hr⟩ := onI_ex hr
    obtain ⟨u, w, rfl, g0, g⟩ := dts2 h2
    have q1 := g0.unint
    subst q1
    obtain ⟨xs, hx', hd⟩ := hk2.at_ i a s ha hs'
    have hw := g.unc (noL_noC nd)
    have nl := hk2.nl s (List.mem_of_getElem? hs')
    obtain ⟨hk3, e3⟩ := dk_set hk2 ha (((hd.take j.toNat).append (DVs.cons hw DVs.nil)).append (hd.drop j.toNat)) (all_app (all_app (all_take nl) (all_one nd)) (all_drop nl))
    exact ⟨a, xs, j, w, rfl, rfl, hx', by rw [hd.1]; exact Nat.lt_of_lt_of_le hl (by decide), hj.1, hj.2, q _ _ _ _ hr ((e1.trans e2).trans e3) hk3 (.v .non)⟩)
end
end Wz

set_option Elab.async false
set_option linter.all false
set_option maxRecDepth 100000
set_option maxHeartbeats 4000000
namespace Wz
open PySem PySem.Spec PyProof.Rows L2 Evl
abbrev BX (X : Cx) (scope : Scope) (s : Shared) (H : Hp) (C : Addr) (cl : List (Str × Addr)) (fp : List Addr) : Cx := X.blk s H scope (compEnvC scope cl C X.env) fp
def bT (X : Cx) (scope : Scope) (c : Expr) : TT := fun st H Q => ∀ s0 H0 C cl fp, WT (BX X scope s0 H0 C cl fp) c st H Q
def bE (X : Cx) (scope : Scope) (c : Expr) : TE := fun st H Q => ∀ s0 H0 C cl fp, WE (BX X scope s0 H0 C cl fp) c st H Q
/-- the turn's invariant -/
def CvI (K : PySem.W.Frag) (o : Os) (H1 : Hp) (D : Addr) (W : Nat → List Dat → Cs → Prop) (i : Nat) (H' : Hp) : Prop :=
  Kp o H1 H' ∧ ∃ q acc vs, W i acc q ∧ DK K o q H' ∧ H' D = some (.lst vs) ∧ DVs K o H' vs acc ∧ acc.all noL = true ∧ acc.length ≤ i
theorem tm_upd {K : PySem.W.Frag} {H : Hp} {p : Addr} {xs ys : List V} (h : H p = some (.lst xs)) : ∀ b zs, SqT K H b zs → SqT K (upd H p (.lst ys)) b zs := fun b zs s => by
  rcases s with (s | ⟨ob, s⟩) | s
  · have n : b ≠ p := fun z => by
      rw [z, h] at s
      cases s
    exact .inl (.inl (by rw [upd_ne n]; exact s))
  · have n : b ≠ p := fun z => by
      rw [z, h] at s
      cases s
    exact .inl (.inr ⟨ob, by rw [upd_ne n]; exact s⟩)
  · exact .inr s
theorem DV.tm {K : PySem.W.Frag} {o : Os} {H H' : Hp} (m : ∀ b xs, SqT K H b xs → SqT K H' b xs) {v : V} {d : Dat} (h : DV K o H v d) : noL d = true → DV K o H' v d := by
  induction h with
  | non => intro _; exact .non
  | bl b => intro _; exact .bl b
  | int i => intro _; exact .int i
  | str x => intro _; exact .str x
  | tup s l _ ih =>
    intro h
    rw [noL] at h
    exact .tup (m _ _ s) l fun i v d a b => ih i v d a b (noLs_at h b)
  | lst s l _ ih => intro h; rw [noL] at h; cases h
  | raw v => intro h; rw [noL] at h; cases h
  | obj s n m l _ ih => intro h; rw [noL] at h; cases h
theorem DVs.tm {K : PySem.W.Frag} {o : Os} {H H' : Hp} (m : ∀ b xs, SqT K H b xs → SqT K H' b xs) {vs : List V} {ds : List Dat} (h : DVs K o H vs ds) (n : ds.all noL = true) : DVs K o H' vs ds := ⟨h.1, fun i v d a b => (h.2 i v d a b).tm m (noLs_all n b)⟩
theorem cv_step {K : PySem.W.Frag} {o : Os} {k1 q : Cs} {H1 H3 H4 : Hp} {D : Addr} {W : Nat → List Dat → Cs → Prop} {i : Nat} {acc : List Dat} {vs : List V} {u : V} {y : Dat} {q' : Cs} (n1 : H1 D = none) (hk1 : DK K o k1 H1) (hi : i < 10000) (w1 : Kp o H1 H3) (hk3 : DK K o q H3) (hD : H3 D = some (.lst vs)) (hv : DVs K o H3 vs acc) (na : acc.all noL = true) (hl : acc.length ≤ i)
    (e : Kp o H3 H4) (hk4 : DK K o q' H4) (hu : DT K o H4 u y) (ny : noL y = true) (hW : W (i + 1) (acc ++ [y]) q') : ∃ vs, H4 D = some (.lst vs) ∧ vs.length < sizeLine ∧ CvI K o H1 D W (i + 1) (upd H4 D (.lst (vs ++ [u]))) := by
  have nD : D ∉ o := hk1.ne n1
  have hD4 : H4 D = some (.lst vs) := e D _ nD hD
  refine ⟨vs, hD4, ?_, fun b z nb hb => ?_, q', acc ++ [y], vs ++ [u], hW, ?_, upd_same, ?_, all_app na (all_one ny), ?_⟩
  · rw [hv.1]
    exact Nat.lt_of_le_of_lt hl (Nat.lt_of_lt_of_le hi (by decide))
  · rw [upd_ne (ne_of_none hb n1)]
    exact e b z nb (w1 b z nb hb)
  · refine ⟨hk4.len, hk4.nd, hk4.nl, fun j a as ha hs => ?_⟩
    obtain ⟨xs, hx, hd⟩ := hk4.at_ j a as ha hs
    refine ⟨xs, ?_, hd.tm (tm_upd hD4) (hk4.nl as (List.mem_of_getElem? hs))⟩
    rw [upd_ne (fun z => nD (by rw [← z]; exact List.mem_of_getElem? ha))]
    exact hx
  · exact ((hv.kp e hk3).append (DVs.cons (hu.unc (noL_noC ny)) DVs.nil)).tm (tm_upd hD4) (all_app na (all_one ny))
  · rw [List.length_append]
    show acc.length + 1 ≤ i + 1
    omega
theorem set_wipe {st : L2.St} {j : Nat} {v : V} : (wipe st [j]).set j (some v) = st.set j (some v) := by
  show (st.set j none).set j (some v) = _
  rw [List.set_set]
theorem wipe_set {st : L2.St} {j : Nat} {v : V} : wipe (st.set j (some v)) [j] = wipe st [j] := by
  show (st.set j (some v)).set j none = st.set j none
  rw [List.set_set]
section
variable {X : Cx} {o0 o : Os} {ds : List (Option Dat)} {k k1 k2 : Cs} {e c a b elt e1 e2 e3 : Expr} {es : List Expr} {d : Dat} {as : List Dat} {pos pos' p p1 p2 p3 : Pos} {rest body orelse : List Stmt} {D : Ends} {H0 : Hp} {R : Dat → Cs → Prop} {RT : Bool → Cs → Prop} {RN : List Dat → Cs → Prop} {x : Str} {scope : Scope} {j : Nat}
/-- what a comprehension wants: W by the turn and what is told so far -/
structure LcW (X : Cx) (o : Os) (scope : Scope) (elt : Expr) (ds : List (Option Dat)) (n : Nat) (it : Nat → Option Dat) (sl : Dat → List (Option Dat) → List (Option Dat)) (W : Nat → List Dat → Cs → Prop) : Prop where
  turn : ∀ s H C cl fp j d acc q, j < n → it j = some d → W j acc q → EvC (BX X scope s H C cl fp) o elt (sl d ds) q fun y q' => noL y = true ∧ W (j + 1) (acc ++ [y]) q'
/-- with an if -/
structure LcC (X : Cx) (o : Os) (scope : Scope) (c elt : Expr) (ds : List (Option Dat)) (n : Nat) (it : Nat → Option Dat) (sl : Dat → List (Option Dat) → List (Option Dat)) (W : Nat → List Dat → Cs → Prop) : Prop where
  turn : ∀ s H C cl fp j d acc q, j < n → it j = some d → W j acc q → EvT (BX X scope s H C cl fp) o c (sl d ds) q fun b q1 => bc b (∀ s H C cl fp, EvC (BX X scope s H C cl fp) o elt (sl d ds) q1 fun y q' => noL y = true ∧ W (j + 1) (acc ++ [y]) q') (W (j + 1) acc q1)
/-- the turn of a comprehension without if -/
theorem lc_turn0 {n : Nat} {it : Nat → Option Dat} {W : Nat → List Dat → Cs → Prop} {H1 H' : Hp} {Dr : Addr} {st : L2.St} {i : Nat} {y : V} {d : Dat} (n1 : H1 Dr = none) (hk1 : DK X.K o k1 H1) (S1 : Sat X.K o st H1 ds) (L : LcW X o scope elt ds n it (fun d es => es.set j (some d)) W) (hn : n ≤ 10000) (hi : i < n) (hd : it i = some d) (hy : DV X.K o H1 y d) (w : CvI X.K o H1 Dr W i H') :
    wipe ((wipe st [j]).set j (some y)) [j] = wipe st [j] ∧ tYes ((wipe st [j]).set j (some y)) H' fun b H3 => if b = true then bE X scope elt ((wipe st [j]).set j (some y)) H3 fun y H4 => ∃ acc, H4 Dr = some (.lst acc) ∧ acc.length < sizeLine ∧ CvI X.K o H1 Dr W (i + 1) (upd H4 Dr (.lst (acc ++ [y]))) else CvI X.K o H1 Dr W (i + 1) H3 := by
  rw [set_wipe, wipe_set]
  refine ⟨rfl, ?_⟩
  simp only [tYes, if_true]
  obtain ⟨w1, q, acc, vs, hW, hk', hD, hv, na, hl⟩ := w
  have S2 : Sat X.K o (st.set j (some y)) H' (ds.set j (some d)) := (S1.kp w1 hk1).set (.v (hy.kp w1 hk1))
  exact fun s0 H0 C cl fp => L.turn s0 H0 C cl fp i d acc q hi hd hW _ H' _ S2 hk' fun z q' u H4 hr e4 hk4 hu => cv_step n1 hk1 (by omega) w1 hk' hD hv na hl e4 hk4 hu hr.1 hr.2
theorem lc_turn1 {n : Nat} {it : Nat → Option Dat} {W : Nat → List Dat → Cs → Prop} {H1 H' : Hp} {Dr : Addr} {st : L2.St} {i : Nat} {y : V} {d : Dat} (n1 : H1 Dr = none) (hk1 : DK X.K o k1 H1) (S1 : Sat X.K o st H1 ds) (L : LcC X o scope c elt ds n it (fun d es => es.set j (some d)) W) (hn : n ≤ 10000) (hi : i < n) (hd : it i = some d) (hy : DV X.K o H1 y d) (w : CvI X.K o H1 Dr W i H') :
    wipe ((wipe st [j]).set j (some y)) [j] = wipe st [j] ∧ bT X scope c ((wipe st [j]).set j (some y)) H' fun b H3 => if b = true then bE X scope elt ((wipe st [j]).set j (some y)) H3 fun y H4 => ∃ acc, H4 Dr = some (.lst acc) ∧ acc.length < sizeLine ∧ CvI X.K o H1 Dr W (i + 1) (upd H4 Dr (.lst (acc ++ [y]))) else CvI X.K o H1 Dr W (i + 1) H3 := by
  rw [set_wipe, wipe_set]
  refine ⟨rfl, ?_⟩
  obtain ⟨w1, q, acc, vs, hW, hk', hD, hv, na, hl⟩ := w
  have S2 : Sat X.K o (st.set j (some y)) H' (ds.set j (some d)) := (S1.kp w1 hk1).set (.v (hy.kp w1 hk1))
  have nD : Dr ∉ o := hk1.ne n1
  refine fun s0 H0 C cl fp => L.turn s0 H0 C cl fp i d acc q hi hd hW _ H' _ S2 hk' fun b q1 H3 hb e3 hk3 => ?_
  cases b with
  | true =>
    rw [if_pos rfl]
    exact fun s0 H0 C cl fp => hb s0 H0 C cl fp _ H3 _ (S2.kp e3 hk') hk3 fun z q' u H4 hr e4 hk4 hu => cv_step n1 hk1 (by omega) (w1.trans e3) hk3 (e3 Dr _ nD hD) (hv.kp e3 hk') na hl e4 hk4 hu hr.1 hr.2
  | false =>
    rw [if_neg Bool.false_ne_true]
    exact ⟨w1.trans e3, q1, acc, vs, hb, hk3, e3 Dr _ nD hD, hv.kp e3 hk', na, by omega⟩
theorem cv_start {W : Nat → List Dat → Cs → Prop} {H1 : Hp} {Dr : Addr} (n1 : H1 Dr = none) (hk1 : DK X.K o k1 H1) (h0 : W 0 [] k1) : CvI X.K o H1 Dr W 0 (upd H1 Dr (.lst [])) := ⟨Kp.of_ex (Ex.new n1), k1, [], [], h0, hk1.ex (Ex.new n1), upd_same, DVs.nil, rfl, Nat.le_refl _⟩
/-- [elt for x in range(a)] -/
theorem n_lcR (hcalm : X.calm = true) (hN : X.N.Nodup) (hm : X.mg "range" = none) (hok : BlkOk X.N X.env.scope scope [(x, j)]) (hgn : ∀ s H C cl fp, PG (BX X scope s H C cl fp) (.Name x p1) (gName j))
    (h : EvA X o [a] ds k fun as k1 => on1 as fun d => onI d fun n => (0 ≤ n ∧ n ≤ 10000) ∧ ∃ W, W 0 [] k1 ∧ LcW X o scope elt ds n.toNat (fun i => some (.int (i : Int))) (fun d es => es.set j (some d)) W ∧ ∀ acc q, W n.toNat acc q → acc.all noL = true → RN acc q) (hg : Gl X "range" := by rfl) (hst : starEach [a] X.env = [(false, eval a X.env)] := by rfl)
    (hset : ∀ y, foldedSetIterable (.Call (.Name "range" p2) [a] [] p3) X.env y = pure y := by intro _; rfl) :
    EvN X o (.ListComp elt [⟨.Name x p1, .Call (.Name "range" p2) [a] [] p3, [], 0⟩] scope pos) ds k RN := fun st H Q S hk q =>
  we (pe_lc (own := [(x, j)]) (g := gName j) (tt := tYes) (te := bE X scope elt) hcalm hN (pi_range1 hg hm pa_w hst) hok hgn
    (fun s0 H0 C cl fp => pts_nil) (fun s0 H0 C cl fp => ⟨fun pins s st H Q I h => h s0 H0 C cl fp pins s I⟩) hset) (h st H _ S hk fun as k1 vs H1 hr e1 hk1 h1 => by
    obtain ⟨d, rfl, hr⟩ := on1_ex hr
    obtain ⟨n, rfl, hn, W, h0, L, hd⟩ := onI_ex hr
    obtain ⟨u, rfl, g1⟩ := dts1 h1
    have q1 := g1.unint
    subst q1
    refine ⟨n, rfl, by omega, by omega, fun Dr nD => ?_⟩
    refine lc_range (lo := 0) (n := n.toNat) (g := gName j) (tt := tYes) (te := bE X scope elt) (vs := [j]) (σ := st) (Qd := fun H' => Q (.ref Dr) H') (CvI X.K o H1 Dr W) (cv_start nD hk1 h0) (fun i H' hi w => ?_) (fun H' w => ?_)
    · have e0 : (0 : Int) + (i : Int) = (i : Int) := Int.zero_add _
      show wipe ((wipe st [j]).set j (some (.int ((0 : Int) + (i : Int))))) [j] = wipe st [j] ∧ _
      rw [e0]
      exact lc_turn0 nD hk1 (S.kp e1 hk) L (by omega) hi rfl (.int _) w
    · obtain ⟨w1, q', acc, vs, hW, hk', hD, hv, na, hl⟩ := w
      exact q acc q' Dr vs H' (hd acc q' hW na) (fresh_back e1 hk1 nD) (e1.trans w1) hk' hD hv)
/-- [elt for x in t], t a tuple -/
theorem n_lcT (hcalm : X.calm = true) (hN : X.N.Nodup) (hok : BlkOk X.N X.env.scope scope [(x, j)]) (hgn : ∀ s H C cl fp, PG (BX X scope s H C cl fp) (.Name x p1) (gName j))
    (h : EvC X o a ds k fun d k1 => onT d fun as => as.length ≤ 10000 ∧ ∃ W, W 0 [] k1 ∧ LcW X o scope elt ds as.length (fun i => as[i]?) (fun d es => es.set j (some d)) W ∧ ∀ acc q, W as.length acc q → acc.all noL = true → RN acc q)
    (hset : ∀ y, foldedSetIterable a X.env y = pure y := by intro _; rfl) :
    EvN X o (.ListComp elt [⟨.Name x p1, a, [], 0⟩] scope pos) ds k RN := fun st H Q S hk q =>
  we (pe_lc (own := [(x, j)]) (g := gName j) (tt := tYes) (te := bE X scope elt) hcalm hN (pi_tup pe_w) hok hgn
    (fun s0 H0 C cl fp => pts_nil) (fun s0 H0 C cl fp => ⟨fun pins s st H Q I h => h s0 H0 C cl fp pins s I⟩) hset) (h st H _ S hk fun d k1 v H1 hr e1 hk1 h1 => by
    obtain ⟨as, rfl, hn, W, h0, L, hd⟩ := onT_ex hr
    obtain ⟨t, xs, rfl, hs, hdv⟩ := h1.untup
    refine ⟨t, rfl, ⟨xs, hs⟩, fun Dr nD => ?_⟩
    refine lc_tup (xs := xs) (g := gName j) (tt := tYes) (te := bE X scope elt) (vs := [j]) (σ := st) (Qd := fun H' => Q (.ref Dr) H') (CvI X.K o H1 Dr W) (cv_start nD hk1 h0) (fun i H' _ w => kp_t w.1 hk1 hs) (fun i y H' hy w => ?_) (fun H' w => ?_)
    · have hi : i < as.length := by
        rw [← hdv.1]
        exact (List.getElem?_eq_some_iff.mp hy).1
      have hda : as[i]? = some as[i] := List.getElem?_eq_getElem hi
      exact lc_turn0 nD hk1 (S.kp e1 hk) L hn hi hda (hdv.2 i y _ hy hda) w
    · obtain ⟨w1, q', acc, vs, hW, hk', hD, hv, na, hl⟩ := w
      rw [hdv.1] at hW
      exact q acc q' Dr vs H' (hd acc q' hW na) (fresh_back e1 hk1 nD) (e1.trans w1) hk' hD hv)
/-- [elt for x in xs], xs a list that is no cell -/
theorem n_lcL (hcalm : X.calm = true) (hN : X.N.Nodup) (hok : BlkOk X.N X.env.scope scope [(x, j)]) (hgn : ∀ s H C cl fp, PG (BX X scope s H C cl fp) (.Name x p1) (gName j))
    (h : EvC X o a ds k fun d k1 => onL0 d fun as => as.length ≤ 10000 ∧ ∃ W, W 0 [] k1 ∧ LcW X o scope elt ds as.length (fun i => as[i]?) (fun d es => es.set j (some d)) W ∧ ∀ acc q, W as.length acc q → acc.all noL = true → RN acc q)
    (hset : ∀ y, foldedSetIterable a X.env y = pure y := by intro _; rfl) :
    EvN X o (.ListComp elt [⟨.Name x p1, a, [], 0⟩] scope pos) ds k RN := fun st H Q S hk q =>
  we (pe_lc (own := [(x, j)]) (g := gName j) (tt := tYes) (te := bE X scope elt) hcalm hN (pi_list pe_w) hok hgn
    (fun s0 H0 C cl fp => pts_nil) (fun s0 H0 C cl fp => ⟨fun pins s st H Q I h => h s0 H0 C cl fp pins s I⟩) hset) (h st H _ S hk fun d k1 v H1 hr e1 hk1 h1 => by
    obtain ⟨as, rfl, hn, W, h0, L, hd⟩ := onL0_ex hr
    obtain ⟨t, xs, rfl, hs, hdv⟩ := h1.unlst
    refine ⟨t, rfl, ⟨xs, hs.sq⟩, fun Dr nD => ?_⟩
    refine lc_list (xs := xs) (g := gName j) (tt := tYes) (te := bE X scope elt) (vs := [j]) (σ := st) (Qd := fun H' => Q (.ref Dr) H') (CvI X.K o H1 Dr W) (cv_start nD hk1 h0) (fun i H' _ w => (hs.kp w.1 fun _ z => z).sq) (fun i y H' hy w => ?_) (fun H' w => ?_)
    · have hi : i < as.length := by
        rw [← hdv.1]
        exact (List.getElem?_eq_some_iff.mp hy).1
      have hda : as[i]? = some as[i] := List.getElem?_eq_getElem hi
      exact lc_turn0 nD hk1 (S.kp e1 hk) L hn hi hda (hdv.2 i y _ hy hda) w
    · obtain ⟨w1, q', acc, vs, hW, hk', hD, hv, na, hl⟩ := w
      rw [hdv.1] at hW
      exact q acc q' Dr vs H' (hd acc q' hW na) (fresh_back e1 hk1 nD) (e1.trans w1) hk' hD hv)
end
end Wz

set_option Elab.async false
set_option linter.all false
set_option maxRecDepth 100000
set_option maxHeartbeats 4000000
namespace Wz
open PySem PySem.Spec PyProof.Rows L2 Evl
/-! deep == -/
def noR : Dat → Bool
  | .raw _ => false
  | .obj _ _ _ => false
  | .cel _ => false
  | .lst xs => noRs xs
  | .tup xs => noRs xs
  | _ => true
where noRs : List Dat → Bool
  | [] => true
  | d :: ds => noR d && noRs ds
def pd : Dat → PyData
  | .non => .none
  | .bl b => .bool b
  | .int i => .int i
  | .str x => .str x
  | .tup xs => .tuple (pds xs)
  | .lst xs => .list (pds xs)
  | .cel _ => .none
  | .raw _ => .none
  | .obj _ _ _ => .none
where pds : List Dat → List PyData
  | [] => []
  | d :: ds => pd d :: pds ds
theorem noRs_at : ∀ {ds : List Dat} {i : Nat} {d : Dat}, noR.noRs ds = true → ds[i]? = some d → noR d = true
  | [], _, _, _, h => by simp at h
  | d :: ds, 0, e, h, q => by
    simp at q
    subst q
    rw [noR.noRs, Bool.and_eq_true] at h
    exact h.1
  | d :: ds, i + 1, e, h, q => by
    rw [noR.noRs, Bool.and_eq_true] at h
    exact noRs_at (i := i) h.2 (by simpa using q)
theorem dpall {K : PySem.W.Frag} {H : Hp} : ∀ {xs : List V} {ds : List Dat}, xs.length = ds.length → (∀ (i : Nat) (v : V) (d : Dat), xs[i]? = some v → ds[i]? = some d → Dp K H v (pd d)) → DpAll K H xs (pd.pds ds)
  | [], [], _, _ => .nil
  | x :: xs, d :: ds, hl, h => .cons (h 0 x d rfl rfl) (dpall (by simpa using hl) fun i v e a b => h (i + 1) v e (by simpa using a) (by simpa using b))
theorem DV.dp {K : PySem.W.Frag} {o : Os} {H : Hp} {v : V} {d : Dat} (h : DV K o H v d) : noR d = true → Dp K H v (pd d) := by
  induction h with
  | non => intro _; exact .non
  | bl b => intro _; exact .bl b
  | int i => intro _; exact .int i
  | str x => intro _; exact .str x
  | tup s l _ ih =>
    intro n
    rw [noR] at n
    exact .tup s (dpall l fun i v d a b => ih i v d a b (noRs_at n b))
  | lst s l _ ih =>
    intro n
    rw [noR] at n
    exact .lst (s.sq) (dpall l fun i v d a b => ih i v d a b (noRs_at n b))
  | raw v => intro n; rw [noR] at n; cases n
  | obj _ _ _ _ _ _ => intro n; rw [noR] at n; cases n
theorem noR_noC {d : Dat} (n : noR d = true) : noC d = true := by cases d <;> first | rfl | cases n
/-- what is compared is data of few depths -/
@[reducible] def eqOk (x y : Dat) : Prop := (noR x = true ∧ noR y = true) ∧ SeqAt.shaped (pd x) = true ∧ SeqAt.shaped (pd y) = true
section
variable {X : Cx} {o0 o : Os} {ds : List (Option Dat)} {k k1 k2 : Cs} {e c a b elt e1 e2 e3 : Expr} {es : List Expr} {d : Dat} {as : List Dat} {pos pos' p p1 p2 p3 : Pos} {rest body orelse : List Stmt} {D : Ends} {H0 : Hp} {R : Dat → Cs → Prop} {RT : Bool → Cs → Prop} {RN : List Dat → Cs → Prop} {x : Str} {scope : Scope} {j : Nat}
def CD (n : Bool) (x y : Dat) (_ : Cs) (z : Bool) : Prop := eqOk x y ∧ z = (if n = true then !PyData.eqv (pd x) (pd y) else PyData.eqv (pd x) (pd y))
theorem c_eqD (hu : X.A.units + 64 < cLine) (h : EvC X o a ds k fun x k1 => EvC X o b ds k1 fun y k2 => eqOk x y ∧ R (.bl (PyData.eqv (pd x) (pd y))) k2) : EvC X o (.Compare a [.Eq] [b] pos) ds k R :=
  c_cmp (op_eqD hu) (nobehind _ (by decide) (by decide)) (C := CD false) (fun x y k2 v w H Q hz _ h1 h2 q => by
    obtain ⟨z, ⟨⟨n1, n2⟩, s1, s2⟩, rfl⟩ := hz
    exact ⟨_, _, (h1.unc (noR_noC n1)).dp n1, (h2.unc (noR_noC n2)).dp n2, s1, s2, q _ ⟨⟨⟨n1, n2⟩, s1, s2⟩, rfl⟩⟩) (h.mono fun x k1 hx => hx.mono fun y k2 ⟨ok, hy⟩ => ⟨⟨_, ok, rfl⟩, fun z ⟨_, e⟩ => by
      rw [e]
      exact hy⟩)
theorem t_eqD (hu : X.A.units + 64 < cLine) (h : EvC X o a ds k fun x k1 => EvC X o b ds k1 fun y k2 => eqOk x y ∧ RT (PyData.eqv (pd x) (pd y)) k2) : EvT X o (.Compare a [.Eq] [b] pos) ds k RT :=
  tc_cmp (op_eqD hu) (nobehind _ (by decide) (by decide)) (C := CD false) (fun x y k2 v w H Q hz _ h1 h2 q => by
    obtain ⟨z, ⟨⟨n1, n2⟩, s1, s2⟩, rfl⟩ := hz
    exact ⟨_, _, (h1.unc (noR_noC n1)).dp n1, (h2.unc (noR_noC n2)).dp n2, s1, s2, q _ ⟨⟨⟨n1, n2⟩, s1, s2⟩, rfl⟩⟩) (h.mono fun x k1 hx => hx.mono fun y k2 ⟨ok, hy⟩ => ⟨⟨_, ok, rfl⟩, fun z ⟨_, e⟩ => by
      rw [e]
      exact hy⟩)
theorem c_neD (hu : X.A.units + 64 < cLine) (h : EvC X o a ds k fun x k1 => EvC X o b ds k1 fun y k2 => eqOk x y ∧ R (.bl (!PyData.eqv (pd x) (pd y))) k2) : EvC X o (.Compare a [.NotEq] [b] pos) ds k R :=
  c_cmp (op_neD hu) (nobehind _ (by decide) (by decide)) (C := CD true) (fun x y k2 v w H Q hz _ h1 h2 q => by
    obtain ⟨z, ⟨⟨n1, n2⟩, s1, s2⟩, rfl⟩ := hz
    exact ⟨_, _, (h1.unc (noR_noC n1)).dp n1, (h2.unc (noR_noC n2)).dp n2, s1, s2, q _ ⟨⟨⟨n1, n2⟩, s1, s2⟩, rfl⟩⟩) (h.mono fun x k1 hx => hx.mono fun y k2 ⟨ok, hy⟩ => ⟨⟨_, ok, rfl⟩, fun z ⟨_, e⟩ => by
      rw [e]
      exact hy⟩)
theorem t_neD (hu : X.A.units + 64 < cLine) (h : EvC X o a ds k fun x k1 => EvC X o b ds k1 fun y k2 => eqOk x y ∧ RT (!PyData.eqv (pd x) (pd y)) k2) : EvT X o (.Compare a [.NotEq] [b] pos) ds k RT :=
  tc_cmp (op_neD hu) (nobehind _ (by decide) (by decide)) (C := CD true) (fun x y k2 v w H Q hz _ h1 h2 q => by
    obtain ⟨z, ⟨⟨n1, n2⟩, s1, s2⟩, rfl⟩ := hz
    exact ⟨_, _, (h1.unc (noR_noC n1)).dp n1, (h2.unc (noR_noC n2)).dp n2, s1, s2, q _ ⟨⟨⟨n1, n2⟩, s1, s2⟩, rfl⟩⟩) (h.mono fun x k1 hx => hx.mono fun y k2 ⟨ok, hy⟩ => ⟨⟨_, ok, rfl⟩, fun z ⟨_, e⟩ => by
      rw [e]
      exact hy⟩)
/-- an int in a tuple of ints -/
theorem vints {K : PySem.W.Frag} {H : Hp} {xs : List V} {is : List Int} (hd : DVs K o H xs (is.map Dat.int)) : xs = is.map V.int := by
  refine List.ext_getElem? fun j => ?_
  by_cases hj : j < xs.length
  · have hj2 : j < is.length := by rw [hd.1, List.length_map] at hj; exact hj
    have q1 : (is.map Dat.int)[j]? = some (.int is[j]) := by rw [List.getElem?_map, List.getElem?_eq_getElem hj2]; rfl
    have q2 := hd.2 j _ _ (List.getElem?_eq_getElem hj) q1
    rw [List.getElem?_eq_getElem hj, List.getElem?_map, List.getElem?_eq_getElem hj2]
    generalize xs[j] = vv at q2
    cases q2
    rfl
  · have hj2 : ¬ j < is.length := by rw [hd.1, List.length_map] at hj; exact hj
    rw [List.getElem?_eq_none (by omega), List.getElem?_eq_none (by rw [List.length_map]; omega)]
theorem inV_ints {i : Int} : ∀ {is : List Int}, inV (.int i) (is.map V.int) = decide (i ∈ is)
  | [] => by simp [inV]
  | j :: is => by
    have ih := inV_ints (i := i) (is := is)
    unfold inV at *
    rw [List.map_cons, List.any_cons, ih]
    by_cases h : i = j
    · subst h
      simp [eqV]
    · have : eqV (V.int j) (V.int i) = false := by
        simp [eqV]
        omega
      simp [this, h]
theorem c_inI {is : List Int} (h : EvC X o a ds k fun x k1 => EvC X o b ds k1 fun y k2 => onI x fun i => y = .tup (is.map Dat.int) ∧ R (.bl (decide (i ∈ is))) k2) (hm : behindInMarks .In b = false := by rfl) : EvC X o (.Compare a [.In] [b] pos) ds k R := fun st H Q S hk q =>
  we (pe_cmpR op_in_seq pe_w pe_w hm) (h st H _ S hk fun x k1 v H1 hx e1 hk1 h1 => hx st H1 _ (S.kp e1 hk) hk1 fun y k2 w H2 hy e2 hk2 h2 => by
    obtain ⟨i, rfl, rfl, hr⟩ := onI_ex hy
    have q1 := h1.unint
    subst q1
    obtain ⟨pp, xs, rfl, hs, hd⟩ := h2.untup
    have ex := vints hd
    subst ex
    refine ⟨pp, _, rfl, .inr hs, rfl, ?_, ?_⟩
    · rw [List.all_map]
      exact List.all_eq_true.mpr fun _ _ => rfl
    · show Q (.bl (if false = true then !inV (.int i) (is.map V.int) else inV (.int i) (is.map V.int))) H2
      rw [if_neg Bool.false_ne_true, inV_ints]
      exact q _ k2 _ H2 hr (e1.trans e2) hk2 (.v (.bl _)))
/-! unpacking -/
/-- (a, b), (c, d) = t -/
theorem as_unp22 {i j l m : Nat} {x y z u : Str} {px py pz pu pt1 pt2 pt : Pos} {kt1 kt2 kt : Nat} (hN : X.N.Nodup) (hc : X.calm = true) (h : EvC X o e ds k fun d k1 => ∃ d1 d2 d3 d4, d = .tup [.tup [d1, d2], .tup [d3, d4]] ∧ AS X o0 o rest D ((((ds.set i (some d1)).set j (some d2)).set l (some d3)).set m (some d4)) k1 H0)
    (hi : X.N[i]? = some x := by rfl) (hj : X.N[j]? = some y := by rfl) (hl : X.N[l]? = some z := by rfl) (hm : X.N[m]? = some u := by rfl) (hx : Loc X.env.scope x := by exact Or.inl rfl) (hy : Loc X.env.scope y := by exact Or.inl rfl) (hz : Loc X.env.scope z := by exact Or.inl rfl) (hu : Loc X.env.scope u := by exact Or.inl rfl)
    (hfx : X.fn x = true ∨ X.env.scope.names.lookup x = some .local := by exact .inl rfl) (hfy : X.fn y = true ∨ X.env.scope.names.lookup y = some .local := by exact .inl rfl) (hfz : X.fn z = true ∨ X.env.scope.names.lookup z = some .local := by exact .inl rfl) (hfu : X.fn u = true ∨ X.env.scope.names.lookup u = some .local := by exact .inl rfl)
    (hs : swapsWithSole [.Tuple [.Tuple [.Name x px, .Name y py] kt1 pt1, .Tuple [.Name z pz, .Name u pu] kt2 pt2] kt pt] e pos.line X.env = pure false := by rfl) (hw : swappedStores [.Tuple [.Tuple [.Name x px, .Name y py] kt1 pt1, .Tuple [.Name z pz, .Name u pu] kt2 pt2] kt pt] e X.env = pure none := by rfl) :
    AS X o0 o (.Assign [.Tuple [.Tuple [.Name x px, .Name y py] kt1 pt1, .Tuple [.Name z pz, .Name u pu] kt2 pt2] kt pt] e pos :: rest) D ds k H0 := fun st H S hk e0 fr =>
  wb_cons (wss (ps_asg pe_w (pg_tup hc (pgs_cons (pg_tup hc (pgs_cons (pg_name hN hi hx hfx) (pgs_cons (pg_name hN hj hy hfy) pgs_nil))) (pgs_cons (pg_tup hc (pgs_cons (pg_name hN hl hz hfz) (pgs_cons (pg_name hN hm hu hfu) pgs_nil))) pgs_nil))) hs hw) (h st H _ S hk fun d k1 v H1 hr e1 hk1 h1 => by
    obtain ⟨d1, d2, d3, d4, rfl, hy⟩ := hr
    obtain ⟨a, xs, rfl, hsq, hd⟩ := h1.untup
    match xs, hd with
    | [v1, v2], hd =>
      obtain ⟨a1, ys, rfl, hs1, hd1⟩ := (hd.2 0 _ _ rfl rfl).untup
      obtain ⟨a2, zs, rfl, hs2, hd2⟩ := (hd.2 1 _ _ rfl rfl).untup
      match ys, hd1, zs, hd2 with
      | [u1, u2], hd1, [u3, u4], hd2 =>
        exact ⟨a, _, rfl, hsq, rfl, _, _, rfl, ⟨a1, _, rfl, hs1, rfl, u1, _, rfl, u2, _, rfl, rfl, _, _, rfl, ⟨a2, _, rfl, hs2, rfl, u3, _, rfl, u4, _, rfl, rfl, rfl, hy _ H1 (((((S.kp e1 hk).set (.v (hd1.2 0 _ _ rfl rfl))).set (.v (hd1.2 1 _ _ rfl rfl))).set (.v (hd2.2 0 _ _ rfl rfl))).set (.v (hd2.2 1 _ _ rfl rfl))) hk1 (fr.kp e0 e1) fr⟩⟩⟩))
end
end Wz

set_option Elab.async false
set_option linter.all false
set_option maxRecDepth 100000
set_option maxHeartbeats 4000000
namespace Wz
open PySem PySem.Spec PyProof.Rows L2 Evl RZ
/-! x in t, t a tuple of data -/
def rInDT (K : PySem.W.Frag) : R2 := fun x y H Q => ∃ d ds, Dp K H x d ∧ Dp K H y (.tuple ds) ∧ SeqAt.shaped d = true ∧ SeqAt.shaped (.tuple ds) = true ∧ Q (.bl (ds.any fun z => PyData.eqv z d)) H
theorem op_inDT {X : Cx} (hu : X.A.units + 65 < cLine) : OpR X (compareOp .In) (rInDT X.K) := by
  intro pins s σ H x y v u Q I rx ry h
  obtain ⟨d, ds, hd, he, sd, se, q⟩ := h
  obtain ⟨as, r1⟩ := Dp.reads I d x v hd rx
  obtain ⟨bs, r2⟩ := Dp.reads I (.tuple ds) y u he ry
  exact SeqAt.in_tuple_reads r2 r1 (SeqAt.canLay_of_shaped se) (SeqAt.canLay_of_shaped sd) (room_in_shaped sd hu) ⟨.bl _, H, I, rfl, q⟩
section
variable {X : Cx} {o0 o : Os} {ds : List (Option Dat)} {k k1 k2 : Cs} {e c a b elt e1 e2 e3 : Expr} {es : List Expr} {d : Dat} {as : List Dat} {pos pos' pos2 p p1 p2 p3 : Pos} {rest body orelse : List Stmt} {D : Ends} {H0 : Hp} {R : Dat → Cs → Prop} {RT : Bool → Cs → Prop} {RN : List Dat → Cs → Prop} {x : Str} {scope : Scope} {j : Nat}
theorem c_inDT (hu : X.A.units + 65 < cLine) (h : EvC X o a ds k fun x k1 => EvC X o b ds k1 fun y k2 => onT y fun as => eqOk x (.tup as) ∧ R (.bl ((pd.pds as).any fun z => PyData.eqv z (pd x))) k2) (hm : behindInMarks .In b = false := by rfl) : EvC X o (.Compare a [.In] [b] pos) ds k R := fun st H Q S hk q =>
  we (pe_cmpR (op_inDT hu) pe_w pe_w hm) (h st H _ S hk fun x k1 v H1 hx e1 hk1 h1 => hx st H1 _ (S.kp e1 hk) hk1 fun y k2 w H2 hy e2 hk2 h2 => by
    obtain ⟨as, rfl, ⟨⟨n1, n2⟩, s1, s2⟩, hr⟩ := onT_ex hy
    exact ⟨_, _, ((h1.kp e2 hk1).unc (noR_noC n1)).dp n1, (h2.unc rfl).dp n2, s1, s2, q _ k2 _ H2 hr (e1.trans e2) hk2 (.v (.bl _))⟩)
/-! unpacking a list -/
theorem as_unpL2 {i j : Nat} {x y : Str} {px py pt : Pos} {kt : Nat} (hN : X.N.Nodup) (hc : X.calm = true) (h : EvC X o e ds k fun d k1 => onL k1 d fun as => ∃ d1 d2, as = [d1, d2] ∧ AS X o0 o rest D ((ds.set i (some d1)).set j (some d2)) k1 H0)
    (hi : X.N[i]? = some x := by rfl) (hj : X.N[j]? = some y := by rfl) (hx : Loc X.env.scope x := by exact Or.inl rfl) (hy : Loc X.env.scope y := by exact Or.inl rfl) (hfx : X.fn x = true ∨ X.env.scope.names.lookup x = some .local := by exact .inl rfl) (hfy : X.fn y = true ∨ X.env.scope.names.lookup y = some .local := by exact .inl rfl)
    (hs : swapsWithSole [.Tuple [.Name x px, .Name y py] kt pt] e pos.line X.env = pure false := by rfl) (hw : swappedStores [.Tuple [.Name x px, .Name y py] kt pt] e X.env = pure none := by rfl) :
    AS X o0 o (.Assign [.Tuple [.Name x px, .Name y py] kt pt] e pos :: rest) D ds k H0 := fun st H S hk e0 fr =>
  wb_cons (wss (ps_asg pe_w (pg_unl hc (pgs_cons (pg_name hN hi hx hfx) (pgs_cons (pg_name hN hj hy hfy) pgs_nil))) hs hw) (h st H _ S hk fun d k1 v H1 hr e1 hk1 h1 => by
    obtain ⟨a, xs, as, rfl, hsq, hd, hz⟩ := onL_ex hk1 hr h1
    obtain ⟨d1, d2, rfl, hy⟩ := hz
    match xs, hd with
    | [v1, v2], hd =>
      exact ⟨a, _, rfl, hsq, rfl, v1, _, rfl, v2, _, rfl, rfl, hy _ H1 (((S.kp e1 hk).set (.v (hd.2 0 _ _ rfl rfl))).set (.v (hd.2 1 _ _ rfl rfl))) hk1 (fr.kp e0 e1) fr⟩))
/-! {2: .., 3: .., 5: ..}[i] -/
theorem tm_dk {K : PySem.W.Frag} {H : Hp} {p : Addr} {xs ys : List (Key × V)} (h : H p = some (.dK xs)) : ∀ b zs, SqT K H b zs → SqT K (upd H p (.dK ys)) b zs := fun b zs s => by
  rcases s with s | s
  · rcases s with s | ⟨o, s⟩
    · by_cases e : b = p
      · rw [e, h] at s; cases s
      · exact .inl (.inl (by rw [upd_ne e]; exact s))
    · by_cases e : b = p
      · rw [e, h] at s; cases s
      · exact .inl (.inr ⟨o, by rw [upd_ne e]; exact s⟩)
  · exact .inr s
def pick (d1 d2 d3 : Dat) (i : Int) : Dat := if i = 2 then d1 else if i = 3 then d2 else d3
theorem kv_one (i : Int) (v1 v2 v3 : V) (hi : i = 2 ∨ i = 3 ∨ i = 5) : valV (mergeK ([] : List (Key × V)) [(.inl 2, v1), (.inl 3, v2), (.inl 5, v3)]) (.inl i) = some (if i = 2 then v1 else if i = 3 then v2 else v3) := by
  rcases hi with rfl | rfl | rfl <;> rfl
/-- lists at no place but those that stand -/
theorem DV.dict {K : PySem.W.Frag} {H : Hp} {p : Addr} {v : V} {d : Dat} {xs ys : List (Key × V)} (h : H p = some (.dK xs)) (q : DV K o H v d) : DV K o (upd H p (.dK ys)) v d := by
  induction q with
  | non => exact .non
  | bl b => exact .bl b
  | int i => exact .int i
  | str x => exact .str x
  | tup s l _ ih => exact .tup (tm_dk h _ _ s) l ih
  | lst s l _ ih =>
    refine .lst ?_ l ih
    rcases s with ⟨s | ⟨ob, s⟩, n⟩ | s
    · exact .inl ⟨.inl (by rw [upd_ne (fun e => by rw [e, h] at s; cases s)]; exact s), n⟩
    · exact .inl ⟨.inr ⟨ob, by rw [upd_ne (fun e => by rw [e, h] at s; cases s)]; exact s⟩, n⟩
    · exact .inr s
  | raw v => exact .raw v
  | obj s n m l _ ih => exact .obj (by rw [upd_ne (fun z => by rw [z, h] at s; cases s)]; exact s) n m l ih
theorem c_disp3 {d1 d2 d3 : Dat} {j1 j2 j3 : Nat} (hu : X.A.units + 64 < cLine) (h1 : Ev X o e1 ds k d1 k) (h2 : Ev X o e2 ds k d2 k) (h3 : Ev X o e3 ds k d3 k) (n : noC d1 = true ∧ noC d2 = true ∧ noC d3 = true) (hb : EvC X o b ds k fun y k2 => onI y fun i => (i = 2 ∨ i = 3 ∨ i = 5) ∧ R (pick d1 d2 d3 i) k2) (hs : NoSl b := by exact fun _ _ => rfl) :
    EvC X o (.Subscript (.Dict [some (.Constant (.int 2) j1 p1), some (.Constant (.int 3) j2 p2), some (.Constant (.int 5) j3 p3)] [e1, e2, e3] pos) b pos2) ds k R := fun st H Q S hk q =>
  we (pe_dget (Nat.lt_of_le_of_lt (Nat.add_le_add_left (by decide : 1 ≤ 64) _) hu) (pe_disp (pps_cons pe_int pe_w (pps_cons pe_int pe_w (pps_cons pe_int pe_w pps_nil))) rfl rfl (by simp) (Nat.le_of_ble_eq_true rfl)) pe_w hs) (fun p np => by
    have ne := hk.ne np
    have k0 : Kp o H (upd H p (.dK [])) := Kp.of_ex (Ex.new np)
    have hk0 := hk.ex (Ex.new (o := .dK []) np)
    refine h1 (fun d k' => d = d1 ∧ k' = k) ⟨rfl, rfl⟩ st _ _ (S.kp k0 hk) hk0 fun d1' k1' v1 H1 r1 c1 hk1 g1 => ?_
    obtain ⟨rfl, rfl⟩ := r1
    refine h2 (fun d k' => d = d2 ∧ k' = k1') ⟨rfl, rfl⟩ st H1 _ (S.kp (k0.trans c1) hk) hk1 fun d2' k2' v2 H2 r2 c2 hk2 g2 => ?_
    obtain ⟨rfl, rfl⟩ := r2
    refine h3 (fun d k' => d = d3 ∧ k' = k2') ⟨rfl, rfl⟩ st H2 _ (S.kp ((k0.trans c1).trans c2) hk) hk2 fun d3' k3' v3 H3 r3 c3 hk3 g3 => ?_
    obtain ⟨rfl, rfl⟩ := r3
    have hp : H3 p = some (.dK []) := c3 p _ ne (c2 p _ ne (c1 p _ ne upd_same))
    refine ⟨hp, [(.inl 2, v1), (.inl 3, v2), (.inl 5, v3)], rfl, (by decide : 3 ≤ 15), ?_⟩
    have k3 : Kp o H (upd H3 p (.dK (mergeK [] [(.inl 2, v1), (.inl 3, v2), (.inl 5, v3)]))) := fun bb u nb hbb => by
      rw [upd_ne (ne_of_none hbb np)]
      exact (((k0.trans c1).trans c2).trans c3) bb u nb hbb
    have hk4 : DK X.K o k3' (upd H3 p (.dK (mergeK [] [(.inl 2, v1), (.inl 3, v2), (.inl 5, v3)]))) := by
      refine ⟨hk3.len, hk3.nd, hk3.nl, fun j a as ha hs => ?_⟩
      obtain ⟨xs, hx, hd⟩ := hk3.at_ j a as ha hs
      refine ⟨xs, ?_, ⟨hd.1, fun i v d ga gb => (hd.2 i v d ga gb).dict hp⟩⟩
      rw [upd_ne (fun z => ne (by rw [← z]; exact List.mem_of_getElem? ha))]
      exact hx
    refine hb st _ _ (S.kp k3 hk) hk4 fun y k5 v H5 hr c5 hk5 g5 => ?_
    obtain ⟨i, rfl, hi, hr⟩ := onI_ex hr
    have q5 := g5.unint
    subst q5
    have w1 := (((((g1.unc n.1).kp c2 hk1).kp c3 hk2).dict (ys := mergeK [] [(.inl 2, v1), (.inl 3, v2), (.inl 5, v3)]) hp).kp c5 hk4)
    have w2 := ((((g2.unc n.2.1).kp c3 hk2).dict (ys := mergeK [] [(.inl 2, v1), (.inl 3, v2), (.inl 5, v3)]) hp).kp c5 hk4)
    have w3 := (((g3.unc n.2.2).dict (ys := mergeK [] [(.inl 2, v1), (.inl 3, v2), (.inl 5, v3)]) hp).kp c5 hk4)
    refine ⟨p, _, rfl, .inl ⟨_, .inl i, .inl (c5 p _ ne upd_same), rfl, (kv_one i v1 v2 v3 hi).symm⟩, q _ k5 _ H5 hr (k3.trans c5) hk5 (.v ?_)⟩
    unfold pick
    split
    · exact w1
    · split
      · exact w2
      · exact w3)
theorem c_disp3I {i1 i2 i3 : Int} {j1 j2 j3 : Nat} (hu : X.A.units + 64 < cLine) (h1 : Ev X o e1 ds k (.int i1) k) (h2 : Ev X o e2 ds k (.int i2) k) (h3 : Ev X o e3 ds k (.int i3) k) (hb : EvC X o b ds k fun y k2 => onI y fun i => (i = 2 ∨ i = 3 ∨ i = 5) ∧ R (.int (if i = 2 then i1 else if i = 3 then i2 else i3)) k2) (hs : NoSl b := by exact fun _ _ => rfl) :
    EvC X o (.Subscript (.Dict [some (.Constant (.int 2) j1 p1), some (.Constant (.int 3) j2 p2), some (.Constant (.int 5) j3 p3)] [e1, e2, e3] pos) b pos2) ds k R :=
  c_disp3 hu h1 h2 h3 ⟨rfl, rfl, rfl⟩ (hb.mono fun y k2 hy => by
    obtain ⟨i, rfl, hi, hr⟩ := onI_ex hy
    refine ⟨hi, ?_⟩
    have e : pick (.int i1) (.int i2) (.int i3) i = .int (if i = 2 then i1 else if i = 3 then i2 else i3) := by
      unfold pick
      split
      · rfl
      · split <;> rfl
    rw [e]
    exact hr) hs
/-! [elt for x, y in zip(t, u)] -/
structure LcZ (X : Cx) (o : Os) (scope : Scope) (elt : Expr) (ds : List (Option Dat)) (i j : Nat) (as bs : List Dat) (W : Nat → List Dat → Cs → Prop) : Prop where
  turn : ∀ s H C cl fp l d1 d2 acc q, as[l]? = some d1 → bs[l]? = some d2 → W l acc q → EvC (BX X scope s H C cl fp) o elt ((ds.set i (some d1)).set j (some d2)) q fun y q' => noL y = true ∧ W (l + 1) (acc ++ [y]) q'
theorem walk_zipT {K : PySem.W.Frag} {a b : Addr} {xs ys : List V} {n : Nat} (hn : n = min xs.length ys.length) : Walk (ItzT K a b) n (fun H => SqT K H a xs ∧ SqT K H b ys) (YPair (fun i => xs[i]?) (fun i => ys[i]?)) := by
  subst hn
  refine ⟨fun i _ hi q => ?_, fun _ q => ⟨xs, ys, q.1, q.2, by omega⟩, fun i H v H' _ q y => ?_⟩
  · have h1 : i < xs.length := by omega
    have h2 : i < ys.length := by omega
    exact ⟨xs, ys, xs[i], ys[i], q.1, q.2, by simp [h1], by simp [h2]⟩
  · obtain ⟨T, x, z, h1, h2, h3, h4, h5⟩ := y
    exact ⟨T, x, z, h1, h2, h3, h4 xs q.1, h5 ys q.2⟩
/-! all([..]) -/
theorem bls_of {K : PySem.W.Frag} {H : Hp} {xs : List V} {bs : List Bool} (hd : DVs K o H xs (bs.map Dat.bl)) : xs = bs.map V.bl := by
  refine List.ext_getElem? fun j => ?_
  by_cases hj : j < xs.length
  · have hj2 : j < bs.length := by rw [hd.1, List.length_map] at hj; exact hj
    have q1 : (bs.map Dat.bl)[j]? = some (.bl bs[j]) := by rw [List.getElem?_map, List.getElem?_eq_getElem hj2]; rfl
    have q2 := hd.2 j _ _ (List.getElem?_eq_getElem hj) q1
    rw [List.getElem?_eq_getElem hj, List.getElem?_map, List.getElem?_eq_getElem hj2]
    generalize xs[j] = vv at q2
    cases q2
    rfl
  · have hj2 : ¬ j < bs.length := by rw [hd.1, List.length_map] at hj; exact hj
    rw [List.getElem?_eq_none (by omega), List.getElem?_eq_none (by rw [List.length_map]; omega)]
theorem c_all (hc : X.calm = true) (hm : X.mg "all" = none) (h : EvA X o [e] ds k fun as k1 => on1 as fun d => onL k1 d fun xs => ∃ bs : List Bool, xs = bs.map Dat.bl ∧ R (.bl (bs.all id)) k1) (hg : Gl X "all" := by rfl) (he : starEach [e] X.env = (false, eval e X.env) :: starEach [] X.env := by rfl) : EvC X o (.Call (.Name "all" p) [e] [] pos) ds k R :=
  c_bif (cr_all hc) hm (by decide +kernel) (h.mono fun as k1 ha vs H Q h1 hk q => by
    obtain ⟨d, rfl, ha⟩ := on1_ex ha
    obtain ⟨v, rfl, g1⟩ := dts1 h1
    obtain ⟨p, ys, xs, rfl, hs, hl, bs, rfl, ha⟩ := onL_ex hk ha g1
    have e := bls_of hl
    subst e
    exact ⟨p, bs, rfl, hs, q _ _ H ha (Ex.refl _) (.v (.bl _))⟩) hg (by decide) (by decide) he
theorem wipe2 {st : L2.St} {i j : Nat} {a b : V} (h : i ≠ j) : ((wipe st [i, j]).set i (some a)).set j (some b) = (st.set i (some a)).set j (some b) := by
  show ((((st.set j none).set i none).set i (some a)).set j (some b)) = _
  rw [List.set_set]
  have e : (st.set j none).set i (some a) = (st.set i (some a)).set j none := List.set_comm _ _ (Ne.symm h)
  rw [e, List.set_set]
theorem wipe2_back {st : L2.St} {i j : Nat} {a b : V} (h : i ≠ j) : wipe ((st.set i (some a)).set j (some b)) [i, j] = wipe st [i, j] := by
  show ((((st.set i (some a)).set j (some b)).set j none).set i none) = (st.set j none).set i none
  rw [List.set_set]
  have e : (st.set i (some a)).set j none = (st.set j none).set i (some a) := List.set_comm _ _ h
  rw [e, List.set_set]
theorem lc_turnZ {as bs : List Dat} {i j l : Nat} {W : Nat → List Dat → Cs → Prop} {H1 H' : Hp} {Dr T : Addr} {st : L2.St} {y1 y2 : V} {d1 d2 : Dat} {N2 : List Str} (hij : i ≠ j) (n1 : H1 Dr = none) (hk1 : DK X.K o k1 H1) (S1 : Sat X.K o st H1 ds) (L : LcZ X o scope elt ds i j as bs W) (hn : l < 10000) (ha : as[l]? = some d1) (hb : bs[l]? = some d2) (hy1 : DV X.K o H1 y1 d1) (hy2 : DV X.K o H1 y2 d2) (w : CvI X.K o H1 Dr W l H') (nT : H' T = none) :
    gTup X.K 2 (gCons (gName i) (gCons (gName j) gNil)) (.ref T) (wipe st [i, j]) (upd H' T (.tup [y1, y2])) fun σ2 H2 => wipe σ2 [i, j] = wipe st [i, j] ∧ tYes σ2 H2 fun b H3 => if b = true then bE X scope elt σ2 H3 fun y H4 => ∃ acc, H4 Dr = some (.lst acc) ∧ acc.length < sizeLine ∧ CvI X.K o H1 Dr W (l + 1) (upd H4 Dr (.lst (acc ++ [y]))) else CvI X.K o H1 Dr W (l + 1) H3 := by
  obtain ⟨w1, q, acc, vs, hW, hk', hD, hv, na, hl⟩ := w
  have eT : Ex H' (upd H' T (.tup [y1, y2])) := Ex.new nT
  have w2 : Kp o H1 (upd H' T (.tup [y1, y2])) := w1.trans (Kp.of_ex eT)
  have hk2 := hk'.ex eT
  have S2 : Sat X.K o ((st.set i (some y1)).set j (some y2)) (upd H' T (.tup [y1, y2])) ((ds.set i (some d1)).set j (some d2)) := ((S1.kp w2 hk1).set (.v (hy1.kp w2 hk1))).set (.v (hy2.kp w2 hk1))
  refine ⟨T, [y1, y2], rfl, .inl (.inl upd_same), rfl, y1, [y2], rfl, y2, [], rfl, rfl, ?_⟩
  rw [wipe2 hij]
  refine ⟨wipe2_back hij, ?_⟩
  simp only [tYes, if_true]
  exact fun s0 H0 C cl fp => L.turn s0 H0 C cl fp l d1 d2 acc q ha hb hW _ _ _ S2 hk2 fun z q' u H4 hr e4 hk4 hu => cv_step n1 hk1 hn w2 hk2 (eT _ _ hD) (hv.kp (Kp.of_ex eT) hk') na hl e4 hk4 hu hr.1 hr.2
/-- two tuples, or two lists that are no cells, of one length -/
theorem n_lcZ {y : Str} {i j : Nat} {p4 p5 : Pos} {kk : Nat} (hij : i ≠ j) (hcalm : X.calm = true) (hN : X.N.Nodup) (hm : X.mg "zip" = none) (hok : BlkOk X.N X.env.scope scope [(x, i), (y, j)])
    (hgn : ∀ s H C cl fp, PG (BX X scope s H C cl fp) (.Tuple [.Name x p1, .Name y p2] kk p3) (gTup X.K 2 (gCons (gName i) (gCons (gName j) gNil))))
    (h : EvA X o [a, b] ds k fun as k1 => on2 as fun d1 d2 => ∃ as bs, (d1 = .tup as ∧ d2 = .tup bs ∨ d1 = .lst as ∧ d2 = .lst bs) ∧ as.length = bs.length ∧ as.length ≤ 10000 ∧ ∃ W, W 0 [] k1 ∧ LcZ X o scope elt ds i j as bs W ∧ ∀ acc q, W as.length acc q → acc.all noL = true → RN acc q) (hg : Gl X "zip" := by rfl)
    (hs : starEach [a, b] X.env = (false, eval a X.env) :: starEach [b] X.env := by rfl) (hpl : (backTo p5 (starEach [b] X.env)).any (·.1) = false := by rfl)
    (hset : ∀ y, foldedSetIterable (.Call (.Name "zip" p4) [a, b] [] p5) X.env y = pure y := by intro _; rfl) :
    EvN X o (.ListComp elt [⟨.Tuple [.Name x p1, .Name y p2] kk p3, .Call (.Name "zip" p4) [a, b] [] p5, [], 0⟩] scope pos) ds k RN := fun st H Q S hk q =>
  we (pe_lc (own := [(x, i), (y, j)]) (g := gTup X.K 2 (gCons (gName i) (gCons (gName j) gNil))) (tt := tYes) (te := bE X scope elt) hcalm hN (pi_zipA hg hm pa_w hs hpl) hok hgn
    (fun s0 H0 C cl fp => pts_nil) (fun s0 H0 C cl fp => ⟨fun pins s st H Q I h => h s0 H0 C cl fp pins s I⟩) hset) (h st H _ S hk fun as0 k1 vs H1 hr e1 hk1 h1 => by
    obtain ⟨d1, d2, rfl, as, bs, hd12, hl, hn, W, h0, L, hd⟩ := on2_ex hr
    obtain ⟨v1, v2, rfl, g1, g2⟩ := dts2 h1
    have fin : ∀ (Dr : Addr) (nD : H1 Dr = none) (H' : Hp), CvI X.K o H1 Dr W as.length H' → Q (.ref Dr) H' := fun Dr nD H' w => by
      obtain ⟨w1, q', acc, vs, hW, hk', hD, hv, na, hl⟩ := w
      exact q acc q' Dr vs H' (hd acc q' hW na) (fresh_back e1 hk1 nD) (e1.trans w1) hk' hD hv
    rcases hd12 with ⟨rfl, rfl⟩ | ⟨rfl, rfl⟩
    · obtain ⟨t, xs, rfl, hs, hdv⟩ := g1.untup
      obtain ⟨t2, ys, rfl, hs2, hdv2⟩ := g2.untup
      refine ⟨t, t2, xs, ys, rfl, .inr ⟨hs, hs2, fun Dr nD => ?_⟩⟩
      refine lc_it (walk_zipT (xs := xs) (ys := ys) (n := as.length) (by rw [hdv.1, hdv2.1, ← hl]; omega)) (g := gTup X.K 2 (gCons (gName i) (gCons (gName j) gNil))) (tt := tYes) (te := bE X scope elt) (vs := [i, j]) (σ := st) (Qd := fun H' => Q (.ref Dr) H') (CvI X.K o H1 Dr W) (cv_start nD hk1 h0) (fun l H' _ w => ⟨kp_t w.1 hk1 hs, kp_t w.1 hk1 hs2⟩) (fun l v H' H'' hi w yy => ?_) (fin Dr nD)
      obtain ⟨T, y1, y2, rfl, nT, rfl, hy1, hy2⟩ := yy
      have hda : as[l]? = some as[l] := List.getElem?_eq_getElem hi
      have hdb : bs[l]? = some (bs[l]'(by omega)) := List.getElem?_eq_getElem _
      exact lc_turnZ (N2 := []) hij nD hk1 (S.kp e1 hk) L (by omega) hda hdb (hdv.2 l y1 _ hy1 hda) (hdv2.2 l y2 _ hy2 hdb) w nT
    · obtain ⟨t, xs, rfl, hs, hdv⟩ := g1.unlst
      obtain ⟨t2, ys, rfl, hs2, hdv2⟩ := g2.unlst
      refine ⟨t, t2, xs, ys, rfl, .inl ⟨hs.sq, hs2.sq, fun Dr nD => ?_⟩⟩
      refine lc_it (walk_zip (xs := xs) (ys := ys) (n := as.length) (by rw [hdv.1, hdv2.1, ← hl]; omega)) (g := gTup X.K 2 (gCons (gName i) (gCons (gName j) gNil))) (tt := tYes) (te := bE X scope elt) (vs := [i, j]) (σ := st) (Qd := fun H' => Q (.ref Dr) H') (CvI X.K o H1 Dr W) (cv_start nD hk1 h0) (fun l H' _ w => ⟨(hs.kp w.1 fun _ z => z).sq, (hs2.kp w.1 fun _ z => z).sq⟩) (fun l v H' H'' hi w yy => ?_) (fin Dr nD)
      obtain ⟨T, y1, y2, rfl, nT, rfl, hy1, hy2⟩ := yy
      have hda : as[l]? = some as[l] := List.getElem?_eq_getElem hi
      have hdb : bs[l]? = some (bs[l]'(by omega)) := List.getElem?_eq_getElem _
      exact lc_turnZ (N2 := []) hij nD hk1 (S.kp e1 hk) L (by omega) hda hdb (hdv.2 l y1 _ hy1 hda) (hdv2.2 l y2 _ hy2 hdb) w nT)
end
end Wz

set_option Elab.async false
set_option linter.all false
set_option maxRecDepth 100000
set_option maxHeartbeats 4000000
namespace Wz
open PySem PySem.Spec PyProof.Rows L2 Evl RZ
/-! ### sizes of ints -/
def Bd (n : Nat) (i : Int) : Prop := i.natAbs < 2 ^ n
theorem Bd.mono {n m : Nat} {i : Int} (h : Bd n i) (l : n ≤ m) : Bd m i := Nat.lt_of_lt_of_le h (Nat.pow_le_pow_right (by decide) l)
theorem Bd.mul {n m : Nat} {i j : Int} (h : Bd n i) (g : Bd m j) : Bd (n + m) (i * j) := wide_lt h g
theorem pow2_le {n m : Nat} (h : n ≤ m) : 2 ^ n ≤ 2 ^ m := Nat.pow_le_pow_right (by decide) h
theorem Bd.add {n m : Nat} {i j : Int} (h : Bd n i) (g : Bd m j) : Bd (max n m + 1) (i + j) := by
  have h1 : i.natAbs < 2 ^ n := h
  have h2 : j.natAbs < 2 ^ m := g
  have q1 := pow2_le (n := n) (m := max n m) (Nat.le_max_left _ _)
  have q2 := pow2_le (n := m) (m := max n m) (Nat.le_max_right _ _)
  have q3 : 2 ^ (max n m + 1) = 2 * 2 ^ (max n m) := by rw [Nat.pow_succ]; omega
  show (i + j).natAbs < _
  rw [q3]
  omega
theorem Bd.neg {n : Nat} {i : Int} (h : Bd n i) : Bd n (-i) := by
  show (-i).natAbs < _
  rw [Int.natAbs_neg]
  exact h
theorem Bd.sub {n m : Nat} {i j : Int} (h : Bd n i) (g : Bd m j) : Bd (max n m + 1) (i - j) := by
  rw [Int.sub_eq_add_neg]
  exact h.add g.neg
theorem Bd.z : Bd 0 0 := (by decide : (0 : Int).natAbs < 2 ^ 0)
theorem Bd.of (i : Int) : Bd (i.natAbs.log2 + 1) i := Nat.lt_log2_self
theorem Bd.pow {n : Nat} {i : Int} (h : Bd n i) (m : Nat) : Bd (n * m + 1) (i ^ m) := by
  induction m with
  | zero =>
    rw [Int.pow_zero, Nat.mul_zero]
    exact (by decide : (1 : Int).natAbs < 2 ^ (0 + 1))
  | succ m ih =>
    rw [Int.pow_succ]
    exact (ih.mul h).mono (by rw [Nat.mul_succ]; omega)
theorem Bd.ite {n m : Nat} {i j : Int} {c : Prop} [Decidable c] (h : Bd n i) (g : Bd m j) : Bd (max n m) (if c then i else j) := by
  split
  · exact h.mono (Nat.le_max_left _ _)
  · exact g.mono (Nat.le_max_right _ _)
theorem Bd.rng {n : Nat} {i : Int} (h1 : -(2 ^ n : Int) < i) (h2 : i < 2 ^ n) : Bd n i := by
  show i.natAbs < 2 ^ n
  have e : ((2 ^ n : Nat) : Int) = (2 : Int) ^ n := by simp
  omega
theorem cm {n m : Nat} {i j : Int} (h : Bd n i) (g : Bd m j) (l : n + m + 2 ≤ 1000000) : CMulW i j := wide_mul (h.mono (Nat.le_succ n)) (g.mono (Nat.le_succ m)) (Nat.succ_pos _) (Nat.succ_pos _) (by omega)
theorem cdx {n : Nat} {i j : Int} (h0 : j ≠ 0) (h : Bd n j) (l : n + 1 ≤ 9000) : CDivX i j := ⟨h0, Nat.lt_of_lt_of_le (PySem.Flt.log2_lt_of (Nat.succ_pos n) (h.mono (Nat.le_succ n))) l⟩
theorem cdw {n : Nat} {i j : Int} (h0 : 0 < j) (h : Bd n j) (l : n + 1 ≤ 9000) : CDivW i j := ⟨h0, Nat.lt_of_lt_of_le (PySem.Flt.log2_lt_of (Nat.succ_pos n) (h.mono (Nat.le_succ n))) l⟩
def CPowW (i j : Int) : Prop := 0 ≤ j ∧ (PySem.Builtin.Int.intBits i : Int) * j ≤ 2 ^ 27
theorem cpw {n : Nat} {i j : Int} (h0 : 0 ≤ j) (h : Bd n i) (l : ((n + 2 : Nat) : Int) * j ≤ 2 ^ 27) : CPowW i j := by
  refine ⟨h0, Int.le_trans (Int.mul_le_mul_of_nonneg_right (Int.ofNat_le.mpr ?_) h0) l⟩
  have h1 : i.natAbs.log2 < n + 1 := PySem.Flt.log2_lt_of (Nat.succ_pos n) (h.mono (Nat.le_succ n))
  unfold PySem.Builtin.Int.intBits
  split <;> omega
section
variable {X : Cx} {o0 o : Os} {ds : List (Option Dat)} {k k1 k2 : Cs} {e c a b elt e1 e2 e3 : Expr} {es : List Expr} {d : Dat} {as : List Dat} {pos pos' pos2 p p1 p2 p3 : Pos} {rest body orelse : List Stmt} {D : Ends} {H0 : Hp} {R : Dat → Cs → Prop} {RT : Bool → Cs → Prop} {RN : List Dat → Cs → Prop} {x : Str} {scope : Scope} {j : Nat}
@[reducible] def onO (x : Option Dat) (C : Dat → Prop) : Prop := match x with | some d => C d | none => False
theorem onO_ex {x : Option Dat} {C : Dat → Prop} (h : onO x C) : ∃ d, x = some d ∧ C d := by
  cases x with
  | none => exact h.elim
  | some d => exact ⟨d, rfl, h⟩
theorem op_powW : OpR X (binaryOp .Pow) (rI CPowW fun i j => .int (i ^ j.toNat)) := opI fun _ _ _ _ _ _ _ hc q => pow_int hc.1 hc.2 q
theorem c_powW (h : EvC X o a ds k fun x k1 => EvC X o b ds k1 fun y k2 => onI x fun i => onI y fun j => CPowW i j ∧ R (.int (i ^ j.toNat)) k2) : EvC X o (.BinOp a .Pow b pos) ds k R := c_opI op_powW (fun _ _ _ => .v (.int _)) h
/-- one factor is small -/
theorem c_mulS (h : EvC X o a ds k fun x k1 => EvC X o b ds k1 fun y k2 => onI x fun i => onI y fun j => CMul i j ∧ R (.int (i * j)) k2) : EvC X o (.BinOp a .Mult b pos) ds k R := c_opI op_mul (fun _ _ _ => .v (.int _)) h
/-- a test that is a call's answer -/
theorem t_valB (h : EvC X o e ds k fun x k1 => onB x fun z => (z = true → RT true k1) ∧ (z = false → RT false k1)) (he : ∀ whole, isTrue e X.env whole = (do let v ← whole; standAt e.pos; holding [v] (truthy v)) := by intro _; rfl) : EvT X o e ds k RT :=
  t_val (h.mono fun x k1 hx => by
    obtain ⟨z, rfl, hx⟩ := onB_ex hx
    cases z with
    | true => exact hx.1 rfl
    | false => exact hx.2 rfl) he
theorem c_andB {rest : List Expr} (h : EvC X o a ds k fun x k1 => onB x fun z => (z = true → EvC X o (.BoolOp .And (b :: rest) pos) ds k1 R) ∧ (z = false → R (.bl false) k1)) : EvC X o (.BoolOp .And (a :: b :: rest) pos) ds k R :=
  c_and (h.mono fun x k1 hx => by
    obtain ⟨z, rfl, hx⟩ := onB_ex hx
    cases z with
    | true => exact hx.1 rfl
    | false => exact hx.2 rfl)
theorem c_orB {rest : List Expr} (h : EvC X o a ds k fun x k1 => onB x fun z => (z = false → EvC X o (.BoolOp .Or (b :: rest) pos) ds k1 R) ∧ (z = true → R (.bl true) k1)) : EvC X o (.BoolOp .Or (a :: b :: rest) pos) ds k R :=
  c_or (h.mono fun x k1 hx => by
    obtain ⟨z, rfl, hx⟩ := onB_ex hx
    cases z with
    | true => exact hx.2 rfl
    | false => exact hx.1 rfl)
/-- t[i], xs[i] at a place that is written -/
theorem c_ixTn (h : EvC X o a ds k fun x k1 => EvC X o b ds k1 fun y k2 => onT x fun as => onI y fun i => onO as[i.toNat]? fun d => 0 ≤ i ∧ R d k2) (hp : PlainIx b := by exact fun _ _ => rfl) : EvC X o (.Subscript a b pos) ds k R :=
  c_ixT (h.mono fun x k1 hx => hx.mono fun y k2 hy => by
    obtain ⟨as, rfl, hz⟩ := onT_ex hy
    obtain ⟨i, rfl, hz⟩ := onI_ex hz
    obtain ⟨d, hd, hz⟩ := onO_ex hz
    exact ⟨i.toNat, d, by omega, hd, hz.2⟩) hp
theorem c_ixLn (h : EvC X o a ds k fun x k1 => EvC X o b ds k1 fun y k2 => onL k2 x fun as => onI y fun i => onO as[i.toNat]? fun d => 0 ≤ i ∧ R d k2) (hp : PlainIx b := by exact fun _ _ => rfl) : EvC X o (.Subscript a b pos) ds k R :=
  c_ixL (h.mono fun x k1 hx => hx.mono fun y k2 hy => by
    have key : ∀ as, (onI y fun i => onO as[i.toNat]? fun d => 0 ≤ i ∧ R d k2) → onI y fun i => onAt as i fun d => R d k2 := fun as hz => by
      obtain ⟨i, rfl, hz⟩ := onI_ex hz
      obtain ⟨d, hd, hz⟩ := onO_ex hz
      exact ⟨i.toNat, d, by omega, hd, hz.2⟩
    cases x with
    | lst as => exact key as hy
    | cel i =>
      cases hi : k2[i]? with
      | none => simp only [onL, hi] at hy
      | some as =>
        simp only [onL, hi] at hy ⊢
        exact key as hy
    | _ => exact hy.elim) hp
/-- x = [.. for ..]: a new cell -/
theorem as_asgLc {i : Nat} {y : Str} {py : Pos} {tg iter : Expr} {ifs : List Expr} {spos : Pos} (hN : X.N.Nodup) : True := trivial
end
end Wz

set_option Elab.async false
set_option linter.all false
set_option maxRecDepth 100000
set_option maxHeartbeats 4000000
namespace Wz
open PySem PySem.Spec PyProof.Rows L2 Evl RZ
section
variable {X : Cx} {o0 o : Os} {ds : List (Option Dat)} {k k1 k2 : Cs} {e c a b elt e1 e2 e3 : Expr} {es : List Expr} {d : Dat} {as : List Dat} {pos pos' pos2 p p1 p2 p3 : Pos} {rest body orelse : List Stmt} {D : Ends} {H0 : Hp} {R : Dat → Cs → Prop} {RT : Bool → Cs → Prop} {RN : List Dat → Cs → Prop} {x : Str} {scope : Scope} {j : Nat}
theorem as_unp4 {i j l m : Nat} {x y z u : Str} {px py pz pu pt : Pos} {kt : Nat} (hN : X.N.Nodup) (hc : X.calm = true) (h : EvC X o e ds k fun d k1 => onT d fun as => ∃ d1 d2 d3 d4, as = [d1, d2, d3, d4] ∧ AS X o0 o rest D ((((ds.set i (some d1)).set j (some d2)).set l (some d3)).set m (some d4)) k1 H0)
    (hi : X.N[i]? = some x := by rfl) (hj : X.N[j]? = some y := by rfl) (hl : X.N[l]? = some z := by rfl) (hm : X.N[m]? = some u := by rfl) (hx : Loc X.env.scope x := by exact Or.inl rfl) (hy : Loc X.env.scope y := by exact Or.inl rfl) (hz : Loc X.env.scope z := by exact Or.inl rfl) (hu : Loc X.env.scope u := by exact Or.inl rfl)
    (hfx : X.fn x = true ∨ X.env.scope.names.lookup x = some .local := by exact .inl rfl) (hfy : X.fn y = true ∨ X.env.scope.names.lookup y = some .local := by exact .inl rfl) (hfz : X.fn z = true ∨ X.env.scope.names.lookup z = some .local := by exact .inl rfl) (hfu : X.fn u = true ∨ X.env.scope.names.lookup u = some .local := by exact .inl rfl)
    (hs : swapsWithSole [.Tuple [.Name x px, .Name y py, .Name z pz, .Name u pu] kt pt] e pos.line X.env = pure false := by rfl) (hw : swappedStores [.Tuple [.Name x px, .Name y py, .Name z pz, .Name u pu] kt pt] e X.env = pure none := by rfl) :
    AS X o0 o (.Assign [.Tuple [.Name x px, .Name y py, .Name z pz, .Name u pu] kt pt] e pos :: rest) D ds k H0 := fun st H S hk e0 fr =>
  wb_cons (wss (ps_asg pe_w (pg_tup hc (pgs_cons (pg_name hN hi hx hfx) (pgs_cons (pg_name hN hj hy hfy) (pgs_cons (pg_name hN hl hz hfz) (pgs_cons (pg_name hN hm hu hfu) pgs_nil))))) hs hw) (h st H _ S hk fun d k1 v H1 hr e1 hk1 h1 => by
    obtain ⟨as, rfl, hz⟩ := onT_ex hr
    obtain ⟨d1, d2, d3, d4, rfl, hy⟩ := hz
    obtain ⟨a, xs, rfl, hsq, hd⟩ := h1.untup
    match xs, hd with
    | [v1, v2, v3, v4], hd =>
      exact ⟨a, _, rfl, hsq, rfl, v1, _, rfl, v2, _, rfl, v3, _, rfl, v4, _, rfl, rfl, hy _ H1 (((((S.kp e1 hk).set (.v (hd.2 0 _ _ rfl rfl))).set (.v (hd.2 1 _ _ rfl rfl))).set (.v (hd.2 2 _ _ rfl rfl))).set (.v (hd.2 3 _ _ rfl rfl))) hk1 (fr.kp e0 e1) fr⟩))
end
end Wz

set_option Elab.async false
set_option linter.all false
set_option maxRecDepth 100000
set_option maxHeartbeats 4000000
/-! Lz11: math.gcd of three, math.isqrt, list * int, a comprehension over a range with an if, a module's dict of triples. -/
namespace Wz
open PySem PySem.Spec PyProof.Rows L2 Evl
@[reducible] def on3 (as : List Dat) (C : Dat → Dat → Dat → Prop) : Prop := match as with | [d, e, f] => C d e f | _ => False
theorem on3_ex {as : List Dat} {C : Dat → Dat → Dat → Prop} (h : on3 as C) : ∃ d e f, as = [d, e, f] ∧ C d e f := by
  match as, h with
  | [d, e, f], h => exact ⟨d, e, f, rfl, h⟩
def rtI (z : Int) : Int := ((PySem.Float64.isqrt z.toNat : Nat) : Int)
theorem rtI_ok {z : Int} (h : 0 ≤ z) : 0 ≤ rtI z ∧ rtI z * rtI z ≤ z ∧ z < (rtI z + 1) * (rtI z + 1) := by
  have q := PySem.Float64.isqrt_spec z.toNat
  have e : ((z.toNat : Nat) : Int) = z := Int.toNat_of_nonneg h
  refine ⟨Int.natCast_nonneg _, ?_, ?_⟩
  · have := Int.ofNat_le.mpr q.1
    rw [Int.natCast_mul, e] at this
    exact this
  · have := Int.ofNat_lt.mpr q.2
    rw [Int.natCast_mul, Int.natCast_add, e] at this
    exact this
section
variable {X : Cx} {o0 o : Os} {ds : List (Option Dat)} {k k1 k2 : Cs} {e c a b elt e1 e2 e3 : Expr} {es : List Expr} {d : Dat} {as : List Dat} {pos pos' pos2 p p1 p2 p3 : Pos} {rest body orelse : List Stmt} {D : Ends} {H0 : Hp} {R : Dat → Cs → Prop} {RT : Bool → Cs → Prop} {RN : List Dat → Cs → Prop} {x : Str} {scope : Scope} {j : Nat}
theorem args_gcd3 (a b c : Value) : argsOk "math.gcd" ⟨[a, b, c], []⟩ := by unfold argsOk; kernel_rfl
theorem run_gcd3 (a : Int) (t : Tok) (b : Int) (u : Tok) (c : Int) (v : Tok) :
    Gives (Builtin.«math.gcd» ⟨[.int a t, .int b u, .int c v], []⟩) (.int (((((Nat.gcd 0 a.natAbs).gcd b.natAbs).gcd c.natAbs : Nat) : Int))) :=
  .of_wp fun M A E s Q h => by obtain ⟨hp, g, d, tk, os⟩ := s; wp_walk; exact ⟨_, rfl, h⟩
theorem t_neDB (hu : X.A.units + 64 < cLine) (h : EvC X o a ds k fun x k1 => EvC X o b ds k1 fun y k2 => eqOk x y ∧ ((!PyData.eqv (pd x) (pd y)) = true → RT true k2) ∧ ((!PyData.eqv (pd x) (pd y)) = false → RT false k2)) : EvT X o (.Compare a [.NotEq] [b] pos) ds k RT :=
  t_neD hu (h.mono fun x k1 hx => hx.mono fun y k2 ⟨ok, h1, h2⟩ => ⟨ok, by
    cases e : (!PyData.eqv (pd x) (pd y)) with
    | true => exact h1 e
    | false => exact h2 e⟩)
theorem t_eqDB (hu : X.A.units + 64 < cLine) (h : EvC X o a ds k fun x k1 => EvC X o b ds k1 fun y k2 => eqOk x y ∧ (PyData.eqv (pd x) (pd y) = true → RT true k2) ∧ (PyData.eqv (pd x) (pd y) = false → RT false k2)) : EvT X o (.Compare a [.Eq] [b] pos) ds k RT :=
  t_eqD hu (h.mono fun x k1 hx => hx.mono fun y k2 ⟨ok, h1, h2⟩ => ⟨ok, by
    cases e : PyData.eqv (pd x) (pd y) with
    | true => exact h1 e
    | false => exact h2 e⟩)
def rGcd3 : List V → Hp → VK → Prop := fun vs H Q => ∃ a b c : Int, vs = [.int a, .int b, .int c] ∧ Q (.int (((a.natAbs.gcd b.natAbs).gcd c.natAbs : Nat) : Int)) H
theorem cr_gcd3 : CallR X (.builtin "math.gcd") rGcd3 := by
  intro pins s σ H vs us Q I r h
  obtain ⟨a, b, c, rfl, q⟩ := h
  cases r with
  | cons r1 r =>
    cases r with
    | cons r2 r =>
      cases r with
      | cons r3 r =>
        cases r
        obtain ⟨t1, rfl⟩ := r1
        obtain ⟨t2, rfl⟩ := r2
        obtain ⟨t3, rfl⟩ := r3
        have g := run_gcd3 a t1 b t2 c t3
        rw [Nat.gcd_zero_left] at g
        exact call_function_meets PySem.W.MGF.kind_gcd PySem.W.MGF.plain_gcd PySem.W.MGF.entry_gcd (args_gcd3 _ _ _) g.meets ⟨.int _, H, I.tok _, ⟨_, rfl⟩, q⟩
theorem c_gcd3 (hm : X.mg x = some (.builtin "math.gcd")) (h : EvA X o [e1, e2, e3] ds k fun as k1 => on3 as fun d1 d2 d3 => onI d1 fun a => onI d2 fun b => onI d3 fun c => R (.int (((a.natAbs.gcd b.natAbs).gcd c.natAbs : Nat) : Int)) k1) (hg : Gl X x := by rfl) (hdb : (x == ("__debug__" : Str)) = false := by decide)
    (he : starEach [e1, e2, e3] X.env = (false, eval e1 X.env) :: starEach [e2, e3] X.env := by rfl) (hpl : (backTo pos (starEach [e2, e3] X.env)).any (·.1) = false := by rfl) : EvC X o (.Call (.Name x p) [e1, e2, e3] [] pos) ds k R := fun st H Q St hk q =>
  we (pe_callBfun cr_gcd3 hg hm pa_w hdb he hpl) (h st H _ St hk fun as k1 vs H1 hr ex hk1 h1 => by
    obtain ⟨d1, d2, d3, rfl, hr⟩ := on3_ex hr
    obtain ⟨a, rfl, hr⟩ := onI_ex hr
    obtain ⟨b, rfl, hr⟩ := onI_ex hr
    obtain ⟨c, rfl, hr⟩ := onI_ex hr
    obtain ⟨v1, v2, v3, rfl, g1, g2, g3⟩ := dts3 h1
    have q1 := g1.unint
    have q2 := g2.unint
    have q3 := g3.unint
    subst q1 q2 q3
    exact ⟨a, b, c, rfl, q _ k1 _ H1 hr ex hk1 (.v (.int _))⟩)
def rIsq : List V → Hp → VK → Prop := fun vs H Q => ∃ a : Int, vs = [.int a] ∧ 0 ≤ a ∧ a.natAbs < 2 ^ 12000 ∧ Q (.int (rtI a)) H
theorem cr_isq : CallR X (.builtin "math.isqrt") rIsq := by
  intro pins s σ H vs us Q I r h
  obtain ⟨a, rfl, h0, hb, q⟩ := h
  cases r with
  | cons r1 r =>
    cases r
    obtain ⟨t1, rfl⟩ := r1
    have hl : a.toNat.log2 < 12000 := by
      by_cases z : a.toNat = 0
      · rw [z, Nat.log2_zero]; decide
      · rw [Nat.log2_lt z]
        have : a.toNat = a.natAbs := by omega
        rw [this]
        exact hb
    exact call_function_meets PySem.W.MGF.kind_isqrt PySem.W.MGF.plain_isqrt PySem.W.MGF.entry_isqrt (PySem.W.MGF.args_isqrt _) (PySem.W.mg_run_isqrt a t1 (by omega) (by omega) (by omega)).meets ⟨.int _, H, I.tok _, ⟨_, rfl⟩, q⟩
theorem c_isq (hm : X.mg x = some (.builtin "math.isqrt")) (h : EvA X o [e1] ds k fun as k1 => on1 as fun d => onI d fun a => (0 ≤ a ∧ Bd 12000 a) ∧ R (.int (rtI a)) k1) (hg : Gl X x := by rfl) (hdb : (x == ("__debug__" : Str)) = false := by decide)
    (he : starEach [e1] X.env = (false, eval e1 X.env) :: starEach [] X.env := by rfl) (hpl : (backTo pos (starEach [] X.env)).any (·.1) = false := by rfl) : EvC X o (.Call (.Name x p) [e1] [] pos) ds k R := fun st H Q St hk q =>
  we (pe_callBfun cr_isq hg hm pa_w hdb he hpl) (h st H _ St hk fun as k1 vs H1 hr ex hk1 h1 => by
    obtain ⟨d, rfl, hr⟩ := on1_ex hr
    obtain ⟨a, rfl, ⟨h0, hb⟩, hr⟩ := onI_ex hr
    obtain ⟨v1, rfl, g1⟩ := dts1 h1
    have q1 := g1.unint
    subst q1
    exact ⟨a, rfl, h0, hb, q _ k1 _ H1 hr ex hk1 (.v (.int _))⟩)
/-- list * int, the list new -/
theorem rep_flat {vs : List V} {ds : List Dat} {K : PySem.W.Frag} {H : Hp} (h : DVs K o H vs ds) : ∀ n : Nat, DVs K o H (List.replicate n vs).flatten (List.replicate n ds).flatten
  | 0 => DVs.nil
  | n + 1 => by
    rw [List.replicate_succ, List.replicate_succ, List.flatten_cons, List.flatten_cons]
    exact h.append (rep_flat h n)
theorem n_rep (h : EvN X o a ds k fun as k1 => EvC X o b ds k1 fun y k2 => onI y fun n => (as.all noL = true ∧ 0 ≤ n ∧ n ≤ 1000 ∧ as.length ≤ 10) ∧ RN (List.replicate n.toNat as).flatten k2) : EvN X o (.BinOp a .Mult b pos) ds k RN := fun st H Q S hk q =>
  we (pe_op op_rep pe_w pe_w) (h st H _ S hk fun as k1 p xs H1 hr np e1 hk1 hp hd => hr st H1 _ (S.kp e1 hk) hk1 fun y k2 w H2 hy e2 hk2 h2 => by
    obtain ⟨n, rfl, ⟨na, h0, hn, hl⟩, hr⟩ := onI_ex hy
    have q1 := h2.unint
    subst q1
    have nD : p ∉ o := hk.ne np
    have hp2 : H2 p = some (.lst xs) := e2 p _ nD hp
    have hm : xs.length * n.toNat ≤ 10 * 1000 := Nat.mul_le_mul (by rw [hd.1]; exact hl) (by omega)
    refine ⟨p, n, xs, rfl, rfl, hp2, by omega, by omega, Nat.le_trans hm (by decide), fun r hr' => ?_⟩
    have ee : Ex H2 (upd H2 r (.lst (List.replicate n.toNat xs).flatten)) := Ex.new hr'
    have e12 := e1.trans e2
    have hrn : H r = none := fresh_back e12 hk2 hr'
    exact q _ k2 r _ _ hr hrn (e12.trans (Kp.of_ex ee)) (hk2.ex ee) upd_same ((rep_flat (hd.kp e2 hk1) n.toNat).kp (Kp.of_ex ee) hk2))
/-- [elt for x in range(a) if c] -/
theorem n_lcRc (hcalm : X.calm = true) (hN : X.N.Nodup) (hm : X.mg "range" = none) (hok : BlkOk X.N X.env.scope scope [(x, j)]) (hgn : ∀ s H C cl fp, PG (BX X scope s H C cl fp) (.Name x p1) (gName j))
    (h : EvA X o [a] ds k fun as k1 => on1 as fun d => onI d fun n => (0 ≤ n ∧ n ≤ 10000) ∧ ∃ W, W 0 [] k1 ∧ LcC X o scope c elt ds n.toNat (fun i => some (.int (i : Int))) (fun d es => es.set j (some d)) W ∧ ∀ acc q, W n.toNat acc q → acc.all noL = true → RN acc q) (hg : Gl X "range" := by rfl) (hst : starEach [a] X.env = [(false, eval a X.env)] := by rfl)
    (hset : ∀ y, foldedSetIterable (.Call (.Name "range" p2) [a] [] p3) X.env y = pure y := by intro _; rfl) :
    EvN X o (.ListComp elt [⟨.Name x p1, .Call (.Name "range" p2) [a] [] p3, [c], 0⟩] scope pos) ds k RN := fun st H Q S hk q =>
  we (pe_lc (own := [(x, j)]) (g := gName j) (tt := bT X scope c) (te := bE X scope elt) hcalm hN (pi_range1 hg hm pa_w hst) hok hgn
    (fun s0 H0 C cl fp => pts_one ⟨fun pins s st H Q I h => h s0 H0 C cl fp pins s I⟩) (fun s0 H0 C cl fp => ⟨fun pins s st H Q I h => h s0 H0 C cl fp pins s I⟩) hset) (h st H _ S hk fun as k1 vs H1 hr e1 hk1 h1 => by
    obtain ⟨d, rfl, hr⟩ := on1_ex hr
    obtain ⟨n, rfl, hn, W, h0, L, hd⟩ := onI_ex hr
    obtain ⟨u, rfl, g1⟩ := dts1 h1
    have q1 := g1.unint
    subst q1
    refine ⟨n, rfl, by omega, by omega, fun Dr nD => ?_⟩
    refine lc_range (lo := 0) (n := n.toNat) (g := gName j) (tt := bT X scope c) (te := bE X scope elt) (vs := [j]) (σ := st) (Qd := fun H' => Q (.ref Dr) H') (CvI X.K o H1 Dr W) (cv_start nD hk1 h0) (fun i H' hi w => ?_) (fun H' w => ?_)
    · have e0 : (0 : Int) + (i : Int) = (i : Int) := Int.zero_add _
      show wipe ((wipe st [j]).set j (some (.int ((0 : Int) + (i : Int))))) [j] = wipe st [j] ∧ _
      rw [e0]
      exact lc_turn1 nD hk1 (S.kp e1 hk) L (by omega) hi rfl (.int _) w
    · obtain ⟨w1, q', acc, vs, hW, hk', hD, hv, na, hl⟩ := w
      exact q acc q' Dr vs H' (hd acc q' hW na) (fresh_back e1 hk1 nD) (e1.trans w1) hk' hD hv)
/-! a module's dict, its keys ints, its values tuples of three ints -/
def rIxI (K : PySem.W.Frag) (P : Program) (w : World) : R2 := fun x y H Q => ∃ (p : Addr) (i : Int) (es : Array DictEntry) (n : Nat) (u0 : Value) (r : V), x = .ref p ∧ y = .int i ∧ K.lookup p = some ⟨.type "dict", none, .dict es n, #[]⟩ ∧ KeysOf (intKind P w) es ∧ findBy (intKind P w).is es i = some u0 ∧ RelV r u0 ∧ Q r H
theorem ix_kdi : IxR X (rIxI X.K X.prog X.w) := by
  intro value slice pins s σ H x y v u Q I rx ry h hs
  obtain ⟨p, z, es, n, u0, r, rfl, rfl, hl, hk, e, ru, q⟩ := h
  obtain rfl : v = Value.ref p := rx
  obtain ⟨t, rfl⟩ := ry
  have hm : s.heap.MapOf (intKind X.prog X.w) p (fun y => findBy (intKind X.prog X.w).is es y) := ⟨_, es, n, I.kIn _ _ hl, ⟨rfl, rfl, rfl⟩, rfl, hk, fun _ => rfl⟩
  exact tail_any hm.typeIs slot_dict_getitem.lookup (wpAny_getItem_of (intKind_is X.prog X.w z t) hm e ⟨r, H, I.tok _, ru, q⟩) hs
abbrev T3 := Int × Int × Int
abbrev tD (t : T3) : Dat := .tup [.int t.1, .int t.2.1, .int t.2.2]
/-- a module's dict that tells a triple for each kind -/
structure KDI (P : Program) (w : World) (K : PySem.W.Frag) (mg : Str → Option Value) (x : Str) (f : Int → T3) : Prop where
  ex : ∃ (C : Addr) (es : Array DictEntry) (n : Nat), mg x = some (.ref C) ∧ K.lookup C = some ⟨.type "dict", none, .dict es n, #[]⟩ ∧ KeysOf (intKind P w) es ∧ ∀ i, (i = 2 ∨ i = 3 ∨ i = 5) → ∃ p, findBy (intKind P w).is es i = some (.ref p) ∧ ∀ H, SqT K H p [.int (f i).1, .int (f i).2.1, .int (f i).2.2]
theorem c_kdi {f : Int → T3} (t : KDI X.prog X.w X.K X.mg x f) (h : EvC X o b ds k fun y k1 => onI y fun i => (i = 2 ∨ i = 3 ∨ i = 5) ∧ R (tD (f i)) k1) (hg : Gl X x := by rfl) (hd : (x == ("__debug__" : Str)) = false := by decide) (hp : PlainIx b := by exact fun _ _ => rfl) : EvC X o (.Subscript (.Name x pos) b pos2) ds k R := fun st H Q S hk q => by
  obtain ⟨C, es, n, hm, hl, ks, hv⟩ := t.ex
  refine we (pe_ix ix_kdi (pe_glob hg hm (v := .ref C) rfl hd) pe_w hp) ?_
  refine h st H _ S hk fun y k1 v H2 hr e2 hk2 h2 => ?_
  obtain ⟨i, rfl, hi, hr⟩ := onI_ex hr
  have q1 := h2.unint
  subst q1
  obtain ⟨p, hf, hs⟩ := hv i hi
  exact ⟨C, i, es, n, _, .ref p, rfl, rfl, hl, ks, hf, rfl, q _ k1 _ H2 hr e2 hk2 (.v (.tup' (hs H2) (DVs.cons (.int _) (DVs.cons (.int _) (DVs.cons (.int _) DVs.nil)))))⟩
end
end Wz

set_option Elab.async false
set_option linter.all false
set_option maxRecDepth 100000
set_option maxHeartbeats 4000000
/-! Lz12: instances: reading a field, calling a method, making one; the body of __init__. -/
namespace Wz
open PySem PySem.Spec PyProof.Rows L2 Evl
/-- a class whose fields are read -/
structure ObC (K : PySem.W.Frag) (C : Addr) (fs : List Str) : Prop where
  cl : Cls K C
  na : ∀ f ∈ fs, NoAttr K C f
structure MeC (P : Program) (w : World) (K : PySem.W.Frag) (mg : Str → Option Value) (base : Heap) (k : Nat) (C : Addr) (m : Str) (ps : List Str) (sp : Sp) : Prop where
  ex : ∃ (g : Addr) (fd : FuncData), Cls K C ∧ Meth K C m g ∧ Binds K fd ps [] ∧ FnOk P w K mg base CX0 k g fd ps sp
structure MkC (P : Program) (w : World) (K : PySem.W.Frag) (mg : Str → Option Value) (base : Heap) (k : Nat) (x : Str) (C : Addr) (ps : List Str) (sp : Sp) : Prop where
  ex : ∃ (f : Addr) (fd : FuncData), mg x = some (.ref C) ∧ Mk K C f ∧ Binds K fd ps [] ∧ FnOk P w K mg base CX0 k f fd ps sp
theorem zip_at {K : PySem.W.Frag} {o : Os} {H : Hp} {f : Str} {d : Dat} : ∀ {ns : List Str} {xs : List V} {ds : List Dat}, xs.length = ds.length → (∀ (i : Nat) (v : V) (d : Dat), xs[i]? = some v → ds[i]? = some d → DV K o H v d) → (ns.zip ds).lookup f = some d → ∃ v, (ns.zip xs).lookup f = some v ∧ DV K o H v d
  | [], _, _, _, _, e => by simp at e
  | n :: ns, [], [], _, _, e => by simp at e
  | n :: ns, x :: xs, y :: ys, hl, h, e => by
    rw [List.zip_cons_cons, List.lookup_cons] at e ⊢
    by_cases q : f == n
    · rw [q] at e ⊢
      cases e
      exact ⟨x, rfl, h 0 x _ rfl rfl⟩
    · have q' : (f == n) = false := by simpa using q
      rw [q'] at e ⊢
      exact zip_at (by simpa using hl) (fun i v d a b => h (i + 1) v d (by simpa using a) (by simpa using b)) e
theorem zip_no {f : Str} : ∀ {ns : List Str} {xs : List V}, f ∉ ns → (ns.zip xs).lookup f = none
  | [], _, _ => by simp
  | n :: ns, [], _ => by simp
  | n :: ns, x :: xs, h => by
    rw [List.zip_cons_cons, List.lookup_cons]
    have q : (f == n) = false := by
      rw [beq_eq_false_iff_ne]
      exact fun e => h (by rw [e]; exact List.mem_cons_self)
    rw [q]
    exact zip_no (fun e => h (List.mem_cons_of_mem _ e))
theorem DT.unobj {K : PySem.W.Frag} {o : Os} {H : Hp} {v : V} {C : Addr} {ns : List Str} {ds : List Dat} (h : DT K o H v (.obj C ns ds)) : ∃ a dx xs, v = .ref a ∧ H a = some (.ins C dx (ns.zip xs)) ∧ a ∉ o ∧ ns.length = ds.length ∧ DVs K o H xs ds := by
  cases h with
  | v h =>
    cases h with
    | obj s n m l q => exact ⟨_, _, _, rfl, s, n, m, l, q⟩
section
variable {X : Cx} {o0 o : Os} {ds : List (Option Dat)} {k k1 k2 : Cs} {e c a b elt e1 e2 e3 : Expr} {es : List Expr} {d : Dat} {as : List Dat} {pos pos' pos2 apos p p1 p2 p3 : Pos} {rest body orelse : List Stmt} {D : Ends} {H0 : Hp} {R : Dat → Cs → Prop} {RT : Bool → Cs → Prop} {RN : List Dat → Cs → Prop} {x m f : Str} {scope : Scope} {j : Nat} {C : Addr} {fs ps : List Str} {k' : Nat}
theorem c_fld (oc : ObC X.K C fs) (hf : f ∈ fs) (h : EvC X o e ds k fun d k1 => ∃ ns vs r, d = .obj C ns vs ∧ (ns.zip vs).lookup f = some r ∧ R r k1) (hb : attributeBase e f X.env (eval e X.env) = eval e X.env := by rfl) : EvC X o (.Attribute e f pos) ds k R := fun st H Q S hk q =>
  we (pe_fld pe_w hb) (h st H _ S hk fun d k1 v H1 hr e1 hk1 h1 => by
    obtain ⟨ns, vs, r, rfl, hl, hr⟩ := hr
    obtain ⟨a, dx, xs, rfl, ha, na, hn, hd⟩ := h1.unobj
    obtain ⟨v, hv, hd2⟩ := zip_at hd.1 hd.2 hl
    exact ⟨a, C, dx, _, v, rfl, ha, oc.cl, oc.na f hf, hv, q r k1 v H1 hr e1 hk1 (.v hd2)⟩)
theorem c_meth {F : FP} {pl : Sem Bool} (c : MeC X.prog X.w X.K X.mg X.base k' C m ps (spP X.K F)) (hr : Room k' X.A) (h : EvC X o e ds k fun d k1 => (∃ ns vs, d = .obj C ns vs ∧ m ∉ ns) ∧ EvA X o (e1 :: es) ds k1 fun as k2 => F (d :: as.map (rd k2)) fun r => noL r = true ∧ R r k2)
    (hst : starEach (e1 :: es) X.env = (false, eval e1 X.env) :: starEach es X.env := by rfl) (hpl : (backTo pos (starEach es X.env)).any (·.1) = false := by rfl)
    (ht : eval (.Call (.Attribute e m apos) (e1 :: es) [] pos) X.env = (do
      let ov ← eval e X.env
      standAt apos.atName
      let (f, first) ← holding [ov] (getMethod ov m pl)
      callWith pos f first (backTo pos (starEach (e1 :: es) X.env)) (backToKw pos (keywordEach [] X.env))) := by rfl) : EvC X o (.Call (.Attribute e m apos) (e1 :: es) [] pos) ds k R := fun st H Q St hk q => by
  obtain ⟨g, fd, cl, me, hb, F1⟩ := c.ex
  refine we (pe_meth pe_w cl me F1 hr hb .nil pass0 pa_w hst hpl ht) (h st H _ St hk fun d k1 v H1 hx e1 hk1 h1 => ?_)
  obtain ⟨⟨ns, vs, rfl, hn⟩, hx⟩ := hx
  obtain ⟨a, dx, xs, rfl, ha, na, hnl, hd⟩ := h1.unobj
  refine ⟨a, dx, _, rfl, ha, zip_no hn, hx st H1 _ (St.kp e1 hk) hk1 fun as k2 ws H2 hx2 e2 hk2 h2 => ?_⟩
  have h1' : DT X.K [] H2 (.ref a) (.obj C ns vs) := by
    have := rd_dt hk2 (h1.kp e2 hk1)
    exact this
  refine ⟨.obj C ns vs :: as.map (rd k2), _, by rw [List.append_nil]; exact DTs.cons h1' (rd_dts hk2 h2), hx2, fun d hd v H' e' h' => ?_⟩
  have e3 : Ex H2 H' := e'.ex
  exact q d k2 v H' hd.2 ((e1.trans e2).trans (Kp.of_ex e3)) (hk2.ex e3) (.v (h'.back hd.1 o))
/-- what __init__ does: the instance's address, the other arguments, without a list -/
abbrev FI := List Dat → (List Str → List Dat → Prop) → Prop
def spI (K : PySem.W.Frag) (C : Addr) (F : FI) : Sp := fun vs H Q _ => ∃ (x dx : Addr) (ws : List V) (ds : List Dat) (G : List Str → List Dat → Prop), vs = .ref x :: ws ∧ H x = some (.ins C dx []) ∧ DTs K [] H ws ds ∧ ds.all noL = true ∧ F ds G ∧ ∀ ns os, G ns os → ∀ H', (∀ b u, b ≠ x → H b = some u → H' b = some u) → DV K [] H' (.ref x) (.obj C ns os) → Q .non H'
theorem DVs.tm2 {K : PySem.W.Frag} {o : Os} {H H' : Hp} {vs : List V} {ds : List Dat} (m : ∀ b xs, SqT K H b xs → SqT K H' b xs) (h : DVs K o H vs ds) (n : ds.all noL = true) : DVs K o H' vs ds := h.tm m n
theorem tm_ne {K : PySem.W.Frag} {H H' : Hp} {x C dx : Addr} {fs : List (Str × V)} (hx : H x = some (.ins C dx fs)) (h : ∀ b u, b ≠ x → H b = some u → H' b = some u) : ∀ b zs, SqT K H b zs → SqT K H' b zs := fun b zs s => by
  rcases s with (s | ⟨ob, s⟩) | s
  · exact .inl (.inl (h b _ (fun z => by rw [z, hx] at s; cases s) s))
  · exact .inl (.inr ⟨ob, h b _ (fun z => by rw [z, hx] at s; cases s) s⟩)
  · exact .inr s
theorem tm_ex {K : PySem.W.Frag} {H H' : Hp} (h : Ex H H') : ∀ b zs, SqT K H b zs → SqT K H' b zs := fun b zs s => by
  rcases s with (s | ⟨ob, s⟩) | s
  · exact .inl (.inl (h b _ s))
  · exact .inl (.inr ⟨ob, h b _ s⟩)
  · exact .inr s
theorem c_make {F : FI} (c : MkC X.prog X.w X.K X.mg X.base k' x C ps (spI X.K C F)) (hr : Room (k' + 1) X.A) (h : EvA X o (e :: es) ds k fun as k1 => (as.all noL = true) ∧ F as fun ns os => os.all noL = true ∧ ns.length = os.length ∧ R (.obj C ns os) k1) (hg : Gl X x := by rfl) (hdb : (x == ("__debug__" : Str)) = false := by decide)
    (he : starEach (e :: es) X.env = (false, eval e X.env) :: starEach es X.env := by rfl) (hpl : (backTo pos (starEach es X.env)).any (·.1) = false := by rfl) : EvC X o (.Call (.Name x p) (e :: es) [] pos) ds k R := fun st H Q St hk q => by
  obtain ⟨f, fd, hm, M, hb, F1⟩ := c.ex
  refine we (pe_make M F1 hr hg hm hb .nil pass0 pa_w hdb he hpl) (h st H _ St hk fun as k1 vs H1 hx e1 hk1 h1 => ?_)
  obtain ⟨na, hx⟩ := hx
  intro x dx nx nd ne
  have ex1 : Ex H1 (upd (upd H1 dx (.own x)) x (.ins C dx [])) := fun b u hu => by
    rw [upd_ne (fun z => by rw [z, nx] at hu; cases hu), upd_ne (fun z => by rw [z, nd] at hu; cases hu)]
    exact hu
  have hv : DVs X.K [] (upd (upd H1 dx (.own x)) x (.ins C dx [])) vs as := ((h1.unc (List.all_eq_true.mpr fun z hz => noL_noC (List.all_eq_true.mp na z hz))).back na []).tm (tm_ex ex1) na
  refine ⟨x, dx, vs, as, _, by rw [List.append_nil], upd_same, hv.dts, na, hx, fun ns os hG H' e' h' => ⟨rfl, ?_⟩⟩
  obtain ⟨no, hl, hR⟩ := hG
  have ex2 : Ex H1 H' := fun b u hu => e' b u (fun z => by rw [z, nx] at hu; cases hu) (ex1 b u hu)
  have nxo : x ∉ o := hk1.ne nx
  cases h' with
  | obj s n m l r =>
    have hd : DVs X.K [] H' _ os := ⟨l, r⟩
    have hd2 := hd.back no o
    exact q _ k1 _ H' hR (e1.trans (Kp.of_ex ex2)) (hk1.ex ex2) (.v (.obj s nxo m l hd2.2))
end
/-! ### the body of __init__ -/
theorem putF_new {f : Str} {v : V} : ∀ {ns : List Str} {xs : List V}, ns.length = xs.length → f ∉ ns → putF f v (ns.zip xs) = (ns ++ [f]).zip (xs ++ [v])
  | [], [], _, _ => rfl
  | n :: ns, x :: xs, hl, h => by
    have q : ¬ n = f := fun e => h (by rw [e]; exact List.mem_cons_self)
    rw [List.zip_cons_cons, putF, if_neg q, putF_new (by simpa using hl) (fun e => h (List.mem_cons_of_mem _ e))]
    rfl
theorem putF_set {f : Str} {v : V} : ∀ {ns : List Str} {xs : List V} {i : Nat}, ns.length = xs.length → ns[i]? = some f → f ∉ ns.take i → putF f v (ns.zip xs) = ns.zip (xs.set i v)
  | [], _, _, _, h, _ => by simp at h
  | n :: ns, x :: xs, 0, hl, h, _ => by
    have q : n = f := by simpa using h
    rw [List.zip_cons_cons, putF, if_pos q]
    rfl
  | n :: ns, x :: xs, i + 1, hl, h, hn => by
    have q : ¬ n = f := fun e => hn (by rw [e, List.take_succ_cons]; exact List.mem_cons_self)
    rw [List.zip_cons_cons, putF, if_neg q, putF_set (i := i) (by simpa using hl) (by simpa using h) (fun e => hn (by rw [List.take_succ_cons]; exact List.mem_cons_of_mem _ e))]
    rfl
/-- the names of __init__ but for the first, which is the instance, hold no list -/
def NoLs (ds : List (Option Dat)) : Prop := ∀ (i : Nat) (d : Dat), ds[i]? = some (some d) → i ≠ 0 → noL d = true
theorem NoLs.set {ds : List (Option Dat)} {i : Nat} {d : Dat} (h : NoLs ds) (n : noL d = true) : NoLs (ds.set i (some d)) := fun j e he hj => by
  by_cases q : i = j
  · subst q
    rw [List.getElem?_set] at he
    rw [if_pos rfl] at he
    split at he
    · cases he; exact n
    · cases he
  · rw [List.getElem?_set_ne q] at he
    exact h j e he hj
theorem NoLs.set0 {ds : List (Option Dat)} {d : Dat} (h : NoLs ds) : NoLs (ds.set 0 (some d)) := fun j e he hj => by
  rw [List.getElem?_set_ne (fun z => hj z.symm)] at he
  exact h j e he hj
def AI (X : Cx) (x C : Addr) (body : List Stmt) (D : Ends) (ds : List (Option Dat)) (H0 : Hp) : Prop :=
  ∀ st H, Sat X.K [] st H ds → st[0]? = some (some (.ref x)) → NoLs ds → (∃ ns os, ds[0]? = some (some (.obj C ns os))) → (∀ b u, b ≠ x → H0 b = some u → H b = some u) → WB X body D st H
/-- the heap but for the instance -/
theorem sat_self {K : PySem.W.Frag} {st : L2.St} {H H' : Hp} {ds : List (Option Dat)} {x C dx : Addr} {fs : List (Str × V)} {ns : List Str} {xs : List V} {os : List Dat} (S : Sat K [] st H ds) (hs : st[0]? = some (some (.ref x))) (hn : NoLs ds) (hx : H x = some (.ins C dx fs))
    (h : ∀ b u, b ≠ x → H b = some u → H' b = some u) (hx' : H' x = some (.ins C dx (ns.zip xs))) (hl : ns.length = os.length) (hd : DVs K [] H' xs os) (h0 : 0 < ds.length) : Sat K [] st H' (ds.set 0 (some (.obj C ns os))) := by
  refine ⟨by rw [List.length_set]; exact S.1, fun i d e => ?_⟩
  cases i with
  | zero =>
    rw [List.getElem?_set_self h0] at e
    cases e
    exact ⟨_, hs, .v (.obj hx' (fun z => by cases z) hl hd.1 hd.2)⟩
  | succ i =>
    rw [List.getElem?_set_ne (by omega)] at e
    obtain ⟨v, h1, h2⟩ := S.2 (i + 1) d e
    have n := hn (i + 1) d e (by omega)
    exact ⟨v, h1, .v ((h2.unc (noL_noC n)).tm (tm_ne hx h) n)⟩
section
variable {X : Cx} {ds : List (Option Dat)} {e c a b e1 e2 : Expr} {d : Dat} {pos pos' p p1 p2 p3 : Pos} {rest body orelse : List Stmt} {D : Ends} {H0 : Hp} {x C : Addr} {y f f2 : Str} {fs : List Str}
theorem ai_asg {i : Nat} (hN : X.N.Nodup) (hi0 : i ≠ 0) (h : EvC X [] e ds [] fun d _ => noL d = true ∧ AI X x C rest D (ds.set i (some d)) H0) (hi : X.N[i]? = some y := by rfl) (hx : Loc X.env.scope y := by exact Or.inl rfl) (hs : swapsWith e (some (.Name y pos')) pos.line X.env = pure false := by rfl)
    (hf : X.fn y = true ∨ X.env.scope.names.lookup y = some .local := by exact .inl rfl) : AI X x C (.Assign [.Name y pos'] e pos :: rest) D ds H0 := fun st H S hsx hn ho e0 =>
  wb_cons (wss (ps_set hN hi hx pe_w hs hf) (h st H _ S dk_none fun d k1 v H1 hr e1 hk1 h1 => hr.2 _ H1 ((S.kp e1 dk_none).set h1) (by rw [List.getElem?_set_ne hi0]; exact hsx) (hn.set hr.1) (by rw [List.getElem?_set_ne hi0]; exact ho) (fun b u nb hb => e1 b u (fun z => by cases z) (e0 b u nb hb))))
theorem ai_drop (h : EvC X [] e ds [] fun _ _ => AI X x C rest D ds H0) (hs : swapsWith e none pos.line X.env = pure false := by rfl) : AI X x C (.Expr e pos :: rest) D ds H0 := fun st H S hsx hn ho e0 =>
  wb_cons (wss (ps_expr pe_w hs) (h st H _ S dk_none fun d k1 v H1 hr e1 hk1 h1 => hr _ H1 (S.kp e1 dk_none) hsx hn ho (fun b u nb hb => e1 b u (fun z => by cases z) (e0 b u nb hb))))
theorem ai_nil (h : ∀ st H, Sat X.K [] st H ds → st[0]? = some (some (.ref x)) → (∀ b u, b ≠ x → H0 b = some u → H b = some u) → D.nx st H) : AI X x C [] D ds H0 := fun st H S hsx hn ho e0 => wb pss_nil (h st H S hsx e0)
/-- a field written, in data -/
def SetD (f : Str) (d : Dat) (ns : List Str) (os : List Dat) (ns' : List Str) (os' : List Dat) : Prop := (f ∉ ns ∧ ns' = ns ++ [f] ∧ os' = os ++ [d]) ∨ ∃ i, ns[i]? = some f ∧ f ∉ ns.take i ∧ ns' = ns ∧ os' = os.set i d
theorem setD_put {K : PySem.W.Frag} {H : Hp} {f : Str} {d : Dat} {v : V} {ns ns' : List Str} {os os' : List Dat} {xs : List V} (h : SetD f d ns os ns' os') (hl : ns.length = os.length) (hd : DVs K [] H xs os) (hv : DV K [] H v d) : ∃ xs', putF f v (ns.zip xs) = ns'.zip xs' ∧ ns'.length = os'.length ∧ DVs K [] H xs' os' := by
  have hl2 : ns.length = xs.length := hl.trans hd.1.symm
  rcases h with ⟨h1, rfl, rfl⟩ | ⟨i, h1, h2, rfl, rfl⟩
  · exact ⟨xs ++ [v], putF_new hl2 h1, by rw [List.length_append, List.length_append, hl]; rfl, hd.append (DVs.cons hv DVs.nil)⟩
  · refine ⟨xs.set i v, putF_set hl2 h1 h2, by rw [List.length_set]; exact hl, by rw [List.length_set, List.length_set]; exact hd.1, fun j w z ga gb => ?_⟩
    by_cases q : i = j
    · subst q
      have hj : i < os.length := by
        have := (List.getElem?_eq_some_iff.mp gb).1
        rwa [List.length_set] at this
      rw [List.getElem?_set_self (by rw [hd.1]; exact hj)] at ga
      rw [List.getElem?_set_self hj] at gb
      cases ga
      cases gb
      exact hv
    · rw [List.getElem?_set_ne q] at ga gb
      exact hd.2 j w z ga gb
def gAttr (K : PySem.W.Frag) (to : TE) (f : Str) : TG := fun v σ H Q => to σ H fun x H1 => ∃ a C dx fs, x = .ref a ∧ H1 a = some (.ins C dx fs) ∧ Cls K C ∧ NoAttr K C f ∧ fs.length < 1000 ∧ Q σ (upd H1 a (.ins C dx (putF f v fs)))
theorem pg_attr {o : Expr} {to : TE} (ho : PE X o to) : PG X (.Attribute o f pos) (gAttr X.K to f) := by
  refine ⟨fun pins s σ H v u Q I r h => ?_⟩
  rw [arm_assign_Attribute]
  refine wpAny_bind (wpAny_holding (thn (ho.run pins s σ H _ I h) fun ov s1 ⟨x, H1, I1, r1, a, C, dx, fs, ex, ea, c, n, l, q⟩ => ?_))
  subst ex
  obtain rfl : ov = Value.ref a := r1
  exact wpAny_bind (wpAny_standAt (wpAny_bind (wpAny_holding (setattr_ok I1 ea c n l r fun s3 I3 => wpAny_release ⟨σ, _, I3, q⟩))))
theorem we_self {st : L2.St} {H : Hp} {Q : VK} (h : st[0]? = some (some (.ref x))) (q : Q (.ref x) H) (hN : X.N[0]? = some y := by rfl) (hv : Vis X.env.scope y := by first | exact Or.inl rfl | exact Or.inr (Or.inl rfl) | exact Or.inr (Or.inr rfl)) (hd : (y == ("__debug__" : Str)) = false := by decide) (hcd : (y == ("__classdict__" : Str)) = false := by decide) : WE X (.Name y p) st H Q :=
  we (pe_var hN hv hd hcd) ⟨_, h, q⟩
/-- what is known behind a write of a field -/
theorem ai_put {st : L2.St} {H : Hp} {v : V} {ns ns' : List Str} {os os' : List Dat} (oc : ObC X.K C fs) (hf : f ∈ fs) (S : Sat X.K [] st H ds) (hsx : st[0]? = some (some (.ref x))) (hn : NoLs ds) (e0 : ∀ b u, b ≠ x → H0 b = some u → H b = some u) (h0 : ds[0]? = some (some (.obj C ns os))) (hs : SetD f d ns os ns' os') (hl : ns.length < 1000) (hno : os'.all noL = true) (hv : DV X.K [] H v d) :
    ∃ dx fs0, H x = some (.ins C dx fs0) ∧ fs0.length < 1000 ∧ Sat X.K [] st (upd H x (.ins C dx (putF f v fs0))) (ds.set 0 (some (.obj C ns' os'))) ∧ (∀ b u, b ≠ x → H0 b = some u → upd H x (.ins C dx (putF f v fs0)) b = some u) ∧ (∀ b u, b ≠ x → H b = some u → upd H x (.ins C dx (putF f v fs0)) b = some u) := by
  obtain ⟨v0, g1, g2⟩ := S.2 0 _ h0
  rw [hsx] at g1
  cases g1
  obtain ⟨a, dx, xs, ea, hx, _, hnl, hd⟩ := g2.unobj
  cases ea
  obtain ⟨xs', ep, hl', hd'⟩ := setD_put hs hnl hd hv
  have kp : ∀ b u, b ≠ x → H b = some u → upd H x (.ins C dx (putF f v (ns.zip xs))) b = some u := fun b u nb hb => by
    rw [upd_ne nb]
    exact hb
  have hz : 0 < ds.length := by
    cases ds with
    | nil => simp at h0
    | cons _ _ => exact Nat.succ_pos _
  refine ⟨dx, ns.zip xs, hx, Nat.lt_of_le_of_lt (by rw [List.length_zip]; exact Nat.min_le_left _ _) hl, ?_, fun b u nb hb => kp b u nb (e0 b u nb hb), kp⟩
  have hx' : (upd H x (.ins C dx (putF f v (ns.zip xs)))) x = some (.ins C dx (ns'.zip xs')) := by rw [upd_same, ep]
  exact sat_self S hsx hn hx kp hx' hl' (hd'.tm (tm_ne hx kp) hno) hz
theorem ai_fld (oc : ObC X.K C fs) (hf : f ∈ fs) (h : EvC X [] e ds [] fun d _ => noL d = true ∧ ∃ ns os ns' os', ds[0]? = some (some (.obj C ns os)) ∧ SetD f d ns os ns' os' ∧ ns.length < 1000 ∧ os'.all noL = true ∧ AI X x C rest D (ds.set 0 (some (.obj C ns' os'))) H0)
    (hs : swapsWith e (some (.Attribute (.Name y p) f pos')) pos.line X.env = pure false := by rfl) (hN : X.N[0]? = some y := by rfl) (hv : Vis X.env.scope y := by first | exact Or.inl rfl | exact Or.inr (Or.inl rfl) | exact Or.inr (Or.inr rfl)) (hd : (y == ("__debug__" : Str)) = false := by decide) (hcd : (y == ("__classdict__" : Str)) = false := by decide) :
    AI X x C (.Assign [.Attribute (.Name y p) f pos'] e pos :: rest) D ds H0 := fun st H S hsx hn ho e0 =>
  wb_cons (wss (ps_fld pe_w pe_w hs) (h st H _ S dk_none fun d k1 v H1 hr e1 hk1 h1 => by
    obtain ⟨nd, ns, os, ns', os', h0, hsd, hl, hno, hr⟩ := hr
    have e1' : ∀ b u, b ≠ x → H0 b = some u → H1 b = some u := fun b u nb hb => e1 b u (fun z => by cases z) (e0 b u nb hb)
    obtain ⟨dx, fs0, hx, hl0, S', k0, k1'⟩ := ai_put oc hf (S.kp e1 dk_none) hsx hn e1' h0 hsd hl hno (h1.unc (noL_noC nd))
    have hz : 0 < ds.length := by
      cases ds with
      | nil => simp at h0
      | cons _ _ => exact Nat.succ_pos _
    exact we_self hsx ⟨x, C, dx, fs0, rfl, hx, oc.cl, oc.na f hf, hl0, hr _ _ S' hsx hn.set0 ⟨ns', os', List.getElem?_set_self hz⟩ k0⟩ hN hv hd hcd))
/-- self.f, y = t -/
theorem ai_pfn {z : Str} {i : Nat} {pz pt : Pos} {kt : Nat} (hNd : X.N.Nodup) (hc : X.calm = true) (hi0 : i ≠ 0) (oc : ObC X.K C fs) (hf : f ∈ fs) (h : EvC X [] e ds [] fun d _ => onT d fun as => ∃ d1 d2, as = [d1, d2] ∧ noL d1 = true ∧ noL d2 = true ∧ ∃ ns os ns' os', ds[0]? = some (some (.obj C ns os)) ∧ SetD f d1 ns os ns' os' ∧ ns.length < 1000 ∧ os'.all noL = true ∧ AI X x C rest D ((ds.set 0 (some (.obj C ns' os'))).set i (some d2)) H0)
    (hi : X.N[i]? = some z := by rfl) (hz : Loc X.env.scope z := by exact Or.inl rfl) (hfz : X.fn z = true ∨ X.env.scope.names.lookup z = some .local := by exact .inl rfl)
    (hs : swapsWithSole [.Tuple [.Attribute (.Name y p) f pos', .Name z pz] kt pt] e pos.line X.env = pure false := by rfl) (hw : swappedStores [.Tuple [.Attribute (.Name y p) f pos', .Name z pz] kt pt] e X.env = pure none := by rfl)
    (hN : X.N[0]? = some y := by rfl) (hv : Vis X.env.scope y := by first | exact Or.inl rfl | exact Or.inr (Or.inl rfl) | exact Or.inr (Or.inr rfl)) (hd : (y == ("__debug__" : Str)) = false := by decide) (hcd : (y == ("__classdict__" : Str)) = false := by decide) :
    AI X x C (.Assign [.Tuple [.Attribute (.Name y p) f pos', .Name z pz] kt pt] e pos :: rest) D ds H0 := fun st H S hsx hn ho e0 =>
  wb_cons (wss (ps_asg pe_w (pg_tup hc (pgs_cons (pg_attr pe_w) (pgs_cons (pg_name hNd hi hz hfz) pgs_nil))) hs hw) (h st H _ S dk_none fun d k1 v H1 hr e1 hk1 h1 => by
    obtain ⟨as, rfl, hr⟩ := onT_ex hr
    obtain ⟨d1, d2, rfl, n1, n2, ns, os, ns', os', h0, hsd, hl, hno, hr⟩ := hr
    obtain ⟨a, xs, rfl, hsq, hd⟩ := h1.untup
    have e1' : ∀ b u, b ≠ x → H0 b = some u → H1 b = some u := fun b u nb hb => e1 b u (fun z => by cases z) (e0 b u nb hb)
    match xs, hd with
    | [v1, v2], hd =>
      obtain ⟨dx, fs0, hx, hl0, S', k0, k1'⟩ := ai_put oc hf (S.kp e1 dk_none) hsx hn e1' h0 hsd hl hno (hd.2 0 _ _ rfl rfl)
      have hz : 0 < ds.length := by
        cases ds with
        | nil => simp at h0
        | cons _ _ => exact Nat.succ_pos _
      refine ⟨a, _, rfl, hsq, rfl, v1, _, rfl, we_self hsx ⟨x, C, dx, fs0, rfl, hx, oc.cl, oc.na f hf, hl0, v2, _, rfl, rfl, ?_⟩ hN hv (by assumption) hcd⟩
      have hd2 := (hd.2 1 _ _ rfl rfl).tm (tm_ne hx k1') n2
      exact hr _ _ (S'.set (.v hd2)) (by rw [List.getElem?_set_ne hi0]; exact hsx) (hn.set0.set n2) ⟨ns', os', by rw [List.getElem?_set_ne hi0]; exact List.getElem?_set_self hz⟩ k0))
/-- self.f, self.f2 = t -/
theorem ai_pff {pt p2 pos2 : Pos} {kt : Nat} (hc : X.calm = true) (oc : ObC X.K C fs) (hf : f ∈ fs) (hf2 : f2 ∈ fs) (h : EvC X [] e ds [] fun d _ => onT d fun as => ∃ d1 d2, as = [d1, d2] ∧ noL d1 = true ∧ noL d2 = true ∧ ∃ ns os ns' os' ns2 os2, ds[0]? = some (some (.obj C ns os)) ∧ (SetD f d1 ns os ns' os' ∧ ns.length < 1000 ∧ os'.all noL = true) ∧ (SetD f2 d2 ns' os' ns2 os2 ∧ ns'.length < 1000 ∧ os2.all noL = true) ∧ AI X x C rest D (ds.set 0 (some (.obj C ns2 os2))) H0)
    (hs : swapsWithSole [.Tuple [.Attribute (.Name y p) f pos', .Attribute (.Name y p2) f2 pos2] kt pt] e pos.line X.env = pure false := by rfl) (hw : swappedStores [.Tuple [.Attribute (.Name y p) f pos', .Attribute (.Name y p2) f2 pos2] kt pt] e X.env = pure none := by rfl)
    (hN : X.N[0]? = some y := by rfl) (hv : Vis X.env.scope y := by first | exact Or.inl rfl | exact Or.inr (Or.inl rfl) | exact Or.inr (Or.inr rfl)) (hd : (y == ("__debug__" : Str)) = false := by decide) (hcd : (y == ("__classdict__" : Str)) = false := by decide) :
    AI X x C (.Assign [.Tuple [.Attribute (.Name y p) f pos', .Attribute (.Name y p2) f2 pos2] kt pt] e pos :: rest) D ds H0 := fun st H S hsx hn ho e0 =>
  wb_cons (wss (ps_asg pe_w (pg_tup hc (pgs_cons (pg_attr pe_w) (pgs_cons (pg_attr pe_w) pgs_nil))) hs hw) (h st H _ S dk_none fun d k1 v H1 hr e1 hk1 h1 => by
    obtain ⟨as, rfl, hr⟩ := onT_ex hr
    obtain ⟨d1, d2, rfl, n1, n2, ns, os, ns', os', ns2, os2, h0, ⟨hsd, hl, hno⟩, ⟨hsd2, hl2, hno2⟩, hr⟩ := hr
    obtain ⟨a, xs, rfl, hsq, hd⟩ := h1.untup
    have e1' : ∀ b u, b ≠ x → H0 b = some u → H1 b = some u := fun b u nb hb => e1 b u (fun z => by cases z) (e0 b u nb hb)
    match xs, hd with
    | [v1, v2], hd =>
      obtain ⟨dx, fs0, hx, hl0, S', k0, k1'⟩ := ai_put oc hf (S.kp e1 dk_none) hsx hn e1' h0 hsd hl hno (hd.2 0 _ _ rfl rfl)
      have hz : 0 < ds.length := by
        cases ds with
        | nil => simp at h0
        | cons _ _ => exact Nat.succ_pos _
      have hd2 := (hd.2 1 _ _ rfl rfl).tm (tm_ne hx k1') n2
      obtain ⟨dx2, fs2, hx2, hl02, S2, k02, k12⟩ := ai_put oc hf2 S' hsx hn.set0 k0 (List.getElem?_set_self hz) hsd2 hl2 hno2 hd2
      rw [List.set_set] at S2
      exact ⟨a, _, rfl, hsq, rfl, v1, _, rfl, we_self hsx ⟨x, C, dx, fs0, rfl, hx, oc.cl, oc.na f hf, hl0, v2, _, rfl, we_self hsx ⟨x, C, dx2, fs2, rfl, hx2, oc.cl, oc.na f2 hf2, hl02, rfl, hr _ _ S2 hsx hn.set0 ⟨ns2, os2, List.getElem?_set_self hz⟩ k02⟩ hN hv (by assumption) hcd⟩ hN hv (by assumption) hcd⟩))
def NXI (X : Cx) (x C : Addr) (H0 : Hp) (J : List (Option Dat) → Prop) : L2.St → Hp → Prop := fun st' H' => ∃ es, J es ∧ Sat X.K [] st' H' es ∧ st'[0]? = some (some (.ref x)) ∧ NoLs es ∧ (∃ ns os, es[0]? = some (some (.obj C ns os))) ∧ (∀ b u, b ≠ x → H0 b = some u → H' b = some u)
theorem ai_end {J : List (Option Dat) → Prop} (hD : D.nx = NXI X x C H0 J) (j : J ds) : AI X x C [] D ds H0 := fun st H S hsx hn ho e0 => wb pss_nil (show D.nx st H by rw [hD]; exact ⟨ds, j, S, hsx, hn, ho, e0⟩)
theorem ai_while {W : Nat → List (Option Dat) → Prop} (hp : PassesOwn (model X.prog X.w) X.A X.env X.xe) (m : Nat) (h0 : W m ds)
    (hs : ∀ m es, W m es → EvT X [] c es [] fun b _ => bc b (AI X x C body { D with nx := NXI X x C H0 (fun es => ∃ m', m' < m ∧ W m' es), ct := NXI X x C H0 (fun es => ∃ m', m' < m ∧ W m' es), bk := fun _ _ => False } es H0) (AI X x C rest D es H0)) :
    AI X x C (.While c body [] pos :: rest) D ds H0 := fun st H S hsx hn ho e0 =>
  wb_cons (wss (ps_while hp pt_w pss_w) (by
    refine ⟨fun m st H => ∃ es, W m es ∧ Sat X.K [] st H es ∧ st[0]? = some (some (.ref x)) ∧ NoLs es ∧ (∃ ns os, es[0]? = some (some (.obj C ns os))) ∧ (∀ b u, b ≠ x → H0 b = some u → H b = some u), ⟨m, ds, h0, S, hsx, hn, ho, e0⟩, ?_⟩
    rintro m st H ⟨es, w, S, hsx, hn, ho, e0⟩
    refine hs m es w st H _ S dk_none fun b q1 H1 hb e1 hk1 => ?_
    have e1' : ∀ b u, b ≠ x → H0 b = some u → H1 b = some u := fun b u nb hb => e1 b u (fun z => by cases z) (e0 b u nb hb)
    cases b with
    | true =>
      rw [if_pos rfl]
      refine ⟨NXI X x C H0 (fun es => ∃ m', m' < m ∧ W m' es), ?_, ?_⟩
      · rintro st' H' ⟨es', ⟨m', l, w'⟩, r⟩
        exact ⟨m', l, es', w', r⟩
      · refine fun pins s I => thn (hb st H1 (S.kp e1 dk_none) hsx hn ho e1' pins s I) fun f s' hf => ?_
        cases f with
        | next => exact hf
        | cont => exact hf
        | ret u => exact hf
        | brk =>
          obtain ⟨_, _, _, hz⟩ := hf
          exact hz.elim
    | false =>
      rw [if_neg Bool.false_ne_true]
      exact hb st H1 (S.kp e1 dk_none) hsx hn ho e1'))
end
section
variable {P : Program} {w : World} {K : PySem.W.Frag} {mg : Str → Option Value} {base : Heap} {f : Addr} {fd : FuncData} {N ps : List Str} {k : Nat}
theorem fn_I {x qual : Str} {st : Stmt} {F : FI} {C : Addr} (Fn : Fun K x qual st f fd) (Sc : FnScope N ps (defScope st)) (len : ∀ ds G, F ds G → ds.length + 1 = ps.length)
    (hb : ∀ (cdv : Value) (A : Around) (outer : List Env) (s : Shared) (H : Hp) (Q : VK) (E : XK) (sx : Addr) (ds : List Dat) (G : List Str → List Dat → Prop), Room k (A.deeper (envOfC qual (defScope st) s.heap.objs.size f cdv)) → F ds G → (∀ ns os, G ns os → ∀ H', (∀ b u, b ≠ sx → H b = some u → H' b = some u) → DV K [] H' (.ref sx) (.obj C ns os) → Q .non H') →
      AI (cxOf CX0 P w K mg base N qual (defScope st) f cdv A outer s H E).nox sx C (defBody st) { nx := fun _ H' => Q .non H', rt := Q } ((Dat.obj C [] [] :: ds).map some ++ List.replicate (N.length - (ds.length + 1)) none) H) : FnOk P w K mg base CX0 (k + 1) f fd ps (spI K C F) := by
  refine Fn.ok Sc (fun vs H Q E h => ?_) (fun cdv A outer s H vs Q E hr h => ⟨_, pss_w, ?_⟩)
  · obtain ⟨x, dx, ws, ds, G, rfl, h0, h1, h2, h3, _⟩ := h
    show ws.length + 1 = ps.length
    rw [h1.1]
    exact len ds G h3
  · obtain ⟨x, dx, ws, ds, G, rfl, h0, h1, h2, h3, q⟩ := h
    have hN : ps.length ≤ N.length := by
      have e := congrArg List.length Sc.pre
      rw [List.length_take] at e
      omega
    have hl := len ds G h3
    have hself : DT K [] H (.ref x) (.obj C [] []) := .v (.obj (dx := dx) (xs := []) (by exact h0) (fun z => by cases z) rfl rfl (fun i v d a _ => by simp at a))
    refine hb cdv A outer s H Q E x ds G hr h3 q _ H (sat_start (DTs.cons hself h1) ?_) rfl (fun i d e hi => ?_) ⟨[], [], rfl⟩ (fun b u _ hb => hb)
    · show N.length = (ds.length + 1) + _
      omega
    · rw [List.map_cons, List.cons_append] at e
      cases i with
      | zero => exact (hi rfl).elim
      | succ i =>
        rw [List.getElem?_cons_succ] at e
        by_cases hi2 : i < ds.length
        · rw [List.getElem?_append_left (by rw [List.length_map]; exact hi2), List.getElem?_map] at e
          cases hd : ds[i]? with
          | none => rw [hd] at e; cases e
          | some d0 =>
            rw [hd] at e
            cases e
            exact noLs_all h2 hd
        · rw [List.getElem?_append_right (by rw [List.length_map]; omega), List.getElem?_replicate] at e
          split at e <;> cases e
end
end Wz

set_option Elab.async false
set_option linter.all false
set_option maxRecDepth 100000
set_option maxHeartbeats 4000000
/-! Lz13: cell[j] += e, for a, b in xs, list(xs), xs.index(i), is not None, max of a list, a comprehension over a tuple with an if, isinstance of three, a module's dict of any data. -/
namespace Wz
open PySem PySem.Spec PyProof.Rows L2 Evl
section
variable {X : Cx} {o0 o : Os} {ds : List (Option Dat)} {k k1 k2 : Cs} {e c a b elt e1 e2 e3 : Expr} {es : List Expr} {d : Dat} {as : List Dat} {pos pos' pos2 apos cpos p p1 p2 p3 : Pos} {rest body orelse : List Stmt} {D : Ends} {H0 : Hp} {R : Dat → Cs → Prop} {RT : Bool → Cs → Prop} {RN : List Dat → Cs → Prop} {x : Str} {scope : Scope} {j : Nat}
def rGetL : V → V → Hp → VK → Prop := fun x y H Q => ∃ p xs z, ∃ j : Nat, x = .ref p ∧ y = .int (j : Int) ∧ H p = some (.lst xs) ∧ xs[j]? = some z ∧ Q z H
theorem get_list : PGet X rGetL := by
  intro pins s σ H x y ov iv Q I rx ry h
  obtain ⟨p, xs, z, j, rfl, rfl, hp, hz, q⟩ := h
  cases rx
  obtain ⟨t, rfl⟩ := ry
  obtain ⟨its, n, rv, ho, hl⟩ := I.lst hp
  obtain ⟨u, hu, ru⟩ := rv.get hz
  have hj : j < xs.length := (List.getElem?_eq_some_iff.mp hz).1
  have hn := line63
  refine wpAny_getItem_list (items := its.toArray) ⟨_, ho, rfl, n, rfl⟩ (by omega) (by omega) (by rw [Int.toNat_natCast]; simpa using hu) ⟨z, H, I, ru, q⟩
/-- cell[j] += e -/
theorem as_aug {eo ei : Expr} {tpos : Pos} (h : EvC X o eo ds k fun dc k1 => EvC X o ei ds k1 fun di k2 => ∃ (i j : Nat) (s : List Dat) (u : Int), dc = .cel i ∧ di = .int (j : Int) ∧ k2[i]? = some s ∧ s[j]? = some (.int u) ∧ EvC X o e ds k2 fun d k3 => k3[i]? = some s ∧ onI d fun v => AS X o0 o rest D ds (k3.set i (s.set j (.int (u + v)))) H0)
    (hag : ∀ ov iv new, augStore ei ov iv new = (do holding [new, ov, iv] (setItem ov iv new); release [new, ov, iv] []; pure .next) := by intros; rfl) :
    AS X o0 o (.AugAssign (.Subscript eo ei tpos) .Add e pos :: rest) D ds k H0 := fun st H S hk e0 fr =>
  wb_cons (wss (ps_augS pe_w pe_w get_list pe_w ip_add set_list hag) (h st H _ S hk fun dc k1 u H1 hr e1 hk1 h1 => hr st H1 _ (S.kp e1 hk) hk1 fun di k2 w H2 hr e2 hk2 h2 => by
    obtain ⟨i, j, s, n, rfl, rfl, hs, hsj, hr⟩ := hr
    obtain ⟨a, rfl, ha⟩ := (h1.kp e2 hk1).uncel
    have hw := h2.unint
    subst hw
    obtain ⟨xs, hx, hd⟩ := hk2.at_ i a s ha hs
    obtain ⟨z, hz, hdz⟩ := hd.at hsj
    have S2 := (S.kp e1 hk).kp e2 hk1
    refine ⟨a, xs, z, j, rfl, rfl, hx, hz, hr st H2 _ S2 hk2 fun d k3 v H3 hr e3 hk3 h3 => ?_⟩
    obtain ⟨hs3, hr⟩ := hr
    obtain ⟨m, rfl, hr⟩ := onI_ex hr
    have hv := h3.unint
    subst hv
    cases hdz
    refine ⟨n, m, rfl, rfl, ?_⟩
    obtain ⟨xs3, hx3, hd3⟩ := hk3.at_ i a s ha hs3
    have hlx : j < xs3.length := by rw [hd3.1]; exact (List.getElem?_eq_some_iff.mp hsj).1
    have hls : j < s.length := (List.getElem?_eq_some_iff.mp hsj).1
    have hdv : DVs X.K o H3 (xs3.set j (.int (n + m))) (s.set j (.int (n + m))) := by
      refine ⟨by rw [List.length_set, List.length_set]; exact hd3.1, fun l y z ga gb => ?_⟩
      by_cases q : j = l
      · subst q
        rw [List.getElem?_set_self hlx] at ga
        rw [List.getElem?_set_self hls] at gb
        cases ga
        cases gb
        exact .int _
      · rw [List.getElem?_set_ne q] at ga gb
        exact hd3.2 l y z ga gb
    have nl : (s.set j (.int (n + m))).all noL = true := List.all_eq_true.mpr fun z hz => by
      rcases List.mem_or_eq_of_mem_set hz with hz | rfl
      · exact List.all_eq_true.mp (hk3.nl s (List.mem_of_getElem? hs3)) z hz
      · rfl
    obtain ⟨hk4, e4⟩ := dk_set hk3 ha hdv nl
    exact ⟨a, xs3, (j : Int), j, rfl, rfl, hx3, ixN_nat hlx, hr st _ ((S2.kp e3 hk2).kp e4 hk3) hk4 (fr.kp (fr.kp (fr.kp (fr.kp e0 e1) e2) e3) e4) fr⟩))
/-- for a, b in xs, xs a list that is no cell -/
theorem as_forL2 {i i2 : Nat} {y : Str} {px py pt : Pos} {kt : Nat} (hN : X.N.Nodup) (hcalm : X.calm = true) (hp : PassesOwn (model X.prog X.w) X.A X.env X.xe)
    (h : EvC X o e ds k fun d k1 => onL0 d fun as => ∃ (W : Nat → List (Option Dat) → Cs → Prop) (B : List (Option Dat) → Cs → Prop) (f g : Dat → Dat), W 0 ds k1 ∧ (∀ z ∈ as, z = .tup [f z, g z]) ∧ ForW X o0 o H0 body rest D as.length (fun j => as[j]?) (fun d es => (es.set i (some (f d))).set i2 (some (g d))) W B)
    (hi : X.N[i]? = some x := by rfl) (hj : X.N[i2]? = some y := by rfl) (hx : Loc X.env.scope x := by exact Or.inl rfl) (hy : Loc X.env.scope y := by exact Or.inl rfl) (hfx : X.fn x = true ∨ X.env.scope.names.lookup x = some .local := by exact .inl rfl) (hfy : X.fn y = true ∨ X.env.scope.names.lookup y = some .local := by exact .inl rfl) (hset : ∀ y, foldedSetIterable e X.env y = pure y := by intro _; rfl) :
    AS X o0 o (.For (.Tuple [.Name x px, .Name y py] kt pt) e body [] pos :: rest) D ds k H0 := fun st H S hk e0 fr =>
  wb_cons (wss (ps_for hp hcalm (pi_list pe_w) (pg_tup hcalm (pgs_cons (pg_name hN hi hx hfx) (pgs_cons (pg_name hN hj hy hfy) pgs_nil))) pss_w hset) (h st H _ S hk fun d k1 v H1 hr e1 hk1 h1 => by
    obtain ⟨as, rfl, W, B, f, g, h0, hfg, F⟩ := onL0_ex hr
    obtain ⟨t, xs, rfl, hs, hd⟩ := h1.unlst
    have e01 := fr.kp e0 e1
    refine ⟨t, rfl, ⟨xs, hs.sq⟩, for_list (xs := xs) (fun j => NX X o o H1 (W j)) ⟨ds, k1, h0, S.kp e1 hk, hk1, Kp.refl _ _, frs_self⟩ (fun _ _ H' _ ⟨_, _, _, _, _, e', _⟩ => (hs.kp e' fun _ z => z).sq) ?_ ?_⟩
    · rintro j y st' H' hy ⟨es, q, w, S', hk', e', fr'⟩
      have hj : j < as.length := by
        rw [← hd.1]
        exact (List.getElem?_eq_some_iff.mp hy).1
      have hda : as[j]? = some as[j] := List.getElem?_eq_getElem hj
      have hyd := (hd.2 j y _ hy hda).kp e' hk1
      have hz := hfg _ (List.getElem_mem hj)
      rw [hz] at hyd
      obtain ⟨tp, ys, rfl, hsq, hdy⟩ := hyd.untup
      match ys, hdy with
      | [y1, y2], hdy =>
        refine ⟨tp, _, rfl, hsq, rfl, y1, _, rfl, y2, _, rfl, rfl, ?_⟩
        exact for_bk e01 fr F.brk (F.turn H1 e01 fr j _ es q hj hda w _ H' ((S'.set (.v (hdy.2 0 _ _ rfl rfl))).set (.v (hdy.2 1 _ _ rfl rfl))) hk' e' fr')
    · rintro st' H' ⟨es, q, w, S', hk', e', fr'⟩
      exact F.done es q (by rw [hd.1] at w; exact w) st' H' S' hk' (fr.kp e01 e') fr))
/-- list(xs) -/
theorem n_list (hm : X.mg "list" = none) (h : EvA X o [e] ds k fun as k1 => on1 as fun d => onL k1 d fun xs => xs.length ≤ 10000 ∧ RN xs k1) (hg : Gl X "list" := by rfl) (he : starEach [e] X.env = (false, eval e X.env) :: starEach [] X.env := by rfl) (hpl : (backTo pos (starEach [] X.env)).any (·.1) = false := by rfl) : EvN X o (.Call (.Name "list" p) [e] [] pos) ds k RN := fun st H Q St hk q =>
  we (pe_callTy call_list_of hg hm (by decide +kernel) pa_w (by decide) (by decide) he hpl) (h st H _ St hk fun as k1 vs H1 hr e1 hk1 h1 => by
    obtain ⟨d, rfl, hr⟩ := on1_ex hr
    obtain ⟨v, rfl, g1⟩ := dts1 h1
    obtain ⟨pp, ys, xs, rfl, hs, hd, hl, hr⟩ := onL_ex hk1 hr g1
    refine ⟨pp, ys, rfl, .inl hs, fun l nl => ?_⟩
    have e2 := Kp.of_ex (o := o) (Ex.new (o := .lst ys) nl)
    exact q xs k1 l ys _ hr (fresh_back e1 hk1 nl) (e1.trans e2) (hk1.ex (Ex.new nl)) upd_same (hd.kp e2 hk1))
theorem ints_inj : ∀ {is js : List Int}, is.map Dat.int = js.map Dat.int → is = js
  | [], [], _ => rfl
  | [], _ :: _, h => by simp at h
  | _ :: _, [], h => by simp at h
  | i :: is, j :: js, h => by
    rw [List.map_cons, List.map_cons] at h
    injection h with h1 h2
    injection h1 with h1
    rw [h1, ints_inj h2]
/-- xs.index(i), ints -/
theorem flat_ints (is : List Int) : (is.map V.int).all flatV = true := by
  rw [List.all_map]
  exact List.all_eq_true.mpr fun _ _ => rfl
theorem c_index {eo : Expr} (h : EvC X o eo ds k fun dc k1 => (∃ is : List Int, dc = .lst (is.map Dat.int)) ∧ EvA X o [e1] ds k1 fun as k2 => on1 as fun d => onI d fun i => ∃ (is : List Int) (j : Nat), dc = .lst (is.map Dat.int) ∧ is[j]? = some i ∧ i ∉ is.take j ∧ R (.int (j : Int)) k2)
    (hbase : attributeBase eo "index" X.env (eval eo X.env) = eval eo X.env := by rfl)
    (hfew : ((backTo cpos (starEach [e1] X.env)).all (fun x => !x.1) && (backToKw cpos (keywordEach [] X.env)).all (fun x => x.1.isSome) && decide ([e1].length + ([] : List Keyword).length + (if ([] : List Keyword).isEmpty then 0 else 1) < 30)) = true := by rfl)
    (hline : (apos.endLine == cpos.line) = true := by rfl) (hs : starEach [e1] X.env = (false, eval e1 X.env) :: starEach [] X.env := by rfl) (hplain : (backTo cpos (starEach [] X.env)).any (·.1) = false := by rfl) : EvC X o (.Call (.Attribute eo "index" apos) [e1] [] cpos) ds k R := fun st H Q S hk q =>
  we (pe_bm PySem.F.plainAttrs_list PySem.F.slot_list_index PySem.F.type_list_index mt_index pe_w pa_w hbase hfew hline hs hplain) (h st H _ S hk fun dc k1 v H1 hx e1 hk1 h1 => by
    obtain ⟨⟨is0, rfl⟩, hx⟩ := hx
    obtain ⟨a, xs, rfl, hsq, hd⟩ := h1.unlst
    refine ⟨?_, hx st H1 _ (S.kp e1 hk) hk1 fun as k2 vs H2 hr e2 hk2 h2 => ?_⟩
    · exact .inl ⟨rfl, xs, hsq.sq⟩
    obtain ⟨d, rfl, hr⟩ := on1_ex hr
    obtain ⟨i, rfl, is, j, he, hj, hnj, hr⟩ := onI_ex hr
    obtain ⟨w, rfl, g⟩ := dts1 h2
    have hw := g.unint
    subst hw
    have e1' := vints hd
    subst e1'
    have hei : is0 = is := by
      have : is0.map Dat.int = is.map Dat.int := by injection he
      exact ints_inj this
    subst hei
    have hfl : flatV (V.int i) = true := rfl
    refine ⟨a, _, .int i, j, .int i, rfl, rfl, (hsq.kp e2 (fun _ z => z)).sq, hfl, flat_ints _, by rw [List.getElem?_map, hj]; rfl, by simp [eqV], fun m z' hm hz' => ?_, q _ k2 _ H2 hr (e1.trans e2) hk2 (.v (.int _))⟩
    rw [List.getElem?_map] at hz'
    cases hq : is0[m]? with
    | none => rw [hq] at hz'; cases hz'
    | some n =>
      rw [hq] at hz'
      cases hz'
      have : n ≠ i := fun z => hnj (by
        rw [List.mem_iff_getElem?]
        exact ⟨m, by rw [List.getElem?_take, if_pos hm, hq, z]⟩)
      simp [eqV]
      exact this)
/-- is not None -/
theorem c_notN {j pos'} (h : EvC X o a ds k fun x k1 => match isN x with | some b => R (.bl (!b)) k1 | none => False) : EvC X o (.Compare a [.IsNot] [.Constant .none j pos'] pos) ds k R := fun st H Q S hk q =>
  we (pe_cmpR op_notN pe_w pe_non (nobehind _ (by decide) (by decide))) (h st H _ S hk fun x k1 v H1 hx e1 hk1 h1 => by
    cases hb : isN x with
    | none => simp only [hb] at hx
    | some b =>
      simp only [hb] at hx
      refine ⟨rfl, ?_⟩
      rw [isN_is hb h1]
      exact q _ k1 _ H1 hx e1 hk1 (.v (.bl _)))
theorem t_notN {j pos'} (h : EvC X o a ds k fun x k1 => match isN x with | some b => RT (!b) k1 | none => False) : EvT X o (.Compare a [.IsNot] [.Constant .none j pos'] pos) ds k RT := fun st H Q S hk q =>
  wt (pt_cmpR op_notN pe_w pe_non (nobehind _ (by decide) (by decide))) (h st H _ S hk fun x k1 v H1 hx e1 hk1 h1 => by
    cases hb : isN x with
    | none => simp only [hb] at hx
    | some b =>
      simp only [hb] at hx
      refine ⟨rfl, ?_⟩
      rw [isN_is hb h1]
      exact ⟨_, rfl, q _ k1 H1 hx e1 hk1⟩)
/-- max(xs), ints -/
theorem c_maxL (hc : X.calm = true) (hm : X.mg "max" = none) (h : EvA X o [e] ds k fun as k1 => on1 as fun d => onL k1 d fun xs => ∃ ns : List Int, xs = ns.map Dat.int ∧ 0 < ns.length ∧ ∀ m, m ∈ ns → (∀ y, y ∈ ns → y ≤ m) → R (.int m) k1) (hg : Gl X "max" := by rfl) (he : starEach [e] X.env = (false, eval e X.env) :: starEach [] X.env := by rfl) : EvC X o (.Call (.Name "max" p) [e] [] pos) ds k R :=
  c_bif (cr_max hc) hm (by decide +kernel) (h.mono fun as k1 ha vs H Q h1 hk q => by
    obtain ⟨d, rfl, ha⟩ := on1_ex ha
    obtain ⟨v, rfl, g1⟩ := dts1 h1
    obtain ⟨p, ys, xs, rfl, hs, hl, ns, rfl, hne, ha⟩ := onL_ex hk ha g1
    have e := vints hl
    subst e
    exact ⟨p, ns, rfl, hs, hne, fun m h1 h2 => q _ _ H (ha m h1 h2) (Ex.refl _) (.v (.int _))⟩) hg (by decide) (by decide) he
/-- [elt for x in t if c], t a tuple -/
theorem n_lcTc (hcalm : X.calm = true) (hN : X.N.Nodup) (hok : BlkOk X.N X.env.scope scope [(x, j)]) (hgn : ∀ s H C cl fp, PG (BX X scope s H C cl fp) (.Name x p1) (gName j))
    (h : EvC X o a ds k fun d k1 => onT d fun as => as.length ≤ 10000 ∧ ∃ W, W 0 [] k1 ∧ LcC X o scope c elt ds as.length (fun i => as[i]?) (fun d es => es.set j (some d)) W ∧ ∀ acc q, W as.length acc q → acc.all noL = true → RN acc q)
    (hset : ∀ y, foldedSetIterable a X.env y = pure y := by intro _; rfl) :
    EvN X o (.ListComp elt [⟨.Name x p1, a, [c], 0⟩] scope pos) ds k RN := fun st H Q S hk q =>
  we (pe_lc (own := [(x, j)]) (g := gName j) (tt := bT X scope c) (te := bE X scope elt) hcalm hN (pi_tup pe_w) hok hgn
    (fun s0 H0 C cl fp => pts_one ⟨fun pins s st H Q I h => h s0 H0 C cl fp pins s I⟩) (fun s0 H0 C cl fp => ⟨fun pins s st H Q I h => h s0 H0 C cl fp pins s I⟩) hset) (h st H _ S hk fun d k1 v H1 hr e1 hk1 h1 => by
    obtain ⟨as, rfl, hn, W, h0, L, hd⟩ := onT_ex hr
    obtain ⟨t, xs, rfl, hs, hdv⟩ := h1.untup
    refine ⟨t, rfl, ⟨xs, hs⟩, fun Dr nD => ?_⟩
    refine lc_tup (xs := xs) (g := gName j) (tt := bT X scope c) (te := bE X scope elt) (vs := [j]) (σ := st) (Qd := fun H' => Q (.ref Dr) H') (CvI X.K o H1 Dr W) (cv_start nD hk1 h0) (fun i H' _ w => kp_t w.1 hk1 hs) (fun i y H' hy w => ?_) (fun H' w => ?_)
    · have hi : i < as.length := by
        rw [← hdv.1]
        exact (List.getElem?_eq_some_iff.mp hy).1
      have hda : as[i]? = some as[i] := List.getElem?_eq_getElem hi
      exact lc_turn1 nD hk1 (S.kp e1 hk) L hn hi hda (hdv.2 i y _ hy hda) w
    · obtain ⟨w1, q', acc, vs, hW, hk', hD, hv, na, hl⟩ := w
      rw [hdv.1] at hW
      exact q acc q' Dr vs H' (hd acc q' hW na) (fresh_back e1 hk1 nD) (e1.trans w1) hk' hD hv)
/-- isinstance(e, (T1, T2, T3)) -/
theorem c_isi3 {U1 U2 U3 : String} {n1 n2 n3 : Str} {p1 p2 p3 p4 : Pos} {cx : Nat} (hm : X.mg "isinstance" = none) (hm1 : X.mg n1 = none) (hv1 : bootBuiltins n1 = some (.type U1)) (hm2 : X.mg n2 = none) (hv2 : bootBuiltins n2 = some (.type U2)) (hm3 : X.mg n3 = none) (hv3 : bootBuiltins n3 = some (.type U3))
    (h : EvC X o e1 ds k fun d k1 => ∃ T b1 b2 b3, tyN k1 d = some T ∧ kitB T U1 = some b1 ∧ kitB T U2 = some b2 ∧ kitB T U3 = some b3 ∧ R (.bl (b1 || (b2 || b3))) k1) (hg : Gl X "isinstance" := by rfl) (hg1 : Gl X n1 := by rfl) (hg2 : Gl X n2 := by rfl) (hg3 : Gl X n3 := by rfl) (hn1 : n1 ≠ "__name__" := by decide) (hn2 : n2 ≠ "__name__" := by decide) (hn3 : n3 ≠ "__name__" := by decide) (hd1 : (n1 == ("__debug__" : Str)) = false := by decide) (hd2 : (n2 == ("__debug__" : Str)) = false := by decide) (hd3 : (n3 == ("__debug__" : Str)) = false := by decide)
    (he : starEach [e1, .Tuple [.Name n1 p1, .Name n2 p2, .Name n3 p4] cx p3] X.env = (false, eval e1 X.env) :: starEach [.Tuple [.Name n1 p1, .Name n2 p2, .Name n3 p4] cx p3] X.env := by rfl)
    (hpl : (backTo pos (starEach [.Tuple [.Name n1 p1, .Name n2 p2, .Name n3 p4] cx p3] X.env)).any (·.1) = false := by rfl) : EvC X o (.Call (.Name "isinstance" p) [e1, .Tuple [.Name n1 p1, .Name n2 p2, .Name n3 p4] cx p3] [] pos) ds k R := fun st H Q St hk q =>
  we (pe_callB call_isiT hg hm (by decide +kernel) (pa_cons pe_w (pa_cons (pe_tup (pa_cons (pe_bltn hg1 hm1 hv1 (v := .ty U1) rfl hn1 hd1) (pa_cons (pe_bltn hg2 hm2 hv2 (v := .ty U2) rfl hn2 hd2) (pa_cons (pe_bltn hg3 hm3 hv3 (v := .ty U3) rfl hn3 hd3) pa_nil)))) pa_nil) he) (by decide) (by decide) he hpl) (h st H _ St hk fun d k1 v H1 hr ex hk1 h1 => by
    refine ⟨by show 3 ≤ sizeLine; decide, fun tp np => ?_⟩
    obtain ⟨T, b1, b2, b3, hT, hb1, hb2, hb3, hr⟩ := hr
    have e2 := Kp.of_ex (o := o) (Ex.new (o := .tup [.ty U1, .ty U2, .ty U3]) np)
    have hk2 := hk1.ex (Ex.new (o := .tup [.ty U1, .ty U2, .ty U3]) np)
    exact ⟨v, tp, [.ty U1, .ty U2, .ty U3], _, [.type U1, .type U2, .type U3], _, rfl, upd_same, .cons (.ty U1) (.cons (.ty U2) (.cons (.ty U3) .nil)), ty_x hk2 hT (h1.kp e2 hk1), kit3 hb1 hb2 hb3, q _ k1 _ _ hr (ex.trans e2) hk2 (.v (.bl _))⟩)
/-- a module's dict that tells some data for each kind -/
structure KDD (P : Program) (w : World) (K : PySem.W.Frag) (mg : Str → Option Value) (x : Str) (f : Int → Dat) : Prop where
  ex : ∃ (C : Addr) (es : Array DictEntry) (n : Nat), mg x = some (.ref C) ∧ K.lookup C = some ⟨.type "dict", none, .dict es n, #[]⟩ ∧ KeysOf (intKind P w) es ∧ ∀ i, (i = 2 ∨ i = 3 ∨ i = 5) → ∃ u v, findBy (intKind P w).is es i = some u ∧ RelV v u ∧ ∀ o H, DV K o H v (f i)
theorem c_kdd {f : Int → Dat} (t : KDD X.prog X.w X.K X.mg x f) (h : EvC X o b ds k fun y k1 => onI y fun i => (i = 2 ∨ i = 3 ∨ i = 5) ∧ R (f i) k1) (hg : Gl X x := by rfl) (hd : (x == ("__debug__" : Str)) = false := by decide) (hp : PlainIx b := by exact fun _ _ => rfl) : EvC X o (.Subscript (.Name x pos) b pos2) ds k R := fun st H Q S hk q => by
  obtain ⟨C, es, n, hm, hl, ks, hv⟩ := t.ex
  refine we (pe_ix ix_kdi (pe_glob hg hm (v := .ref C) rfl hd) pe_w hp) ?_
  refine h st H _ S hk fun y k1 v H2 hr e2 hk2 h2 => ?_
  obtain ⟨i, rfl, hi, hr⟩ := onI_ex hr
  have q1 := h2.unint
  subst q1
  obtain ⟨u, v, hf, hr2, hs⟩ := hv i hi
  exact ⟨C, i, es, n, u, v, rfl, rfl, hl, ks, hf, hr2, q _ k1 _ H2 hr e2 hk2 (.v (hs o H2))⟩
end
end Wz

set_option Elab.async false
set_option linter.all false
namespace Y29
open PySem Wz
/-! the mathematics of k29: signs, norms, units -/
theorem mod_sq (p : Int) (hp : p = 2 ∨ p = 3 ∨ p = 5) (x : Int) (h : (x * x) % p = 0) : x % p = 0 := by
  rcases hp with rfl | rfl | rfl
  · have : x % 2 = 0 ∨ x % 2 = 1 := by omega
    rcases this with q | q
    · exact q
    · rw [Int.mul_emod, q] at h; simp at h
  · have : x % 3 = 0 ∨ x % 3 = 1 ∨ x % 3 = 2 := by omega
    rcases this with q | q | q
    · exact q
    · rw [Int.mul_emod, q] at h; simp at h
    · rw [Int.mul_emod, q] at h; simp at h
  · have : x % 5 = 0 ∨ x % 5 = 1 ∨ x % 5 = 2 ∨ x % 5 = 3 ∨ x % 5 = 4 := by omega
    rcases this with q | q | q | q | q
    · exact q
    · rw [Int.mul_emod, q] at h; simp at h
    · rw [Int.mul_emod, q] at h; simp at h
    · rw [Int.mul_emod, q] at h; simp at h
    · rw [Int.mul_emod, q] at h; simp at h
theorem sq_irr (p : Int) (hp : p = 2 ∨ p = 3 ∨ p = 5) : ∀ (k : Nat) (x y : Int), y.natAbs < k → x * x = p * (y * y) → x = 0 ∧ y = 0 := by
  intro k
  induction k with
  | zero => intro x y h; omega
  | succ k ih =>
    intro x y hy h
    have hx : x % p = 0 := mod_sq p hp x (by rw [h, Int.mul_emod_right])
    obtain ⟨u, rfl⟩ := Int.dvd_of_emod_eq_zero hx
    have h2 : p * (u * u) = y * y := by
      have e : p * u * (p * u) = p * (p * (u * u)) := by grind
      rw [e] at h
      have p0 : p ≠ 0 := by omega
      exact Int.eq_of_mul_eq_mul_left p0 h
    have hy2 : y % p = 0 := mod_sq p hp y (by rw [← h2, Int.mul_emod_right])
    obtain ⟨v, rfl⟩ := Int.dvd_of_emod_eq_zero hy2
    by_cases hv : v = 0
    · subst hv
      have : u * u = 0 := by
        have e : p * (u * u) = 0 := by rw [h2]; simp
        rcases Int.mul_eq_zero.mp e with z | z
        · omega
        · exact z
      have hu : u = 0 := by rcases Int.mul_eq_zero.mp this with z | z <;> exact z
      subst hu
      simp
    · have lt : v.natAbs < k := by
        rw [Int.natAbs_mul] at hy
        have : 2 ≤ p.natAbs := by rcases hp with rfl | rfl | rfl <;> decide
        have q : 2 * v.natAbs ≤ p.natAbs * v.natAbs := Nat.mul_le_mul_right _ this
        omega
      have e : u * u = p * (v * v) := by
        have e1 : p * (u * u) = p * (p * (v * v)) := by rw [h2]; grind
        have p0 : p ≠ 0 := by omega
        exact Int.eq_of_mul_eq_mul_left p0 e1
      obtain ⟨h3, h4⟩ := ih u v lt e
      exact absurd h4 hv
def K3 (d : Int) : Prop := d = 2 ∨ d = 3 ∨ d = 5
theorem irr {d x y : Int} (hd : K3 d) (h : x * x = d * y * y) : x = 0 ∧ y = 0 := sq_irr d hd (y.natAbs + 1) x y (Nat.lt_succ_self _) (by rw [h, Int.mul_assoc])
/-- x + y times the root of d is above 0 -/
def Pq (d x y : Int) : Prop := (d * y * y < x * x ∧ 0 < x) ∨ (x * x < d * y * y ∧ 0 < y)
instance {d x y : Int} : Decidable (Pq d x y) := by unfold Pq; exact inferInstance
theorem sqn (x : Int) : 0 ≤ x * x := by
  rcases Int.le_total 0 x with h | h
  · exact Int.mul_nonneg h h
  · exact Int.mul_nonneg_of_nonpos_of_nonpos h h
theorem sqp {x : Int} (h : x ≠ 0) : 0 < x * x := by
  have := sqn x
  have : x * x ≠ 0 := fun z => h (by rcases Int.mul_eq_zero.mp z with q | q <;> exact q)
  omega
theorem dy {d y : Int} (hd : K3 d) : 0 ≤ d * y * y := by
  rw [Int.mul_assoc]
  exact Int.mul_nonneg (by rcases hd with rfl | rfl | rfl <;> decide) (sqn y)
/-- of squares -/
theorem lt_sq {a b : Int} (hb : 0 ≤ b) (h : a * a < b * b) : a < b := by
  refine Int.lt_of_not_ge fun z => ?_
  have := Int.mul_le_mul z z hb (by omega)
  omega
theorem pq_mul {d x y u v : Int} (hd : K3 d) (h : Pq d x y) (g : Pq d u v) : Pq d (x * u + d * y * v) (x * v + y * u) := by
  have d0 : 0 < d := by rcases hd with rfl | rfl | rfl <;> decide
  have en : (x * u + d * y * v) * (x * u + d * y * v) - d * (x * v + y * u) * (x * v + y * u) = (x * x - d * y * y) * (u * u - d * v * v) := by grind
  rcases h with ⟨h1, h2⟩ | ⟨h1, h2⟩
  · rcases g with ⟨g1, g2⟩ | ⟨g1, g2⟩
    · have p : 0 < (x * x - d * y * y) * (u * u - d * v * v) := Int.mul_pos (by omega) (by omega)
      refine .inl ⟨by omega, ?_⟩
      have hxu : 0 < x * u := Int.mul_pos h2 g2
      have q : (d * y * v) * (d * y * v) < (x * u) * (x * u) := by
        have e1 : (d * y * v) * (d * y * v) = (d * y * y) * (d * v * v) := by grind
        have e2 : (x * u) * (x * u) = (x * x) * (u * u) := by grind
        rw [e1, e2]
        have a1 := dy (d := d) (y := y) hd
        have a2 := dy (d := d) (y := v) hd
        have s1 : (d * y * y) * (d * v * v) ≤ (d * y * y) * (u * u) := Int.mul_le_mul_of_nonneg_left (by omega) a1
        have s2 : (d * y * y) * (u * u) < (x * x) * (u * u) := Int.mul_lt_mul_of_pos_right h1 (sqp (by omega))
        omega
      have q2 : (-(d * y * v)) * (-(d * y * v)) < (x * u) * (x * u) := by rw [Int.neg_mul_neg]; exact q
      have := lt_sq (by omega) q2
      omega
    · have p : (x * x - d * y * y) * (u * u - d * v * v) < 0 := Int.mul_neg_of_pos_of_neg (by omega) (by omega)
      refine .inr ⟨by omega, ?_⟩
      have hxv : 0 < x * v := Int.mul_pos h2 g2
      have q : (y * u) * (y * u) < (x * v) * (x * v) := by
        have e1 : d * ((y * u) * (y * u)) = (d * y * y) * (u * u) := by grind
        have e2 : d * ((x * v) * (x * v)) = (x * x) * (d * v * v) := by grind
        have s1 : (d * y * y) * (u * u) ≤ (x * x) * (u * u) := Int.mul_le_mul_of_nonneg_right (by omega) (sqn u)
        have s2 : (x * x) * (u * u) < (x * x) * (d * v * v) := Int.mul_lt_mul_of_pos_left g1 (sqp (by omega))
        refine Int.lt_of_mul_lt_mul_left (a := d) ?_ (by omega)
        rw [e1, e2]
        omega
      have q2 : (-(y * u)) * (-(y * u)) < (x * v) * (x * v) := by rw [Int.neg_mul_neg]; exact q
      have := lt_sq (by omega) q2
      omega
  · rcases g with ⟨g1, g2⟩ | ⟨g1, g2⟩
    · have p : (x * x - d * y * y) * (u * u - d * v * v) < 0 := Int.mul_neg_of_neg_of_pos (by omega) (by omega)
      refine .inr ⟨by omega, ?_⟩
      have hxv : 0 < y * u := Int.mul_pos h2 g2
      have q : (x * v) * (x * v) < (y * u) * (y * u) := by
        have e1 : d * ((y * u) * (y * u)) = (d * y * y) * (u * u) := by grind
        have e2 : d * ((x * v) * (x * v)) = (x * x) * (d * v * v) := by grind
        have s1 : (x * x) * (d * v * v) ≤ (x * x) * (u * u) := Int.mul_le_mul_of_nonneg_left (by omega) (sqn x)
        have s2 : (x * x) * (u * u) < (d * y * y) * (u * u) := Int.mul_lt_mul_of_pos_right h1 (sqp (by omega))
        refine Int.lt_of_mul_lt_mul_left (a := d) ?_ (by omega)
        rw [e1, e2]
        omega
      have q2 : (-(x * v)) * (-(x * v)) < (y * u) * (y * u) := by rw [Int.neg_mul_neg]; exact q
      have := lt_sq (by omega) q2
      omega
    · have p : 0 < (x * x - d * y * y) * (u * u - d * v * v) := Int.mul_pos_of_neg_of_neg (by omega) (by omega)
      refine .inl ⟨by omega, ?_⟩
      have hxu : 0 < d * y * v := Int.mul_pos (Int.mul_pos d0 h2) g2
      have q : (x * u) * (x * u) < (d * y * v) * (d * y * v) := by
        have e1 : (d * y * v) * (d * y * v) = (d * y * y) * (d * v * v) := by grind
        have e2 : (x * u) * (x * u) = (x * x) * (u * u) := by grind
        rw [e1, e2]
        have s1 : (x * x) * (u * u) ≤ (x * x) * (d * v * v) := Int.mul_le_mul_of_nonneg_left (by omega) (sqn x)
        have a2 : 0 < d * v * v := Int.mul_pos (Int.mul_pos d0 g2) g2
        have s2 : (x * x) * (d * v * v) < (d * y * y) * (d * v * v) := Int.mul_lt_mul_of_pos_right h1 a2
        omega
      have q2 : (-(x * u)) * (-(x * u)) < (d * y * v) * (d * y * v) := by rw [Int.neg_mul_neg]; exact q
      have := lt_sq (by omega) q2
      omega
theorem pq_two {d x y : Int} : Pq d (2 * x) (2 * y) ↔ Pq d x y := by
  unfold Pq
  have e1 : 2 * x * (2 * x) = 4 * (x * x) := by grind
  have e2 : d * (2 * y) * (2 * y) = 4 * (d * y * y) := by grind
  rw [e1, e2]
  omega
/-- the cases of the program -/
theorem pq_cases {d x y : Int} (hd : K3 d) : Pq d x y ↔ (0 ≤ x ∧ 0 ≤ y ∧ ¬ (x = 0 ∧ y = 0)) ∨ (¬ (0 ≤ x ∧ 0 ≤ y) ∧ ¬ (x ≤ 0 ∧ y ≤ 0) ∧ ((d * y * y < x * x ∧ 0 < x) ∨ (¬ d * y * y < x * x ∧ 0 < y))) := by
  have hi : x * x = d * y * y → x = 0 ∧ y = 0 := irr hd
  have hn := dy (d := d) (y := y) hd
  have hx := sqn x
  have d0 : 0 < d := by rcases hd with rfl | rfl | rfl <;> decide
  have y0 : y = 0 → d * y * y = 0 := fun e => by rw [e]; simp
  have x0 : x = 0 → x * x = 0 := fun e => by rw [e]; simp
  have hy : y ≠ 0 → 0 < d * y * y := fun e => by rw [Int.mul_assoc]; exact Int.mul_pos d0 (sqp e)
  have hx' : x ≠ 0 → 0 < x * x := sqp
  unfold Pq
  generalize d * y * y = A at *
  generalize x * x = B at *
  constructor
  · omega
  · omega
end Y29

set_option Elab.async false
set_option linter.all false
set_option maxRecDepth 100000
set_option maxHeartbeats 4000000
namespace Y02
open PySem PySem.Spec PyProof.Rows L2 Evl Wz
abbrev nD (a b n : Int) : Dat := .tup [.int a, .int b, .int n]
def g3 (a b n : Int) : Int := (((a.natAbs.gcd b.natAbs).gcd n.natAbs : Nat) : Int)
def sg (a b n : Int) : Int := if decide (n < 0) = true then -(g3 a b n) else g3 a b n
def loA (a b n : Int) : Int := a.fdiv (sg a b n)
def loB (a b n : Int) : Int := b.fdiv (sg a b n)
def loN (a b n : Int) : Int := n.fdiv (sg a b n)
abbrev loD (a b n : Int) : Dat := nD (loA a b n) (loB a b n) (loN a b n)
theorem g3_ne {a b n : Int} (h : n ≠ 0) : g3 a b n ≠ 0 := by
  have : 0 < (a.natAbs.gcd b.natAbs).gcd n.natAbs := Nat.gcd_pos_of_pos_right _ (Int.natAbs_pos.mpr h)
  unfold g3
  omega
theorem g3_bd {a b n : Int} {m : Nat} (h : n ≠ 0) (hb : Bd m n) : Bd m (g3 a b n) := by
  have h1 : (a.natAbs.gcd b.natAbs).gcd n.natAbs ≤ n.natAbs := Nat.gcd_le_right _ (Int.natAbs_pos.mpr h)
  have h2 : n.natAbs < 2 ^ m := hb
  show (g3 a b n).natAbs < 2 ^ m
  unfold g3
  rw [Int.natAbs_natCast]
  omega
theorem sg_ne {a b n : Int} (h : n ≠ 0) : sg a b n ≠ 0 := by
  have := g3_ne (a := a) (b := b) h
  unfold sg
  split <;> omega
theorem sg_bd {a b n : Int} {m : Nat} (h : n ≠ 0) (hb : Bd m n) : Bd m (sg a b n) := by
  have := g3_bd (a := a) (b := b) h hb
  unfold sg
  split
  · exact this.neg
  · exact this
def Kd (k : Int) : Prop := k = 2 ∨ k = 3 ∨ k = 5
theorem Kd.bd {k : Int} (h : Kd k) : Bd 3 k := by rcases h with rfl | rfl | rfl <;> (show Int.natAbs _ < 2 ^ 3; decide)
def ptA (k a b c d : Int) : Int := if k = 5 then a * c + b * d else a * c + k * (b * d)
def ptB (k a b c d : Int) : Int := if k = 5 then a * d + b * c + b * d else a * d + b * c
def isN (a b n : Int) : Bool := decide (1 ≤ n) && decide (g3 a b n = 1)
def Nm (a b n : Int) : Prop := isN a b n = true
theorem Nm.pos {a b n : Int} (h : Nm a b n) : 1 ≤ n := by
  have h' : (decide (1 ≤ n) && decide (g3 a b n = 1)) = true := h
  rw [Bool.and_eq_true] at h'
  exact of_decide_eq_true h'.1
theorem Nm.ne {a b n : Int} (h : Nm a b n) : n ≠ 0 := by have := h.pos; omega
theorem g3_mul (a b n t : Int) : g3 (a * t) (b * t) (n * t) = g3 a b n * (t.natAbs : Int) := by
  unfold g3
  rw [Int.natAbs_mul, Int.natAbs_mul, Int.natAbs_mul, Nat.gcd_mul_right, Nat.gcd_mul_right, Int.natCast_mul]
theorem g3_dvd (a b n : Int) : g3 a b n ∣ a ∧ g3 a b n ∣ b ∧ g3 a b n ∣ n := by
  unfold g3
  have h1 := Nat.gcd_dvd_left (a.natAbs.gcd b.natAbs) n.natAbs
  have h2 := Nat.gcd_dvd_right (a.natAbs.gcd b.natAbs) n.natAbs
  have h3 := Nat.gcd_dvd_left a.natAbs b.natAbs
  have h4 := Nat.gcd_dvd_right a.natAbs b.natAbs
  refine ⟨Int.natAbs_dvd_natAbs.mp ?_, Int.natAbs_dvd_natAbs.mp ?_, Int.natAbs_dvd_natAbs.mp ?_⟩
  · rw [Int.natAbs_natCast]; exact Nat.dvd_trans h1 h3
  · rw [Int.natAbs_natCast]; exact Nat.dvd_trans h1 h4
  · rw [Int.natAbs_natCast]; exact h2
theorem sg_dvd (a b n : Int) : sg a b n ∣ a ∧ sg a b n ∣ b ∧ sg a b n ∣ n := by
  obtain ⟨h1, h2, h3⟩ := g3_dvd a b n
  unfold sg
  split
  · exact ⟨Int.neg_dvd.mpr h1, Int.neg_dvd.mpr h2, Int.neg_dvd.mpr h3⟩
  · exact ⟨h1, h2, h3⟩
theorem fdiv_mul {a g : Int} (h : g ≠ 0) (d : g ∣ a) : a.fdiv g * g = a := by
  obtain ⟨c, rfl⟩ := d
  rw [Int.mul_fdiv_cancel_left _ h, Int.mul_comm]
theorem lo_mul {a b n : Int} (h : n ≠ 0) : loA a b n * sg a b n = a ∧ loB a b n * sg a b n = b ∧ loN a b n * sg a b n = n := by
  obtain ⟨h1, h2, h3⟩ := sg_dvd a b n
  have g := sg_ne (a := a) (b := b) h
  exact ⟨fdiv_mul g h1, fdiv_mul g h2, fdiv_mul g h3⟩
theorem g3_pos {a b n : Int} (h : n ≠ 0) : 0 < g3 a b n := by
  have h1 := g3_ne (a := a) (b := b) h
  have h2 : 0 ≤ g3 a b n := Int.natCast_nonneg _
  omega
theorem sg_abs (a b n : Int) : ((sg a b n).natAbs : Int) = g3 a b n := by
  have h2 : 0 ≤ g3 a b n := Int.natCast_nonneg _
  unfold sg
  split <;> omega
/-- what lowest gives is a number -/
theorem lo_nm {a b n : Int} (h : n ≠ 0) : Nm (loA a b n) (loB a b n) (loN a b n) := by
  obtain ⟨e1, e2, e3⟩ := lo_mul (a := a) (b := b) h
  have gp := g3_pos (a := a) (b := b) h
  have hm := g3_mul (loA a b n) (loB a b n) (loN a b n) (sg a b n)
  rw [e1, e2, e3, sg_abs] at hm
  have h1 : g3 (loA a b n) (loB a b n) (loN a b n) = 1 := by
    have : 1 * g3 a b n = g3 (loA a b n) (loB a b n) (loN a b n) * g3 a b n := by rw [Int.one_mul]; exact hm
    exact (Int.eq_of_mul_eq_mul_right (by omega) this).symm
  have h2 : 1 ≤ loN a b n := by
    have hs : sg a b n = if decide (n < 0) = true then -(g3 a b n) else g3 a b n := rfl
    by_cases hn : n < 0
    · rw [decide_eq_true hn, if_pos rfl] at hs
      rw [hs] at e3
      by_cases hl : 1 ≤ loN a b n
      · exact hl
      · have : 0 ≤ loN a b n * -(g3 a b n) := Int.mul_nonneg_of_nonpos_of_nonpos (by omega) (by omega)
        omega
    · rw [decide_eq_false hn, if_neg Bool.false_ne_true] at hs
      rw [hs] at e3
      by_cases hl : 1 ≤ loN a b n
      · exact hl
      · have : loN a b n * (g3 a b n) ≤ 0 := Int.mul_nonpos_of_nonpos_of_nonneg (by omega) (by omega)
        omega
  show isN _ _ _ = true
  unfold isN
  rw [decide_eq_true h1, decide_eq_true h2]
  rfl
theorem Nm.g {a b n : Int} (h : Nm a b n) : g3 a b n = 1 := by
  have h' : (decide (1 ≤ n) && decide (g3 a b n = 1)) = true := h
  rw [Bool.and_eq_true] at h'
  exact of_decide_eq_true h'.2
/-- two numbers in their form are the same if they are the same crosswise -/
theorem nm_one {a b n c e m : Int} (h : Nm a b n) (g : Nm c e m) (h1 : a * m = c * n) (h2 : b * m = e * n) : a = c ∧ b = e ∧ n = m := by
  have p1 := h.pos
  have p2 := g.pos
  have q1 := g3_mul a b n m
  have q2 := g3_mul c e m n
  rw [h.g, Int.one_mul] at q1
  rw [g.g, Int.one_mul] at q2
  rw [h1, h2, Int.mul_comm n m] at q1
  rw [q1] at q2
  have en : n = m := by omega
  subst en
  exact ⟨Int.eq_of_mul_eq_mul_right (by omega) h1, Int.eq_of_mul_eq_mul_right (by omega) h2, rfl⟩
/-- lowest crosswise -/
theorem lo_cross {a b n : Int} (h : n ≠ 0) : loA a b n * n = a * loN a b n ∧ loB a b n * n = b * loN a b n := by
  obtain ⟨e1, e2, e3⟩ := lo_mul (a := a) (b := b) h
  have gn := sg_ne (a := a) (b := b) h
  refine ⟨?_, ?_⟩
  · refine Int.eq_of_mul_eq_mul_right gn ?_
    calc loA a b n * n * sg a b n = (loA a b n * sg a b n) * n := by rw [Int.mul_assoc, Int.mul_comm n, ← Int.mul_assoc]
      _ = a * n := by rw [e1]
      _ = a * (loN a b n * sg a b n) := by rw [e3]
      _ = a * loN a b n * sg a b n := by rw [Int.mul_assoc]
  · refine Int.eq_of_mul_eq_mul_right gn ?_
    calc loB a b n * n * sg a b n = (loB a b n * sg a b n) * n := by rw [Int.mul_assoc, Int.mul_comm n, ← Int.mul_assoc]
      _ = b * n := by rw [e2]
      _ = b * (loN a b n * sg a b n) := by rw [e3]
      _ = b * loN a b n * sg a b n := by rw [Int.mul_assoc]
/-- lowest is the one number that is so crosswise -/
theorem lo_is {a b n c e m : Int} (h : n ≠ 0) (g : Nm c e m) (h1 : a * m = c * n) (h2 : b * m = e * n) : loA a b n = c ∧ loB a b n = e ∧ loN a b n = m := by
  obtain ⟨x1, x2⟩ := lo_cross (a := a) (b := b) h
  have ln := (lo_nm (a := a) (b := b) h).ne
  refine nm_one (lo_nm h) g ?_ ?_
  · refine Int.eq_of_mul_eq_mul_right h ?_
    calc loA a b n * m * n = (loA a b n * n) * m := by rw [Int.mul_assoc, Int.mul_comm m, ← Int.mul_assoc]
      _ = a * loN a b n * m := by rw [x1]
      _ = a * m * loN a b n := by rw [Int.mul_assoc, Int.mul_comm (loN a b n), ← Int.mul_assoc]
      _ = c * n * loN a b n := by rw [h1]
      _ = c * loN a b n * n := by rw [Int.mul_assoc, Int.mul_comm n, ← Int.mul_assoc]
  · refine Int.eq_of_mul_eq_mul_right h ?_
    calc loB a b n * m * n = (loB a b n * n) * m := by rw [Int.mul_assoc, Int.mul_comm m, ← Int.mul_assoc]
      _ = b * loN a b n * m := by rw [x2]
      _ = b * m * loN a b n := by rw [Int.mul_assoc, Int.mul_comm (loN a b n), ← Int.mul_assoc]
      _ = e * n * loN a b n := by rw [h2]
      _ = e * loN a b n * n := by rw [Int.mul_assoc, Int.mul_comm n, ← Int.mul_assoc]
theorem lo_self {a b n : Int} (h : Nm a b n) : loA a b n = a ∧ loB a b n = b ∧ loN a b n = n := lo_is h.ne h rfl rfl
theorem lo_bd1 {x g : Int} {m : Nat} (hg : g ≠ 0) (d : g ∣ x) (h : Bd m x) : Bd m (x.fdiv g) := by
  have e := fdiv_mul hg d
  show (x.fdiv g).natAbs < 2 ^ m
  have h1 : x.natAbs < 2 ^ m := h
  rw [← e, Int.natAbs_mul] at h1
  have h2 : 1 ≤ g.natAbs := Int.natAbs_pos.mpr hg
  have h3 : (x.fdiv g).natAbs * 1 ≤ (x.fdiv g).natAbs * g.natAbs := Nat.mul_le_mul_left _ h2
  omega
theorem lo_bd {a b n : Int} {m : Nat} (h : n ≠ 0) (h1 : Bd m a) (h2 : Bd m b) (h3 : Bd m n) : Bd m (loA a b n) ∧ Bd m (loB a b n) ∧ Bd m (loN a b n) := by
  obtain ⟨d1, d2, d3⟩ := sg_dvd a b n
  have g := sg_ne (a := a) (b := b) h
  exact ⟨lo_bd1 g d1 h1, lo_bd1 g d2 h2, lo_bd1 g d3 h3⟩
def b01 (b : Bool) : Int := if b = true then 1 else 0
/-- the sign, by squares -/
def sgL (K x y : Int) : Int :=
  if 0 ≤ x * y then b01 (decide (0 < x + y)) - b01 (decide (x + y < 0))
  else if 0 < x then b01 (decide (0 < x * x - K * y * y)) - b01 (decide (x * x - K * y * y < 0))
  else b01 (decide (x * x - K * y * y < 0)) - b01 (decide (0 < x * x - K * y * y))
/-- the sign, by cases of both signs -/
def sgP (K x y : Int) : Int :=
  if 0 ≤ x ∧ 0 ≤ y then (if x ≠ 0 ∨ y ≠ 0 then 1 else 0)
  else if x ≤ 0 ∧ y ≤ 0 then -1
  else if K * y * y < x * x then (if 0 < x then 1 else -1)
  else (if 0 < y then 1 else -1)
def K3 (K : Int) : Prop := K = 2 ∨ K = 3 ∨ K = 5
theorem b01_t {b : Bool} (h : b = true) : b01 b = 1 := if_pos h
theorem b01_f {b : Bool} (h : b = false) : b01 b = 0 := by rw [h]; rfl
theorem bp {p : Prop} [Decidable p] (h : p) : b01 (decide p) = 1 := b01_t (decide_eq_true h)
theorem bn {p : Prop} [Decidable p] (h : ¬ p) : b01 (decide p) = 0 := b01_f (decide_eq_false h)
theorem mul_neg_of {x y : Int} (h : (0 < x ∧ y < 0) ∨ (x < 0 ∧ 0 < y)) : ¬ 0 ≤ x * y := by
  rcases h with ⟨h1, h2⟩ | ⟨h1, h2⟩
  · have := Int.mul_neg_of_pos_of_neg h1 h2; omega
  · have := Int.mul_neg_of_neg_of_pos h1 h2; omega
theorem mul_nn_of {x y : Int} (h : (0 ≤ x ∧ 0 ≤ y) ∨ (x ≤ 0 ∧ y ≤ 0)) : 0 ≤ x * y := by
  rcases h with ⟨h1, h2⟩ | ⟨h1, h2⟩
  · exact Int.mul_nonneg h1 h2
  · exact Int.mul_nonneg_of_nonpos_of_nonpos h1 h2
theorem irr {K x y : Int} (hK : K3 K) (h : x * x - K * y * y = 0) : x = 0 ∧ y = 0 := by
  have h2 : x * x = K * (y * y) := by rw [← Int.mul_assoc]; omega
  exact Y29.sq_irr K hK (y.natAbs + 1) x y (Nat.lt_succ_self _) h2
theorem sg_eq {K x y : Int} (hK : K3 K) : sgP K x y = sgL K x y := by
  unfold sgP sgL
  by_cases h1 : 0 ≤ x ∧ 0 ≤ y
  · rw [if_pos h1, if_pos (mul_nn_of (.inl h1))]
    by_cases h2 : x ≠ 0 ∨ y ≠ 0
    · rw [if_pos h2, bp (show 0 < x + y by omega), bn (show ¬ x + y < 0 by omega)]; rfl
    · rw [if_neg h2, bn (show ¬ 0 < x + y by omega), bn (show ¬ x + y < 0 by omega)]; rfl
  · rw [if_neg h1]
    by_cases h2 : x ≤ 0 ∧ y ≤ 0
    · rw [if_pos h2, if_pos (mul_nn_of (.inr h2)), bn (show ¬ 0 < x + y by omega), bp (show x + y < 0 by omega)]; rfl
    · rw [if_neg h2, if_neg (mul_neg_of (by omega))]
      have ne : x * x - K * y * y ≠ 0 := fun z => by
        obtain ⟨a, b⟩ := irr hK z
        omega
      generalize x * x = X at *
      generalize K * y * y = Y at *
      by_cases h3 : Y < X
      · rw [if_pos h3]
        by_cases h4 : 0 < x
        · rw [if_pos h4, if_pos h4, bp (by omega), bn (by omega)]; rfl
        · rw [if_neg h4, if_neg h4, bp (show 0 < X - Y by omega), bn (show ¬ X - Y < 0 by omega)]; rfl
      · rw [if_neg h3]
        by_cases h4 : 0 < x
        · rw [if_neg (show ¬ 0 < y by omega), if_pos h4, bn (show ¬ 0 < X - Y by omega), bp (show X - Y < 0 by omega)]; rfl
        · rw [if_pos (show 0 < y by omega), if_neg h4, bn (show ¬ 0 < X - Y by omega), bp (show X - Y < 0 by omega)]; rfl
theorem pos_mul {x t : Int} (ht : 0 < t) : (0 < x * t ↔ 0 < x) ∧ (x * t < 0 ↔ x < 0) ∧ (0 ≤ x * t ↔ 0 ≤ x) := by
  have h1 : 0 < x → 0 < x * t := fun h => Int.mul_pos h ht
  have h2 : x < 0 → x * t < 0 := fun h => Int.mul_neg_of_neg_of_pos h ht
  have h3 : x = 0 → x * t = 0 := fun h => by rw [h, Int.zero_mul]
  refine ⟨⟨fun h => ?_, h1⟩, ⟨fun h => ?_, h2⟩, ⟨fun h => ?_, fun h => ?_⟩⟩ <;> rcases Int.lt_trichotomy x 0 with c | c | c <;> (try have := h2 c) <;> (try have := h3 c) <;> (try have := h1 c) <;> omega
theorem dec_congr {p q : Prop} [Decidable p] [Decidable q] (h : p ↔ q) : decide p = decide q := by
  by_cases hp : p
  · rw [decide_eq_true hp, decide_eq_true (h.mp hp)]
  · rw [decide_eq_false hp, decide_eq_false (fun z => hp (h.mpr z))]
theorem ite_congr2 {p q : Prop} [Decidable p] [Decidable q] {a b c d : Int} (h : p ↔ q) (h1 : a = c) (h2 : b = d) : (if p then a else b) = (if q then c else d) := by
  subst h1 h2
  by_cases hp : p
  · rw [if_pos hp, if_pos (h.mp hp)]
  · rw [if_neg hp, if_neg (fun z => hp (h.mpr z))]
/-- times a number above 0 the sign stays -/
theorem sg_mul {K x y t : Int} (ht : 0 < t) : sgL K (x * t) (y * t) = sgL K x y := by
  have tt : 0 < t * t := Int.mul_pos ht ht
  have e1 : x * t * (y * t) = x * y * (t * t) := by grind
  have e2 : x * t + y * t = (x + y) * t := by grind
  have e3 : x * t * (x * t) - K * (y * t) * (y * t) = (x * x - K * y * y) * (t * t) := by grind
  unfold sgL
  rw [e1, e2, e3]
  have p1 := pos_mul (x := x * y) tt
  have p2 := pos_mul (x := x + y) ht
  have p3 := pos_mul (x := x * x - K * y * y) tt
  have p4 := pos_mul (x := x) ht
  rw [dec_congr p2.1, dec_congr p2.2.1, dec_congr p3.1, dec_congr p3.2.1]
  exact ite_congr2 p1.2.2 rfl (ite_congr2 p4.1 rfl rfl)
/-- s is the root of K y y, rounded down; r the floor of y√K -/
def rtF (s y : Int) : Int := if y < 0 then -s - 1 else s
theorem sq_le {a b : Int} (h0 : 0 ≤ a) (h : a ≤ b) : a * a ≤ b * b := Int.mul_le_mul h h h0 (by omega)
theorem neg_sq (a : Int) : -a * -a = a * a := Int.neg_mul_neg a a
theorem sg_up {K X y s : Int} (hs : 0 ≤ s) (h1 : s * s ≤ K * y * y) (h2 : K * y * y < (s + 1) * (s + 1)) (h : 0 ≤ X + rtF s y) : 0 ≤ sgL K X y := by
  unfold rtF at h
  unfold sgL
  by_cases hy : y < 0
  · rw [if_pos hy] at h
    have q := sq_le (a := s + 1) (b := X) (by omega) (by omega)
    rw [if_neg (mul_neg_of (by omega)), if_pos (show 0 < X by omega), bp (show 0 < X * X - K * y * y by omega), bn (show ¬ X * X - K * y * y < 0 by omega)]
    decide
  · rw [if_neg hy] at h
    by_cases hX : 0 ≤ X
    · rw [if_pos (mul_nn_of (by omega)), bn (show ¬ X + y < 0 by omega)]
      unfold b01
      split <;> decide
    · have q := sq_le (a := -X) (b := s) (by omega) (by omega)
      rw [neg_sq] at q
      by_cases h0 : y = 0
      · subst h0
        rw [Int.mul_zero] at h1
        have : s * s = 0 := by have := Int.mul_nonneg hs hs; omega
        have s0 : s = 0 := by rcases Int.mul_eq_zero.mp this with z | z <;> exact z
        omega
      · rw [if_neg (mul_neg_of (by omega)), if_neg (show ¬ 0 < X by omega), bn (show ¬ 0 < X * X - K * y * y by omega)]
        unfold b01
        split <;> decide
theorem sg_dn {K X y s : Int} (hK : K3 K) (hs : 0 ≤ s) (h1 : s * s ≤ K * y * y) (h2 : K * y * y < (s + 1) * (s + 1)) (h : X + rtF s y < 0) : sgL K X y < 0 := by
  unfold rtF at h
  unfold sgL
  by_cases hy : y < 0
  · rw [if_pos hy] at h
    by_cases hX : X ≤ 0
    · rw [if_pos (mul_nn_of (by omega)), bn (show ¬ 0 < X + y by omega), bp (show X + y < 0 by omega)]
      decide
    · have q := sq_le (a := X) (b := s) (by omega) (by omega)
      have ne : X * X - K * y * y ≠ 0 := fun z => by
        obtain ⟨a, b⟩ := irr hK z
        omega
      rw [if_neg (mul_neg_of (by omega)), if_pos (show 0 < X by omega), bn (show ¬ 0 < X * X - K * y * y by omega), bp (show X * X - K * y * y < 0 by omega)]
      decide
  · rw [if_neg hy] at h
    have q := sq_le (a := s + 1) (b := -X) (by omega) (by omega)
    rw [neg_sq] at q
    by_cases h0 : y = 0
    · subst h0
      rw [if_pos (by rw [Int.mul_zero]; omega), bn (show ¬ 0 < X + 0 by omega), bp (show X + 0 < 0 by omega)]
      decide
    · rw [if_neg (mul_neg_of (by omega)), if_neg (show ¬ 0 < X by omega), bp (show 0 < X * X - K * y * y by omega), bn (show ¬ X * X - K * y * y < 0 by omega)]
      decide
def lsD (k a b : Int) : Int := if k = 5 then sgL k (2 * a + b) b else sgL k a b
def psD (k a b : Int) : Int := if k = 5 then sgP k (2 * a + b) b else sgP k a b
theorem ps_ls {k a b : Int} (hk : Kd k) : psD k a b = lsD k a b := by
  unfold psD lsD
  rw [sg_eq hk, sg_eq hk]
theorem ls_mul {k a b t : Int} (ht : 0 < t) : lsD k (a * t) (b * t) = lsD k a b := by
  unfold lsD
  rw [show 2 * (a * t) + b * t = (2 * a + b) * t by grind, sg_mul ht, sg_mul ht]
theorem sg_pos {a b n : Int} (h : 0 < n) : 0 < sg a b n := by
  unfold sg
  rw [if_neg (by rw [decide_eq_false (by omega)]; decide)]
  exact g3_pos (by omega)
/-- in lowest terms the sign stays -/
theorem ls_lo {k a b n : Int} (h : 0 < n) : lsD k (loA a b n) (loB a b n) = lsD k a b := by
  have q := lo_mul (a := a) (b := b) (n := n) (by omega)
  have e := ls_mul (k := k) (a := loA a b n) (b := loB a b n) (sg_pos (a := a) (b := b) h)
  rw [q.1, q.2.1] at e
  exact e.symm
def flA (k a b : Int) : Int := if k = 5 then 2 * a + b else a
def flN (k n : Int) : Int := if k = 5 then 2 * n else n
/-- the floor, s the root of k b b, rounded down -/
def flQ (k a b n s : Int) : Int := (flA k a b + rtF s b) / flN k n
theorem fl_ok {k a b n s : Int} (hk : Kd k) (hn : 0 < n) (hs : 0 ≤ s) (h1 : s * s ≤ k * b * b) (h2 : k * b * b < (s + 1) * (s + 1)) :
    0 ≤ lsD k (a - flQ k a b n s * n) b ∧ lsD k (a - (flQ k a b n s + 1) * n) b < 0 := by
  have hN : 0 < flN k n := by unfold flN; split <;> omega
  have m1 := Int.emod_nonneg (flA k a b + rtF s b) (show flN k n ≠ 0 by omega)
  have m2 := Int.emod_lt_of_pos (flA k a b + rtF s b) hN
  have m3 := Int.mul_ediv_add_emod (flA k a b + rtF s b) (flN k n)
  rw [Int.mul_comm] at m3
  change flQ k a b n s * flN k n + _ = _ at m3
  generalize flQ k a b n s = q at *
  have d : (q + 1) * flN k n = q * flN k n + flN k n := by rw [Int.add_mul, Int.one_mul]
  have d2 : (q + 1) * n = q * n + n := by rw [Int.add_mul, Int.one_mul]
  rw [d2]
  unfold lsD
  by_cases h5 : k = 5
  · have eA : flA k a b = 2 * a + b := if_pos h5
    have eN : flN k n = 2 * n := if_pos h5
    rw [if_pos h5, if_pos h5]
    rw [eA, eN] at m1 m2 m3
    rw [eN] at d
    have e4 : q * (2 * n) = 2 * (q * n) := by grind
    rw [e4] at m3
    exact ⟨sg_up hs h1 h2 (by omega), sg_dn hk hs h1 h2 (by omega)⟩
  · have eA : flA k a b = a := if_neg h5
    have eN : flN k n = n := if_neg h5
    rw [if_neg h5, if_neg h5]
    rw [eA, eN] at m1 m2 m3
    exact ⟨sg_up hs h1 h2 (by omega), sg_dn hk hs h1 h2 (by omega)⟩
/-- as the law looks at it: of the number less q, in lowest terms -/
theorem fl_law {k a b n s : Int} (hk : Kd k) (hn : 0 < n) (hs : 0 ≤ s) (h1 : s * s ≤ k * b * b) (h2 : k * b * b < (s + 1) * (s + 1)) :
    let q := flQ k a b n s
    0 ≤ lsD k (loA (a * 1 - q * n) (b * 1 - 0 * n) (n * 1)) (loB (a * 1 - q * n) (b * 1 - 0 * n) (n * 1)) ∧
    lsD k (loA (a * 1 - (q + 1) * n) (b * 1 - 0 * n) (n * 1)) (loB (a * 1 - (q + 1) * n) (b * 1 - 0 * n) (n * 1)) < 0 := by
  intro q
  have h := fl_ok (a := a) (n := n) hk hn hs h1 h2
  rw [ls_lo (by omega), ls_lo (by omega), Int.mul_one, Int.mul_one, Int.zero_mul, Int.sub_zero]
  exact h
theorem sq_nn {k b : Int} (hk : Kd k) : 0 ≤ k * b * b := by
  rw [Int.mul_assoc]
  have : 0 ≤ b * b := mul_nn_of (by omega)
  rcases hk with rfl | rfl | rfl <;> omega
theorem div_abs {x N : Int} (h : 1 ≤ N) : (x / N).natAbs ≤ x.natAbs := by
  have m1 := Int.emod_nonneg x (show N ≠ 0 by omega)
  have m2 := Int.emod_lt_of_pos x (show 0 < N by omega)
  have m3 := Int.mul_ediv_add_emod x N
  generalize x / N = q at *
  generalize x % N = r at *
  by_cases hq : 0 ≤ q
  · have : q * 1 ≤ q * N := Int.mul_le_mul_of_nonneg_left h hq
    rw [Int.mul_comm q N] at this
    omega
  · by_cases hq1 : q = -1
    · subst hq1
      omega
    · have : (-q - 1) * 1 ≤ (-q - 1) * N := Int.mul_le_mul_of_nonneg_left h (by omega)
      have e : (-q - 1) * N = -(N * q) - N := by rw [Int.sub_mul, Int.neg_mul, Int.one_mul, Int.mul_comm q N]
      rw [e] at this
      omega
theorem rt_bd {k b s : Int} {m : Nat} (hk : Kd k) (hb : Bd m b) (hs : 0 ≤ s) (h1 : s * s ≤ k * b * b) : s < 4 * (2 ^ m : Nat) := by
  refine Int.lt_of_not_ge fun z => ?_
  have hb1 : b.natAbs < 2 ^ m := hb
  generalize hM : (2 ^ m : Nat) = M at *
  have q1 := sq_le (a := 4 * (M : Int)) (b := s) (by omega) z
  have q2 := sq_le (a := (b.natAbs : Int)) (b := (M : Int)) (by omega) (by omega)
  have e : (b.natAbs : Int) * (b.natAbs : Int) = b * b := Int.natAbs_mul_self
  rw [e] at q2
  have q3 : k * b * b = k * (b * b) := Int.mul_assoc _ _ _
  have q4 : 4 * (M : Int) * (4 * (M : Int)) = 16 * ((M : Int) * (M : Int)) := by grind
  rw [q3] at h1
  rw [q4] at q1
  have p : 0 < (M : Int) * (M : Int) := by
    have : 0 < (M : Int) := by omega
    exact Int.mul_pos this this
  generalize (M : Int) * (M : Int) = Y at *
  generalize b * b = B at *
  generalize s * s = S at *
  rcases hk with rfl | rfl | rfl <;> omega
theorem fl_bd {k a b n s : Int} {m : Nat} (hk : Kd k) (ha : Bd m a) (hb : Bd m b) (hn : 0 < n) (hs : 0 ≤ s) (h1 : s * s ≤ k * b * b) : Bd (m + 4) (flQ k a b n s) := by
  have r := rt_bd hk hb hs h1
  have ha' : a.natAbs < 2 ^ m := ha
  have hb' : b.natAbs < 2 ^ m := hb
  have hN : 1 ≤ flN k n := by unfold flN; split <;> omega
  have d := div_abs (x := flA k a b + rtF s b) hN
  have e : 2 ^ (m + 4) = 16 * 2 ^ m := by rw [Nat.pow_add]; omega
  have hA : (flA k a b).natAbs < 3 * 2 ^ m := by unfold flA; split <;> omega
  have hR : (rtF s b).natAbs ≤ 4 * 2 ^ m := by unfold rtF; split <;> omega
  show (flQ k a b n s).natAbs < 2 ^ (m + 4)
  rw [e]
  unfold flQ
  omega
theorem bd_ten : ∀ j : Nat, Bd (4 * j + 1) ((10 : Int) ^ j)
  | 0 => by show (1 : Int).natAbs < 2 ^ 1; decide
  | j + 1 => by rw [Int.pow_succ]; exact ((bd_ten j).mul (show Bd 4 10 by show Int.natAbs _ < 2 ^ 4; decide)).mono (by omega)
end Y02

set_option Elab.async false
set_option linter.all false
set_option maxRecDepth 100000
set_option maxHeartbeats 4000000
namespace Y75
open PySem PySem.Spec PyProof.Rows L2 Evl Wz Y02
/-! the mathematics of k75: division with a rest in Z[w] -/
abbrev Z2 := Int × Int
def mul (k : Int) (p q : Z2) : Z2 := if k = 5 then (p.1 * q.1 + p.2 * q.2, p.1 * q.2 + p.2 * q.1 + p.2 * q.2) else (p.1 * q.1 + k * p.2 * q.2, p.1 * q.2 + p.2 * q.1)
def mate (k : Int) (p : Z2) : Z2 := if k = 5 then (p.1 + p.2, -p.2) else (p.1, -p.2)
def nrm (k : Int) (p : Z2) : Int := if k = 5 then p.1 * p.1 + p.1 * p.2 - p.2 * p.2 else p.1 * p.1 - k * p.2 * p.2
def add (p q : Z2) : Z2 := (p.1 + q.1, p.2 + q.2)
def sub (p q : Z2) : Z2 := (p.1 - q.1, p.2 - q.2)
abbrev B2 (n : Nat) (z : Z2) : Prop := Bd n z.1 ∧ Bd n z.2
theorem mul_comm (k : Int) (p q : Z2) : mul k p q = mul k q p := by
  unfold mul
  by_cases h5 : k = 5
  · simp only [if_pos h5]; exact Prod.ext (by grind) (by grind)
  · simp only [if_neg h5]; exact Prod.ext (by grind) (by grind)
theorem mul_assoc (k : Int) (p q r : Z2) : mul k (mul k p q) r = mul k p (mul k q r) := by
  unfold mul
  by_cases h5 : k = 5
  · simp only [if_pos h5]; exact Prod.ext (by grind) (by grind)
  · simp only [if_neg h5]; exact Prod.ext (by grind) (by grind)
theorem mul_add (k : Int) (p q r : Z2) : mul k p (add q r) = add (mul k p q) (mul k p r) := by
  unfold mul add
  by_cases h5 : k = 5
  · simp only [if_pos h5]; exact Prod.ext (by grind) (by grind)
  · simp only [if_neg h5]; exact Prod.ext (by grind) (by grind)
theorem mul_sub (k : Int) (p q r : Z2) : mul k p (sub q r) = sub (mul k p q) (mul k p r) := by
  unfold mul sub
  by_cases h5 : k = 5
  · simp only [if_pos h5]; exact Prod.ext (by grind) (by grind)
  · simp only [if_neg h5]; exact Prod.ext (by grind) (by grind)
theorem one_mul (k : Int) (p : Z2) : mul k (1, 0) p = p := by
  unfold mul
  by_cases h5 : k = 5
  · simp only [if_pos h5]; exact Prod.ext (by grind) (by grind)
  · simp only [if_neg h5]; exact Prod.ext (by grind) (by grind)
theorem zero_mul (k : Int) (p : Z2) : mul k (0, 0) p = (0, 0) := by
  unfold mul
  by_cases h5 : k = 5
  · simp only [if_pos h5]; exact Prod.ext (by grind) (by grind)
  · simp only [if_neg h5]; exact Prod.ext (by grind) (by grind)
theorem mul_zero (k : Int) (p : Z2) : mul k p (0, 0) = (0, 0) := by rw [mul_comm, zero_mul]
theorem mul_mate (k : Int) (p : Z2) : mul k p (mate k p) = (nrm k p, 0) := by
  unfold mul mate nrm
  by_cases h5 : k = 5
  · simp only [if_pos h5]; exact Prod.ext (by grind) (by grind)
  · simp only [if_neg h5]; exact Prod.ext (by grind) (by grind)
theorem nrm_mul (k : Int) (p q : Z2) : nrm k (mul k p q) = nrm k p * nrm k q := by
  unfold nrm mul
  by_cases h5 : k = 5
  · simp only [if_pos h5]; grind
  · simp only [if_neg h5]; grind
theorem nrm_mate (k : Int) (p : Z2) : nrm k (mate k p) = nrm k p := by
  unfold nrm mate
  by_cases h5 : k = 5
  · simp only [if_pos h5]; grind
  · simp only [if_neg h5]; grind
theorem mul_int (k : Int) (p : Z2) (n : Int) : mul k p (n, 0) = (p.1 * n, p.2 * n) := by
  unfold mul
  by_cases h5 : k = 5
  · simp only [if_pos h5]; exact Prod.ext (by grind) (by grind)
  · simp only [if_neg h5]; exact Prod.ext (by grind) (by grind)
/-- no norm is 0 but that of 0 -/
theorem nrm_zero {k : Int} (hk : Kd k) {p : Z2} (h : nrm k p = 0) : p = (0, 0) := by
  obtain ⟨a, b⟩ := p
  unfold nrm at h
  dsimp only at h
  by_cases h5 : k = 5
  · subst h5
    rw [if_pos rfl] at h
    have e : (2 * a + b) * (2 * a + b) = 5 * (b * b) := by grind
    obtain ⟨x1, x2⟩ := Y29.sq_irr 5 (.inr (.inr rfl)) (b.natAbs + 1) _ b (Nat.lt_succ_self _) e
    exact Prod.ext (by show a = 0; omega) x2
  · rw [if_neg h5] at h
    have e : a * a = k * (b * b) := by grind
    obtain ⟨x1, x2⟩ := Y29.sq_irr k hk (b.natAbs + 1) _ b (Nat.lt_succ_self _) e
    exact Prod.ext x1 x2
theorem nrm_ne {k : Int} (hk : Kd k) {p : Z2} (h : p ≠ (0, 0)) : nrm k p ≠ 0 := fun e => h (nrm_zero hk e)
theorem mul_ne {k : Int} (hk : Kd k) {p q : Z2} (h : p ≠ (0, 0)) (g : q ≠ (0, 0)) : mul k p q ≠ (0, 0) := fun e => by
  have := nrm_mul k p q
  rw [e] at this
  have z : nrm k (0, 0) = 0 := by unfold nrm; split <;> simp
  rw [z] at this
  exact Int.mul_ne_zero (nrm_ne hk h) (nrm_ne hk g) this.symm
theorem mul_cancel {k : Int} (hk : Kd k) {p q : Z2} (h : mul k p q = (0, 0)) (g : q ≠ (0, 0)) : p = (0, 0) := Classical.byContradiction fun z => mul_ne hk z g h
theorem sub_zero_iff {p q : Z2} : sub p q = (0, 0) ↔ p = q := by
  obtain ⟨a, b⟩ := p
  obtain ⟨c, d⟩ := q
  unfold sub
  simp only [Prod.mk.injEq]
  omega
/-! the quotient -/
def quo (k : Int) (p q : Z2) : Z2 := ((2 * (mul k p (mate k q)).1 + nrm k q).fdiv (2 * nrm k q), (2 * (mul k p (mate k q)).2 + nrm k q).fdiv (2 * nrm k q))
def rst (k : Int) (p q u : Z2) : Z2 := sub p (mul k u q)
theorem half {t n : Int} (h : n ≠ 0) : 2 * (t - n * (2 * t + n).fdiv (2 * n)).natAbs ≤ n.natAbs := by
  have e := Int.mul_fdiv_add_fmod (2 * t + n) (2 * n)
  generalize (2 * t + n).fdiv (2 * n) = Q at *
  have e2 : 2 * n * Q = 2 * (n * Q) := by grind
  rw [e2] at e
  by_cases hn : 0 < n
  · have a1 := Int.fmod_nonneg_of_pos (2 * t + n) (show 0 < 2 * n by omega)
    have a2 := Int.fmod_lt_of_pos (2 * t + n) (show 0 < 2 * n by omega)
    omega
  · have b1 := Int.fmod_nonneg_of_pos (-(2 * t + n)) (show 0 < -(2 * n) by omega)
    have b2 := Int.fmod_lt_of_pos (-(2 * t + n)) (show 0 < -(2 * n) by omega)
    have b3 : (-(2 * t + n)).fmod (-(2 * n)) = -((2 * t + n).fmod (2 * n)) := Int.neg_fmod_neg _ _
    rw [b3] at b1 b2
    omega

theorem rst_mate (k : Int) (p q u : Z2) : mul k (rst k p q u) (mate k q) = sub (mul k p (mate k q)) (u.1 * nrm k q, u.2 * nrm k q) := by
  unfold rst
  rw [mul_comm, mul_sub, mul_comm k (mate k q) p, mul_comm k (mate k q), mul_assoc, mul_mate, mul_int]
theorem quo_e {k : Int} {p q : Z2} (h : nrm k q ≠ 0) : ∃ e : Z2, mul k (rst k p q (quo k p q)) (mate k q) = e ∧ 2 * e.1.natAbs ≤ (nrm k q).natAbs ∧ 2 * e.2.natAbs ≤ (nrm k q).natAbs := by
  refine ⟨_, rst_mate k p q _, ?_, ?_⟩
  · have := half (t := (mul k p (mate k q)).1) h
    unfold sub quo
    dsimp only
    rw [Int.mul_comm _ (nrm k q)]
    exact this
  · have := half (t := (mul k p (mate k q)).2) h
    unfold sub quo
    dsimp only
    rw [Int.mul_comm _ (nrm k q)]
    exact this
theorem sq_na (a : Int) : a * a = ((a.natAbs * a.natAbs : Nat) : Int) := Int.natAbs_mul_self.symm
theorem nrm_small {k : Int} (hk : Kd k) {e : Z2} {n : Nat} (h1 : 2 * e.1.natAbs ≤ n) (h2 : 2 * e.2.natAbs ≤ n) : 4 * (nrm k e).natAbs ≤ 3 * (n * n) := by
  obtain ⟨a, b⟩ := e
  dsimp only at h1 h2
  have m1 : (2 * a.natAbs) * (2 * a.natAbs) ≤ n * n := Nat.mul_le_mul h1 h1
  have m2 : (2 * b.natAbs) * (2 * b.natAbs) ≤ n * n := Nat.mul_le_mul h2 h2
  have m3 : (2 * a.natAbs) * (2 * b.natAbs) ≤ n * n := Nat.mul_le_mul h1 h2
  have r1 : (2 * a.natAbs) * (2 * a.natAbs) = 4 * (a.natAbs * a.natAbs) := by grind
  have r2 : (2 * b.natAbs) * (2 * b.natAbs) = 4 * (b.natAbs * b.natAbs) := by grind
  have r3 : (2 * a.natAbs) * (2 * b.natAbs) = 4 * (a.natAbs * b.natAbs) := by grind
  rw [r1] at m1
  rw [r2] at m2
  rw [r3] at m3
  have e3 : (a * b).natAbs = a.natAbs * b.natAbs := Int.natAbs_mul a b
  unfold nrm
  dsimp only
  split
  · rw [sq_na a, sq_na b]
    generalize a.natAbs * a.natAbs = A at *
    generalize b.natAbs * b.natAbs = B at *
    generalize a.natAbs * b.natAbs = C at *
    generalize a * b = P at *
    generalize n * n = N at *
    omega
  · rw [Int.mul_assoc k b b, sq_na a, sq_na b]
    generalize a.natAbs * a.natAbs = A at *
    generalize b.natAbs * b.natAbs = B at *
    generalize n * n = N at *
    rcases hk with rfl | rfl | rfl
    · omega
    · omega
    · contradiction
theorem rst_norm {k : Int} (hk : Kd k) {p q : Z2} (hq : q ≠ (0, 0)) : 4 * (nrm k (rst k p q (quo k p q))).natAbs ≤ 3 * (nrm k q).natAbs := by
  have hn := nrm_ne hk hq
  obtain ⟨e, he, h1, h2⟩ := quo_e (p := p) hn
  have h3 := nrm_small hk h1 h2
  rw [← he, nrm_mul, nrm_mate, Int.natAbs_mul] at h3
  have hp : 0 < (nrm k q).natAbs := Int.natAbs_pos.mpr hn
  generalize (nrm k q).natAbs = N at *
  generalize (nrm k (rst k p q (quo k p q))).natAbs = M at *
  refine Nat.le_of_mul_le_mul_right (c := N) ?_ hp
  calc 4 * M * N = 4 * (M * N) := Nat.mul_assoc _ _ _
    _ ≤ 3 * (N * N) := h3
    _ = 3 * N * N := (Nat.mul_assoc _ _ _).symm
theorem na_lin (a b c d : Int) : (a * b + c * d).natAbs ≤ a.natAbs * b.natAbs + c.natAbs * d.natAbs := by
  have := Int.natAbs_add_le (a * b) (c * d)
  rw [Int.natAbs_mul, Int.natAbs_mul] at this
  exact this
theorem mul_co {k : Int} (hk : Kd k) (e q : Z2) : (mul k e q).1.natAbs ≤ e.1.natAbs * q.1.natAbs + 3 * (e.2.natAbs * q.2.natAbs) ∧ (mul k e q).2.natAbs ≤ e.1.natAbs * q.2.natAbs + e.2.natAbs * q.1.natAbs + e.2.natAbs * q.2.natAbs := by
  obtain ⟨a, b⟩ := e
  obtain ⟨c, d⟩ := q
  unfold mul
  dsimp only
  have h1 := na_lin a c b d
  have h2 := na_lin a d b c
  have h3 : (b * d).natAbs = b.natAbs * d.natAbs := Int.natAbs_mul b d
  have h4 := na_lin a c (k * b) d
  have h5 : (k * b).natAbs = k.natAbs * b.natAbs := Int.natAbs_mul k b
  split
  · refine ⟨by omega, ?_⟩
    have := Int.natAbs_add_le (a * d + b * c) (b * d)
    omega
  · refine ⟨?_, by omega⟩
    rw [h5, Nat.mul_assoc] at h4
    rcases hk with rfl | rfl | rfl
    · have e2 : (2 : Int).natAbs = 2 := rfl
      rw [e2] at h4
      omega
    · have e2 : (3 : Int).natAbs = 3 := rfl
      rw [e2] at h4
      omega
    · contradiction
theorem rst_bd {k : Int} (hk : Kd k) {p q : Z2} {m : Nat} (hq : q ≠ (0, 0)) (h : B2 m q) : B2 (m + 1) (rst k p q (quo k p q)) := by
  have hn := nrm_ne hk hq
  obtain ⟨e, he, h1, h2⟩ := quo_e (p := p) hn
  generalize rst k p q (quo k p q) = r at *
  have hr : mul k e q = (r.1 * nrm k q, r.2 * nrm k q) := by rw [← he, mul_assoc, mul_comm k (mate k q) q, mul_mate, mul_int]
  have hp : 0 < (nrm k q).natAbs := Int.natAbs_pos.mpr hn
  obtain ⟨c1, c2⟩ := mul_co hk e q
  rw [hr] at c1 c2
  dsimp only at c1 c2
  rw [Int.natAbs_mul] at c1 c2
  have b1 : q.1.natAbs < 2 ^ m := h.1
  have b2 : q.2.natAbs < 2 ^ m := h.2
  generalize (nrm k q).natAbs = N at *
  generalize e.1.natAbs = x at *
  generalize e.2.natAbs = y at *
  have m1 : 2 * x * q.1.natAbs ≤ N * q.1.natAbs := Nat.mul_le_mul_right _ h1
  have m2 : 2 * y * q.2.natAbs ≤ N * q.2.natAbs := Nat.mul_le_mul_right _ h2
  have m3 : 2 * x * q.2.natAbs ≤ N * q.2.natAbs := Nat.mul_le_mul_right _ h1
  have m4 : 2 * y * q.1.natAbs ≤ N * q.1.natAbs := Nat.mul_le_mul_right _ h2
  rw [Nat.mul_assoc] at m1 m2 m3 m4
  have l1 : 2 * r.1.natAbs ≤ q.1.natAbs + 3 * q.2.natAbs := by
    refine Nat.le_of_mul_le_mul_right (c := N) ?_ hp
    have e1 : 2 * r.1.natAbs * N = 2 * (r.1.natAbs * N) := Nat.mul_assoc _ _ _
    have e2 : (q.1.natAbs + 3 * q.2.natAbs) * N = N * q.1.natAbs + 3 * (N * q.2.natAbs) := by grind
    rw [e1, e2]
    omega
  have l2 : 2 * r.2.natAbs ≤ q.1.natAbs + 2 * q.2.natAbs := by
    refine Nat.le_of_mul_le_mul_right (c := N) ?_ hp
    have e1 : 2 * r.2.natAbs * N = 2 * (r.2.natAbs * N) := Nat.mul_assoc _ _ _
    have e2 : (q.1.natAbs + 2 * q.2.natAbs) * N = N * q.1.natAbs + 2 * (N * q.2.natAbs) := by grind
    rw [e1, e2]
    omega
  have ep : 2 ^ (m + 1) = 2 * 2 ^ m := by rw [Nat.pow_succ]; omega
  refine ⟨?_, ?_⟩
  · show r.1.natAbs < 2 ^ (m + 1)
    omega
  · show r.2.natAbs < 2 ^ (m + 1)
    omega
/-! what divides -/
def dvb (k : Int) (d c : Z2) : Prop := if d = (0, 0) then c = (0, 0) else rst k c d (quo k c d) = (0, 0)
instance {k : Int} {d c : Z2} : Decidable (dvb k d c) := by unfold dvb; exact inferInstance
def Dv (k : Int) (d c : Z2) : Prop := ∃ t, c = mul k t d
theorem quo_mul {k : Int} (hk : Kd k) {t d : Z2} (hd : d ≠ (0, 0)) : quo k (mul k t d) d = t := by
  have hn := nrm_ne hk hd
  have e : mul k (mul k t d) (mate k d) = (t.1 * nrm k d, t.2 * nrm k d) := by rw [mul_assoc, mul_mate, mul_int]
  have key : ∀ a : Int, (2 * (a * nrm k d) + nrm k d).fdiv (2 * nrm k d) = a := fun a => by
    have h := half (t := a * nrm k d) hn
    generalize (2 * (a * nrm k d) + nrm k d).fdiv (2 * nrm k d) = Q at *
    have e2 : a * nrm k d - nrm k d * Q = nrm k d * (a - Q) := by grind
    rw [e2, Int.natAbs_mul] at h
    have hp : 0 < (nrm k d).natAbs := Int.natAbs_pos.mpr hn
    refine Classical.byContradiction fun z => ?_
    have h1 : 1 ≤ (a - Q).natAbs := by omega
    have h2 : (nrm k d).natAbs * 1 ≤ (nrm k d).natAbs * (a - Q).natAbs := Nat.mul_le_mul_left _ h1
    omega
  unfold quo
  rw [e]
  exact Prod.ext (key t.1) (key t.2)
theorem dvb_iff {k : Int} (hk : Kd k) {d c : Z2} : dvb k d c ↔ Dv k d c := by
  unfold dvb
  by_cases h : d = (0, 0)
  · rw [if_pos h]
    subst h
    exact ⟨fun e => ⟨(0, 0), by rw [e, mul_zero]⟩, fun ⟨t, e⟩ => by rw [e, mul_zero]⟩
  · rw [if_neg h]
    exact ⟨fun e => ⟨quo k c d, sub_zero_iff.mp e⟩, fun ⟨t, e⟩ => by rw [e, quo_mul hk h]; exact sub_zero_iff.mpr rfl⟩
theorem Dv.self (k : Int) (d : Z2) : Dv k d d := ⟨(1, 0), (one_mul k d).symm⟩
theorem Dv.zero (k : Int) (d : Z2) : Dv k d (0, 0) := ⟨(0, 0), (zero_mul k d).symm⟩
theorem Dv.mulr {k : Int} {d p : Z2} (h : Dv k d p) (x : Z2) : Dv k d (mul k p x) := by
  obtain ⟨t, rfl⟩ := h
  exact ⟨mul k x t, by rw [mul_comm, mul_assoc]⟩
theorem Dv.add {k : Int} {d p q : Z2} (h : Dv k d p) (g : Dv k d q) : Dv k d (Y75.add p q) := by
  obtain ⟨t, rfl⟩ := h
  obtain ⟨u, rfl⟩ := g
  exact ⟨Y75.add t u, by rw [mul_comm k (Y75.add t u), mul_add, mul_comm k d t, mul_comm k d u]⟩
theorem rst_back (k : Int) (p q u : Z2) : p = Y75.add (mul k u q) (rst k p q u) := by
  unfold Y75.add rst sub
  exact Prod.ext (by dsimp only; omega) (by dsimp only; omega)
/-! Euclid -/
def euc (k : Int) : Nat → Z2 → Z2 → Z2
  | 0, p, _ => p
  | n + 1, p, q => if q = (0, 0) then p else euc k n q (rst k p q (quo k p q))
theorem euc_z (k : Int) (n : Nat) (p : Z2) : euc k n p (0, 0) = p := by
  cases n with
  | zero => rfl
  | succ n => unfold euc; rw [if_pos rfl]
theorem euc_s {k : Int} {n : Nat} {p q : Z2} (h : q ≠ (0, 0)) : euc k (n + 1) p q = euc k n q (rst k p q (quo k p q)) := by
  rw [euc, if_neg h]
/-- the steps are few -/
theorem geo {j N : Nat} (h : 4 ^ j ≤ 3 ^ j * 2 ^ 86) : j < 208 := by
  refine Nat.lt_of_not_ge fun z => ?_
  obtain ⟨i, rfl⟩ : ∃ i, j = 208 + i := ⟨j - 208, by omega⟩
  have key : ∀ i : Nat, 3 ^ (208 + i) * 2 ^ 86 < 4 ^ (208 + i) := by
    intro i
    induction i with
    | zero => decide
    | succ i ih =>
      rw [← Nat.add_assoc, show 3 ^ (208 + i + 1) = 3 ^ (208 + i) * 3 from Nat.pow_succ _ _, show 4 ^ (208 + i + 1) = 4 ^ (208 + i) * 4 from Nat.pow_succ _ _]
      generalize 3 ^ (208 + i) = A at *
      generalize 4 ^ (208 + i) = B at *
      generalize 2 ^ 86 = C at *
      have : A * 3 * C = 3 * (A * C) := by grind
      rw [this]
      omega
  exact absurd h (Nat.not_le.mpr (key i))
/-- so far: j steps -/
structure Eu (k : Int) (p0 q0 : Z2) (j : Nat) (p q : Z2) : Prop where
  e : euc k (600 - j) p q = euc k 600 p0 q0
  bp : B2 (41 + j) p
  bq : B2 (40 + j) q
  n : 4 ^ j * (nrm k q).natAbs ≤ 3 ^ j * 2 ^ 86
  dv : ∀ d, Dv k d p → Dv k d q → Dv k d p0 ∧ Dv k d q0
theorem nrm_bd {k : Int} (hk : Kd k) {q : Z2} {m : Nat} (h : B2 m q) : (nrm k q).natAbs < 2 ^ (2 * m + 3) := by
  have h1 : Bd (2 * m + 3) (nrm k q) := by
    unfold nrm
    split
    · exact (((h.1.mul h.1).add (h.1.mul h.2)).sub (h.2.mul h.2)).mono (by omega)
    · have hk2 : k ≠ 5 := by assumption
      have hb : Bd 2 k := by rcases hk with rfl | rfl | rfl <;> first | (show Int.natAbs _ < 2 ^ 2; decide) | contradiction
      exact ((h.1.mul h.1).sub ((hb.mul h.2).mul h.2)).mono (by omega)
  exact h1
theorem Eu.start {k : Int} (hk : Kd k) {p q : Z2} (hp : B2 40 p) (hq : B2 40 q) : Eu k p q 0 p q where
  e := rfl
  bp := ⟨hp.1.mono (by omega), hp.2.mono (by omega)⟩
  bq := ⟨hq.1.mono (by omega), hq.2.mono (by omega)⟩
  n := by
    have := nrm_bd hk hq
    simp only [Nat.pow_zero, Nat.one_mul]
    have e : 2 ^ (2 * 40 + 3) ≤ 2 ^ 86 := by decide
    omega
  dv := fun d a b => ⟨a, b⟩
theorem Eu.few {k : Int} (hk : Kd k) {p0 q0 p q : Z2} {j : Nat} (h : Eu k p0 q0 j p q) (hq : q ≠ (0, 0)) : j < 208 := by
  have hp : 1 ≤ (nrm k q).natAbs := Int.natAbs_pos.mpr (nrm_ne hk hq)
  have h1 := h.n
  have h2 : 4 ^ j * 1 ≤ 4 ^ j * (nrm k q).natAbs := Nat.mul_le_mul_left _ hp
  exact geo (N := 0) (by omega)
theorem Eu.next {k : Int} (hk : Kd k) {p0 q0 p q : Z2} {j : Nat} (h : Eu k p0 q0 j p q) (hq : q ≠ (0, 0)) : Eu k p0 q0 (j + 1) q (rst k p q (quo k p q)) where
  e := by
    have hj := h.few hk hq
    rw [← h.e, show 600 - j = (600 - (j + 1)) + 1 by omega, euc_s hq]
  bp := ⟨h.bq.1.mono (by omega), h.bq.2.mono (by omega)⟩
  bq := rst_bd hk hq h.bq
  n := by
    have h1 := rst_norm (p := p) hk hq
    have h2 := h.n
    rw [show 4 ^ (j + 1) = 4 ^ j * 4 from Nat.pow_succ _ _, show 3 ^ (j + 1) = 3 ^ j * 3 from Nat.pow_succ _ _]
    generalize (nrm k (rst k p q (quo k p q))).natAbs = M at *
    generalize (nrm k q).natAbs = N at *
    generalize 2 ^ 86 = T at *
    have h3 : 4 ^ j * (4 * M) ≤ 4 ^ j * (3 * N) := Nat.mul_le_mul_left _ h1
    have e1 : 4 ^ j * 4 * M = 4 ^ j * (4 * M) := Nat.mul_assoc _ _ _
    have e2 : 4 ^ j * (3 * N) = 3 * (4 ^ j * N) := by grind
    have e3 : 3 ^ j * 3 * T = 3 * (3 ^ j * T) := by grind
    rw [e1, e3]
    omega
  dv := fun d a b => by
    refine h.dv d ?_ a
    rw [rst_back k p q (quo k p q)]
    exact Dv.add (by rw [mul_comm]; exact a.mulr _) b
theorem Eu.done {k : Int} {p0 q0 p : Z2} {j : Nat} (h : Eu k p0 q0 j p (0, 0)) : p = euc k 600 p0 q0 ∧ Dv k p p0 ∧ Dv k p q0 := by
  have e := h.e
  rw [euc_z] at e
  exact ⟨e, h.dv p (Dv.self k p) (Dv.zero k p)⟩
end Y75

set_option Elab.async false
set_option linter.all false
set_option maxRecDepth 100000
set_option maxHeartbeats 4000000
namespace Y75
open PySem PySem.Spec PyProof.Rows L2 Evl Wz Y02
theorem mate_b {k : Int} {p : Z2} {n : Nat} (h : B2 n p) : B2 (n + 1) (mate k p) := by
  unfold mate
  split
  · exact ⟨(h.1.add h.2).mono (by omega), h.2.neg.mono (by omega)⟩
  · exact ⟨h.1.mono (by omega), h.2.neg.mono (by omega)⟩
theorem mul_b {k : Int} {p q : Z2} {n m : Nat} (hk : Kd k) (h : B2 n p) (g : B2 m q) : B2 (n + m + 4) (mul k p q) := by
  unfold mul
  split
  · exact ⟨((h.1.mul g.1).add (h.2.mul g.2)).mono (by omega), (((h.1.mul g.2).add (h.2.mul g.1)).add (h.2.mul g.2)).mono (by omega)⟩
  · exact ⟨((h.1.mul g.1).add ((hk.bd.mul h.2).mul g.2)).mono (by omega), ((h.1.mul g.2).add (h.2.mul g.1)).mono (by omega)⟩
theorem add_b {p q : Z2} {n m : Nat} (h : B2 n p) (g : B2 m q) : B2 (max n m + 1) (add p q) := ⟨h.1.add g.1, h.2.add g.2⟩
theorem sub_b {p q : Z2} {n m : Nat} (h : B2 n p) (g : B2 m q) : B2 (max n m + 1) (sub p q) := ⟨h.1.sub g.1, h.2.sub g.2⟩
theorem B2.mono {n m : Nat} {p : Z2} (h : B2 n p) (l : n ≤ m) : B2 m p := ⟨Bd.mono h.1 l, Bd.mono h.2 l⟩
theorem nrm_b {k : Int} (hk : Kd k) {q : Z2} {m : Nat} (h : B2 m q) : Bd (2 * m + 3) (nrm k q) := nrm_bd hk h
theorem fdiv_na (x y : Int) (hy : y ≠ 0) : (x.fdiv y).natAbs ≤ x.natAbs := by
  have key : ∀ x y : Int, 0 < y → (x.fdiv y).natAbs ≤ x.natAbs := fun x y hp => by
    rw [Int.fdiv_eq_ediv_of_nonneg _ (by omega)]
    exact div_abs (by omega)
  by_cases hp : 0 < y
  · exact key x y hp
  · have := key (-x) (-y) (by omega)
    rw [Int.neg_fdiv_neg] at this
    omega
theorem quo_b {k : Int} (hk : Kd k) {p q : Z2} {n m : Nat} (hq : q ≠ (0, 0)) (h : B2 n p) (g : B2 m q) : B2 (n + 2 * m + 8) (quo k p q) := by
  have hn := nrm_ne hk hq
  have h1 := mul_b hk h (mate_b (k := k) g)
  have h2 := nrm_b hk g
  have e2 : Bd 2 (2 : Int) := (by decide : Int.natAbs 2 < 2 ^ 2)
  have key : ∀ t : Int, Bd (n + (m + 1) + 4) t → Bd (n + 2 * m + 8) ((2 * t + nrm k q).fdiv (2 * nrm k q)) := fun t ht => by
    have h3 : Bd (n + 2 * m + 8) (2 * t + nrm k q) := ((e2.mul ht).add h2).mono (by omega)
    exact Nat.lt_of_le_of_lt (fdiv_na _ _ (by omega)) h3
  exact ⟨key _ h1.1, key _ h1.2⟩
theorem rst_b {k : Int} (hk : Kd k) {p q u : Z2} {n m l : Nat} (h : B2 n p) (g : B2 m q) (f : B2 l u) : B2 (max n (l + m + 4) + 1) (rst k p q u) := sub_b h (mul_b hk f g)
theorem bd_sm {n : Nat} {i : Int} (h : i.natAbs < 4096) (hn : 12 ≤ n) : Bd n i := Nat.lt_of_lt_of_le h (Nat.le_trans (by decide : 4096 ≤ 2 ^ 12) (Nat.pow_le_pow_right (by decide) hn))
/-! the factors -/
structure Cf (k : Int) (p0 q0 : Z2) (j : Nat) (f0 f1 c0 c1 p q : Z2) : Prop where
  hp : add (mul k p0 f0) (mul k q0 f1) = p
  hq : add (mul k p0 c0) (mul k q0 c1) = q
  det : ∃ s : Int, (s = 1 ∨ s = -1) ∧ sub (mul k f0 c1) (mul k f1 c0) = (s, 0)
  bf : B2 (800 * j + 10) f0 ∧ B2 (800 * j + 10) f1
  bc : B2 (800 * j + 10) c0 ∧ B2 (800 * j + 10) c1
theorem b2_s {n : Nat} {a b : Int} (h : a.natAbs < 2) (g : b.natAbs < 2) (hn : 1 ≤ n) : B2 n (a, b) := by
  have e : 2 ^ 1 ≤ 2 ^ n := Nat.pow_le_pow_right (by decide) hn
  exact ⟨show a.natAbs < 2 ^ n by omega, show b.natAbs < 2 ^ n by omega⟩
theorem mul_one (k : Int) (p : Z2) : mul k p (1, 0) = p := by rw [mul_comm, one_mul]
theorem add_zero (p : Z2) : add p (0, 0) = p := by unfold add; exact Prod.ext (by simp) (by simp)
theorem zero_add (p : Z2) : add (0, 0) p = p := by unfold add; exact Prod.ext (by simp) (by simp)
theorem Cf.start (k : Int) (p q : Z2) : Cf k p q 0 (1, 0) (0, 0) (0, 0) (1, 0) p q where
  hp := by rw [mul_one, mul_zero, add_zero]
  hq := by rw [mul_one, mul_zero, zero_add]
  det := ⟨1, .inl rfl, by rw [mul_one, mul_zero]; rfl⟩
  bf := ⟨b2_s (by decide) (by decide) (by omega), b2_s (by decide) (by decide) (by omega)⟩
  bc := ⟨b2_s (by decide) (by decide) (by omega), b2_s (by decide) (by decide) (by omega)⟩
theorem lin_rst (k : Int) (p0 q0 f0 f1 c0 c1 u : Z2) : add (mul k p0 (rst k f0 c0 u)) (mul k q0 (rst k f1 c1 u)) = rst k (add (mul k p0 f0) (mul k q0 f1)) (add (mul k p0 c0) (mul k q0 c1)) u := by
  unfold rst sub add mul
  by_cases h5 : k = 5
  · simp only [if_pos h5]; exact Prod.ext (by grind) (by grind)
  · simp only [if_neg h5]; exact Prod.ext (by grind) (by grind)
theorem det_rst (k : Int) (f0 f1 c0 c1 u : Z2) : sub (mul k c0 (rst k f1 c1 u)) (mul k c1 (rst k f0 c0 u)) = sub (0, 0) (sub (mul k f0 c1) (mul k f1 c0)) := by
  unfold rst sub mul
  by_cases h5 : k = 5
  · simp only [if_pos h5]; exact Prod.ext (by grind) (by grind)
  · simp only [if_neg h5]; exact Prod.ext (by grind) (by grind)
theorem Cf.next {k : Int} (hk : Kd k) {p0 q0 f0 f1 c0 c1 p q : Z2} {j : Nat} (h : Cf k p0 q0 j f0 f1 c0 c1 p q) (E : Eu k p0 q0 j p q) (hq : q ≠ (0, 0)) : Cf k p0 q0 (j + 1) c0 c1 (rst k f0 c0 (quo k p q)) (rst k f1 c1 (quo k p q)) q (rst k p q (quo k p q)) where
  hp := h.hq
  hq := by rw [lin_rst, h.hp, h.hq]
  det := by
    obtain ⟨s, hs, e⟩ := h.det
    refine ⟨-s, by omega, ?_⟩
    rw [det_rst, e]
    unfold sub
    exact Prod.ext (by simp) (by simp)
  bf := ⟨h.bc.1.mono (by omega), h.bc.2.mono (by omega)⟩
  bc := by
    have hj := E.few hk hq
    have u := quo_b hk hq E.bp E.bq
    exact ⟨(rst_b hk h.bf.1 h.bc.1 u).mono (by omega), (rst_b hk h.bf.2 h.bc.2 u).mono (by omega)⟩
/-- at the end: the factors of 0 are small -/
theorem det_p {k : Int} {p0 q0 f0 f1 c0 c1 p q : Z2} {s : Int} (hp : add (mul k p0 f0) (mul k q0 f1) = p) (hq : add (mul k p0 c0) (mul k q0 c1) = q) (e : sub (mul k f0 c1) (mul k f1 c0) = (s, 0)) : sub (mul k p c1) (mul k q f1) = mul k p0 (s, 0) ∧ sub (mul k q f0) (mul k p c0) = mul k q0 (s, 0) := by
  subst hp hq
  rw [← e]
  unfold sub add mul
  by_cases h5 : k = 5
  · simp only [if_pos h5]
    exact ⟨Prod.ext (by grind) (by grind), Prod.ext (by grind) (by grind)⟩
  · simp only [if_neg h5]
    exact ⟨Prod.ext (by grind) (by grind), Prod.ext (by grind) (by grind)⟩
theorem pm_b {x s : Int} {n : Nat} (hs : s = 1 ∨ s = -1) (h : Bd n x) : Bd n (x * s) := by
  rcases hs with rfl | rfl
  · rw [Int.mul_one]; exact h
  · show (x * -1).natAbs < 2 ^ n
    rw [show x * -1 = -x by omega, Int.natAbs_neg]
    exact h
theorem by_d {k : Int} (hk : Kd k) {d c p : Z2} {n m : Nat} {s : Int} (hd : d ≠ (0, 0)) (hs : s = 1 ∨ s = -1) (e : mul k d c = mul k p (s, 0)) (hp : B2 n p) (hm : B2 m d) : B2 (n + m + 5) c := by
  have e2 : mul k (mul k d c) (mate k d) = (c.1 * nrm k d, c.2 * nrm k d) := by rw [mul_comm k d c, mul_assoc, mul_mate, mul_int]
  rw [e, mul_int] at e2
  have hb := mul_b (k := k) (p := (p.1 * s, p.2 * s)) (n := n) hk ⟨pm_b hs hp.1, pm_b hs hp.2⟩ (mate_b (k := k) hm)
  rw [e2] at hb
  have hn : 1 ≤ (nrm k d).natAbs := Int.natAbs_pos.mpr (nrm_ne hk hd)
  have key : ∀ x : Int, Bd (n + (m + 1) + 4) (x * nrm k d) → Bd (n + m + 5) x := fun x hx => by
    have h1 : (x * nrm k d).natAbs < 2 ^ (n + (m + 1) + 4) := hx
    rw [Int.natAbs_mul] at h1
    have h2 : x.natAbs * 1 ≤ x.natAbs * (nrm k d).natAbs := Nat.mul_le_mul_left _ hn
    have h3 : n + (m + 1) + 4 = n + m + 5 := by omega
    rw [h3] at h1
    show x.natAbs < 2 ^ (n + m + 5)
    omega
  exact ⟨key _ hb.1, key _ hb.2⟩
theorem Cf.last {k : Int} (hk : Kd k) {p0 q0 f0 f1 c0 c1 d : Z2} {j : Nat} (h : Cf k p0 q0 j f0 f1 c0 c1 d (0, 0)) (hp : B2 40 p0) (hq : B2 40 q0) (hd : B2 260 d) (hz : d = (0, 0) → j = 0 ∧ c0 = (0, 0) ∧ c1 = (1, 0)) : B2 310 c0 ∧ B2 310 c1 ∧ ¬ (c0 = (0, 0) ∧ c1 = (0, 0)) := by
  obtain ⟨s, hs, e⟩ := h.det
  obtain ⟨e1, e2⟩ := det_p h.hp h.hq e
  have ne : ¬ (c0 = (0, 0) ∧ c1 = (0, 0)) := fun ⟨a, b⟩ => by
    rw [a, b, mul_zero, mul_zero] at e
    unfold sub at e
    have := congrArg Prod.fst e
    dsimp only at this
    omega
  by_cases h0 : d = (0, 0)
  · obtain ⟨_, rfl, rfl⟩ := hz h0
    exact ⟨b2_s (by decide) (by decide) (by omega), b2_s (by decide) (by decide) (by omega), ne⟩
  · rw [zero_mul] at e1 e2
    have e1' : mul k d c1 = mul k p0 (s, 0) := by
      rw [← e1]
      unfold sub
      exact Prod.ext (by simp) (by simp)
    have e2' : mul k d c0 = mul k q0 (-s, 0) := by
      have : mul k q0 (-s, 0) = sub (0, 0) (mul k q0 (s, 0)) := by
        rw [mul_int, mul_int]
        unfold sub
        exact Prod.ext (by dsimp only; rw [Int.mul_neg]; omega) (by dsimp only; rw [Int.mul_neg]; omega)
      rw [this, ← e2]
      unfold sub
      exact Prod.ext (by dsimp only; omega) (by dsimp only; omega)
    exact ⟨(by_d hk h0 (by omega) e2' hq hd).mono (by omega), (by_d hk h0 hs e1' hp hd).mono (by omega), ne⟩
/-! made smaller -/
set_option exponentiation.threshold 2000

def sqs (k : Int) (b0 b1 : Z2) : Z2 := add (mul k b0 b0) (mul k b1 b1)
def szq (k : Int) (b0 b1 : Z2) : Int := (add (sqs k b0 b1) (mate k (sqs k b0 b1))).1
theorem szq_ge {k : Int} (hk : Kd k) (b0 b1 : Z2) : b0.1 * b0.1 ≤ szq k b0 b1 ∧ b0.2 * b0.2 ≤ szq k b0 b1 ∧ b1.1 * b1.1 ≤ szq k b0 b1 ∧ b1.2 * b1.2 ≤ szq k b0 b1 := by
  obtain ⟨a, b⟩ := b0
  obtain ⟨c, d⟩ := b1
  have sa : 0 ≤ a * a := Y29.sqn a
  have sb : 0 ≤ b * b := Y29.sqn b
  have sc : 0 ≤ c * c := Y29.sqn c
  have sd : 0 ≤ d * d := Y29.sqn d
  have sab : 0 ≤ (a + b) * (a + b) := Y29.sqn _
  have scd : 0 ≤ (c + d) * (c + d) := Y29.sqn _
  have e1 : (a + b) * (a + b) = a * a + 2 * (a * b) + b * b := by grind
  have e2 : (c + d) * (c + d) = c * c + 2 * (c * d) + d * d := by grind
  rw [e1] at sab
  rw [e2] at scd
  have hs : szq k (a, b) (c, d) = if k = 5 then 2 * (a * a) + 2 * (a * b) + 3 * (b * b) + (2 * (c * c) + 2 * (c * d) + 3 * (d * d)) else 2 * (a * a) + 2 * k * (b * b) + (2 * (c * c) + 2 * k * (d * d)) := by
    unfold szq sqs add mul mate
    by_cases h5 : k = 5
    · simp only [if_pos h5]; grind
    · simp only [if_neg h5]; grind
  rw [hs]
  dsimp only
  generalize a * a = A at *
  generalize b * b = B at *
  generalize c * c = C at *
  generalize d * d = E at *
  generalize a * b = P at *
  generalize c * d = R at *
  rcases hk with rfl | rfl | rfl
  · rw [if_neg (by decide)]
    omega
  · rw [if_neg (by decide)]
    omega
  · rw [if_pos rfl]
    omega
theorem szq_nn {k : Int} (hk : Kd k) (b0 b1 : Z2) : 0 ≤ szq k b0 b1 := Int.le_trans (Y29.sqn b0.1) (szq_ge hk b0 b1).1
theorem szq_pos {k : Int} (hk : Kd k) {b0 b1 : Z2} (h : ¬ (b0 = (0, 0) ∧ b1 = (0, 0))) : 0 < szq k b0 b1 := by
  refine Int.lt_of_not_ge fun z => h ?_
  obtain ⟨h1, h2, h3, h4⟩ := szq_ge hk b0 b1
  have key : ∀ x : Int, x * x ≤ szq k b0 b1 → x = 0 := fun x hx => Classical.byContradiction fun ne => by
    have := Y29.sqp ne
    omega
  exact ⟨Prod.ext (key _ h1) (key _ h2), Prod.ext (key _ h3) (key _ h4)⟩
theorem szq_b {k : Int} (hk : Kd k) {b0 b1 : Z2} {m : Nat} (h : szq k b0 b1 < 2 ^ (2 * m)) : B2 m b0 ∧ B2 m b1 := by
  obtain ⟨h1, h2, h3, h4⟩ := szq_ge hk b0 b1
  have key : ∀ x : Int, x * x ≤ szq k b0 b1 → Bd m x := fun x hx => by
    rw [sq_na] at hx
    have e : (2 : Int) ^ (2 * m) = ((2 ^ m * 2 ^ m : Nat) : Int) := by
      rw [Nat.two_mul, Int.pow_add]
      simp
    rw [e] at h
    have h5 : x.natAbs * x.natAbs < 2 ^ m * 2 ^ m := by omega
    refine Nat.lt_of_not_ge fun z => ?_
    have := Nat.mul_le_mul z z
    omega
  exact ⟨⟨key _ h1, key _ h2⟩, ⟨key _ h3, key _ h4⟩⟩
theorem sqs_b {k : Int} (hk : Kd k) {b0 b1 : Z2} {m : Nat} (h0 : B2 m b0) (h1 : B2 m b1) : B2 (2 * m + 5) (sqs k b0 b1) := (add_b (mul_b hk h0 h0) (mul_b hk h1 h1)).mono (by omega)
theorem szq_lt {k : Int} (hk : Kd k) {b0 b1 : Z2} {m : Nat} (h0 : B2 m b0) (h1 : B2 m b1) : szq k b0 b1 < 2 ^ (2 * m + 8) := by
  have h := sqs_b hk h0 h1
  have h2 : B2 (2 * m + 7) (add (sqs k b0 b1) (mate k (sqs k b0 b1))) := (add_b h (mate_b (k := k) h)).mono (by omega)
  have h3 : (szq k b0 b1).natAbs < 2 ^ (2 * m + 7) := h2.1
  have h4 : 2 ^ (2 * m + 7) ≤ 2 ^ (2 * m + 8) := Nat.pow_le_pow_right (by decide) (by omega)
  have e : (2 : Int) ^ (2 * m + 8) = ((2 ^ (2 * m + 8) : Nat) : Int) := by simp
  rw [e]
  omega
/-- a change: nothing, told by p and q, small, not 0 -/
structure Sm (k : Int) (p0 q0 b0 b1 : Z2) : Prop where
  z : add (mul k p0 b0) (mul k q0 b1) = (0, 0)
  s : szq k b0 b1 < 2 ^ (2 * 320)
  n : ¬ (b0 = (0, 0) ∧ b1 = (0, 0))
theorem Sm.of {k : Int} (hk : Kd k) {p0 q0 b0 b1 : Z2} (z : add (mul k p0 b0) (mul k q0 b1) = (0, 0)) (h0 : B2 310 b0) (h1 : B2 310 b1) (n : ¬ (b0 = (0, 0) ∧ b1 = (0, 0))) : Sm k p0 q0 b0 b1 where
  z := z
  s := by
    have := szq_lt hk h0 h1
    have e : (2 : Int) ^ (2 * 310 + 8) < 2 ^ (2 * 320) := by decide
    omega
  n := n
theorem Sm.step {k : Int} (hk : Kd k) {p0 q0 b0 b1 s : Z2} (h : Sm k p0 q0 b0 b1) (hs : s ≠ (0, 0)) (hl : szq k (mul k b0 s) (mul k b1 s) < szq k b0 b1) : Sm k p0 q0 (mul k b0 s) (mul k b1 s) where
  z := by
    rw [← mul_assoc, ← mul_assoc, mul_comm k (mul k p0 b0), mul_comm k (mul k q0 b1), ← mul_add, h.z, mul_zero]
  s := Int.lt_trans hl h.s
  n := fun ⟨a, b⟩ => h.n ⟨mul_cancel hk a hs, mul_cancel hk b hs⟩
theorem Sm.b {k : Int} (hk : Kd k) {p0 q0 b0 b1 : Z2} (h : Sm k p0 q0 b0 b1) : B2 320 b0 ∧ B2 320 b1 := szq_b hk h.s
theorem Sm.sq {k : Int} (hk : Kd k) {p0 q0 b0 b1 : Z2} (h : Sm k p0 q0 b0 b1) : sqs k b0 b1 ≠ (0, 0) := fun e => by
  have := szq_pos hk h.n
  unfold szq at this
  rw [e] at this
  have z : (add (0, 0) (mate k (0, 0))).1 = 0 := by unfold add mate; split <;> simp
  rw [z] at this
  omega
/-! what is solved -/
structure Cm (k : Int) (p0 q0 c0 c1 f0 f1 d : Z2) : Prop where
  sm : Sm k p0 q0 c0 c1
  hp : add (mul k p0 f0) (mul k q0 f1) = d
  bf : B2 170000 f0 ∧ B2 170000 f1
  bd : B2 260 d
  e : d = euc k 600 p0 q0
  dp : Dv k d p0
  dq : Dv k d q0
  b0 : B2 40 p0 ∧ B2 40 q0
theorem Cm.sol {k : Int} {p0 q0 c0 c1 f0 f1 d : Z2} (h : Cm k p0 q0 c0 c1 f0 f1 d) (t v : Z2) : add (mul k p0 (rst k (mul k f0 t) c0 v)) (mul k q0 (rst k (mul k f1 t) c1 v)) = mul k t d := by
  rw [lin_rst, h.sm.z, ← mul_assoc, ← mul_assoc, mul_comm k (mul k p0 f0), mul_comm k (mul k q0 f1), ← mul_add, h.hp]
  unfold rst
  rw [mul_zero]
  unfold sub
  exact Prod.ext (by simp) (by simp)
/-! the law's own: in lowest terms -/
/-- in lowest terms -/
structure LO (a b n x y z : Int) : Prop where
  x : x = loA a b n
  y : y = loB a b n
  z : z = loN a b n
theorem LO.ls {a b n x y z k : Int} (h : LO a b n x y z) (hn : 0 < n) : lsD k x y = lsD k a b := by rw [h.x, h.y]; exact ls_lo hn
theorem LO.one {a b n x y z : Int} (h : LO a b n x y z) (hn : n = 1) : x = a ∧ y = b ∧ z = 1 := by
  subst hn
  have q := lo_self (a := a) (b := b) (n := 1) (by
    show Y02.isN a b 1 = true
    have : g3 a b 1 = 1 := by
      unfold g3
      have e : (1 : Int).natAbs = 1 := rfl
      rw [e, Nat.gcd_one_right]
      rfl
    unfold Y02.isN
    rw [this]
    decide)
  exact ⟨h.x.trans q.1, h.y.trans q.2.1, h.z.trans q.2.2⟩
theorem nm_n1 {a b : Int} : Nm a b 1 := by
  show Y02.isN a b 1 = true
  have : g3 a b 1 = 1 := by
    unfold g3
    have e : (1 : Int).natAbs = 1 := rfl
    rw [e, Nat.gcd_one_right]
    rfl
  unfold Y02.isN
  rw [this]
  decide
set_option exponentiation.threshold 2000

theorem fdiv_sc {x y g : Int} (hg : g ≠ 0) (hy : y ≠ 0) : (x * g).fdiv (y * g) = x.fdiv y := by
  by_cases hp : 0 < g
  · rw [Int.mul_comm x, Int.mul_comm y]
    exact Int.mul_fdiv_mul_of_pos _ _ hp
  · have := Int.mul_fdiv_mul_of_pos (a := -g) x y (by omega)
    rw [← this, Int.neg_mul, Int.neg_mul, Int.neg_fdiv_neg, Int.mul_comm x, Int.mul_comm y]
theorem lo_quo {t n x y z a : Int} {A : Int} (h : LO A y n x a z) (hn : n ≠ 0) : (2 * x + z).fdiv (2 * z) = (2 * A + n).fdiv (2 * n) := by
  obtain ⟨e1, e2, e3⟩ := lo_mul (a := A) (b := y) (n := n) hn
  rw [← h.x] at e1
  rw [← h.z] at e3
  have g := sg_ne (a := A) (b := y) hn
  generalize sg A y n = s at *
  subst e1 e3
  have hz : z ≠ 0 := fun e => by subst e; rw [Int.zero_mul] at hn; exact hn rfl
  rw [show 2 * (x * s) + z * s = (2 * x + z) * s by grind, show 2 * (z * s) = (2 * z) * s by grind, fdiv_sc g (by omega)]
theorem lo_quo2 {n x y z a : Int} {A : Int} (h : LO y A n a x z) (hn : n ≠ 0) : (2 * x + z).fdiv (2 * z) = (2 * A + n).fdiv (2 * n) := by
  obtain ⟨e1, e2, e3⟩ := lo_mul (a := y) (b := A) (n := n) hn
  rw [← h.y] at e2
  rw [← h.z] at e3
  have g := sg_ne (a := y) (b := A) hn
  generalize sg y A n = s at *
  subst e2 e3
  have hz : z ≠ 0 := fun e => by subst e; rw [Int.zero_mul] at hn; exact hn rfl
  rw [show 2 * (x * s) + z * s = (2 * x + z) * s by grind, show 2 * (z * s) = (2 * z) * s by grind, fdiv_sc g (by omega)]
theorem lo_one {a b n x y z : Int} (h : LO a b n x y z) (hn : n ≠ 0) : z = 1 ↔ n ∣ a ∧ n ∣ b := by
  obtain ⟨e1, e2, e3⟩ := lo_mul (a := a) (b := b) (n := n) hn
  rw [← h.z] at e3
  constructor
  · intro hz
    subst hz
    rw [Int.one_mul] at e3
    obtain ⟨d1, d2, _⟩ := sg_dvd a b n
    rw [e3] at d1 d2
    exact ⟨d1, d2⟩
  · rintro ⟨⟨u, rfl⟩, ⟨v, rfl⟩⟩
    have hnm : Nm u v 1 := nm_n1
    have q := lo_is (a := n * u) (b := n * v) (n := n) (c := u) (e := v) (m := 1) hn hnm (by grind) (by grind)
    exact h.z.trans q.2.2
theorem dvb_lo {k : Int} (hk : Kd k) {p q : Z2} {x y z : Int} (hq : q ≠ (0, 0)) (h : LO ((mul k p (mate k q)).1 * 1) ((mul k p (mate k q)).2 * 1) (1 * nrm k q) x y z) : z = 1 ↔ dvb k q p := by
  have hn := nrm_ne hk hq
  rw [lo_one h (by omega), dvb_iff hk, Int.one_mul, Int.mul_one, Int.mul_one]
  constructor
  · rintro ⟨⟨u, hu⟩, ⟨v, hv⟩⟩
    refine ⟨(u, v), sub_zero_iff.mp (mul_cancel hk (q := mate k q) ?_ (fun e => ?_))⟩
    · rw [mul_comm, mul_sub, mul_comm k (mate k q) p, mul_comm k (mate k q), mul_assoc, mul_mate, mul_int]
      exact sub_zero_iff.mpr (Prod.ext (by rw [hu]; grind) (by rw [hv]; grind))
    · have : nrm k (mate k q) = 0 := by rw [e]; unfold nrm; split <;> simp
      rw [nrm_mate] at this
      exact hn this
  · rintro ⟨t, rfl⟩
    rw [mul_assoc, mul_mate, mul_int]
    exact ⟨⟨t.1, Int.mul_comm _ _⟩, ⟨t.2, Int.mul_comm _ _⟩⟩
end Y75

set_option Elab.async false
set_option linter.all false
set_option maxRecDepth 100000
set_option maxHeartbeats 4000000
namespace Y75
open PySem PySem.Spec PyProof.Rows L2 Evl Wz Y02
theorem det_g {k : Int} {p0 q0 f0 f1 c0 c1 p q : Z2} (hp : add (mul k p0 f0) (mul k q0 f1) = p) (hq : add (mul k p0 c0) (mul k q0 c1) = q) : sub (mul k p c1) (mul k q f1) = mul k p0 (sub (mul k f0 c1) (mul k f1 c0)) ∧ sub (mul k q f0) (mul k p c0) = mul k q0 (sub (mul k f0 c1) (mul k f1 c0)) := by
  subst hp hq
  unfold sub add mul
  by_cases h5 : k = 5
  · simp only [if_pos h5]
    exact ⟨Prod.ext (by grind) (by grind), Prod.ext (by grind) (by grind)⟩
  · simp only [if_neg h5]
    exact ⟨Prod.ext (by grind) (by grind), Prod.ext (by grind) (by grind)⟩
theorem by_dg {k : Int} (hk : Kd k) {d c w : Z2} {n m : Nat} (hd : d ≠ (0, 0)) (e : mul k d c = w) (hw : B2 n w) (hm : B2 m d) : B2 (n + m + 5) c := by_d hk hd (.inl rfl) (s := 1) (p := w) (e.trans (mul_one k w).symm) hw hm
theorem gram (k : Int) (g0 g1 c0 c1 u : Z2) : mul k (sqs k c0 c1) (rst k g0 c0 u) = add (mul k c1 (sub (mul k g0 c1) (mul k g1 c0))) (mul k c0 (rst k (add (mul k g0 c0) (mul k g1 c1)) (sqs k c0 c1) u)) := by
  unfold sqs rst sub add mul
  by_cases h5 : k = 5
  · simp only [if_pos h5]; exact Prod.ext (by grind) (by grind)
  · simp only [if_neg h5]; exact Prod.ext (by grind) (by grind)
theorem gram2 (k : Int) (g0 g1 c0 c1 u : Z2) : mul k (sqs k c0 c1) (rst k g1 c1 u) = sub (mul k c1 (rst k (add (mul k g0 c0) (mul k g1 c1)) (sqs k c0 c1) u)) (mul k c0 (sub (mul k g0 c1) (mul k g1 c0))) := by
  unfold sqs rst sub add mul
  by_cases h5 : k = 5
  · simp only [if_pos h5]; exact Prod.ext (by grind) (by grind)
  · simp only [if_neg h5]; exact Prod.ext (by grind) (by grind)
theorem sub_z (p : Z2) : sub p (0, 0) = p := by unfold sub; exact Prod.ext (by simp) (by simp)
theorem b2_neg {n : Nat} {p : Z2} (h : B2 n (sub (0, 0) p)) : B2 n p := by
  unfold sub at h
  exact ⟨by have := h.1; unfold Bd at *; dsimp only at this; omega, by have := h.2; unfold Bd at *; dsimp only at this; omega⟩
theorem b2_z {n : Nat} : B2 n ((0, 0) : Z2) := ⟨Nat.pow_pos (by decide), Nat.pow_pos (by decide)⟩
theorem sol_b {k : Int} (hk : Kd k) {p0 q0 c0 c1 g0 g1 z : Z2} (hp : B2 40 p0) (hq : B2 40 q0) (hz : B2 300 z) (sm : Sm k p0 q0 c0 c1) (e : add (mul k p0 g0) (mul k q0 g1) = z) (h0 : p0 = (0, 0) → q0 = (0, 0) → g0 = (0, 0) ∧ g1 = (0, 0)) :
    B2 1900 (rst k g0 c0 (quo k (add (mul k g0 c0) (mul k g1 c1)) (sqs k c0 c1))) ∧ B2 1900 (rst k g1 c1 (quo k (add (mul k g0 c0) (mul k g1 c1)) (sqs k c0 c1))) := by
  obtain ⟨hc0, hc1⟩ := sm.b hk
  have hs := sqs_b hk hc0 hc1
  have hD : B2 700 (sub (mul k g0 c1) (mul k g1 c0)) := by
    obtain ⟨e1, e2⟩ := det_g e sm.z
    rw [zero_mul, sub_z] at e1
    rw [zero_mul] at e2
    by_cases hp0 : p0 = (0, 0)
    · by_cases hq0 : q0 = (0, 0)
      · obtain ⟨r0, r1⟩ := h0 hp0 hq0
        rw [r0, r1, zero_mul, zero_mul]
        exact b2_z
      · have hb : B2 (300 + 320 + 4 + 1) (sub (0, 0) (mul k z c0)) := (sub_b (b2_z (n := 0)) (mul_b hk hz hc0)).mono (by omega)
        exact (by_dg hk hq0 e2.symm hb hq).mono (by omega)
    · exact (by_dg hk hp0 e1.symm (mul_b hk hz hc1) hp).mono (by omega)
  have hr := rst_bd (p := add (mul k g0 c0) (mul k g1 c1)) hk (sm.sq hk) hs
  exact ⟨(by_dg hk (sm.sq hk) (gram k g0 g1 c0 c1 _) (add_b (mul_b hk hc1 hD) (mul_b hk hc0 hr)) hs).mono (by omega), (by_dg hk (sm.sq hk) (gram2 k g0 g1 c0 c1 _) (sub_b (mul_b hk hc1 hr) (mul_b hk hc0 hD)) hs).mono (by omega)⟩
theorem Cm.sb {k : Int} (hk : Kd k) {p0 q0 c0 c1 f0 f1 d t z : Z2} (h : Cm k p0 q0 c0 c1 f0 f1 d) (hz : B2 300 z) (ht : z = mul k t d) (h0 : d = (0, 0) → t = (0, 0)) :
    B2 1900 (rst k (mul k f0 t) c0 (quo k (add (mul k (mul k f0 t) c0) (mul k (mul k f1 t) c1)) (sqs k c0 c1))) ∧ B2 1900 (rst k (mul k f1 t) c1 (quo k (add (mul k (mul k f0 t) c0) (mul k (mul k f1 t) c1)) (sqs k c0 c1))) := by
  refine sol_b hk h.b0.1 h.b0.2 hz h.sm ?_ fun e1 e2 => ?_
  · rw [← mul_assoc, ← mul_assoc, mul_comm k (mul k p0 f0), mul_comm k (mul k q0 f1), ← mul_add, h.hp, ht]
  · have hd : d = (0, 0) := by
      rw [← h.hp, e1, e2, zero_mul, zero_mul]
      exact add_zero _
    rw [h0 hd, mul_zero, mul_zero]
    exact ⟨rfl, rfl⟩
end Y75

set_option Elab.async false
set_option linter.all false
set_option maxRecDepth 100000
set_option maxHeartbeats 8000000
namespace Y75
open PySem PySem.Spec PyProof.Rows L2 Evl Wz
open Y02 (Kd)
local macro_rules | `(tactic| walk_at "bd") => `(tactic| (repeat (first | assumption | apply Bd.mul | apply Bd.add | apply Bd.sub | apply Bd.neg | exact Bd.z | exact Bd.of _)))
local macro_rules | `(tactic| walk_at "bm") => `(tactic| (first | assumption | exact Bd.mono (by walk_at "bd") (by decide)))
local macro_rules | `(tactic| walk_at "b2") => `(tactic| (repeat (first | assumption | apply And.intro | walk_at "bm" | decide | omega)))
def topS (i : Nat) : Stmt := PySem.Challenge.pw_wholefloors_k75_whole_numbers_divided.main.body.getD i (.Pass ⟨0, 0, 0, 0⟩)
def metS (i j : Nat) : Stmt := match topS i with
  | .ClassDef _ _ _ body _ _ _ _ _ _ _ => body.getD j (.Pass ⟨0, 0, 0, 0⟩)
  | s => s
abbrev pD (z : Z2) : Dat := .tup [.int z.1, .int z.2]
abbrev ppD (a b : Z2) : Dat := .tup [pD a, pD b]
def stD (k : Int) : Dat := if k = 2 then ppD (1, 1) (-1, 1) else if k = 3 then ppD (2, 1) (2, -1) else ppD (0, 1) (-1, 1)
theorem eqv_pD (a b : Z2) : PyData.eqv (pd (pD a)) (pd (pD b)) = decide (a = b) := by
  obtain ⟨a1, a2⟩ := a
  obtain ⟨b1, b2⟩ := b
  by_cases h1 : a1 = b1
  · by_cases h2 : a2 = b2
    · subst h1 h2
      simp [pd, pd.pds, PyData.eqv, PyData.eqvAll]
    · simp [pd, pd.pds, PyData.eqv, PyData.eqvAll, h2]
  · simp [pd, pd.pds, PyData.eqv, PyData.eqvAll, h1]
theorem eqt {a b : Z2} (h : PyData.eqv (pd (pD a)) (pd (pD b)) = true) : a = b := of_decide_eq_true ((eqv_pD a b).symm.trans h)
theorem eqf {a b : Z2} (h : PyData.eqv (pd (pD a)) (pd (pD b)) = false) : a ≠ b := of_decide_eq_false ((eqv_pD a b).symm.trans h)
theorem two_b : Bd 2 (2 : Int) := by show Int.natAbs _ < 2 ^ 2; decide
theorem net {a b : Z2} (h : (!PyData.eqv (pd (pD a)) (pd (pD b))) = true) : a ≠ b := eqf (by simpa using h)
theorem nef {a b : Z2} (h : (!PyData.eqv (pd (pD a)) (pd (pD b))) = false) : a = b := eqt (by simpa using h)
set_option exponentiation.threshold 1000000
section
variable {P : Program} {w : World} {K : PySem.W.Frag} {mg : Str → Option Value} {base : Heap} {C : Addr}

/-! ### is_integer -/
abbrev s_is_integer : Stmt := topS 7
theorem sc_is_integer : FnScope ["told"] ["told"] (defScope s_is_integer) := ⟨rfl, rfl, rfl, by decide +kernel, rfl, by decide +kernel, by decide +kernel⟩
def F_is_integer : FP := fun ds Q => ∃ i, ds = [.int i] ∧ Q (.bl true)
theorem ok_is_integer {f : Addr} {fd : FuncData} (Fn : Fun K "is_integer" "is_integer" s_is_integer f fd) (m_isinstance : mg "isinstance" = none) (m_int : mg "int" = none) (m_bool : mg "bool" = none) : FnOk P w K mg base CX0 1 f fd ["told"] (spP K F_is_integer) := by
  refine fn_P Fn sc_is_integer (fun ds G h => ?_) (fun cdv A outer s H Q E ds G hr hF hQ => ?_)
  · obtain ⟨i, rfl, hG⟩ := h
    rfl
  · obtain ⟨i, rfl, hG⟩ := hF
    refine (as_ret hQ (c_and (c_isi (U := "int") m_isinstance (ca_cons (nm 0 rfl (ca_cons (c_ty (T := "int") m_int (by decide +kernel) (ca_nil ⟨rfl, _, true, rfl, (by decide +kernel), (c_one (c_not (c_isi (U := "bool") m_isinstance (ca_cons (nm 0 rfl (ca_cons (c_ty (T := "bool") m_bool (by decide +kernel) (ca_nil ⟨rfl, _, false, rfl, (by decide +kernel), (And.intro rfl ?h1)⟩))))))))⟩))))))))
    case h1 =>
      exact hG

/-! ### is_whole -/
abbrev s_is_whole : Stmt := topS 8
theorem sc_is_whole : FnScope ["told"] ["told"] (defScope s_is_whole) := ⟨rfl, rfl, rfl, by decide +kernel, rfl, by decide +kernel, by decide +kernel⟩
def F_is_whole : FP := fun ds Q => ∃ z, ds = [pD z] ∧ Q (.bl true)
theorem ok_is_whole {f : Addr} {fd : FuncData} (Fn : Fun K "is_whole" "is_whole" s_is_whole f fd) (c_is_integer : Cl P w K mg base 1 "is_integer" ["told"] (spP K F_is_integer)) (m_isinstance : mg "isinstance" = none) (m_tuple : mg "tuple" = none) (m_len : mg "len" = none) : FnOk P w K mg base CX0 2 f fd ["told"] (spP K F_is_whole) := by
  refine fn_P Fn sc_is_whole (fun ds G h => ?_) (fun cdv A outer s H Q E ds G hr hF hQ => ?_)
  · obtain ⟨z, rfl, hG⟩ := h
    rfl
  · obtain ⟨z, rfl, hG⟩ := hF
    refine (as_ret hQ (c_and (c_isi (U := "tuple") m_isinstance (ca_cons (nm 0 rfl (ca_cons (c_ty (T := "tuple") m_tuple (by decide +kernel) (ca_nil ⟨rfl, _, true, rfl, (by decide +kernel), (c_and (c_eqI (c_lenT m_len (ca_cons (nm 0 rfl (ca_nil (c_int (c_and (c_call c_is_integer (hr.mono (by decide)) (ca_cons (c_ixTn (nm 0 rfl (c_int (And.intro (by decide) (ca_nil ⟨_, rfl, And.intro rfl (c_one (c_call c_is_integer (hr.mono (by decide)) (ca_cons (c_ixTn (nm 0 rfl (c_int (And.intro (by decide) (ca_nil ⟨_, rfl, And.intro rfl (And.intro rfl ?h1)⟩))))))))⟩)))))))))))))))⟩))))))))
    case h1 =>
      exact hG

/-! ### is_kind -/
abbrev s_is_kind : Stmt := topS 9
theorem sc_is_kind : FnScope ["told"] ["told"] (defScope s_is_kind) := ⟨rfl, rfl, rfl, by decide +kernel, rfl, by decide +kernel, by decide +kernel⟩
def F_is_kind : FP := fun ds Q => ∃ k, ds = [.int k] ∧ Kd k ∧ Q (.bl true)
theorem ok_is_kind {f : Addr} {fd : FuncData} (Fn : Fun K "is_kind" "is_kind" s_is_kind f fd) (c_is_integer : Cl P w K mg base 1 "is_integer" ["told"] (spP K F_is_integer)) (t_KINDS : KT K mg "KINDS" [.int 2, .int 3, .int 5]) : FnOk P w K mg base CX0 2 f fd ["told"] (spP K F_is_kind) := by
  refine fn_P Fn sc_is_kind (fun ds G h => ?_) (fun cdv A outer s H Q E ds G hr hF hQ => ?_)
  · obtain ⟨k, rfl, hk, hG⟩ := h
    rfl
  · obtain ⟨k, rfl, hk, hG⟩ := hF
    refine (as_ret hQ (c_and (c_call c_is_integer (hr.mono (by decide)) (ca_cons (nm 0 rfl (ca_nil ⟨_, rfl, And.intro rfl (c_one (c_inI (is := [2, 3, 5]) (nm 0 rfl (c_kt t_KINDS (And.intro rfl (And.intro rfl ?h1))))))⟩))))))
    case h1 =>
      rw [show decide (k ∈ [2, 3, 5]) = true by rcases hk with rfl | rfl | rfl <;> decide]
      exact hG

/-! ### check_kind -/
abbrev s_check_kind : Stmt := topS 10
theorem sc_check_kind : FnScope ["kind"] ["kind"] (defScope s_check_kind) := ⟨rfl, rfl, rfl, by decide +kernel, rfl, by decide +kernel, by decide +kernel⟩
def F_check_kind : FP := fun ds Q => ∃ k, ds = [.int k] ∧ Kd k ∧ Q .non
theorem ok_check_kind {f : Addr} {fd : FuncData} (Fn : Fun K "check_kind" "check_kind" s_check_kind f fd) (c_is_kind : Cl P w K mg base 2 "is_kind" ["told"] (spP K F_is_kind)) : FnOk P w K mg base CX0 3 f fd ["kind"] (spP K F_check_kind) := by
  refine fn_P Fn sc_check_kind (fun ds G h => ?_) (fun cdv A outer s H Q E ds G hr hF hQ => ?_)
  · obtain ⟨k, rfl, hk, hG⟩ := h
    rfl
  · obtain ⟨k, rfl, hk, hG⟩ := hF
    refine (as_ifn (t_not (t_val (c_call c_is_kind (hr.mono (by decide)) (ca_cons (nm 0 rfl (ca_nil ⟨_, rfl, ?h1, And.intro rfl (as_nil fun _ H1 _ hk e0 _ => hQ .non _ .non H1 hG e0 hk .non)⟩)))))))
    case h1 =>
      assumption

/-! ### pair_sum -/
abbrev s_pair_sum : Stmt := topS 12
theorem sc_pair_sum : FnScope ["p", "q"] ["p", "q"] (defScope s_pair_sum) := ⟨rfl, rfl, rfl, by decide +kernel, rfl, by decide +kernel, by decide +kernel⟩
def F_pair_sum : FP := fun ds Q => ∃ p q, ds = [pD p, pD q] ∧ Q (pD (add p q))
theorem ok_pair_sum {f : Addr} {fd : FuncData} (Fn : Fun K "pair_sum" "pair_sum" s_pair_sum f fd)  : FnOk P w K mg base CX0 1 f fd ["p", "q"] (spP K F_pair_sum) := by
  refine fn_P Fn sc_pair_sum (fun ds G h => ?_) (fun cdv A outer s H Q E ds G hr hF hQ => ?_)
  · obtain ⟨p, q, rfl, hG⟩ := h
    rfl
  · obtain ⟨p, q, rfl, hG⟩ := hF
    refine (as_ret hQ (c_tup (ca_cons (c_add (c_ixTn (nm 0 rfl (c_int (And.intro (by decide) (c_ixTn (nm 1 rfl (c_int (And.intro (by decide) (ca_cons (c_add (c_ixTn (nm 0 rfl (c_int (And.intro (by decide) (c_ixTn (nm 1 rfl (c_int (And.intro (by decide) (ca_nil (And.intro (And.intro rfl (Nat.le_of_ble_eq_true rfl)) (And.intro rfl ?h1)))))))))))))))))))))))))
    case h1 =>
      exact hG

/-! ### pair_less -/
abbrev s_pair_less : Stmt := topS 13
theorem sc_pair_less : FnScope ["p", "q"] ["p", "q"] (defScope s_pair_less) := ⟨rfl, rfl, rfl, by decide +kernel, rfl, by decide +kernel, by decide +kernel⟩
def F_pair_less : FP := fun ds Q => ∃ p q, ds = [pD p, pD q] ∧ Q (pD (sub p q))
theorem ok_pair_less {f : Addr} {fd : FuncData} (Fn : Fun K "pair_less" "pair_less" s_pair_less f fd)  : FnOk P w K mg base CX0 1 f fd ["p", "q"] (spP K F_pair_less) := by
  refine fn_P Fn sc_pair_less (fun ds G h => ?_) (fun cdv A outer s H Q E ds G hr hF hQ => ?_)
  · obtain ⟨p, q, rfl, hG⟩ := h
    rfl
  · obtain ⟨p, q, rfl, hG⟩ := hF
    refine (as_ret hQ (c_tup (ca_cons (c_sub (c_ixTn (nm 0 rfl (c_int (And.intro (by decide) (c_ixTn (nm 1 rfl (c_int (And.intro (by decide) (ca_cons (c_sub (c_ixTn (nm 0 rfl (c_int (And.intro (by decide) (c_ixTn (nm 1 rfl (c_int (And.intro (by decide) (ca_nil (And.intro (And.intro rfl (Nat.le_of_ble_eq_true rfl)) (And.intro rfl ?h1)))))))))))))))))))))))))
    case h1 =>
      exact hG

/-! ### pair_times -/
abbrev s_pair_times : Stmt := topS 14
theorem sc_pair_times : FnScope ["kind", "p", "q", "a", "b", "c", "d"] ["kind", "p", "q"] (defScope s_pair_times) := ⟨rfl, rfl, rfl, by decide +kernel, rfl, by decide +kernel, by decide +kernel⟩
def F_pair_times : FP := fun ds Q => ∃ k p q, ds = [.int k, pD p, pD q] ∧ (Kd k ∧ B2 450000 p ∧ B2 450000 q) ∧ Q (pD (mul k p q))
theorem ok_pair_times {f : Addr} {fd : FuncData} (Fn : Fun K "pair_times" "pair_times" s_pair_times f fd)  : FnOk P w K mg base CX0 1 f fd ["kind", "p", "q"] (spP K F_pair_times) := by
  refine fn_P Fn sc_pair_times (fun ds G h => ?_) (fun cdv A outer s H Q E ds G hr hF hQ => ?_)
  · obtain ⟨k, p, q, rfl, ⟨hk, ⟨hp1, hp2⟩, hq1, hq2⟩, hG⟩ := h
    rfl
  · obtain ⟨k, p, q, rfl, ⟨hk, ⟨hp1, hp2⟩, hq1, hq2⟩, hG⟩ := hF
    have hkb := hk.bd
    refine (as_unp2 (i := 3) (j := 4) ?h1 rfl (nm 1 rfl ⟨_, _, rfl, (as_unp2 (i := 5) (j := 6) ?h2 rfl (nm 2 rfl ⟨_, _, rfl, (as_ifn (t_eqI (nm 0 rfl (c_int (And.intro (fun b1 => (as_ret hQ (c_tup (ca_cons (c_add (c_mul (nm 3 rfl (nm 5 rfl (And.intro ?h3 (c_mul (nm 4 rfl (nm 6 rfl (And.intro ?h4 (ca_cons (c_add (c_add (c_mul (nm 3 rfl (nm 6 rfl (And.intro ?h5 (c_mul (nm 4 rfl (nm 5 rfl (And.intro ?h6 (c_mul (nm 4 rfl (nm 6 rfl (And.intro ?h7 (ca_nil (And.intro (And.intro rfl (Nat.le_of_ble_eq_true rfl)) (And.intro rfl ?h8))))))))))))))))))))))))))))))) (fun b1 => (as_ret hQ (c_tup (ca_cons (c_add (c_mul (nm 3 rfl (nm 5 rfl (And.intro ?h9 (c_mul (c_mul (nm 0 rfl (nm 4 rfl (And.intro ?h10 (nm 6 rfl (And.intro ?h11 (ca_cons (c_add (c_mul (nm 3 rfl (nm 6 rfl (And.intro ?h12 (c_mul (nm 4 rfl (nm 5 rfl (And.intro ?h13 (ca_nil (And.intro (And.intro rfl (Nat.le_of_ble_eq_true rfl)) (And.intro rfl ?h14))))))))))))))))))))))))))))))))))⟩))⟩))
    case h1 =>
      exact sc_pair_times.nd
    case h2 =>
      exact sc_pair_times.nd
    case h3 =>
      exact cm (by walk_at "bd") (by walk_at "bd") (by decide)
    case h4 =>
      exact cm (by walk_at "bd") (by walk_at "bd") (by decide)
    case h5 =>
      exact cm (by walk_at "bd") (by walk_at "bd") (by decide)
    case h6 =>
      exact cm (by walk_at "bd") (by walk_at "bd") (by decide)
    case h7 =>
      exact cm (by walk_at "bd") (by walk_at "bd") (by decide)
    case h8 =>
      first | (rw [show mul k p q = _ from if_pos b1] at hG; exact hG) | (rw [show mul k p q = _ from if_neg b1] at hG; exact hG)
    case h9 =>
      exact cm (by walk_at "bd") (by walk_at "bd") (by decide)
    case h10 =>
      exact cm (by walk_at "bd") (by walk_at "bd") (by decide)
    case h11 =>
      exact cm (by walk_at "bd") (by walk_at "bd") (by decide)
    case h12 =>
      exact cm (by walk_at "bd") (by walk_at "bd") (by decide)
    case h13 =>
      exact cm (by walk_at "bd") (by walk_at "bd") (by decide)
    case h14 =>
      first | (rw [show mul k p q = _ from if_pos b1] at hG; exact hG) | (rw [show mul k p q = _ from if_neg b1] at hG; exact hG)

/-! ### pair_mate -/
abbrev s_pair_mate : Stmt := topS 15
theorem sc_pair_mate : FnScope ["kind", "p", "a", "b"] ["kind", "p"] (defScope s_pair_mate) := ⟨rfl, rfl, rfl, by decide +kernel, rfl, by decide +kernel, by decide +kernel⟩
def F_pair_mate : FP := fun ds Q => ∃ k p, ds = [.int k, pD p] ∧ Q (pD (mate k p))
theorem ok_pair_mate {f : Addr} {fd : FuncData} (Fn : Fun K "pair_mate" "pair_mate" s_pair_mate f fd)  : FnOk P w K mg base CX0 1 f fd ["kind", "p"] (spP K F_pair_mate) := by
  refine fn_P Fn sc_pair_mate (fun ds G h => ?_) (fun cdv A outer s H Q E ds G hr hF hQ => ?_)
  · obtain ⟨k, p, rfl, hG⟩ := h
    rfl
  · obtain ⟨k, p, rfl, hG⟩ := hF
    refine (as_unp2 (i := 2) (j := 3) ?h1 rfl (nm 1 rfl ⟨_, _, rfl, (as_ifn (t_eqI (nm 0 rfl (c_int (And.intro (fun b1 => (as_ret hQ (c_tup (ca_cons (c_add (nm 2 rfl (nm 3 rfl (ca_cons (c_neg (nm 3 rfl (ca_nil (And.intro (And.intro rfl (Nat.le_of_ble_eq_true rfl)) (And.intro rfl ?h2))))))))))))) (fun b1 => (as_ret hQ (c_tup (ca_cons (nm 2 rfl (ca_cons (c_neg (nm 3 rfl (ca_nil (And.intro (And.intro rfl (Nat.le_of_ble_eq_true rfl)) (And.intro rfl ?h3))))))))))))))))⟩))
    case h1 =>
      exact sc_pair_mate.nd
    case h2 =>
      first | (rw [show mate k p = _ from if_pos b1] at hG; exact hG) | (rw [show mate k p = _ from if_neg b1] at hG; exact hG)
    case h3 =>
      first | (rw [show mate k p = _ from if_pos b1] at hG; exact hG) | (rw [show mate k p = _ from if_neg b1] at hG; exact hG)

/-! ### pair_norm -/
abbrev s_pair_norm : Stmt := topS 16
theorem sc_pair_norm : FnScope ["kind", "p", "a", "b"] ["kind", "p"] (defScope s_pair_norm) := ⟨rfl, rfl, rfl, by decide +kernel, rfl, by decide +kernel, by decide +kernel⟩
def F_pair_norm : FP := fun ds Q => ∃ k p, ds = [.int k, pD p] ∧ (Kd k ∧ B2 400000 p) ∧ Q (.int (nrm k p))
theorem ok_pair_norm {f : Addr} {fd : FuncData} (Fn : Fun K "pair_norm" "pair_norm" s_pair_norm f fd)  : FnOk P w K mg base CX0 1 f fd ["kind", "p"] (spP K F_pair_norm) := by
  refine fn_P Fn sc_pair_norm (fun ds G h => ?_) (fun cdv A outer s H Q E ds G hr hF hQ => ?_)
  · obtain ⟨k, p, rfl, ⟨hk, hp1, hp2⟩, hG⟩ := h
    rfl
  · obtain ⟨k, p, rfl, ⟨hk, hp1, hp2⟩, hG⟩ := hF
    have hkb := hk.bd
    refine (as_unp2 (i := 2) (j := 3) ?h1 rfl (nm 1 rfl ⟨_, _, rfl, (as_ifn (t_eqI (nm 0 rfl (c_int (And.intro (fun b1 => (as_ret hQ (c_sub (c_add (c_mul (nm 2 rfl (nm 2 rfl (And.intro ?h2 (c_mul (nm 2 rfl (nm 3 rfl (And.intro ?h3 (c_mul (nm 3 rfl (nm 3 rfl (And.intro ?h4 (And.intro rfl ?h5))))))))))))))))) (fun b1 => (as_ret hQ (c_sub (c_mul (nm 2 rfl (nm 2 rfl (And.intro ?h6 (c_mul (c_mul (nm 0 rfl (nm 3 rfl (And.intro ?h7 (nm 3 rfl (And.intro ?h8 (And.intro rfl ?h9))))))))))))))))))))⟩))
    case h1 =>
      exact sc_pair_norm.nd
    case h2 =>
      exact cm (by walk_at "bd") (by walk_at "bd") (by decide)
    case h3 =>
      exact cm (by walk_at "bd") (by walk_at "bd") (by decide)
    case h4 =>
      exact cm (by walk_at "bd") (by walk_at "bd") (by decide)
    case h5 =>
      first | (rw [show nrm k p = _ from if_pos b1] at hG; exact hG) | (rw [show nrm k p = _ from if_neg b1] at hG; exact hG)
    case h6 =>
      exact cm (by walk_at "bd") (by walk_at "bd") (by decide)
    case h7 =>
      exact cm (by walk_at "bd") (by walk_at "bd") (by decide)
    case h8 =>
      exact cm (by walk_at "bd") (by walk_at "bd") (by decide)
    case h9 =>
      first | (rw [show nrm k p = _ from if_pos b1] at hG; exact hG) | (rw [show nrm k p = _ from if_neg b1] at hG; exact hG)

/-! ### quotient_of -/
abbrev s_quotient_of : Stmt := topS 21
theorem sc_quotient_of : FnScope ["kind", "p", "q", "a", "b", "n"] ["kind", "p", "q"] (defScope s_quotient_of) := ⟨rfl, rfl, rfl, by decide +kernel, rfl, by decide +kernel, by decide +kernel⟩
def F_quotient_of : FP := fun ds Q => ∃ k p q, ds = [.int k, pD p, pD q] ∧ (Kd k ∧ B2 440000 p ∧ B2 4000 q ∧ q ≠ (0, 0)) ∧ Q (pD (quo k p q))
theorem ok_quotient_of {f : Addr} {fd : FuncData} (Fn : Fun K "quotient_of" "quotient_of" s_quotient_of f fd) (c_pair_times : Cl P w K mg base 1 "pair_times" ["kind", "p", "q"] (spP K F_pair_times)) (c_pair_mate : Cl P w K mg base 1 "pair_mate" ["kind", "p"] (spP K F_pair_mate)) (c_pair_norm : Cl P w K mg base 1 "pair_norm" ["kind", "p"] (spP K F_pair_norm)) : FnOk P w K mg base CX0 2 f fd ["kind", "p", "q"] (spP K F_quotient_of) := by
  refine fn_P Fn sc_quotient_of (fun ds G h => ?_) (fun cdv A outer s H Q E ds G hr hF hQ => ?_)
  · obtain ⟨k, p, q, rfl, ⟨hk, hp, hq, hq0⟩, hG⟩ := h
    rfl
  · obtain ⟨k, p, q, rfl, ⟨hk, hp, hq, hq0⟩, hG⟩ := hF
    have hn0 := nrm_ne hk hq0
    have hnb : Bd 8003 (nrm k q) := nrm_b hk hq
    obtain ⟨hm1, hm2⟩ := mate_b (k := k) hq
    obtain ⟨hp1, hp2⟩ := hp
    obtain ⟨hq1, hq2⟩ := hq
    refine (as_unp2 (i := 3) (j := 4) ?h1 rfl (c_call c_pair_times (hr.mono (by decide)) (ca_cons (nm 0 rfl (ca_cons (nm 1 rfl (ca_cons (c_call c_pair_mate (hr.mono (by decide)) (ca_cons (nm 0 rfl (ca_cons (nm 2 rfl (ca_nil ⟨_, q, rfl, And.intro rfl (ca_nil ⟨_, p, mate k q, rfl, ?h2, And.intro rfl ⟨_, _, rfl, (as_asg (i := 5) ?h3 (c_call c_pair_norm (hr.mono (by decide)) (ca_cons (nm 0 rfl (ca_cons (nm 2 rfl (ca_nil ⟨_, q, rfl, ?h4, And.intro rfl (as_ret hQ (c_tup (ca_cons (c_fdivX (c_add (c_mulS (c_int (nm 3 rfl (And.intro (.inl (And.intro (by decide) (by decide))) (nm 5 rfl (c_mulS (c_int (nm 5 rfl (And.intro (.inl (And.intro (by decide) (by decide))) (And.intro ?h5 (ca_cons (c_fdivX (c_add (c_mulS (c_int (nm 4 rfl (And.intro (.inl (And.intro (by decide) (by decide))) (nm 5 rfl (c_mulS (c_int (nm 5 rfl (And.intro (.inl (And.intro (by decide) (by decide))) (And.intro ?h6 (ca_nil (And.intro (And.intro rfl (Nat.le_of_ble_eq_true rfl)) (And.intro rfl ?h7)))))))))))))))))))))))))))))))⟩)))))))⟩⟩)⟩)))))))))))))
    case h1 =>
      exact sc_quotient_of.nd
    case h2 =>
      walk_at "b2"
    case h3 =>
      exact sc_quotient_of.nd
    case h4 =>
      walk_at "b2"
    case h5 =>
      exact cdx (n := 8007) (by omega) (Bd.mono (two_b.mul hnb) (by decide)) (by decide)
    case h6 =>
      exact cdx (n := 8007) (by omega) (Bd.mono (two_b.mul hnb) (by decide)) (by decide)
    case h7 =>
      unfold quo at hG
      exact hG

/-! ### rest_by -/
abbrev s_rest_by : Stmt := topS 22
theorem sc_rest_by : FnScope ["kind", "p", "q", "quotient"] ["kind", "p", "q", "quotient"] (defScope s_rest_by) := ⟨rfl, rfl, rfl, by decide +kernel, rfl, by decide +kernel, by decide +kernel⟩
def F_rest_by : FP := fun ds Q => ∃ k p q u, ds = [.int k, pD p, pD q, pD u] ∧ (Kd k ∧ B2 450000 q ∧ B2 450000 u) ∧ Q (pD (rst k p q u))
theorem ok_rest_by {f : Addr} {fd : FuncData} (Fn : Fun K "rest_by" "rest_by" s_rest_by f fd) (c_pair_less : Cl P w K mg base 1 "pair_less" ["p", "q"] (spP K F_pair_less)) (c_pair_times : Cl P w K mg base 1 "pair_times" ["kind", "p", "q"] (spP K F_pair_times)) : FnOk P w K mg base CX0 2 f fd ["kind", "p", "q", "quotient"] (spP K F_rest_by) := by
  refine fn_P Fn sc_rest_by (fun ds G h => ?_) (fun cdv A outer s H Q E ds G hr hF hQ => ?_)
  · obtain ⟨k, p, q, u, rfl, ⟨hk, ⟨hq1, hq2⟩, hu1, hu2⟩, hG⟩ := h
    rfl
  · obtain ⟨k, p, q, u, rfl, ⟨hk, ⟨hq1, hq2⟩, hu1, hu2⟩, hG⟩ := hF
    refine (as_ret hQ (c_call c_pair_less (hr.mono (by decide)) (ca_cons (nm 1 rfl (ca_cons (c_call c_pair_times (hr.mono (by decide)) (ca_cons (nm 0 rfl (ca_cons (nm 3 rfl (ca_cons (nm 2 rfl (ca_nil ⟨_, u, q, rfl, ?h1, And.intro rfl (ca_nil ⟨p, mul k u q, rfl, And.intro rfl (And.intro rfl ?h2)⟩)⟩)))))))))))))
    case h1 =>
      walk_at "b2"
    case h2 =>
      exact hG

/-! ### exact_by -/
abbrev s_exact_by : Stmt := topS 23
theorem sc_exact_by : FnScope ["kind", "p", "q", "quotient"] ["kind", "p", "q"] (defScope s_exact_by) := ⟨rfl, rfl, rfl, by decide +kernel, rfl, by decide +kernel, by decide +kernel⟩
def F_exact_by : FP := fun ds Q => ∃ k p q, ds = [.int k, pD p, pD q] ∧ (Kd k ∧ B2 300 p ∧ B2 300 q) ∧ (¬ dvb k q p → Q .non) ∧ ∀ t, dvb k q p → p = mul k t q → B2 950 t → (q = (0, 0) → t = (0, 0)) → Q (pD t)
theorem ok_exact_by {f : Addr} {fd : FuncData} (Fn : Fun K "exact_by" "exact_by" s_exact_by f fd) (c_quotient_of : Cl P w K mg base 2 "quotient_of" ["kind", "p", "q"] (spP K F_quotient_of)) (c_rest_by : Cl P w K mg base 2 "rest_by" ["kind", "p", "q", "quotient"] (spP K F_rest_by)) (t_ZERO : KT K mg "ZERO" [.int 0, .int 0]) : FnOk P w K mg base CX0 3 f fd ["kind", "p", "q"] (spP K F_exact_by) := by
  refine fn_P Fn sc_exact_by (fun ds G h => ?_) (fun cdv A outer s H Q E ds G hr hF hQ => ?_)
  · obtain ⟨k, p, q, rfl, ⟨hk, hp, hq⟩, hN, hG⟩ := h
    rfl
  · obtain ⟨k, p, q, rfl, ⟨hk, hp, hq⟩, hN, hG⟩ := hF
    have hp' : B2 440000 p := hp.mono (by decide)
    have hq' : B2 4000 q := hq.mono (by decide)
    have hq2 : B2 450000 q := hq.mono (by decide)
    refine (as_ifn (t_eqDB hr.units (nm 2 rfl (c_kt t_ZERO (And.intro ?h1 (And.intro (fun b1 => (as_ret hQ (c_if (t_eqDB hr.units (nm 1 rfl (c_kt t_ZERO (And.intro ?h2 (And.intro (fun b2 => (c_kt t_ZERO (And.intro rfl ?h3))) (fun b2 => (c_non (And.intro rfl ?h4))))))))))) (fun b1 => (as_asg (i := 3) ?h5 (c_call c_quotient_of (hr.mono (by decide)) (ca_cons (nm 0 rfl (ca_cons (nm 1 rfl (ca_cons (nm 2 rfl (ca_nil ⟨_, p, q, rfl, ⟨hk, hp', hq', eqf b1⟩, And.intro rfl (as_ret hQ (c_if (t_eqDB hr.units (c_call c_rest_by (hr.mono (by decide)) (ca_cons (nm 0 rfl (ca_cons (nm 1 rfl (ca_cons (nm 2 rfl (ca_cons (nm 3 rfl (ca_nil ⟨_, p, q, quo k p q, rfl, ?h6, And.intro rfl (c_kt t_ZERO (And.intro ?h7 (And.intro (fun b3 => (nm 3 rfl (And.intro rfl ?h8))) (fun b3 => (c_non (And.intro rfl ?h9))))))⟩)))))))))))))⟩))))))))))))))))
    case h1 =>
      exact ⟨⟨rfl, rfl⟩, rfl, rfl⟩
    case h2 =>
      exact ⟨⟨rfl, rfl⟩, rfl, rfl⟩
    case h3 =>
      refine hG (0, 0) ?_ ?_ ?_ (fun _ => rfl)
      · unfold dvb
        rw [if_pos (eqt b1)]
        exact eqt b2
      · rw [zero_mul]
        exact eqt b2
      · exact b2_s (by decide) (by decide) (by decide)
    case h4 =>
      first
        | exact hG (0, 0) (by unfold dvb; rw [if_pos (eqt b1)]; exact eqt b2) (by rw [eqt b2, zero_mul]) (b2_s (by decide) (by decide) (by decide)) (fun _ => rfl)
        | exact hN (fun z => by unfold dvb at z; rw [if_pos (eqt b1)] at z; exact eqf b3 z)
        | exact hN (fun z => by unfold dvb at z; rw [if_pos (eqt b1)] at z; exact eqf b2 z)
        | exact hG (quo k p q) (by unfold dvb; rw [if_neg (eqf b1)]; exact eqt (by assumption)) (sub_zero_iff.mp (eqt (by assumption))) ((quo_b hk (eqf b1) hp hq).mono (by decide)) (fun z => absurd z (eqf b1))
        | exact hN (fun z => by unfold dvb at z; rw [if_neg (eqf b1)] at z; exact eqf (by assumption) z)
    case h5 =>
      exact sc_exact_by.nd
    case h6 =>
      exact ⟨hk, hq2, (quo_b hk (eqf b1) hp hq).mono (by decide)⟩
    case h7 =>
      exact ⟨⟨rfl, rfl⟩, rfl, rfl⟩
    case h8 =>
      first
        | exact hG (0, 0) (by unfold dvb; rw [if_pos (eqt b1)]; exact eqt b2) (by rw [eqt b2, zero_mul]) (b2_s (by decide) (by decide) (by decide)) (fun _ => rfl)
        | exact hN (fun z => by unfold dvb at z; rw [if_pos (eqt b1)] at z; exact eqf b3 z)
        | exact hN (fun z => by unfold dvb at z; rw [if_pos (eqt b1)] at z; exact eqf b2 z)
        | exact hG (quo k p q) (by unfold dvb; rw [if_neg (eqf b1)]; exact eqt (by assumption)) (sub_zero_iff.mp (eqt (by assumption))) ((quo_b hk (eqf b1) hp hq).mono (by decide)) (fun z => absurd z (eqf b1))
        | exact hN (fun z => by unfold dvb at z; rw [if_neg (eqf b1)] at z; exact eqf (by assumption) z)
    case h9 =>
      first
        | exact hG (0, 0) (by unfold dvb; rw [if_pos (eqt b1)]; exact eqt b2) (by rw [eqt b2, zero_mul]) (b2_s (by decide) (by decide) (by decide)) (fun _ => rfl)
        | exact hN (fun z => by unfold dvb at z; rw [if_pos (eqt b1)] at z; exact eqf b3 z)
        | exact hN (fun z => by unfold dvb at z; rw [if_pos (eqt b1)] at z; exact eqf b2 z)
        | exact hG (quo k p q) (by unfold dvb; rw [if_neg (eqf b1)]; exact eqt (by assumption)) (sub_zero_iff.mp (eqt (by assumption))) ((quo_b hk (eqf b1) hp hq).mono (by decide)) (fun z => absurd z (eqf b1))
        | exact hN (fun z => by unfold dvb at z; rw [if_neg (eqf b1)] at z; exact eqf (by assumption) z)

end
end Y75

set_option Elab.async false
set_option linter.all false
set_option maxRecDepth 100000
set_option maxHeartbeats 8000000
namespace Y75
open PySem PySem.Spec PyProof.Rows L2 Evl Wz
open Y02 (Kd)
local macro_rules | `(tactic| walk_at "bd") => `(tactic| (repeat (first | assumption | apply Bd.mul | apply Bd.add | apply Bd.sub | apply Bd.neg | exact Bd.z | exact Bd.of _)))
local macro_rules | `(tactic| walk_at "bm") => `(tactic| (first | assumption | exact Bd.mono (by walk_at "bd") (by decide)))
local macro_rules | `(tactic| walk_at "b2") => `(tactic| (repeat (first | assumption | apply And.intro | walk_at "bm" | decide | omega)))
set_option exponentiation.threshold 1000000
theorem stD_is {k : Int} (hk : Kd k) : ∃ s0 s1 : Z2, stD k = ppD s0 s1 ∧ s0 ≠ (0, 0) ∧ s1 ≠ (0, 0) ∧ B2 12 s0 ∧ B2 12 s1 := by
  have b : ∀ x y : Int, x.natAbs < 4096 → y.natAbs < 4096 → B2 12 (x, y) := fun x y h g => ⟨bd_sm h (by decide), bd_sm g (by decide)⟩
  rcases hk with rfl | rfl | rfl
  · exact ⟨(1, 1), (-1, 1), rfl, by decide, by decide, b _ _ (by decide) (by decide), b _ _ (by decide) (by decide)⟩
  · exact ⟨(2, 1), (2, -1), rfl, by decide, by decide, b _ _ (by decide) (by decide), b _ _ (by decide) (by decide)⟩
  · exact ⟨(0, 1), (-1, 1), rfl, by decide, by decide, b _ _ (by decide) (by decide), b _ _ (by decide) (by decide)⟩
section
variable {P : Program} {w : World} {K : PySem.W.Frag} {mg : Str → Option Value} {base : Heap} {C : Addr}

/-! ### _crossed -/
abbrev s__crossed : Stmt := topS 25
theorem sc__crossed : FnScope ["kind", "one", "other"] ["kind", "one", "other"] (defScope s__crossed) := ⟨rfl, rfl, rfl, by decide +kernel, rfl, by decide +kernel, by decide +kernel⟩
def F__crossed : FP := fun ds Q => ∃ k a b c d, ds = [.int k, ppD a b, ppD c d] ∧ (Kd k ∧ B2 450000 a ∧ B2 450000 b ∧ B2 450000 c ∧ B2 450000 d) ∧ Q (pD (add (mul k a c) (mul k b d)))
theorem ok__crossed {f : Addr} {fd : FuncData} (Fn : Fun K "_crossed" "_crossed" s__crossed f fd) (c_pair_sum : Cl P w K mg base 1 "pair_sum" ["p", "q"] (spP K F_pair_sum)) (c_pair_times : Cl P w K mg base 1 "pair_times" ["kind", "p", "q"] (spP K F_pair_times)) : FnOk P w K mg base CX0 2 f fd ["kind", "one", "other"] (spP K F__crossed) := by
  refine fn_P Fn sc__crossed (fun ds G h => ?_) (fun cdv A outer s H Q E ds G hr hF hQ => ?_)
  · obtain ⟨k, a, b, c, d, rfl, ⟨hk, ha, hb, hc, hd⟩, hG⟩ := h
    rfl
  · obtain ⟨k, a, b, c, d, rfl, ⟨hk, ha, hb, hc, hd⟩, hG⟩ := hF
    refine (as_ret hQ (c_call c_pair_sum (hr.mono (by decide)) (ca_cons (c_call c_pair_times (hr.mono (by decide)) (ca_cons (nm 0 rfl (ca_cons (c_ixTn (nm 1 rfl (c_int (And.intro (by decide) (ca_cons (c_ixTn (nm 2 rfl (c_int (And.intro (by decide) (ca_nil ⟨_, a, c, rfl, ⟨hk, ha, hc⟩, And.intro rfl (ca_cons (c_call c_pair_times (hr.mono (by decide)) (ca_cons (nm 0 rfl (ca_cons (c_ixTn (nm 1 rfl (c_int (And.intro (by decide) (ca_cons (c_ixTn (nm 2 rfl (c_int (And.intro (by decide) (ca_nil ⟨_, b, d, rfl, ⟨hk, hb, hd⟩, And.intro rfl (ca_nil ⟨mul k a c, mul k b d, rfl, And.intro rfl (And.intro rfl ?h1)⟩)⟩)))))))))))))))⟩)))))))))))))))))
    case h1 =>
      exact hG

/-! ### _squares -/
abbrev s__squares : Stmt := topS 27
theorem sc__squares : FnScope ["kind", "both", "square"] ["kind", "both"] (defScope s__squares) := ⟨rfl, rfl, rfl, by decide +kernel, rfl, by decide +kernel, by decide +kernel⟩
def F__squares : FP := fun ds Q => ∃ k a b, ds = [.int k, ppD a b] ∧ (Kd k ∧ B2 450000 a ∧ B2 450000 b) ∧ Q (.int (szq k a b))
theorem ok__squares {f : Addr} {fd : FuncData} (Fn : Fun K "_squares" "_squares" s__squares f fd) (c__crossed : Cl P w K mg base 2 "_crossed" ["kind", "one", "other"] (spP K F__crossed)) (c_pair_sum : Cl P w K mg base 1 "pair_sum" ["p", "q"] (spP K F_pair_sum)) (c_pair_mate : Cl P w K mg base 1 "pair_mate" ["kind", "p"] (spP K F_pair_mate)) : FnOk P w K mg base CX0 3 f fd ["kind", "both"] (spP K F__squares) := by
  refine fn_P Fn sc__squares (fun ds G h => ?_) (fun cdv A outer s H Q E ds G hr hF hQ => ?_)
  · obtain ⟨k, a, b, rfl, ⟨hk, ha, hb⟩, hG⟩ := h
    rfl
  · obtain ⟨k, a, b, rfl, ⟨hk, ha, hb⟩, hG⟩ := hF
    refine (as_asg (i := 2) ?h1 (c_call c__crossed (hr.mono (by decide)) (ca_cons (nm 0 rfl (ca_cons (nm 1 rfl (ca_cons (nm 1 rfl (ca_nil ⟨_, a, b, a, b, rfl, ⟨hk, ha, hb, ha, hb⟩, And.intro rfl (as_ret hQ (c_ixTn (c_call c_pair_sum (hr.mono (by decide)) (ca_cons (nm 2 rfl (ca_cons (c_call c_pair_mate (hr.mono (by decide)) (ca_cons (nm 0 rfl (ca_cons (nm 2 rfl (ca_nil ⟨_, sqs k a b, rfl, And.intro rfl (ca_nil ⟨sqs k a b, mate k (sqs k a b), rfl, And.intro rfl (c_int (And.intro (by decide) (And.intro rfl ?h2)))⟩)⟩))))))))))))⟩)))))))))
    case h1 =>
      exact sc__squares.nd
    case h2 =>
      exact hG

/-! ### _smallest -/
abbrev s__smallest : Stmt := topS 26
theorem sc__smallest : FnScope ["kind", "both", "step", "size", "other", "wide"] ["kind", "both"] (defScope s__smallest) := ⟨rfl, rfl, rfl, by decide +kernel, rfl, by decide +kernel, by decide +kernel⟩
def F__smallest : FP := fun ds Q => ∃ k p0 q0 z0 z1, ds = [.int k, ppD z0 z1] ∧ (Kd k ∧ Sm k p0 q0 z0 z1) ∧ ∀ x y, Sm k p0 q0 x y → Q (ppD x y)
theorem ok__smallest {f : Addr} {fd : FuncData} (Fn : Fun K "_smallest" "_smallest" s__smallest f fd) (c__squares : Cl P w K mg base 3 "_squares" ["kind", "both"] (spP K F__squares)) (c_pair_times : Cl P w K mg base 1 "pair_times" ["kind", "p", "q"] (spP K F_pair_times)) (t_STEPS : KDD P w K mg "STEPS" stD) : FnOk P w K mg base CX0 4 f fd ["kind", "both"] (spP K F__smallest) := by
  refine fn_P Fn sc__smallest (fun ds G h => ?_) (fun cdv A outer s H Q E ds G hr hF hQ => ?_)
  · obtain ⟨k, p0, q0, z0, z1, rfl, ⟨hk, hsm⟩, hG⟩ := h
    rfl
  · obtain ⟨k, p0, q0, z0, z1, rfl, ⟨hk, hsm⟩, hG⟩ := hF
    obtain ⟨s0, s1, hst, hs0, hs1, hb0s, hb1s⟩ := stD_is hk
    refine (as_forT (i := 2) ?h11 rfl PassesOwn.never (c_kdd t_STEPS (nm 0 rfl (And.intro hk ?h1))))
    case h1 =>
      rw [hst]
      refine ⟨(fun j es q => ∃ (z0 z1 : Z2) (u v x y : Option Dat), es = [some (.int k), some (ppD z0 z1), u, v, x, y] ∧ q = [] ∧ Sm k p0 q0 z0 z1), (fun _ _ => False), ⟨_, _, _, _, _, _, rfl, rfl, hsm⟩, ⟨fun H10 e10 fr0 j d es q hj hd hw => ?st_turn, fun es q hw => ?st_done, fun _ _ h => h.elim⟩⟩
      case st_turn =>
        obtain ⟨z0, z1, u, v, x, y, rfl, rfl, hsm⟩ := hw
        obtain ⟨hb0, hb1⟩ := hsm.b hk
        have hb0q : B2 450000 z0 := hb0.mono (by decide)
        have hb1q : B2 450000 z1 := hb1.mono (by decide)
        obtain ⟨s, rfl, hs0, hsb⟩ : ∃ s : Z2, d = pD s ∧ s ≠ (0, 0) ∧ B2 12 s := by
          match j, hj, hd with
          | 0, _, h => exact ⟨s0, (Option.some.inj h).symm, hs0, hb0s⟩
          | 1, _, h => exact ⟨s1, (Option.some.inj h).symm, hs1, hb1s⟩
        refine (as_asg (i := 3) ?h2 (c_call c__squares (hr.mono (by decide)) (ca_cons (nm 0 rfl (ca_cons (nm 1 rfl (ca_nil ⟨_, z0, z1, rfl, ⟨hk, hb0q, hb1q⟩, And.intro rfl (as_while (W := fun m es q => ∃ (z0 z1 : Z2) (x y : Option Dat), es = [some (.int k), some (ppD z0 z1), some (pD s), some (.int (szq k z0 z1)), x, y] ∧ q = [] ∧ Sm k p0 q0 z0 z1 ∧ m = (szq k z0 z1).toNat) (B := fun es q => ∃ (z0 z1 : Z2) (x y : Option Dat), es = [some (.int k), some (ppD z0 z1), some (pD s), some (.int (szq k z0 z1)), x, y] ∧ q = [] ∧ Sm k p0 q0 z0 z1) PassesOwn.never ((szq k z0 z1).toNat) ⟨_, _, _, _, rfl, rfl, hsm, rfl⟩ (fun m es q hw => ?h3) (fun es q hb => ?h9))⟩)))))))
        case h2 =>
          exact sc__smallest.nd
        case h3 =>
          obtain ⟨z0, z1, x, y, rfl, rfl, hsm, hm⟩ := hw
          obtain ⟨hb0, hb1⟩ := hsm.b hk
          have ho0 := mul_b hk hb0 hsb
          have ho1 := mul_b hk hb1 hsb
          have hb0q : B2 450000 z0 := hb0.mono (by decide)
          have hb1q : B2 450000 z1 := hb1.mono (by decide)
          have hsq : B2 450000 s := hsb.mono (by decide)
          have ho0q : B2 450000 (mul k z0 s) := ho0.mono (by decide)
          have ho1q : B2 450000 (mul k z1 s) := ho1.mono (by decide)
          refine (t_val (c_bl (as_asg (i := 4) ?h4 (c_tup (ca_cons (c_call c_pair_times (hr.mono (by decide)) (ca_cons (nm 0 rfl (ca_cons (c_ixTn (nm 1 rfl (c_int (And.intro (by decide) (ca_cons (nm 2 rfl (ca_nil ⟨_, z0, s, rfl, ⟨hk, hb0q, hsq⟩, And.intro rfl (ca_cons (c_call c_pair_times (hr.mono (by decide)) (ca_cons (nm 0 rfl (ca_cons (c_ixTn (nm 1 rfl (c_int (And.intro (by decide) (ca_cons (nm 2 rfl (ca_nil ⟨_, z1, s, rfl, ⟨hk, hb1q, hsq⟩, And.intro rfl (ca_nil (And.intro (And.intro rfl (Nat.le_of_ble_eq_true rfl)) (as_asg (i := 5) ?h5 (c_call c__squares (hr.mono (by decide)) (ca_cons (nm 0 rfl (ca_cons (nm 4 rfl (ca_nil ⟨_, mul k z0 s, mul k z1 s, rfl, ⟨hk, ho0q, ho1q⟩, And.intro rfl (as_ifn (t_ge (nm 5 rfl (nm 3 rfl (And.intro (fun b1 => (as_brk rfl ?h6)) (fun b1 => (as_par (i := 1) (j := 3) ?h7 rfl (ca_cons (nm 4 rfl (ca_cons (nm 5 rfl (ca_nil ⟨_, _, rfl, (as_end rfl ?h8)⟩))))))))))))⟩)))))))))⟩))))))))))))⟩))))))))))))))))
          case h4 =>
            exact sc__smallest.nd
          case h5 =>
            exact sc__smallest.nd
          case h6 =>
            exact ⟨_, _, _, _, rfl, rfl, hsm⟩
          case h7 =>
            exact sc__smallest.nd
          case h8 =>
            have hn1 := szq_nn hk (mul k z0 s) (mul k z1 s)
            exact ⟨_, by omega, mul k z0 s, mul k z1 s, _, _, rfl, rfl, hsm.step hk hs0 (by omega), rfl⟩
        case h9 =>
          clear hsm hb0 hb1 hb0q hb1q
          obtain ⟨z0, z1, x, y, rfl, rfl, hsm⟩ := hb
          refine (as_end rfl ⟨_, _, _, _, _, _, rfl, rfl, hsm⟩)
      case st_done =>
        obtain ⟨z0, z1, u, v, x, y, rfl, rfl, hsm⟩ := hw
        refine (as_ret hQ (nm 1 rfl (And.intro rfl ?h10)))
        case h10 =>
          exact hG _ _ hsm
    case h11 =>
      exact sc__smallest.nd

/-! ### Common._less -/
abbrev s_Common__less : Stmt := metS 24 1
theorem sc_Common__less : FnScope ["self", "both", "other", "quotient"] ["self", "both", "other", "quotient"] (defScope s_Common__less) := ⟨rfl, rfl, rfl, by decide +kernel, rfl, by decide +kernel, by decide +kernel⟩
def F_Common__less (C : Addr) : FP := fun ds Q => ∃ k ns os a b c d u, ds = [.obj C ns os, ppD a b, ppD c d, pD u] ∧ ((ns.zip os).lookup ("kind" : Str) = some (.int k) ∧ Kd k ∧ B2 450000 c ∧ B2 450000 d ∧ B2 450000 u) ∧ Q (ppD (rst k a c u) (rst k b d u))
theorem ok_Common__less {f : Addr} {fd : FuncData} (Fn : Fun K "_less" "Common._less" s_Common__less f fd) (c_rest_by : Cl P w K mg base 2 "rest_by" ["kind", "p", "q", "quotient"] (spP K F_rest_by)) (oc_Common : ObC K C ["kind", "change", "factors", "divisor"]) : FnOk P w K mg base CX0 3 f fd ["self", "both", "other", "quotient"] (spP K (F_Common__less C)) := by
  refine fn_P Fn sc_Common__less (fun ds G h => ?_) (fun cdv A outer s H Q E ds G hr hF hQ => ?_)
  · obtain ⟨k, ns, os, a, b, c, d, u, rfl, ⟨hlk, hk, hc, hd, hu⟩, hG⟩ := h
    rfl
  · obtain ⟨k, ns, os, a, b, c, d, u, rfl, ⟨hlk, hk, hc, hd, hu⟩, hG⟩ := hF
    refine (as_ret hQ (c_tup (ca_cons (c_call c_rest_by (hr.mono (by decide)) (ca_cons (c_fld oc_Common (by decide) (nm 0 rfl ⟨_, _, _, rfl, hlk, (ca_cons (c_ixTn (nm 1 rfl (c_int (And.intro (by decide) (ca_cons (c_ixTn (nm 2 rfl (c_int (And.intro (by decide) (ca_cons (nm 3 rfl (ca_nil ⟨_, a, c, u, rfl, ⟨hk, hc, hu⟩, And.intro rfl (ca_cons (c_call c_rest_by (hr.mono (by decide)) (ca_cons (c_fld oc_Common (by decide) (nm 0 rfl ⟨_, _, _, rfl, hlk, (ca_cons (c_ixTn (nm 1 rfl (c_int (And.intro (by decide) (ca_cons (c_ixTn (nm 2 rfl (c_int (And.intro (by decide) (ca_cons (nm 3 rfl (ca_nil ⟨_, b, d, u, rfl, ⟨hk, hd, hu⟩, And.intro rfl (ca_nil (And.intro (And.intro rfl (Nat.le_of_ble_eq_true rfl)) (And.intro rfl ?h1)))⟩)))))))))))))⟩)))))⟩)))))))))))))⟩)))))))
    case h1 =>
      exact hG

end
end Y75

set_option Elab.async false
set_option linter.all false
set_option maxRecDepth 100000
set_option maxHeartbeats 8000000
namespace Y75
open PySem PySem.Spec PyProof.Rows L2 Evl Wz
open Y02 (Kd)
local macro_rules | `(tactic| walk_at "bd") => `(tactic| (repeat (first | assumption | apply Bd.mul | apply Bd.add | apply Bd.sub | apply Bd.neg | exact Bd.z | exact Bd.of _)))
local macro_rules | `(tactic| walk_at "bm") => `(tactic| (first | assumption | exact Bd.mono (by walk_at "bd") (by decide)))
local macro_rules | `(tactic| walk_at "b2") => `(tactic| (repeat (first | assumption | apply And.intro | walk_at "bm" | decide | omega)))
set_option exponentiation.threshold 1000000
abbrev cmD (k : Int) (c0 c1 f0 f1 d : Z2) : List Dat := [.int k, ppD c0 c1, ppD f0 f1, pD d]
abbrev cmN : List Str := ["kind", "change", "factors", "divisor"]
section
variable {P : Program} {w : World} {K : PySem.W.Frag} {mg : Str → Option Value} {base : Heap} {C : Addr}

/-! ### Common.solution -/
abbrev s_Common_solution : Stmt := metS 24 2
theorem sc_Common_solution : FnScope ["self", "c", "times", "both", "foot", "square"] ["self", "c"] (defScope s_Common_solution) := ⟨rfl, rfl, rfl, by decide +kernel, rfl, by decide +kernel, by decide +kernel⟩
def F_Common_solution (C : Addr) : FP := fun ds Q => ∃ k p0 q0 c0 c1 f0 f1 d z, ds = [.obj C cmN (cmD k c0 c1 f0 f1 d), pD z] ∧ (Kd k ∧ Cm k p0 q0 c0 c1 f0 f1 d ∧ B2 300 z) ∧ (¬ dvb k d z → Q .non) ∧ ∀ x y, dvb k d z → add (mul k p0 x) (mul k q0 y) = z → B2 1900 x → B2 1900 y → Q (ppD x y)
theorem ok_Common_solution {f : Addr} {fd : FuncData} (Fn : Fun K "solution" "Common.solution" s_Common_solution f fd) (c_exact_by : Cl P w K mg base 3 "exact_by" ["kind", "p", "q"] (spP K F_exact_by)) (c_pair_times : Cl P w K mg base 1 "pair_times" ["kind", "p", "q"] (spP K F_pair_times)) (c__crossed : Cl P w K mg base 2 "_crossed" ["kind", "one", "other"] (spP K F__crossed)) (c_quotient_of : Cl P w K mg base 2 "quotient_of" ["kind", "p", "q"] (spP K F_quotient_of)) (oc_Common : ObC K C ["kind", "change", "factors", "divisor"]) (me__less : MeC P w K mg base 3 C "_less" ["self", "both", "other", "quotient"] (spP K (F_Common__less C))) : FnOk P w K mg base CX0 4 f fd ["self", "c"] (spP K (F_Common_solution C)) := by
  refine fn_P Fn sc_Common_solution (fun ds G h => ?_) (fun cdv A outer s H Q E ds G hr hF hQ => ?_)
  · obtain ⟨k, p0, q0, c0, c1, f0, f1, d, z, rfl, ⟨hk, hcm, hz⟩, hN, hG⟩ := h
    rfl
  · obtain ⟨k, p0, q0, c0, c1, f0, f1, d, z, rfl, ⟨hk, hcm, hz⟩, hN, hG⟩ := hF
    have hf0 : B2 450000 f0 := hcm.bf.1.mono (by decide)
    have hf1 : B2 450000 f1 := hcm.bf.2.mono (by decide)
    obtain ⟨hc0, hc1⟩ := hcm.sm.b hk
    have hc0q : B2 450000 c0 := hc0.mono (by decide)
    have hc1q : B2 450000 c1 := hc1.mono (by decide)
    have hd3 : B2 300 d := hcm.bd.mono (by decide)
    have hsq0 := sqs_b hk hc0 hc1
    have hsq : B2 4000 (sqs k c0 c1) := hsq0.mono (by decide)
    have hkey : ∀ t : Z2, B2 950 t → B2 450000 t ∧ B2 450000 (mul k f0 t) ∧ B2 450000 (mul k f1 t) ∧ B2 440000 (add (mul k (mul k f0 t) c0) (mul k (mul k f1 t) c1)) ∧ B2 450000 (quo k (add (mul k (mul k f0 t) c0) (mul k (mul k f1 t) c1)) (sqs k c0 c1)) := fun t ht => by
      have h1 := mul_b hk hcm.bf.1 ht
      have h2 := mul_b hk hcm.bf.2 ht
      have h3 := add_b (mul_b hk h1 hc0) (mul_b hk h2 hc1)
      exact ⟨ht.mono (by decide), h1.mono (by decide), h2.mono (by decide), h3.mono (by decide), (quo_b hk (hcm.sm.sq hk) h3 hsq0).mono (by decide)⟩
    refine (as_asg (i := 2) ?h1 (c_call c_exact_by (hr.mono (by decide)) (ca_cons (c_fld oc_Common (by decide) (nm 0 rfl ⟨_, _, _, rfl, rfl, (ca_cons (nm 1 rfl (ca_cons (c_fld oc_Common (by decide) (nm 0 rfl ⟨_, _, _, rfl, rfl, (ca_nil ⟨_, (_, _), (_, _), rfl, ?h7, fun hno1 => And.intro rfl (as_ifn (t_isN (nm 2 rfl (as_ret hQ (c_non (And.intro rfl ?h2)))))), fun t1 hd1 ht1 hb1 hz1 => And.intro rfl (as_ifn (t_isN (nm 2 rfl (as_asg (i := 3) ?h3 (c_tup (ca_cons (c_call c_pair_times (hr.mono (by decide)) (ca_cons (c_fld oc_Common (by decide) (nm 0 rfl ⟨_, _, _, rfl, rfl, (ca_cons (c_ixTn (c_fld oc_Common (by decide) (nm 0 rfl ⟨_, _, _, rfl, rfl, (c_int (And.intro (by decide) (ca_cons (nm 2 rfl (ca_nil ⟨_, f0, t1, rfl, ⟨hk, hf0, (hkey t1 hb1).1⟩, And.intro rfl (ca_cons (c_call c_pair_times (hr.mono (by decide)) (ca_cons (c_fld oc_Common (by decide) (nm 0 rfl ⟨_, _, _, rfl, rfl, (ca_cons (c_ixTn (c_fld oc_Common (by decide) (nm 0 rfl ⟨_, _, _, rfl, rfl, (c_int (And.intro (by decide) (ca_cons (nm 2 rfl (ca_nil ⟨_, f1, t1, rfl, ⟨hk, hf1, (hkey t1 hb1).1⟩, And.intro rfl (ca_nil (And.intro (And.intro rfl (Nat.le_of_ble_eq_true rfl)) (as_asg (i := 4) ?h4 (c_call c__crossed (hr.mono (by decide)) (ca_cons (c_fld oc_Common (by decide) (nm 0 rfl ⟨_, _, _, rfl, rfl, (ca_cons (nm 3 rfl (ca_cons (c_fld oc_Common (by decide) (nm 0 rfl ⟨_, _, _, rfl, rfl, (ca_nil ⟨_, mul k f0 t1, mul k f1 t1, c0, c1, rfl, ⟨hk, (hkey t1 hb1).2.1, (hkey t1 hb1).2.2.1, hc0q, hc1q⟩, And.intro rfl (as_asg (i := 5) ?h5 (c_call c__crossed (hr.mono (by decide)) (ca_cons (c_fld oc_Common (by decide) (nm 0 rfl ⟨_, _, _, rfl, rfl, (ca_cons (c_fld oc_Common (by decide) (nm 0 rfl ⟨_, _, _, rfl, rfl, (ca_cons (c_fld oc_Common (by decide) (nm 0 rfl ⟨_, _, _, rfl, rfl, (ca_nil ⟨_, c0, c1, c0, c1, rfl, ⟨hk, hc0q, hc1q, hc0q, hc1q⟩, And.intro rfl (as_ret hQ (c_meth me__less (hr.mono (by decide)) (nm 0 rfl (And.intro ⟨_, _, rfl, (by decide)⟩ (ca_cons (nm 3 rfl (ca_cons (c_fld oc_Common (by decide) (nm 0 rfl ⟨_, _, _, rfl, rfl, (ca_cons (c_call c_quotient_of (hr.mono (by decide)) (ca_cons (c_fld oc_Common (by decide) (nm 0 rfl ⟨_, _, _, rfl, rfl, (ca_cons (nm 4 rfl (ca_cons (nm 5 rfl (ca_nil ⟨_, add (mul k (mul k f0 t1) c0) (mul k (mul k f1 t1) c1), sqs k c0 c1, rfl, ⟨hk, (hkey t1 hb1).2.2.2.1, hsq, hcm.sm.sq hk⟩, And.intro rfl (ca_nil ⟨k, _, _, mul k f0 t1, mul k f1 t1, c0, c1, quo k (add (mul k (mul k f0 t1) c0) (mul k (mul k f1 t1) c1)) (sqs k c0 c1), rfl, ⟨rfl, hk, hc0q, hc1q, (hkey t1 hb1).2.2.2.2⟩, And.intro rfl (And.intro rfl ?h6)⟩)⟩)))))⟩)))))⟩)))))))))⟩)⟩)))⟩)))⟩)))))⟩)⟩)))))⟩)))))))⟩)))))⟩))))⟩)))))⟩)))))⟩))))⟩))))))))))⟩)⟩)))))⟩)))))
    case h1 =>
      exact sc_Common_solution.nd
    case h2 =>
      first
        | exact hN hno1
        | exact hG _ _ hd1 (by rw [hcm.sol]; exact ht1.symm) (hcm.sb hk hz ht1 hz1).1 (hcm.sb hk hz ht1 hz1).2
    case h3 =>
      exact sc_Common_solution.nd
    case h4 =>
      exact sc_Common_solution.nd
    case h5 =>
      exact sc_Common_solution.nd
    case h6 =>
      first
        | exact hN hno1
        | exact hG _ _ hd1 (by rw [hcm.sol]; exact ht1.symm) (hcm.sb hk hz ht1 hz1).1 (hcm.sb hk hz ht1 hz1).2
    case h7 =>
      exact ⟨hk, hz, hd3⟩

/-! ### __init__ -/
abbrev s_Common___init__ : Stmt := metS 24 0
theorem sc_Common___init__ : FnScope ["self", "kind", "p", "q", "rest", "quotient"] ["self", "kind", "p", "q"] (defScope s_Common___init__) := ⟨rfl, rfl, rfl, by decide +kernel, rfl, by decide +kernel, by decide +kernel⟩
def F_Common___init__ (C : Addr) : FI := fun ds G => ∃ k p q, ds = [.int k, pD p, pD q] ∧ (Kd k ∧ B2 40 p ∧ B2 40 q) ∧ ∀ c0 c1 f0 f1 d, Cm k p q c0 c1 f0 f1 d → G cmN (cmD k c0 c1 f0 f1 d)
theorem ok_Common___init__ {f : Addr} {fd : FuncData} (Fn : Fun K "__init__" "Common.__init__" s_Common___init__ f fd) (c_quotient_of : Cl P w K mg base 2 "quotient_of" ["kind", "p", "q"] (spP K F_quotient_of)) (c_rest_by : Cl P w K mg base 2 "rest_by" ["kind", "p", "q", "quotient"] (spP K F_rest_by)) (c__smallest : Cl P w K mg base 4 "_smallest" ["kind", "both"] (spP K F__smallest)) (oc_Common : ObC K C ["kind", "change", "factors", "divisor"]) (me__less : MeC P w K mg base 3 C "_less" ["self", "both", "other", "quotient"] (spP K (F_Common__less C))) (t_ZERO : KT K mg "ZERO" [.int 0, .int 0]) (t_ONE : KT K mg "ONE" [.int 1, .int 0]) : FnOk P w K mg base CX0 5 f fd ["self", "kind", "p", "q"] (spI K C (F_Common___init__ C)) := by
  refine fn_I Fn sc_Common___init__ (fun ds G h => ?_) (fun cdv A outer s H Q E sx ds G hr hF hQ => ?_)
  · obtain ⟨k, p, q, rfl, _⟩ := h
    rfl
  · obtain ⟨k, p0, q0, rfl, ⟨hk, hp, hq⟩, hG⟩ := hF
    refine (ai_fld oc_Common (by decide) (nm 1 rfl ⟨rfl, _, _, _, _, rfl, (.inl ⟨(by decide), rfl, rfl⟩), (by decide), rfl, (ai_fld oc_Common (by decide) (c_tup (ca_cons (c_kt t_ZERO (ca_cons (c_kt t_ONE (ca_nil (And.intro (And.intro rfl (Nat.le_of_ble_eq_true rfl)) ⟨rfl, _, _, _, _, rfl, (.inl ⟨(by decide), rfl, rfl⟩), (by decide), rfl, (ai_fld oc_Common (by decide) (c_tup (ca_cons (c_kt t_ONE (ca_cons (c_kt t_ZERO (ca_nil (And.intro (And.intro rfl (Nat.le_of_ble_eq_true rfl)) ⟨rfl, _, _, _, _, rfl, (.inl ⟨(by decide), rfl, rfl⟩), (by decide), rfl, (ai_fld oc_Common (by decide) (nm 2 rfl ⟨rfl, _, _, _, _, rfl, (.inl ⟨(by decide), rfl, rfl⟩), (by decide), rfl, (ai_asg (i := 4) ?h1 (by decide) (nm 3 rfl (And.intro rfl (ai_while (W := fun m es => ∃ (j : Nat) (p q f0 f1 c0 c1 : Z2) (x : Option Dat), es = [some (.obj C cmN (cmD k c0 c1 f0 f1 p)), some (.int k), some (pD p0), some (pD q0), some (pD q), x] ∧ Eu k p0 q0 j p q ∧ Cf k p0 q0 j f0 f1 c0 c1 p q ∧ ((j = 0 ∧ c0 = (0, 0) ∧ c1 = (1, 0)) ∨ p ≠ (0, 0)) ∧ j ≤ 208 ∧ m = 208 - j) PassesOwn.never 208 ⟨0, p0, q0, (1, 0), (0, 0), (0, 0), (1, 0), _, rfl, Eu.start hk hp hq, Cf.start k p0 q0, .inl ⟨rfl, rfl, rfl⟩, by decide, rfl⟩ (fun m es hw => ?h2)))))⟩))⟩))))))))⟩))))))))⟩))
    case h1 =>
      exact sc_Common___init__.nd
    case h2 =>
      obtain ⟨j, p, q, f0, f1, c0, c1, x, rfl, hE, hF, hz, hj, hm⟩ := hw
      have hbp : B2 440000 p := hE.bp.mono (by omega)
      have hbq : B2 4000 q := hE.bq.mono (by omega)
      have hbq2 : B2 450000 q := hE.bq.mono (by omega)
      have hc0q : B2 450000 c0 := hF.bc.1.mono (by omega)
      have hc1q : B2 450000 c1 := hF.bc.2.mono (by omega)
      have huq : q ≠ (0, 0) → B2 450000 (quo k p q) := fun h => (quo_b hk h hE.bp hE.bq).mono (by omega)
      have hsm : q = (0, 0) → Sm k p0 q0 c0 c1 := fun h => by
        subst h
        obtain ⟨g1, g2, g3⟩ := hF.last hk hp hq (hE.bp.mono (by omega)) (fun hd => hz.elim id (fun hn => absurd hd hn))
        exact Sm.of hk hF.hq g1 g2 g3
      refine (t_neDB hr.units (nm 4 rfl (c_kt t_ZERO (And.intro ?h3 (And.intro (fun b1 => (ai_asg (i := 5) ?h4 (by decide) (c_call c_quotient_of (hr.mono (by decide)) (ca_cons (nm 1 rfl (ca_cons (c_fld oc_Common (by decide) (nm 0 rfl ⟨_, _, _, rfl, rfl, (ca_cons (nm 4 rfl (ca_nil ⟨_, p, q, rfl, ⟨hk, hbp, hbq, net b1⟩, And.intro rfl (And.intro rfl (ai_pfn (i := 4) ?h5 rfl (by decide) oc_Common (by decide) (c_tup (ca_cons (nm 4 rfl (ca_cons (c_call c_rest_by (hr.mono (by decide)) (ca_cons (nm 1 rfl (ca_cons (c_fld oc_Common (by decide) (nm 0 rfl ⟨_, _, _, rfl, rfl, (ca_cons (nm 4 rfl (ca_cons (nm 5 rfl (ca_nil ⟨_, p, q, quo k p q, rfl, ⟨hk, hbq2, huq (net b1)⟩, And.intro rfl (ca_nil (And.intro (And.intro rfl (Nat.le_of_ble_eq_true rfl)) ⟨_, _, rfl, rfl, rfl, _, _, _, _, rfl, (.inr ⟨3, rfl, (by decide), rfl, rfl⟩), (by decide), rfl, (ai_pff rfl oc_Common (by decide) (by decide) (c_tup (ca_cons (c_fld oc_Common (by decide) (nm 0 rfl ⟨_, _, _, rfl, rfl, (ca_cons (c_meth me__less (hr.mono (by decide)) (nm 0 rfl (And.intro ⟨_, _, rfl, (by decide)⟩ (ca_cons (c_fld oc_Common (by decide) (nm 0 rfl ⟨_, _, _, rfl, rfl, (ca_cons (c_fld oc_Common (by decide) (nm 0 rfl ⟨_, _, _, rfl, rfl, (ca_cons (nm 5 rfl (ca_nil ⟨k, _, _, f0, f1, c0, c1, quo k p q, rfl, ⟨rfl, hk, hc0q, hc1q, huq (net b1)⟩, And.intro rfl (ca_nil (And.intro (And.intro rfl (Nat.le_of_ble_eq_true rfl)) ⟨_, _, rfl, rfl, rfl, _, _, _, _, _, _, rfl, ⟨(.inr ⟨2, rfl, (by decide), rfl, rfl⟩), (by decide), rfl⟩, ⟨(.inr ⟨1, rfl, (by decide), rfl, rfl⟩), (by decide), rfl⟩, (ai_end rfl ?h6)⟩))⟩)))⟩)))⟩)))))))⟩)))))⟩))⟩)))))⟩))))))))))))⟩)))⟩)))))))) (fun b1 => (ai_fld oc_Common (by decide) (c_call c__smallest (hr.mono (by decide)) (ca_cons (nm 1 rfl (ca_cons (c_fld oc_Common (by decide) (nm 0 rfl ⟨_, _, _, rfl, rfl, (ca_nil ⟨_, p0, q0, c0, c1, rfl, ⟨hk, hsm (nef b1)⟩, fun sx sy hss => And.intro rfl ⟨rfl, _, _, _, _, rfl, (.inr ⟨1, rfl, (by decide), rfl, rfl⟩), (by decide), rfl, (ai_nil fun st H' S hsx e0 => ?h7)⟩⟩)⟩)))))))))))))
      case h3 =>
        exact ⟨⟨rfl, rfl⟩, rfl, rfl⟩
      case h4 =>
        exact sc_Common___init__.nd
      case h5 =>
        exact sc_Common___init__.nd
      case h6 =>
        have hq0 : q ≠ (0, 0) := net b1
        have hfew := hE.few hk hq0
        exact ⟨208 - (j + 1), by omega, j + 1, q, rst k p q (quo k p q), c0, c1, rst k f0 c0 (quo k p q), rst k f1 c1 (quo k p q), _, rfl, hE.next hk hq0, hF.next hk hE hq0, .inr hq0, by omega, rfl⟩
      case h7 =>
        have hq0 : q = (0, 0) := nef b1
        subst hq0
        obtain ⟨g1, g2, g3⟩ := hE.done
        obtain ⟨v0, w1, w2⟩ := S.2 0 _ rfl
        rw [hsx] at w1
        cases w1
        exact hQ _ _ (hG _ _ _ _ _ ⟨hss, hF.hp, ⟨hF.bf.1.mono (by omega), hF.bf.2.mono (by omega)⟩, hE.bp.mono (by omega), g1, g2, g3, ⟨hp, hq⟩⟩) H' e0 (w2.unc rfl)

end
end Y75

set_option Elab.async false
set_option linter.all false
set_option maxRecDepth 100000
set_option maxHeartbeats 8000000
namespace Y75
open PySem PySem.Spec PyProof.Rows L2 Evl Wz
open Y02 (Kd)
local macro_rules | `(tactic| walk_at "bd") => `(tactic| (repeat (first | assumption | apply Bd.mul | apply Bd.add | apply Bd.sub | apply Bd.neg | exact Bd.z | exact Bd.of _)))
local macro_rules | `(tactic| walk_at "bm") => `(tactic| (first | assumption | exact Bd.mono (by walk_at "bd") (by decide)))
local macro_rules | `(tactic| walk_at "b2") => `(tactic| (repeat (first | assumption | apply And.intro | walk_at "bm" | decide | omega)))
set_option exponentiation.threshold 1000000
section
variable {P : Program} {w : World} {K : PySem.W.Frag} {mg : Str → Option Value} {base : Heap} {C : Addr}

/-! ### check_whole -/
abbrev s_check_whole : Stmt := topS 29
theorem sc_check_whole : FnScope ["told"] ["told"] (defScope s_check_whole) := ⟨rfl, rfl, rfl, by decide +kernel, rfl, by decide +kernel, by decide +kernel⟩
def F_check_whole : FP := fun ds Q => ∃ z, ds = [pD z] ∧ Q .non
theorem ok_check_whole {f : Addr} {fd : FuncData} (Fn : Fun K "check_whole" "check_whole" s_check_whole f fd) (c_is_whole : Cl P w K mg base 2 "is_whole" ["told"] (spP K F_is_whole)) : FnOk P w K mg base CX0 3 f fd ["told"] (spP K F_check_whole) := by
  refine fn_P Fn sc_check_whole (fun ds G h => ?_) (fun cdv A outer s H Q E ds G hr hF hQ => ?_)
  · obtain ⟨z, rfl, hG⟩ := h
    rfl
  · obtain ⟨z, rfl, hG⟩ := hF
    refine (as_ifn (t_not (t_val (c_call c_is_whole (hr.mono (by decide)) (ca_cons (nm 0 rfl (ca_nil ⟨(_, _), rfl, And.intro rfl (as_nil fun _ H1 _ hk e0 _ => hQ .non _ .non H1 hG e0 hk .non)⟩)))))))

/-! ### divided -/
abbrev s_divided : Stmt := topS 30
theorem sc_divided : FnScope ["kind", "p", "q", "quotient"] ["kind", "p", "q"] (defScope s_divided) := ⟨rfl, rfl, rfl, by decide +kernel, rfl, by decide +kernel, by decide +kernel⟩
def F_divided : FP := fun ds Q => ∃ k p q, ds = [.int k, pD p, pD q] ∧ (Kd k ∧ B2 100 p ∧ B2 100 q ∧ q ≠ (0, 0)) ∧ Q (ppD (quo k p q) (rst k p q (quo k p q)))
theorem ok_divided {f : Addr} {fd : FuncData} (Fn : Fun K "divided" "divided" s_divided f fd) (c_check_kind : Cl P w K mg base 3 "check_kind" ["kind"] (spP K F_check_kind)) (c_check_whole : Cl P w K mg base 3 "check_whole" ["told"] (spP K F_check_whole)) (c_quotient_of : Cl P w K mg base 2 "quotient_of" ["kind", "p", "q"] (spP K F_quotient_of)) (c_rest_by : Cl P w K mg base 2 "rest_by" ["kind", "p", "q", "quotient"] (spP K F_rest_by)) (t_ZERO : KT K mg "ZERO" [.int 0, .int 0]) : FnOk P w K mg base CX0 4 f fd ["kind", "p", "q"] (spP K F_divided) := by
  refine fn_P Fn sc_divided (fun ds G h => ?_) (fun cdv A outer s H Q E ds G hr hF hQ => ?_)
  · obtain ⟨k, p, q, rfl, ⟨hk, hp, hq, hq0⟩, hG⟩ := h
    rfl
  · obtain ⟨k, p, q, rfl, ⟨hk, hp, hq, hq0⟩, hG⟩ := hF
    have hp' : B2 440000 p := hp.mono (by decide)
    have hq' : B2 4000 q := hq.mono (by decide)
    have hq2 : B2 450000 q := hq.mono (by decide)
    have hu : B2 450000 (quo k p q) := (quo_b hk hq0 hp hq).mono (by decide)
    refine (as_drop (c_call c_check_kind (hr.mono (by decide)) (ca_cons (nm 0 rfl (ca_nil ⟨_, rfl, ?h1, And.intro rfl (as_drop (c_call c_check_whole (hr.mono (by decide)) (ca_cons (nm 1 rfl (ca_nil ⟨(_, _), rfl, And.intro rfl (as_drop (c_call c_check_whole (hr.mono (by decide)) (ca_cons (nm 2 rfl (ca_nil ⟨(_, _), rfl, And.intro rfl (as_ifn (t_eqDB hr.units (nm 2 rfl (c_kt t_ZERO (And.intro ?h2 (And.intro (fun b1 => ?h3) (fun b1 => (as_asg (i := 3) ?h4 (c_call c_quotient_of (hr.mono (by decide)) (ca_cons (nm 0 rfl (ca_cons (nm 1 rfl (ca_cons (nm 2 rfl (ca_nil ⟨_, p, q, rfl, ⟨hk, hp', hq', hq0⟩, And.intro rfl (as_ret hQ (c_tup (ca_cons (nm 3 rfl (ca_cons (c_call c_rest_by (hr.mono (by decide)) (ca_cons (nm 0 rfl (ca_cons (nm 1 rfl (ca_cons (nm 2 rfl (ca_cons (nm 3 rfl (ca_nil ⟨_, p, q, quo k p q, rfl, ⟨hk, hq2, hu⟩, And.intro rfl (ca_nil (And.intro (And.intro rfl (Nat.le_of_ble_eq_true rfl)) (And.intro rfl ?h5)))⟩)))))))))))))))⟩))))))))))))))))⟩)))))⟩)))))⟩)))))
    case h1 =>
      assumption
    case h2 =>
      exact ⟨⟨rfl, rfl⟩, rfl, rfl⟩
    case h3 =>
      exact absurd (eqt b1) hq0
    case h4 =>
      exact sc_divided.nd
    case h5 =>
      exact hG

/-! ### divides -/
abbrev s_divides : Stmt := topS 31
theorem sc_divides : FnScope ["kind", "q", "p"] ["kind", "q", "p"] (defScope s_divides) := ⟨rfl, rfl, rfl, by decide +kernel, rfl, by decide +kernel, by decide +kernel⟩
def F_divides : FP := fun ds Q => ∃ k q p, ds = [.int k, pD q, pD p] ∧ (Kd k ∧ B2 300 q ∧ B2 300 p) ∧ Q (.bl (decide (dvb k q p)))
theorem ok_divides {f : Addr} {fd : FuncData} (Fn : Fun K "divides" "divides" s_divides f fd) (c_check_kind : Cl P w K mg base 3 "check_kind" ["kind"] (spP K F_check_kind)) (c_check_whole : Cl P w K mg base 3 "check_whole" ["told"] (spP K F_check_whole)) (c_exact_by : Cl P w K mg base 3 "exact_by" ["kind", "p", "q"] (spP K F_exact_by)) : FnOk P w K mg base CX0 4 f fd ["kind", "q", "p"] (spP K F_divides) := by
  refine fn_P Fn sc_divides (fun ds G h => ?_) (fun cdv A outer s H Q E ds G hr hF hQ => ?_)
  · obtain ⟨k, q, p, rfl, ⟨hk, hq, hp⟩, hG⟩ := h
    rfl
  · obtain ⟨k, q, p, rfl, ⟨hk, hq, hp⟩, hG⟩ := hF
    refine (as_drop (c_call c_check_kind (hr.mono (by decide)) (ca_cons (nm 0 rfl (ca_nil ⟨_, rfl, ?h1, And.intro rfl (as_drop (c_call c_check_whole (hr.mono (by decide)) (ca_cons (nm 1 rfl (ca_nil ⟨(_, _), rfl, And.intro rfl (as_drop (c_call c_check_whole (hr.mono (by decide)) (ca_cons (nm 2 rfl (ca_nil ⟨(_, _), rfl, And.intro rfl (as_ret hQ (c_notN (c_call c_exact_by (hr.mono (by decide)) (ca_cons (nm 0 rfl (ca_cons (nm 2 rfl (ca_cons (nm 1 rfl (ca_nil ⟨_, (_, _), (_, _), rfl, ?h4, fun hno1 => And.intro rfl (And.intro rfl ?h2), fun t1 hd1 ht1 hb1 hz1 => And.intro rfl (And.intro rfl ?h3)⟩))))))))))⟩)))))⟩)))))⟩)))))
    case h1 =>
      assumption
    case h2 =>
      first
        | (rw [decide_eq_false hno1] at hG; exact hG)
        | (rw [decide_eq_true hd1] at hG; exact hG)
    case h3 =>
      first
        | (rw [decide_eq_false hno1] at hG; exact hG)
        | (rw [decide_eq_true hd1] at hG; exact hG)
    case h4 =>
      exact ⟨hk, hp, hq⟩

/-! ### common_divisor -/
abbrev s_common_divisor : Stmt := topS 32
theorem sc_common_divisor : FnScope ["kind", "p", "q", "common", "x", "y"] ["kind", "p", "q"] (defScope s_common_divisor) := ⟨rfl, rfl, rfl, by decide +kernel, rfl, by decide +kernel, by decide +kernel⟩
def F_common_divisor : FP := fun ds Q => ∃ k p q, ds = [.int k, pD p, pD q] ∧ (Kd k ∧ B2 40 p ∧ B2 40 q) ∧ ∀ x y, add (mul k p x) (mul k q y) = euc k 600 p q → B2 260 (euc k 600 p q) → Dv k (euc k 600 p q) p → Dv k (euc k 600 p q) q → B2 1900 x → B2 1900 y → Q (.tup [pD (euc k 600 p q), pD x, pD y])
theorem ok_common_divisor {f : Addr} {fd : FuncData} (Fn : Fun K "common_divisor" "common_divisor" s_common_divisor f fd) (c_check_kind : Cl P w K mg base 3 "check_kind" ["kind"] (spP K F_check_kind)) (c_check_whole : Cl P w K mg base 3 "check_whole" ["told"] (spP K F_check_whole)) (oc_Common : ObC K C ["kind", "change", "factors", "divisor"]) (me_solution : MeC P w K mg base 4 C "solution" ["self", "c"] (spP K (F_Common_solution C))) (mk_Common : MkC P w K mg base 5 "Common" C ["self", "kind", "p", "q"] (spI K C (F_Common___init__ C))) : FnOk P w K mg base CX0 7 f fd ["kind", "p", "q"] (spP K F_common_divisor) := by
  refine fn_P Fn sc_common_divisor (fun ds G h => ?_) (fun cdv A outer s H Q E ds G hr hF hQ => ?_)
  · obtain ⟨k, p, q, rfl, ⟨hk, hp, hq⟩, hG⟩ := h
    rfl
  · obtain ⟨k, p, q, rfl, ⟨hk, hp, hq⟩, hG⟩ := hF
    refine (as_drop (c_call c_check_kind (hr.mono (by decide)) (ca_cons (nm 0 rfl (ca_nil ⟨_, rfl, ?h1, And.intro rfl (as_drop (c_call c_check_whole (hr.mono (by decide)) (ca_cons (nm 1 rfl (ca_nil ⟨(_, _), rfl, And.intro rfl (as_drop (c_call c_check_whole (hr.mono (by decide)) (ca_cons (nm 2 rfl (ca_nil ⟨(_, _), rfl, And.intro rfl (as_asg (i := 3) ?h2 (c_make mk_Common (hr.mono (by decide)) (ca_cons (nm 0 rfl (ca_cons (nm 1 rfl (ca_cons (nm 2 rfl (ca_nil (And.intro rfl ⟨_, p, q, rfl, ⟨hk, hp, hq⟩, fun c0 c1 f0 f1 d hcm => ⟨rfl, rfl, (as_unp2 (i := 4) (j := 5) ?h3 rfl (c_meth me_solution (hr.mono (by decide)) (nm 3 rfl (And.intro ⟨_, _, rfl, (by decide)⟩ (ca_cons (c_fld oc_Common (by decide) (nm 3 rfl ⟨_, _, _, rfl, rfl, (ca_nil ⟨k, p, q, c0, c1, f0, f1, d, d, rfl, ⟨hk, hcm, hcm.bd.mono (by decide)⟩, fun hno => ?h4, fun sx sy hsd hse hsx hsy => And.intro rfl ⟨_, _, rfl, (as_ret hQ (c_tup (ca_cons (c_fld oc_Common (by decide) (nm 3 rfl ⟨_, _, _, rfl, rfl, (ca_cons (nm 4 rfl (ca_cons (nm 5 rfl (ca_nil (And.intro (And.intro rfl (Nat.le_of_ble_eq_true rfl)) (And.intro rfl ?h5)))))))⟩)))))⟩⟩)⟩)))))))⟩⟩))))))))))⟩)))))⟩)))))⟩)))))
    case h1 =>
      assumption
    case h2 =>
      exact sc_common_divisor.nd
    case h3 =>
      exact sc_common_divisor.nd
    case h4 =>
      exact absurd ((dvb_iff hk).mpr (Dv.self k d)) hno
    case h5 =>
      have e := hcm.e
      subst e
      exact hG sx sy hse hcm.bd hcm.dp hcm.dq hsx hsy

/-! ### solved -/
abbrev s_solved : Stmt := topS 33
theorem sc_solved : FnScope ["kind", "p", "q", "c"] ["kind", "p", "q", "c"] (defScope s_solved) := ⟨rfl, rfl, rfl, by decide +kernel, rfl, by decide +kernel, by decide +kernel⟩
def F_solved : FP := fun ds Q => ∃ k p q c, ds = [.int k, pD p, pD q, pD c] ∧ (Kd k ∧ B2 40 p ∧ B2 40 q ∧ B2 300 c) ∧ (¬ dvb k (euc k 600 p q) c → Q .non) ∧ ∀ x y, dvb k (euc k 600 p q) c → add (mul k p x) (mul k q y) = c → B2 1900 x → B2 1900 y → Q (ppD x y)
theorem ok_solved {f : Addr} {fd : FuncData} (Fn : Fun K "solved" "solved" s_solved f fd) (c_check_kind : Cl P w K mg base 3 "check_kind" ["kind"] (spP K F_check_kind)) (c_check_whole : Cl P w K mg base 3 "check_whole" ["told"] (spP K F_check_whole)) (me_solution : MeC P w K mg base 4 C "solution" ["self", "c"] (spP K (F_Common_solution C))) (mk_Common : MkC P w K mg base 5 "Common" C ["self", "kind", "p", "q"] (spI K C (F_Common___init__ C))) : FnOk P w K mg base CX0 7 f fd ["kind", "p", "q", "c"] (spP K F_solved) := by
  refine fn_P Fn sc_solved (fun ds G h => ?_) (fun cdv A outer s H Q E ds G hr hF hQ => ?_)
  · obtain ⟨k, p, q, z, rfl, ⟨hk, hp, hq, hz⟩, hN, hG⟩ := h
    rfl
  · obtain ⟨k, p, q, z, rfl, ⟨hk, hp, hq, hz⟩, hN, hG⟩ := hF
    refine (as_drop (c_call c_check_kind (hr.mono (by decide)) (ca_cons (nm 0 rfl (ca_nil ⟨_, rfl, ?h1, And.intro rfl (as_drop (c_call c_check_whole (hr.mono (by decide)) (ca_cons (nm 1 rfl (ca_nil ⟨(_, _), rfl, And.intro rfl (as_drop (c_call c_check_whole (hr.mono (by decide)) (ca_cons (nm 2 rfl (ca_nil ⟨(_, _), rfl, And.intro rfl (as_drop (c_call c_check_whole (hr.mono (by decide)) (ca_cons (nm 3 rfl (ca_nil ⟨(_, _), rfl, And.intro rfl (as_ret hQ (c_meth me_solution (hr.mono (by decide)) (c_make mk_Common (hr.mono (by decide)) (ca_cons (nm 0 rfl (ca_cons (nm 1 rfl (ca_cons (nm 2 rfl (ca_nil (And.intro rfl ⟨_, p, q, rfl, ⟨hk, hp, hq⟩, fun c0 c1 f0 f1 d hcm => ⟨rfl, rfl, (And.intro ⟨_, _, rfl, (by decide)⟩ (ca_cons (nm 3 rfl (ca_nil ⟨k, p, q, c0, c1, f0, f1, d, z, rfl, ⟨hk, hcm, hz⟩, fun hno => And.intro rfl (And.intro rfl ?h2), fun sx sy hsd hse hsx hsy => And.intro rfl (And.intro rfl ?h3)⟩))))⟩⟩)))))))))))⟩)))))⟩)))))⟩)))))⟩)))))
    case h1 =>
      assumption
    case h2 =>
      have e := hcm.e
      subst e
      first
        | exact hN hno
        | exact hG sx sy hsd hse hsx hsy
    case h3 =>
      have e := hcm.e
      subst e
      first
        | exact hN hno
        | exact hG sx sy hsd hse hsx hsy

end
end Y75

set_option Elab.async false
set_option linter.all false
set_option maxRecDepth 100000
set_option maxHeartbeats 8000000
namespace Y75
open PySem PySem.Spec PyProof.Rows L2 Evl Wz
open Y02 (Kd)
local macro_rules | `(tactic| walk_at "bd") => `(tactic| (repeat (first | assumption | apply Bd.mul | apply Bd.add | apply Bd.sub | apply Bd.neg | exact Bd.z | exact Bd.of _)))
local macro_rules | `(tactic| walk_at "bm") => `(tactic| (first | assumption | exact Bd.mono (by walk_at "bd") (by decide)))
local macro_rules | `(tactic| walk_at "b2") => `(tactic| (repeat (first | assumption | apply And.intro | walk_at "bm" | decide | omega)))

def Dk (s : List Dat) : Prop := ∃ (f n : Int) (c : Nat) (ns : List Int), s = .int f :: .int n :: .int (c : Int) :: ns.map Dat.int ∧ 0 ≤ f ∧ 0 ≤ n ∧ n < 2147483648 ∧ 3 ≤ c ∧ c ≤ 70 ∧ ns.length ≤ 63
theorem nl_ints : ∀ ns : List Int, (ns.map Dat.int).all noL = true
  | [] => rfl
  | _ :: ns => nl_ints ns
theorem Dk.nl {s : List Dat} (h : Dk s) : s.all noL = true := by
  obtain ⟨f, n, c, ns, rfl, _⟩ := h
  exact nl_ints ns
theorem at_pot {f n d : Dat} {ns : List Int} {c : Nat} (h3 : 3 ≤ c) (h : (c : Int) < ((f :: n :: d :: ns.map Dat.int).length : Int)) : (f :: n :: d :: ns.map Dat.int)[c]? = some (.int (ns.getD (c - 3) 0)) := by
  obtain ⟨i, rfl⟩ : ∃ i, c = i + 3 := ⟨c - 3, by omega⟩
  simp only [List.length_cons, List.length_map] at h
  have hl : i < ns.length := by omega
  rw [List.getElem?_cons_succ, List.getElem?_cons_succ, List.getElem?_cons_succ, List.getElem?_map, List.getElem?_eq_getElem hl, show i + 3 - 3 = i by omega, List.getD_eq_getElem?_getD, List.getElem?_eq_getElem hl]
  rfl
theorem modp {x m : Int} (h : 0 < m) : 0 ≤ x % m ∧ x % m < m := ⟨Int.emod_nonneg _ (by omega), Int.emod_lt_of_pos _ h⟩
theorem divp {x m : Int} (h : 0 < m) (h0 : 0 ≤ x) : 0 ≤ x / m := Int.ediv_nonneg h0 (by omega)
theorem bd_r {n : Nat} {i : Int} (h1 : -2147483648 < i) (h2 : i < 2147483648) (hn : 31 ≤ n) : Bd n i := by
  have e : 2 ^ 31 ≤ 2 ^ n := Nat.pow_le_pow_right (by decide) hn
  have e2 : 2 ^ 31 = 2147483648 := by decide
  show i.natAbs < 2 ^ n
  omega
theorem m47 (x : Int) : Bd 31 (x % 2147483647) := by
  have := modp (x := x) (m := 2147483647) (by decide)
  exact bd_r (by omega) (by omega) (by decide)
theorem m29 (x : Int) : Bd 31 (x % 2147483629) := by
  have := modp (x := x) (m := 2147483629) (by decide)
  exact bd_r (by omega) (by omega) (by decide)
theorem r47 (x : Int) : 0 ≤ x % 2147483647 ∧ x % 2147483647 < 2147483648 := by
  have := modp (x := x) (m := 2147483647) (by decide)
  omega
theorem r29 (x : Int) : 0 ≤ x % 2147483629 ∧ x % 2147483629 < 2147483648 := by
  have := modp (x := x) (m := 2147483629) (by decide)
  omega
theorem gcd_step {h e : Int} (h0 : 0 ≤ h) (he : 0 < e) : Nat.gcd e.natAbs (h % e).natAbs = Nat.gcd h.natAbs e.natAbs := by
  obtain ⟨x, rfl⟩ := Int.eq_ofNat_of_zero_le h0
  obtain ⟨y, rfl⟩ := Int.eq_ofNat_of_zero_le (Int.le_of_lt he)
  rw [← Int.natCast_emod, Int.natAbs_natCast, Int.natAbs_natCast, Int.natAbs_natCast, Nat.gcd_comm x y, Nat.gcd_rec y x, Nat.gcd_comm]
/-- so few turns -/
def Pot (j x y : Nat) : Prop := (j = 0 ∧ x < 2 ^ 4000 ∧ y < 2 ^ 4000) ∨ (1 ≤ j ∧ y ≤ x ∧ x * y * 2 ^ (j - 1) < 2 ^ 8000)
theorem Pot.next {j x y : Nat} (h : Pot j x y) (hy : 0 < y) : Pot (j + 1) y (x % y) := by
  have hm : x % y < y := Nat.mod_lt _ hy
  refine .inr ⟨by omega, by omega, ?_⟩
  rcases h with ⟨rfl, h1, h2⟩ | ⟨h1, h2, h3⟩
  · have e : (2 : Nat) ^ 8000 = 2 ^ 4000 * 2 ^ 4000 := by rw [← Nat.pow_add]
    have : y * (x % y) ≤ y * y := Nat.mul_le_mul_left _ (by omega)
    have h4 : y * y < 2 ^ 4000 * 2 ^ 4000 := Nat.mul_lt_mul_of_lt_of_lt h2 h2
    rw [show 0 + 1 - 1 = 0 by rfl, Nat.pow_zero, Nat.mul_one, e]
    omega
  · have h4 : 2 * (x % y) ≤ x := by
      have e := Nat.div_add_mod x y
      have h5 : 1 ≤ x / y := Nat.div_pos h2 hy
      have h6 : y * 1 ≤ y * (x / y) := Nat.mul_le_mul_left _ h5
      omega
    have e : 2 ^ (j + 1 - 1) = 2 * 2 ^ (j - 1) := by
      obtain ⟨i, rfl⟩ : ∃ i, j = i + 1 := ⟨j - 1, by omega⟩
      rw [show i + 1 + 1 - 1 = i + 1 by omega, show i + 1 - 1 = i by omega, Nat.pow_succ, Nat.mul_comm]
    rw [e]
    have h5 : y * (2 * (x % y)) ≤ y * x := Nat.mul_le_mul_left _ h4
    have h6 := Nat.mul_le_mul_right (2 ^ (j - 1)) h5
    have e2 : y * (x % y) * (2 * 2 ^ (j - 1)) = y * (2 * (x % y)) * 2 ^ (j - 1) := by grind
    rw [e2]
    rw [Nat.mul_comm x y] at h3
    omega
theorem Pot.end_ {x y : Nat} (h : Pot 100000 x y) : y = 0 := by
  rcases h with ⟨h, _⟩ | ⟨_, h1, h2⟩
  · cases h
  · refine Classical.byContradiction fun z => ?_
    have h3 : 1 ≤ x * y := Nat.mul_pos (by omega) (by omega)
    have h4 : 1 * 2 ^ (100000 - 1) ≤ x * y * 2 ^ (100000 - 1) := Nat.mul_le_mul_right _ h3
    have h5 : (2 : Nat) ^ 8000 ≤ 2 ^ (100000 - 1) := Nat.pow_le_pow_right (by decide) (by omega)
    rw [Nat.one_mul] at h4
    exact absurd h2 (Nat.not_lt.mpr (Nat.le_trans h5 h4))
def gcdI (a b : Int) : Int := ((a.natAbs.gcd b.natAbs : Nat) : Int)
theorem abs_na (a : Int) : (if a < 0 then -a else a).natAbs = a.natAbs := by split <;> omega
theorem abs_nn (a : Int) : 0 ≤ (if a < 0 then -a else a) := by split <;> omega
theorem gcdI_bd {a b : Int} {n : Nat} (h : Bd n a) (g : Bd n b) : Bd n (gcdI a b) := by
  show (gcdI a b).natAbs < 2 ^ n
  unfold gcdI
  rw [Int.natAbs_natCast]
  have h1 : a.natAbs < 2 ^ n := h
  have h2 : b.natAbs < 2 ^ n := g
  by_cases z : a.natAbs = 0
  · rw [z, Nat.gcd_zero_left]; exact h2
  · exact Nat.lt_of_le_of_lt (Nat.gcd_le_left _ (by omega)) h1
theorem g3_gcd (a b n : Int) : gcdI (gcdI a b) n = Y02.g3 a b n := by
  unfold gcdI Y02.g3
  rw [Int.natAbs_natCast]
set_option exponentiation.threshold 1000000
section
variable {P : Program} {w : World} {K : PySem.W.Frag} {mg : Str → Option Value} {base : Heap} {C : Addr}

/-! ### _law_take -/
abbrev s__law_take : Stmt := topS 35
theorem sc__law_take : FnScope ["pot", "many", "cell", "mixed", "drawn_now"] ["pot", "many"] (defScope s__law_take) := ⟨rfl, rfl, rfl, by decide +kernel, rfl, by decide +kernel, by decide +kernel⟩
def F__law_take : FD := fun ds c Q => ∃ (m : Int), ds = [.int m] ∧ (0 < m ∧ Bd 900 m ∧ Dk c) ∧ ∀ v c', 0 ≤ v → v < m → Dk c' → Q (.int v) c'
theorem ok__law_take {f : Addr} {fd : FuncData} (Fn : Fun K "_law_take" "_law_take" s__law_take f fd) (m_len : mg "len" = none) (m_int : mg "int" = none) : FnOk P w K mg base CX0 1 f fd ["pot", "many"] (spD K F__law_take) := by
  refine fn_D Fn sc__law_take (fun ds c G h => ?_) (fun cdv A outer s H Q E pa ds c G hr hF hQ => ?_)
  · obtain ⟨m, rfl, ⟨hm, hbm, ⟨f0, n0, c0, ns, rfl, hf, hn0, hn1, hc0, hc1, hns⟩⟩, hG⟩ := h
    rfl
  · obtain ⟨m, rfl, ⟨hm, hbm, ⟨f0, n0, c0, ns, rfl, hf, hn0, hn1, hc0, hc1, hns⟩⟩, hG⟩ := hF
    have hbn : Bd 31 n0 := bd_r (by omega) (by omega) (by decide)
    refine (as_ifn (t_w (w_and (t_eqI (c_ixLn (nm 0 rfl (c_int (And.intro (by decide) (c_int (And.intro (fun b1 => (w_and1 (t_lt (c_ixLn (nm 0 rfl (c_int (And.intro (by decide) (c_lenL m_len (ca_cons (nm 0 rfl (ca_nil (And.intro (fun b2 => (as_asg (i := 2) ?h1 (c_ixL (nm 0 rfl (c_ixLn (nm 0 rfl (c_int (And.intro (by decide) ⟨c0, .int (ns.getD (c0 - 3) 0), rfl, ?h2, (as_aug (nm 0 rfl (c_int ⟨_, 2, _, _, rfl, rfl, rfl, rfl, (c_int (And.intro rfl (as_if (t_ge (nm 2 rfl (c_powW (c_int (c_int (And.intro ?h3 (And.intro (fun b3 => (as_cell (c_sub (nm 2 rfl (c_powW (c_int (c_int (And.intro ?h4 (nm 0 rfl (c_int (And.intro rfl ⟨_, 0, _, rfl, rfl, rfl, ?h5, (as_go (as_go (as_ifn (t_gt (c_ixLn (nm 0 rfl (c_int (And.intro (by decide) (c_int (And.intro (fun b4 => (as_asg (i := 4) ?h6 (c_mod (c_intI m_int (ca_cons (c_ixLn (nm 0 rfl (c_int (And.intro (by decide) (ca_nil (nm 1 rfl (And.intro ?h7 (as_cell (c_fdiv (c_ixLn (nm 0 rfl (c_int (And.intro (by decide) (nm 1 rfl (And.intro ?h8 (nm 0 rfl (c_int (And.intro rfl ⟨_, 0, _, rfl, rfl, rfl, ?h9, (as_ret hQ (nm 4 rfl (And.intro rfl ?h10)))⟩))))))))))))))))))))))) (fun b4 => (as_cell (c_mod (c_intI m_int (ca_cons (c_add (c_add (c_mulS (c_ixLn (nm 0 rfl (c_int (And.intro (by decide) (c_int (And.intro (.inr (And.intro (by decide) (by decide))) (c_mulS (c_int (c_ixLn (nm 0 rfl (c_int (And.intro (by decide) (And.intro (.inl (And.intro (by decide) (by decide))) (c_int (ca_nil (c_int (And.intro ?h11 (nm 0 rfl (c_int (And.intro rfl ⟨_, 1, _, rfl, rfl, rfl, ?h12, (as_cell (c_mod (c_intI m_int (ca_cons (c_add (c_mul (c_ixLn (nm 0 rfl (c_int (And.intro (by decide) (c_ixLn (nm 0 rfl (c_int (And.intro (by decide) (And.intro ?h13 (c_int (ca_nil (c_int (And.intro ?h14 (nm 0 rfl (c_int (And.intro rfl ⟨_, 1, _, rfl, rfl, rfl, ?h15, (as_ret hQ (c_mod (c_intI m_int (ca_cons (c_fdiv (c_ixLn (nm 0 rfl (c_int (And.intro (by decide) (c_int (And.intro ?h16 (ca_nil (nm 1 rfl (And.intro ?h17 (And.intro rfl ?h18)))))))))))))))⟩))))))))))))))))))))))⟩))))))))))))))))))))))))))))))))))))))⟩))))))))))) (fun b3 => (as_asg (i := 3) ?h19 (c_mod (c_intI m_int (ca_cons (nm 2 rfl (ca_nil (c_int (And.intro ?h20 (as_asg (i := 3) ?h21 (c_mod (c_intI m_int (ca_cons (c_add (c_add (c_mul (nm 3 rfl (nm 3 rfl (And.intro ?h22 (c_mulS (c_int (nm 3 rfl (And.intro (.inl (And.intro (by decide) (by decide))) (c_mulS (c_int (c_ixLn (nm 0 rfl (c_int (And.intro (by decide) (And.intro (.inl (And.intro (by decide) (by decide))) (ca_nil (c_int (And.intro ?h23 (as_cell (c_mod (c_intI m_int (ca_cons (c_add (c_ixLn (nm 0 rfl (c_int (And.intro (by decide) (nm 3 rfl (ca_nil (c_int (And.intro ?h24 (nm 0 rfl (c_int (And.intro rfl ⟨_, 1, _, rfl, rfl, rfl, ?h25, (as_go (as_go (as_ifn (t_gt (c_ixLn (nm 0 rfl (c_int (And.intro (by decide) (c_int (And.intro (fun b5 => (as_asg (i := 4) ?h26 (c_mod (c_intI m_int (ca_cons (c_ixLn (nm 0 rfl (c_int (And.intro (by decide) (ca_nil (nm 1 rfl (And.intro ?h27 (as_cell (c_fdiv (c_ixLn (nm 0 rfl (c_int (And.intro (by decide) (nm 1 rfl (And.intro ?h28 (nm 0 rfl (c_int (And.intro rfl ⟨_, 0, _, rfl, rfl, rfl, ?h29, (as_ret hQ (nm 4 rfl (And.intro rfl ?h30)))⟩))))))))))))))))))))))) (fun b5 => (as_cell (c_mod (c_intI m_int (ca_cons (c_add (c_add (c_mulS (c_ixLn (nm 0 rfl (c_int (And.intro (by decide) (c_int (And.intro (.inr (And.intro (by decide) (by decide))) (c_mulS (c_int (c_ixLn (nm 0 rfl (c_int (And.intro (by decide) (And.intro (.inl (And.intro (by decide) (by decide))) (c_int (ca_nil (c_int (And.intro ?h31 (nm 0 rfl (c_int (And.intro rfl ⟨_, 1, _, rfl, rfl, rfl, ?h32, (as_cell (c_mod (c_intI m_int (ca_cons (c_add (c_mul (c_ixLn (nm 0 rfl (c_int (And.intro (by decide) (c_ixLn (nm 0 rfl (c_int (And.intro (by decide) (And.intro ?h33 (c_int (ca_nil (c_int (And.intro ?h34 (nm 0 rfl (c_int (And.intro rfl ⟨_, 1, _, rfl, rfl, rfl, ?h35, (as_ret hQ (c_mod (c_intI m_int (ca_cons (c_fdiv (c_ixLn (nm 0 rfl (c_int (And.intro (by decide) (c_int (And.intro ?h36 (ca_nil (nm 1 rfl (And.intro ?h37 (And.intro rfl ?h38)))))))))))))))⟩))))))))))))))))))))))⟩))))))))))))))))))))))))))))))))))))))⟩)))))))))))))))))))))))))))))))))))))))))))))))))))))))))))⟩)))⟩)))))))) (fun b2 => (as_ifn (t_gt (c_ixLn (nm 0 rfl (c_int (And.intro (by decide) (c_int (And.intro (fun b6 => (as_asg (i := 4) ?h39 (c_mod (c_intI m_int (ca_cons (c_ixLn (nm 0 rfl (c_int (And.intro (by decide) (ca_nil (nm 1 rfl (And.intro ?h40 (as_cell (c_fdiv (c_ixLn (nm 0 rfl (c_int (And.intro (by decide) (nm 1 rfl (And.intro ?h41 (nm 0 rfl (c_int (And.intro rfl ⟨_, 0, _, rfl, rfl, rfl, ?h42, (as_ret hQ (nm 4 rfl (And.intro rfl ?h43)))⟩))))))))))))))))))))))) (fun b6 => (as_cell (c_mod (c_intI m_int (ca_cons (c_add (c_add (c_mulS (c_ixLn (nm 0 rfl (c_int (And.intro (by decide) (c_int (And.intro (.inr (And.intro (by decide) (by decide))) (c_mulS (c_int (c_ixLn (nm 0 rfl (c_int (And.intro (by decide) (And.intro (.inl (And.intro (by decide) (by decide))) (c_int (ca_nil (c_int (And.intro ?h44 (nm 0 rfl (c_int (And.intro rfl ⟨_, 1, _, rfl, rfl, rfl, ?h45, (as_cell (c_mod (c_intI m_int (ca_cons (c_add (c_mul (c_ixLn (nm 0 rfl (c_int (And.intro (by decide) (c_ixLn (nm 0 rfl (c_int (And.intro (by decide) (And.intro ?h46 (c_int (ca_nil (c_int (And.intro ?h47 (nm 0 rfl (c_int (And.intro rfl ⟨_, 1, _, rfl, rfl, rfl, ?h48, (as_ret hQ (c_mod (c_intI m_int (ca_cons (c_fdiv (c_ixLn (nm 0 rfl (c_int (And.intro (by decide) (c_int (And.intro ?h49 (ca_nil (nm 1 rfl (And.intro ?h50 (And.intro rfl ?h51)))))))))))))))⟩))))))))))))))))))))))⟩))))))))))))))))))))))))))))))))))))))))))))))))) (fun b1 => (as_ifn (t_gt (c_ixLn (nm 0 rfl (c_int (And.intro (by decide) (c_int (And.intro (fun b7 => (as_asg (i := 4) ?h52 (c_mod (c_intI m_int (ca_cons (c_ixLn (nm 0 rfl (c_int (And.intro (by decide) (ca_nil (nm 1 rfl (And.intro ?h53 (as_cell (c_fdiv (c_ixLn (nm 0 rfl (c_int (And.intro (by decide) (nm 1 rfl (And.intro ?h54 (nm 0 rfl (c_int (And.intro rfl ⟨_, 0, _, rfl, rfl, rfl, ?h55, (as_ret hQ (nm 4 rfl (And.intro rfl ?h56)))⟩))))))))))))))))))))))) (fun b7 => (as_cell (c_mod (c_intI m_int (ca_cons (c_add (c_add (c_mulS (c_ixLn (nm 0 rfl (c_int (And.intro (by decide) (c_int (And.intro (.inr (And.intro (by decide) (by decide))) (c_mulS (c_int (c_ixLn (nm 0 rfl (c_int (And.intro (by decide) (And.intro (.inl (And.intro (by decide) (by decide))) (c_int (ca_nil (c_int (And.intro ?h57 (nm 0 rfl (c_int (And.intro rfl ⟨_, 1, _, rfl, rfl, rfl, ?h58, (as_cell (c_mod (c_intI m_int (ca_cons (c_add (c_mul (c_ixLn (nm 0 rfl (c_int (And.intro (by decide) (c_ixLn (nm 0 rfl (c_int (And.intro (by decide) (And.intro ?h59 (c_int (ca_nil (c_int (And.intro ?h60 (nm 0 rfl (c_int (And.intro rfl ⟨_, 1, _, rfl, rfl, rfl, ?h61, (as_ret hQ (c_mod (c_intI m_int (ca_cons (c_fdiv (c_ixLn (nm 0 rfl (c_int (And.intro (by decide) (c_int (And.intro ?h62 (ca_nil (nm 1 rfl (And.intro ?h63 (And.intro rfl ?h64)))))))))))))))⟩))))))))))))))))))))))⟩)))))))))))))))))))))))))))))))))))))))))))))))
    case h1 =>
      exact sc__law_take.nd
    case h2 =>
      exact at_pot hc0 (by assumption)
    case h3 =>
      exact cpw (by first | omega | decide) (by walk_at "bd") (by decide)
    case h4 =>
      exact cpw (by first | omega | decide) (by walk_at "bd") (by decide)
    case h5 =>
      exact Nat.le_of_ble_eq_true rfl
    case h6 =>
      exact sc__law_take.nd
    case h7 =>
      first | omega | decide | exact hm
    case h8 =>
      first | exact cdw hm hbm (by decide) | exact cdw (by decide) (Bd.of _) (by decide)
    case h9 =>
      exact Nat.le_of_ble_eq_true rfl
    case h10 =>
      first
        | exact ⟨_, rfl, hG _ _ (modp hm).1 (modp hm).2 ⟨_, _, c0, ns, rfl, divp hm (by omega), by omega, by omega, hc0, hc1, hns⟩⟩
        | exact ⟨_, rfl, hG _ _ (modp hm).1 (modp hm).2 ⟨_, _, c0 + 1, ns, rfl, divp hm (by omega), by omega, by omega, by omega, by simp at b2; omega, hns⟩⟩
        | exact ⟨_, rfl, hG _ _ (modp hm).1 (modp hm).2 ⟨_, _, c0 + 1, ns, rfl, divp hm (by omega), (r29 _).1, (r29 _).2, by omega, by simp at b2; omega, hns⟩⟩
        | exact ⟨_, rfl, hG _ _ (modp hm).1 (modp hm).2 ⟨_, _, c0, ns, rfl, by omega, (r29 _).1, (r29 _).2, hc0, hc1, hns⟩⟩
        | exact ⟨_, rfl, hG _ _ (modp hm).1 (modp hm).2 ⟨_, _, c0 + 1, ns, rfl, by omega, (r29 _).1, (r29 _).2, by omega, by simp at b2; omega, hns⟩⟩
    case h11 =>
      first | omega | decide | exact hm
    case h12 =>
      exact Nat.le_of_ble_eq_true rfl
    case h13 =>
      first | exact cm (m47 _) (m47 _) (by decide) | exact cm (m29 _) (m29 _) (by decide) | exact cm (by walk_at "bd") (by walk_at "bd") (by decide)
    case h14 =>
      first | omega | decide | exact hm
    case h15 =>
      exact Nat.le_of_ble_eq_true rfl
    case h16 =>
      first | exact cdw hm hbm (by decide) | exact cdw (by decide) (Bd.of _) (by decide)
    case h17 =>
      first | omega | decide | exact hm
    case h18 =>
      first
        | exact ⟨_, rfl, hG _ _ (modp hm).1 (modp hm).2 ⟨_, _, c0, ns, rfl, divp hm (by omega), by omega, by omega, hc0, hc1, hns⟩⟩
        | exact ⟨_, rfl, hG _ _ (modp hm).1 (modp hm).2 ⟨_, _, c0 + 1, ns, rfl, divp hm (by omega), by omega, by omega, by omega, by simp at b2; omega, hns⟩⟩
        | exact ⟨_, rfl, hG _ _ (modp hm).1 (modp hm).2 ⟨_, _, c0 + 1, ns, rfl, divp hm (by omega), (r29 _).1, (r29 _).2, by omega, by simp at b2; omega, hns⟩⟩
        | exact ⟨_, rfl, hG _ _ (modp hm).1 (modp hm).2 ⟨_, _, c0, ns, rfl, by omega, (r29 _).1, (r29 _).2, hc0, hc1, hns⟩⟩
        | exact ⟨_, rfl, hG _ _ (modp hm).1 (modp hm).2 ⟨_, _, c0 + 1, ns, rfl, by omega, (r29 _).1, (r29 _).2, by omega, by simp at b2; omega, hns⟩⟩
    case h19 =>
      exact sc__law_take.nd
    case h20 =>
      first | omega | decide | exact hm
    case h21 =>
      exact sc__law_take.nd
    case h22 =>
      first | exact cm (m47 _) (m47 _) (by decide) | exact cm (m29 _) (m29 _) (by decide) | exact cm (by walk_at "bd") (by walk_at "bd") (by decide)
    case h23 =>
      first | omega | decide | exact hm
    case h24 =>
      first | omega | decide | exact hm
    case h25 =>
      exact Nat.le_of_ble_eq_true rfl
    case h26 =>
      exact sc__law_take.nd
    case h27 =>
      first | omega | decide | exact hm
    case h28 =>
      first | exact cdw hm hbm (by decide) | exact cdw (by decide) (Bd.of _) (by decide)
    case h29 =>
      exact Nat.le_of_ble_eq_true rfl
    case h30 =>
      first
        | exact ⟨_, rfl, hG _ _ (modp hm).1 (modp hm).2 ⟨_, _, c0, ns, rfl, divp hm (by omega), by omega, by omega, hc0, hc1, hns⟩⟩
        | exact ⟨_, rfl, hG _ _ (modp hm).1 (modp hm).2 ⟨_, _, c0 + 1, ns, rfl, divp hm (by omega), by omega, by omega, by omega, by simp at b2; omega, hns⟩⟩
        | exact ⟨_, rfl, hG _ _ (modp hm).1 (modp hm).2 ⟨_, _, c0 + 1, ns, rfl, divp hm (by omega), (r29 _).1, (r29 _).2, by omega, by simp at b2; omega, hns⟩⟩
        | exact ⟨_, rfl, hG _ _ (modp hm).1 (modp hm).2 ⟨_, _, c0, ns, rfl, by omega, (r29 _).1, (r29 _).2, hc0, hc1, hns⟩⟩
        | exact ⟨_, rfl, hG _ _ (modp hm).1 (modp hm).2 ⟨_, _, c0 + 1, ns, rfl, by omega, (r29 _).1, (r29 _).2, by omega, by simp at b2; omega, hns⟩⟩
    case h31 =>
      first | omega | decide | exact hm
    case h32 =>
      exact Nat.le_of_ble_eq_true rfl
    case h33 =>
      first | exact cm (m47 _) (m47 _) (by decide) | exact cm (m29 _) (m29 _) (by decide) | exact cm (by walk_at "bd") (by walk_at "bd") (by decide)
    case h34 =>
      first | omega | decide | exact hm
    case h35 =>
      exact Nat.le_of_ble_eq_true rfl
    case h36 =>
      first | exact cdw hm hbm (by decide) | exact cdw (by decide) (Bd.of _) (by decide)
    case h37 =>
      first | omega | decide | exact hm
    case h38 =>
      first
        | exact ⟨_, rfl, hG _ _ (modp hm).1 (modp hm).2 ⟨_, _, c0, ns, rfl, divp hm (by omega), by omega, by omega, hc0, hc1, hns⟩⟩
        | exact ⟨_, rfl, hG _ _ (modp hm).1 (modp hm).2 ⟨_, _, c0 + 1, ns, rfl, divp hm (by omega), by omega, by omega, by omega, by simp at b2; omega, hns⟩⟩
        | exact ⟨_, rfl, hG _ _ (modp hm).1 (modp hm).2 ⟨_, _, c0 + 1, ns, rfl, divp hm (by omega), (r29 _).1, (r29 _).2, by omega, by simp at b2; omega, hns⟩⟩
        | exact ⟨_, rfl, hG _ _ (modp hm).1 (modp hm).2 ⟨_, _, c0, ns, rfl, by omega, (r29 _).1, (r29 _).2, hc0, hc1, hns⟩⟩
        | exact ⟨_, rfl, hG _ _ (modp hm).1 (modp hm).2 ⟨_, _, c0 + 1, ns, rfl, by omega, (r29 _).1, (r29 _).2, by omega, by simp at b2; omega, hns⟩⟩
    case h39 =>
      exact sc__law_take.nd
    case h40 =>
      first | omega | decide | exact hm
    case h41 =>
      first | exact cdw hm hbm (by decide) | exact cdw (by decide) (Bd.of _) (by decide)
    case h42 =>
      exact Nat.le_of_ble_eq_true rfl
    case h43 =>
      first
        | exact ⟨_, rfl, hG _ _ (modp hm).1 (modp hm).2 ⟨_, _, c0, ns, rfl, divp hm (by omega), by omega, by omega, hc0, hc1, hns⟩⟩
        | exact ⟨_, rfl, hG _ _ (modp hm).1 (modp hm).2 ⟨_, _, c0 + 1, ns, rfl, divp hm (by omega), by omega, by omega, by omega, by simp at b2; omega, hns⟩⟩
        | exact ⟨_, rfl, hG _ _ (modp hm).1 (modp hm).2 ⟨_, _, c0 + 1, ns, rfl, divp hm (by omega), (r29 _).1, (r29 _).2, by omega, by simp at b2; omega, hns⟩⟩
        | exact ⟨_, rfl, hG _ _ (modp hm).1 (modp hm).2 ⟨_, _, c0, ns, rfl, by omega, (r29 _).1, (r29 _).2, hc0, hc1, hns⟩⟩
        | exact ⟨_, rfl, hG _ _ (modp hm).1 (modp hm).2 ⟨_, _, c0 + 1, ns, rfl, by omega, (r29 _).1, (r29 _).2, by omega, by simp at b2; omega, hns⟩⟩
    case h44 =>
      first | omega | decide | exact hm
    case h45 =>
      exact Nat.le_of_ble_eq_true rfl
    case h46 =>
      first | exact cm (m47 _) (m47 _) (by decide) | exact cm (m29 _) (m29 _) (by decide) | exact cm (by walk_at "bd") (by walk_at "bd") (by decide)
    case h47 =>
      first | omega | decide | exact hm
    case h48 =>
      exact Nat.le_of_ble_eq_true rfl
    case h49 =>
      first | exact cdw hm hbm (by decide) | exact cdw (by decide) (Bd.of _) (by decide)
    case h50 =>
      first | omega | decide | exact hm
    case h51 =>
      first
        | exact ⟨_, rfl, hG _ _ (modp hm).1 (modp hm).2 ⟨_, _, c0, ns, rfl, divp hm (by omega), by omega, by omega, hc0, hc1, hns⟩⟩
        | exact ⟨_, rfl, hG _ _ (modp hm).1 (modp hm).2 ⟨_, _, c0 + 1, ns, rfl, divp hm (by omega), by omega, by omega, by omega, by simp at b2; omega, hns⟩⟩
        | exact ⟨_, rfl, hG _ _ (modp hm).1 (modp hm).2 ⟨_, _, c0 + 1, ns, rfl, divp hm (by omega), (r29 _).1, (r29 _).2, by omega, by simp at b2; omega, hns⟩⟩
        | exact ⟨_, rfl, hG _ _ (modp hm).1 (modp hm).2 ⟨_, _, c0, ns, rfl, by omega, (r29 _).1, (r29 _).2, hc0, hc1, hns⟩⟩
        | exact ⟨_, rfl, hG _ _ (modp hm).1 (modp hm).2 ⟨_, _, c0 + 1, ns, rfl, by omega, (r29 _).1, (r29 _).2, by omega, by simp at b2; omega, hns⟩⟩
    case h52 =>
      exact sc__law_take.nd
    case h53 =>
      first | omega | decide | exact hm
    case h54 =>
      first | exact cdw hm hbm (by decide) | exact cdw (by decide) (Bd.of _) (by decide)
    case h55 =>
      exact Nat.le_of_ble_eq_true rfl
    case h56 =>
      first
        | exact ⟨_, rfl, hG _ _ (modp hm).1 (modp hm).2 ⟨_, _, c0, ns, rfl, divp hm (by omega), by omega, by omega, hc0, hc1, hns⟩⟩
        | exact ⟨_, rfl, hG _ _ (modp hm).1 (modp hm).2 ⟨_, _, c0 + 1, ns, rfl, divp hm (by omega), by omega, by omega, by omega, by simp at b2; omega, hns⟩⟩
        | exact ⟨_, rfl, hG _ _ (modp hm).1 (modp hm).2 ⟨_, _, c0 + 1, ns, rfl, divp hm (by omega), (r29 _).1, (r29 _).2, by omega, by simp at b2; omega, hns⟩⟩
        | exact ⟨_, rfl, hG _ _ (modp hm).1 (modp hm).2 ⟨_, _, c0, ns, rfl, by omega, (r29 _).1, (r29 _).2, hc0, hc1, hns⟩⟩
        | exact ⟨_, rfl, hG _ _ (modp hm).1 (modp hm).2 ⟨_, _, c0 + 1, ns, rfl, by omega, (r29 _).1, (r29 _).2, by omega, by simp at b2; omega, hns⟩⟩
    case h57 =>
      first | omega | decide | exact hm
    case h58 =>
      exact Nat.le_of_ble_eq_true rfl
    case h59 =>
      first | exact cm (m47 _) (m47 _) (by decide) | exact cm (m29 _) (m29 _) (by decide) | exact cm (by walk_at "bd") (by walk_at "bd") (by decide)
    case h60 =>
      first | omega | decide | exact hm
    case h61 =>
      exact Nat.le_of_ble_eq_true rfl
    case h62 =>
      first | exact cdw hm hbm (by decide) | exact cdw (by decide) (Bd.of _) (by decide)
    case h63 =>
      first | omega | decide | exact hm
    case h64 =>
      first
        | exact ⟨_, rfl, hG _ _ (modp hm).1 (modp hm).2 ⟨_, _, c0, ns, rfl, divp hm (by omega), by omega, by omega, hc0, hc1, hns⟩⟩
        | exact ⟨_, rfl, hG _ _ (modp hm).1 (modp hm).2 ⟨_, _, c0 + 1, ns, rfl, divp hm (by omega), by omega, by omega, by omega, by simp at b2; omega, hns⟩⟩
        | exact ⟨_, rfl, hG _ _ (modp hm).1 (modp hm).2 ⟨_, _, c0 + 1, ns, rfl, divp hm (by omega), (r29 _).1, (r29 _).2, by omega, by simp at b2; omega, hns⟩⟩
        | exact ⟨_, rfl, hG _ _ (modp hm).1 (modp hm).2 ⟨_, _, c0, ns, rfl, by omega, (r29 _).1, (r29 _).2, hc0, hc1, hns⟩⟩
        | exact ⟨_, rfl, hG _ _ (modp hm).1 (modp hm).2 ⟨_, _, c0 + 1, ns, rfl, by omega, (r29 _).1, (r29 _).2, by omega, by simp at b2; omega, hns⟩⟩

end
end Y75

set_option Elab.async false
set_option linter.all false
set_option maxRecDepth 100000
set_option maxHeartbeats 8000000
namespace Y75
open PySem PySem.Spec PyProof.Rows L2 Evl Wz
open Y02 (Kd)
local macro_rules | `(tactic| walk_at "bd") => `(tactic| (repeat (first | assumption | apply Bd.mul | apply Bd.add | apply Bd.sub | apply Bd.neg | exact Bd.z | exact Bd.of _)))
local macro_rules | `(tactic| walk_at "bm") => `(tactic| (first | assumption | exact Bd.mono (by walk_at "bd") (by decide)))
local macro_rules | `(tactic| walk_at "b2") => `(tactic| (repeat (first | assumption | apply And.intro | walk_at "bm" | decide | omega)))
abbrev nD (a b n : Int) : Dat := .tup [.int a, .int b, .int n]
abbrev wD (p : Z2) : Dat := nD p.1 p.2 1
theorem lo_neg {a b n : Int} (hn : n ≠ 0) : (0 < n → LO a b n (a.fdiv (gcdI (gcdI a b) n)) (b.fdiv (gcdI (gcdI a b) n)) (n.fdiv (gcdI (gcdI a b) n))) ∧ (¬ 0 < n → LO a b n (a.fdiv (-(gcdI (gcdI a b) n))) (b.fdiv (-(gcdI (gcdI a b) n))) (n.fdiv (-(gcdI (gcdI a b) n)))) := by
  rw [g3_gcd]
  have key : (0 < n → Y02.sg a b n = Y02.g3 a b n) ∧ (¬ 0 < n → Y02.sg a b n = -(Y02.g3 a b n)) := by
    unfold Y02.sg
    exact ⟨fun h => if_neg (by rw [decide_eq_false (by omega)]; decide), fun h => if_pos (decide_eq_true (by omega))⟩
  refine ⟨fun h => ⟨?_, ?_, ?_⟩, fun h => ⟨?_, ?_, ?_⟩⟩
  · unfold Y02.loA; rw [key.1 h]
  · unfold Y02.loB; rw [key.1 h]
  · unfold Y02.loN; rw [key.1 h]
  · unfold Y02.loA; rw [key.2 h]
  · unfold Y02.loB; rw [key.2 h]
  · unfold Y02.loN; rw [key.2 h]
theorem lo_b {a b n x y z : Int} {m : Nat} (h : LO a b n x y z) (hn : n ≠ 0) (h1 : Bd m a) (h2 : Bd m b) (h3 : Bd m n) : Bd m x ∧ Bd m y ∧ Bd m z := by
  rw [h.x, h.y, h.z]
  exact Y02.lo_bd hn h1 h2 h3
theorem g_ne {a b n : Int} (hn : n ≠ 0) : gcdI (gcdI a b) n ≠ 0 := by
  rw [g3_gcd]
  exact Y02.g3_ne hn
theorem zeroB {n : Nat} : Bd n (0 : Int) := by
  show (0 : Int).natAbs < 2 ^ n
  exact Nat.pow_pos (by decide)
theorem oneB {n : Nat} (h : 1 ≤ n) : Bd n (1 : Int) := by
  show (1 : Int).natAbs < 2 ^ n
  exact Nat.lt_of_lt_of_le (by decide : (1 : Int).natAbs < 2 ^ 1) (Nat.pow_le_pow_right (by decide) h)
theorem one_bm {n : Nat} {x : Int} (h : Bd n x) : Bd n (x * 1) := by rw [Int.mul_one]; exact h
theorem one_mb {n : Nat} {x : Int} (h : Bd n x) : Bd n (1 * x) := by rw [Int.one_mul]; exact h
theorem na_lt {n : Nat} {x : Int} (h : Bd n x) : x.natAbs < 2 ^ n := h
theorem na_mod {h e : Int} (h0 : 0 ≤ h) (h1 : 0 ≤ e) : (h % e).natAbs = h.natAbs % e.natAbs := by
  obtain ⟨x, rfl⟩ := Int.eq_ofNat_of_zero_le h0
  obtain ⟨y, rfl⟩ := Int.eq_ofNat_of_zero_le h1
  rw [← Int.natCast_emod, Int.natAbs_natCast, Int.natAbs_natCast, Int.natAbs_natCast]
set_option exponentiation.threshold 1000000
section
variable {P : Program} {w : World} {K : PySem.W.Frag} {mg : Str → Option Value} {base : Heap} {C : Addr}

/-! ### _law_common -/
abbrev s__law_common : Stmt := topS 36
theorem sc__law_common : FnScope ["one", "other", "turn"] ["one", "other"] (defScope s__law_common) := ⟨rfl, rfl, rfl, by decide +kernel, rfl, by decide +kernel, by decide +kernel⟩
def F__law_common : FP := fun ds Q => ∃ a b, ds = [.int a, .int b] ∧ (Bd 4000 a ∧ Bd 4000 b) ∧ ∀ s, s = gcdI a b → Q (.int s)
theorem ok__law_common {f : Addr} {fd : FuncData} (Fn : Fun K "_law_common" "_law_common" s__law_common f fd) (m_abs : mg "abs" = none) (m_range : mg "range" = none) (m_int : mg "int" = none) : FnOk P w K mg base CX0 1 f fd ["one", "other"] (spP K F__law_common) := by
  refine fn_P Fn sc__law_common (fun ds G h => ?_) (fun cdv A outer s H Q E ds G hr hF hQ => ?_)
  · obtain ⟨a, b, rfl, ⟨ha, hb⟩, hG⟩ := h
    rfl
  · obtain ⟨a, b, rfl, ⟨ha, hb⟩, hG⟩ := hF
    have hp0 : Pot 0 (if a < 0 then -a else a).natAbs (if b < 0 then -b else b).natAbs := .inl ⟨rfl, by rw [abs_na]; exact na_lt ha, by rw [abs_na]; exact na_lt hb⟩
    refine (as_par (i := 0) (j := 1) ?h1 rfl (ca_cons (c_abs m_abs (ca_cons (nm 0 rfl (ca_nil (ca_cons (c_abs m_abs (ca_cons (nm 1 rfl (ca_nil (ca_nil ⟨_, _, rfl, (as_forR1 (i := 2) ?h2 rfl PassesOwn.never m_range (ca_cons (c_int (ca_nil ⟨_, (fun j es q => ∃ (h e : Int) (x : Option Dat), es = [some (.int h), some (.int e), x] ∧ q = [] ∧ 0 ≤ h ∧ 0 ≤ e ∧ Nat.gcd h.natAbs e.natAbs = Nat.gcd a.natAbs b.natAbs ∧ Pot j h.natAbs e.natAbs), (fun es q => ∃ (h : Int) (x : Option Dat), es = [some (.int h), some (.int 0), x] ∧ q = [] ∧ h = gcdI a b), rfl, ?h12, ⟨_, _, _, rfl, rfl, abs_nn a, abs_nn b, by rw [abs_na, abs_na], hp0⟩, ⟨fun H10 e10 fr0 j d es q hj hd hw => ?h3, fun es q hw => ?h4, fun es q hw => ?h10⟩⟩))))⟩))))))))))))
    case h1 =>
      exact sc__law_common.nd
    case h2 =>
      exact sc__law_common.nd
    case h3 =>
      obtain ⟨h, e, x, rfl, rfl, h0, h1, hg, hpt⟩ := hw
      cases hd
      refine (as_ifn (t_eqI (nm 1 rfl (c_int (And.intro (fun b1 => (as_brk rfl ?h5)) (fun b1 => (as_par (i := 0) (j := 1) ?h6 rfl (ca_cons (nm 1 rfl (ca_cons (c_mod (c_intI m_int (ca_cons (nm 0 rfl (ca_nil (nm 1 rfl (And.intro ?h7 (ca_nil ⟨_, _, rfl, (as_end rfl ?h8)⟩))))))))))))))))))
      case h5 =>
        have he : e = 0 := by assumption
        subst he
        refine ⟨h, _, rfl, rfl, ?_⟩
        unfold gcdI
        rw [← hg]
        show h = ((Nat.gcd h.natAbs 0 : Nat) : Int)
        rw [Nat.gcd_zero_right]
        omega
      case h6 =>
        exact sc__law_common.nd
      case h7 =>
        omega
      case h8 =>
        refine ⟨e, h % e, _, rfl, rfl, h1, Int.emod_nonneg _ (by assumption), by rw [gcd_step h0 (by omega)]; exact hg, ?_⟩
        have hq := hpt.next (by omega)
        rw [show (h % e).natAbs = h.natAbs % e.natAbs from na_mod h0 h1]
        exact hq
    case h4 =>
      obtain ⟨h, e, x, rfl, rfl, h0, h1, hg, hpt⟩ := hw
      have he0 : e = 0 := by
        have := hpt.end_
        omega
      subst he0
      have hgc : h = gcdI a b := by
        unfold gcdI
        rw [← hg]
        show h = ((Nat.gcd h.natAbs 0 : Nat) : Int)
        rw [Nat.gcd_zero_right]
        omega
      refine (as_ret hQ (nm 0 rfl (And.intro rfl ?h9)))
      case h9 =>
        exact hG _ hgc
    case h10 =>
      obtain ⟨h, x, rfl, rfl, hgc⟩ := hw
      refine (as_ret hQ (nm 0 rfl (And.intro rfl ?h11)))
      case h11 =>
        exact hG _ hgc
    case h12 =>
      first | omega | decide

/-! ### _law_form -/
abbrev s__law_form : Stmt := topS 37
theorem sc__law_form : FnScope ["a", "b", "n", "size"] ["a", "b", "n"] (defScope s__law_form) := ⟨rfl, rfl, rfl, by decide +kernel, rfl, by decide +kernel, by decide +kernel⟩
def F__law_form : FP := fun ds Q => ∃ (a b n : Int) (l : Nat), ds = [.int a, .int b, .int n] ∧ (n ≠ 0 ∧ Bd l a ∧ Bd l b ∧ Bd l n ∧ l ≤ 4000) ∧ ∀ x y z, LO a b n x y z → Bd l x → Bd l y → Bd l z → Q (nD x y z)
theorem ok__law_form {f : Addr} {fd : FuncData} (Fn : Fun K "_law_form" "_law_form" s__law_form f fd) (c__law_common : Cl P w K mg base 1 "_law_common" ["one", "other"] (spP K F__law_common)) : FnOk P w K mg base CX0 2 f fd ["a", "b", "n"] (spP K F__law_form) := by
  refine fn_P Fn sc__law_form (fun ds G h => ?_) (fun cdv A outer s H Q E ds G hr hF hQ => ?_)
  · obtain ⟨a, b, n, l, rfl, ⟨hn, ha, hb, hbn, hl⟩, hG⟩ := h
    rfl
  · obtain ⟨a, b, n, l, rfl, ⟨hn, ha, hb, hbn, hl⟩, hG⟩ := hF
    have ha4 : Bd 4000 a := ha.mono hl
    have hb4 : Bd 4000 b := hb.mono hl
    have hn4 : Bd 4000 n := hbn.mono hl
    have hg1 : Bd 4000 (gcdI a b) := gcdI_bd ha4 hb4
    have hg2 : Bd 4000 (gcdI (gcdI a b) n) := gcdI_bd hg1 hn4
    have hgn := g_ne (a := a) (b := b) hn
    obtain ⟨lp, ln⟩ := lo_neg (a := a) (b := b) hn
    refine (as_asg (i := 3) ?h1 (c_call c__law_common (hr.mono (by decide)) (ca_cons (c_call c__law_common (hr.mono (by decide)) (ca_cons (nm 0 rfl (ca_cons (nm 1 rfl (ca_nil ⟨_, _, rfl, ?h2, fun gc1 hgc1 => And.intro rfl (ca_cons (nm 2 rfl (ca_nil ⟨_, _, rfl, ?h3, fun gc2 hgc2 => And.intro rfl (as_asg (i := 3) ?h4 (c_if (t_gt (nm 2 rfl (c_int (And.intro (fun b1 => (nm 3 rfl (as_ret hQ (c_tup (ca_cons (c_fdivX (nm 0 rfl (nm 3 rfl (And.intro ?h5 (ca_cons (c_fdivX (nm 1 rfl (nm 3 rfl (And.intro ?h6 (ca_cons (c_fdivX (nm 2 rfl (nm 3 rfl (And.intro ?h7 (ca_nil (And.intro (And.intro rfl (Nat.le_of_ble_eq_true rfl)) (And.intro rfl ?h8)))))))))))))))))))))) (fun b1 => (c_neg (nm 3 rfl (as_ret hQ (c_tup (ca_cons (c_fdivX (nm 0 rfl (nm 3 rfl (And.intro ?h9 (ca_cons (c_fdivX (nm 1 rfl (nm 3 rfl (And.intro ?h10 (ca_cons (c_fdivX (nm 2 rfl (nm 3 rfl (And.intro ?h11 (ca_nil (And.intro (And.intro rfl (Nat.le_of_ble_eq_true rfl)) (And.intro rfl ?h12)))))))))))))))))))))))))))))⟩)))⟩)))))))))
    case h1 =>
      exact sc__law_form.nd
    case h2 =>
      first | exact ⟨ha4, hb4⟩ | exact ⟨by rw [hgc1]; exact hg1, hn4⟩
    case h3 =>
      first | exact ⟨ha4, hb4⟩ | exact ⟨by rw [hgc1]; exact hg1, hn4⟩
    case h4 =>
      exact sc__law_form.nd
    case h5 =>
      subst hgc1
      subst hgc2
      first | exact cdx hgn hg2 (by decide) | exact cdx (by omega) hg2.neg (by decide)
    case h6 =>
      subst hgc1
      subst hgc2
      first | exact cdx hgn hg2 (by decide) | exact cdx (by omega) hg2.neg (by decide)
    case h7 =>
      subst hgc1
      subst hgc2
      first | exact cdx hgn hg2 (by decide) | exact cdx (by omega) hg2.neg (by decide)
    case h8 =>
      subst hgc1
      subst hgc2
      first
        | (have q := lp (by assumption)
           obtain ⟨w1, w2, w3⟩ := lo_b q hn ha hb hbn
           exact hG _ _ _ q w1 w2 w3)
        | (have q := ln (by assumption)
           obtain ⟨w1, w2, w3⟩ := lo_b q hn ha hb hbn
           exact hG _ _ _ q w1 w2 w3)
    case h9 =>
      subst hgc1
      subst hgc2
      first | exact cdx hgn hg2 (by decide) | exact cdx (by omega) hg2.neg (by decide)
    case h10 =>
      subst hgc1
      subst hgc2
      first | exact cdx hgn hg2 (by decide) | exact cdx (by omega) hg2.neg (by decide)
    case h11 =>
      subst hgc1
      subst hgc2
      first | exact cdx hgn hg2 (by decide) | exact cdx (by omega) hg2.neg (by decide)
    case h12 =>
      subst hgc1
      subst hgc2
      first
        | (have q := lp (by assumption)
           obtain ⟨w1, w2, w3⟩ := lo_b q hn ha hb hbn
           exact hG _ _ _ q w1 w2 w3)
        | (have q := ln (by assumption)
           obtain ⟨w1, w2, w3⟩ := lo_b q hn ha hb hbn
           exact hG _ _ _ q w1 w2 w3)

/-! ### _law_times -/
abbrev s__law_times : Stmt := topS 38
theorem sc__law_times : FnScope ["kind", "p", "q", "square", "a", "b"] ["kind", "p", "q"] (defScope s__law_times) := ⟨rfl, rfl, rfl, by decide +kernel, rfl, by decide +kernel, by decide +kernel⟩
def F__law_times : FP := fun ds Q => ∃ k p q, ds = [.int k, wD p, wD q] ∧ (Kd k ∧ B2 1900 p ∧ B2 1900 q) ∧ Q (wD (mul k p q))
theorem ok__law_times {f : Addr} {fd : FuncData} (Fn : Fun K "_law_times" "_law_times" s__law_times f fd) (c__law_form : Cl P w K mg base 2 "_law_form" ["a", "b", "n"] (spP K F__law_form)) : FnOk P w K mg base CX0 3 f fd ["kind", "p", "q"] (spP K F__law_times) := by
  refine fn_P Fn sc__law_times (fun ds G h => ?_) (fun cdv A outer s H Q E ds G hr hF hQ => ?_)
  · obtain ⟨k, p, q, rfl, ⟨hk, hp, hq⟩, hG⟩ := h
    rfl
  · obtain ⟨k, p, q, rfl, ⟨hk, hp, hq⟩, hG⟩ := hF
    rcases hk with rfl | rfl | rfl
    ·
      obtain ⟨hp1, hp2⟩ := hp
      obtain ⟨hq1, hq2⟩ := hq
      refine (as_asg (i := 3) ?h1 (c_mul (c_ixTn (nm 1 rfl (c_int (And.intro (by decide) (c_ixTn (nm 2 rfl (c_int (And.intro (by decide) (And.intro ?h2 (as_asg (i := 4) ?h3 (c_add (c_mul (c_ixTn (nm 1 rfl (c_int (And.intro (by decide) (c_ixTn (nm 2 rfl (c_int (And.intro (by decide) (And.intro ?h4 (c_ixL (c_ofN (n_disp (ca_cons (c_mulS (c_int (nm 3 rfl (And.intro (.inl (And.intro (by decide) (by decide))) (ca_cons (c_mulS (c_int (nm 3 rfl (And.intro (.inl (And.intro (by decide) (by decide))) (ca_cons (nm 3 rfl (ca_nil (And.intro (And.intro rfl (Nat.le_of_ble_eq_true rfl)) (c_index (c_ofN (n_disp (ca_cons (c_int (ca_cons (c_int (ca_cons (c_int (ca_nil (And.intro (And.intro rfl (Nat.le_of_ble_eq_true rfl)) (And.intro ?h5 (ca_cons (nm 0 rfl (ca_nil ⟨[2, 3, 5], 0, rfl, rfl, (by decide), ⟨0, _, rfl, rfl, (as_asg (i := 5) ?h6 (c_add (c_add (c_mul (c_ixTn (nm 1 rfl (c_int (And.intro (by decide) (c_ixTn (nm 2 rfl (c_int (And.intro (by decide) (And.intro ?h7 (c_mul (c_ixTn (nm 1 rfl (c_int (And.intro (by decide) (c_ixTn (nm 2 rfl (c_int (And.intro (by decide) (And.intro ?h8 (c_if (t_eqI (nm 0 rfl (c_int (And.intro (fun b1 => (nm 3 rfl (as_ret hQ (c_call c__law_form (hr.mono (by decide)) (ca_cons (nm 4 rfl (ca_cons (nm 5 rfl (ca_cons (c_mul (c_ixTn (nm 1 rfl (c_int (And.intro (by decide) (c_ixTn (nm 2 rfl (c_int (And.intro (by decide) (And.intro ?h9 (ca_nil ⟨_, _, _, 3900, rfl, ?h10, fun x1 y1 z1 lo1 hx1 hy1 hz1 => And.intro rfl (And.intro rfl ?h11)⟩)))))))))))))))))))) (fun b1 => (c_int (as_ret hQ (c_call c__law_form (hr.mono (by decide)) (ca_cons (nm 4 rfl (ca_cons (nm 5 rfl (ca_cons (c_mul (c_ixTn (nm 1 rfl (c_int (And.intro (by decide) (c_ixTn (nm 2 rfl (c_int (And.intro (by decide) (And.intro ?h12 (ca_nil ⟨_, _, _, 3900, rfl, ?h13, fun x2 y2 z2 lo2 hx2 hy2 hz2 => And.intro rfl (And.intro rfl ?h14)⟩))))))))))))))))))))))))))))))))))))))))))))))))⟩⟩)))))))))))))))))))))))))))))))))))))))))))))))))))))))
      case h1 =>
        exact sc__law_times.nd
      case h2 =>
        exact cm (by walk_at "bd") (by walk_at "bd") (by decide)
      case h3 =>
        exact sc__law_times.nd
      case h4 =>
        exact cm (by walk_at "bd") (by walk_at "bd") (by decide)
      case h5 =>
        exact ⟨[2, 3, 5], rfl⟩
      case h6 =>
        exact sc__law_times.nd
      case h7 =>
        exact cm (by walk_at "bd") (by walk_at "bd") (by decide)
      case h8 =>
        exact cm (by walk_at "bd") (by walk_at "bd") (by decide)
      case h9 =>
        exact cm (by walk_at "bd") (by walk_at "bd") (by decide)
      case h10 =>
        refine ⟨by decide, Bd.mono (by walk_at "bd") (by decide), Bd.mono (by walk_at "bd") (by decide), Bd.mono (by walk_at "bd") (by decide), by decide⟩
      case h11 =>
        first
          | exact absurd rfl (show ¬ ((5 : Int) = 5) by assumption)
          | (obtain ⟨w1, w2, w3⟩ := lo1.one (show (1 : Int) * 1 = 1 by decide)
             subst w1 w2 w3
             refine Eq.mp (congrArg (fun z => G (wD z)) (?_ : mul _ p q = (_, _))) hG
             unfold mul
             first
               | (rw [if_neg (by decide)]; exact Prod.ext (by grind) (by grind))
               | (rw [if_pos rfl]; done)
               | (rw [if_pos rfl]; exact Prod.ext (by grind) (by grind)))
          | (obtain ⟨w1, w2, w3⟩ := lo2.one (show (1 : Int) * 1 = 1 by decide)
             subst w1 w2 w3
             refine Eq.mp (congrArg (fun z => G (wD z)) (?_ : mul _ p q = (_, _))) hG
             unfold mul
             first
               | (rw [if_neg (by decide)]; exact Prod.ext (by grind) (by grind))
               | (rw [if_pos rfl]; done)
               | (rw [if_pos rfl]; exact Prod.ext (by grind) (by grind)))
          | (obtain ⟨w1, w2, w3⟩ := lo3.one (show (1 : Int) * 1 = 1 by decide)
             subst w1 w2 w3
             refine Eq.mp (congrArg (fun z => G (wD z)) (?_ : mul _ p q = (_, _))) hG
             unfold mul
             first
               | (rw [if_neg (by decide)]; exact Prod.ext (by grind) (by grind))
               | (rw [if_pos rfl]; done)
               | (rw [if_pos rfl]; exact Prod.ext (by grind) (by grind)))
          | (obtain ⟨w1, w2, w3⟩ := lo4.one (show (1 : Int) * 1 = 1 by decide)
             subst w1 w2 w3
             refine Eq.mp (congrArg (fun z => G (wD z)) (?_ : mul _ p q = (_, _))) hG
             unfold mul
             first
               | (rw [if_neg (by decide)]; exact Prod.ext (by grind) (by grind))
               | (rw [if_pos rfl]; done)
               | (rw [if_pos rfl]; exact Prod.ext (by grind) (by grind)))
          | (obtain ⟨w1, w2, w3⟩ := lo5.one (show (1 : Int) * 1 = 1 by decide)
             subst w1 w2 w3
             refine Eq.mp (congrArg (fun z => G (wD z)) (?_ : mul _ p q = (_, _))) hG
             unfold mul
             first
               | (rw [if_neg (by decide)]; exact Prod.ext (by grind) (by grind))
               | (rw [if_pos rfl]; done)
               | (rw [if_pos rfl]; exact Prod.ext (by grind) (by grind)))
          | (obtain ⟨w1, w2, w3⟩ := lo6.one (show (1 : Int) * 1 = 1 by decide)
             subst w1 w2 w3
             refine Eq.mp (congrArg (fun z => G (wD z)) (?_ : mul _ p q = (_, _))) hG
             unfold mul
             first
               | (rw [if_neg (by decide)]; exact Prod.ext (by grind) (by grind))
               | (rw [if_pos rfl]; done)
               | (rw [if_pos rfl]; exact Prod.ext (by grind) (by grind)))
          | exact absurd rfl (show ¬ ((5 : Int) = 5) by assumption)
          | (exfalso; omega)
      case h12 =>
        exact cm (by walk_at "bd") (by walk_at "bd") (by decide)
      case h13 =>
        refine ⟨by decide, Bd.mono (by walk_at "bd") (by decide), Bd.mono (by walk_at "bd") (by decide), Bd.mono (by walk_at "bd") (by decide), by decide⟩
      case h14 =>
        first
          | exact absurd rfl (show ¬ ((5 : Int) = 5) by assumption)
          | (obtain ⟨w1, w2, w3⟩ := lo1.one (show (1 : Int) * 1 = 1 by decide)
             subst w1 w2 w3
             refine Eq.mp (congrArg (fun z => G (wD z)) (?_ : mul _ p q = (_, _))) hG
             unfold mul
             first
               | (rw [if_neg (by decide)]; exact Prod.ext (by grind) (by grind))
               | (rw [if_pos rfl]; done)
               | (rw [if_pos rfl]; exact Prod.ext (by grind) (by grind)))
          | (obtain ⟨w1, w2, w3⟩ := lo2.one (show (1 : Int) * 1 = 1 by decide)
             subst w1 w2 w3
             refine Eq.mp (congrArg (fun z => G (wD z)) (?_ : mul _ p q = (_, _))) hG
             unfold mul
             first
               | (rw [if_neg (by decide)]; exact Prod.ext (by grind) (by grind))
               | (rw [if_pos rfl]; done)
               | (rw [if_pos rfl]; exact Prod.ext (by grind) (by grind)))
          | (obtain ⟨w1, w2, w3⟩ := lo3.one (show (1 : Int) * 1 = 1 by decide)
             subst w1 w2 w3
             refine Eq.mp (congrArg (fun z => G (wD z)) (?_ : mul _ p q = (_, _))) hG
             unfold mul
             first
               | (rw [if_neg (by decide)]; exact Prod.ext (by grind) (by grind))
               | (rw [if_pos rfl]; done)
               | (rw [if_pos rfl]; exact Prod.ext (by grind) (by grind)))
          | (obtain ⟨w1, w2, w3⟩ := lo4.one (show (1 : Int) * 1 = 1 by decide)
             subst w1 w2 w3
             refine Eq.mp (congrArg (fun z => G (wD z)) (?_ : mul _ p q = (_, _))) hG
             unfold mul
             first
               | (rw [if_neg (by decide)]; exact Prod.ext (by grind) (by grind))
               | (rw [if_pos rfl]; done)
               | (rw [if_pos rfl]; exact Prod.ext (by grind) (by grind)))
          | (obtain ⟨w1, w2, w3⟩ := lo5.one (show (1 : Int) * 1 = 1 by decide)
             subst w1 w2 w3
             refine Eq.mp (congrArg (fun z => G (wD z)) (?_ : mul _ p q = (_, _))) hG
             unfold mul
             first
               | (rw [if_neg (by decide)]; exact Prod.ext (by grind) (by grind))
               | (rw [if_pos rfl]; done)
               | (rw [if_pos rfl]; exact Prod.ext (by grind) (by grind)))
          | (obtain ⟨w1, w2, w3⟩ := lo6.one (show (1 : Int) * 1 = 1 by decide)
             subst w1 w2 w3
             refine Eq.mp (congrArg (fun z => G (wD z)) (?_ : mul _ p q = (_, _))) hG
             unfold mul
             first
               | (rw [if_neg (by decide)]; exact Prod.ext (by grind) (by grind))
               | (rw [if_pos rfl]; done)
               | (rw [if_pos rfl]; exact Prod.ext (by grind) (by grind)))
          | exact absurd rfl (show ¬ ((5 : Int) = 5) by assumption)
          | (exfalso; omega)
    ·
      obtain ⟨hp1, hp2⟩ := hp
      obtain ⟨hq1, hq2⟩ := hq
      refine (as_asg (i := 3) ?h1001 (c_mul (c_ixTn (nm 1 rfl (c_int (And.intro (by decide) (c_ixTn (nm 2 rfl (c_int (And.intro (by decide) (And.intro ?h1002 (as_asg (i := 4) ?h1003 (c_add (c_mul (c_ixTn (nm 1 rfl (c_int (And.intro (by decide) (c_ixTn (nm 2 rfl (c_int (And.intro (by decide) (And.intro ?h1004 (c_ixL (c_ofN (n_disp (ca_cons (c_mulS (c_int (nm 3 rfl (And.intro (.inl (And.intro (by decide) (by decide))) (ca_cons (c_mulS (c_int (nm 3 rfl (And.intro (.inl (And.intro (by decide) (by decide))) (ca_cons (nm 3 rfl (ca_nil (And.intro (And.intro rfl (Nat.le_of_ble_eq_true rfl)) (c_index (c_ofN (n_disp (ca_cons (c_int (ca_cons (c_int (ca_cons (c_int (ca_nil (And.intro (And.intro rfl (Nat.le_of_ble_eq_true rfl)) (And.intro ?h1005 (ca_cons (nm 0 rfl (ca_nil ⟨[2, 3, 5], 1, rfl, rfl, (by decide), ⟨1, _, rfl, rfl, (as_asg (i := 5) ?h1006 (c_add (c_add (c_mul (c_ixTn (nm 1 rfl (c_int (And.intro (by decide) (c_ixTn (nm 2 rfl (c_int (And.intro (by decide) (And.intro ?h1007 (c_mul (c_ixTn (nm 1 rfl (c_int (And.intro (by decide) (c_ixTn (nm 2 rfl (c_int (And.intro (by decide) (And.intro ?h1008 (c_if (t_eqI (nm 0 rfl (c_int (And.intro (fun b1 => (nm 3 rfl (as_ret hQ (c_call c__law_form (hr.mono (by decide)) (ca_cons (nm 4 rfl (ca_cons (nm 5 rfl (ca_cons (c_mul (c_ixTn (nm 1 rfl (c_int (And.intro (by decide) (c_ixTn (nm 2 rfl (c_int (And.intro (by decide) (And.intro ?h1009 (ca_nil ⟨_, _, _, 3900, rfl, ?h1010, fun x3 y3 z3 lo3 hx3 hy3 hz3 => And.intro rfl (And.intro rfl ?h1011)⟩)))))))))))))))))))) (fun b1 => (c_int (as_ret hQ (c_call c__law_form (hr.mono (by decide)) (ca_cons (nm 4 rfl (ca_cons (nm 5 rfl (ca_cons (c_mul (c_ixTn (nm 1 rfl (c_int (And.intro (by decide) (c_ixTn (nm 2 rfl (c_int (And.intro (by decide) (And.intro ?h1012 (ca_nil ⟨_, _, _, 3900, rfl, ?h1013, fun x4 y4 z4 lo4 hx4 hy4 hz4 => And.intro rfl (And.intro rfl ?h1014)⟩))))))))))))))))))))))))))))))))))))))))))))))))⟩⟩)))))))))))))))))))))))))))))))))))))))))))))))))))))))
      case h1001 =>
        exact sc__law_times.nd
      case h1002 =>
        exact cm (by walk_at "bd") (by walk_at "bd") (by decide)
      case h1003 =>
        exact sc__law_times.nd
      case h1004 =>
        exact cm (by walk_at "bd") (by walk_at "bd") (by decide)
      case h1005 =>
        exact ⟨[2, 3, 5], rfl⟩
      case h1006 =>
        exact sc__law_times.nd
      case h1007 =>
        exact cm (by walk_at "bd") (by walk_at "bd") (by decide)
      case h1008 =>
        exact cm (by walk_at "bd") (by walk_at "bd") (by decide)
      case h1009 =>
        exact cm (by walk_at "bd") (by walk_at "bd") (by decide)
      case h1010 =>
        refine ⟨by decide, Bd.mono (by walk_at "bd") (by decide), Bd.mono (by walk_at "bd") (by decide), Bd.mono (by walk_at "bd") (by decide), by decide⟩
      case h1011 =>
        first
          | exact absurd rfl (show ¬ ((5 : Int) = 5) by assumption)
          | (obtain ⟨w1, w2, w3⟩ := lo1.one (show (1 : Int) * 1 = 1 by decide)
             subst w1 w2 w3
             refine Eq.mp (congrArg (fun z => G (wD z)) (?_ : mul _ p q = (_, _))) hG
             unfold mul
             first
               | (rw [if_neg (by decide)]; exact Prod.ext (by grind) (by grind))
               | (rw [if_pos rfl]; done)
               | (rw [if_pos rfl]; exact Prod.ext (by grind) (by grind)))
          | (obtain ⟨w1, w2, w3⟩ := lo2.one (show (1 : Int) * 1 = 1 by decide)
             subst w1 w2 w3
             refine Eq.mp (congrArg (fun z => G (wD z)) (?_ : mul _ p q = (_, _))) hG
             unfold mul
             first
               | (rw [if_neg (by decide)]; exact Prod.ext (by grind) (by grind))
               | (rw [if_pos rfl]; done)
               | (rw [if_pos rfl]; exact Prod.ext (by grind) (by grind)))
          | (obtain ⟨w1, w2, w3⟩ := lo3.one (show (1 : Int) * 1 = 1 by decide)
             subst w1 w2 w3
             refine Eq.mp (congrArg (fun z => G (wD z)) (?_ : mul _ p q = (_, _))) hG
             unfold mul
             first
               | (rw [if_neg (by decide)]; exact Prod.ext (by grind) (by grind))
               | (rw [if_pos rfl]; done)
               | (rw [if_pos rfl]; exact Prod.ext (by grind) (by grind)))
          | (obtain ⟨w1, w2, w3⟩ := lo4.one (show (1 : Int) * 1 = 1 by decide)
             subst w1 w2 w3
             refine Eq.mp (congrArg (fun z => G (wD z)) (?_ : mul _ p q = (_, _))) hG
             unfold mul
             first
               | (rw [if_neg (by decide)]; exact Prod.ext (by grind) (by grind))
               | (rw [if_pos rfl]; done)
               | (rw [if_pos rfl]; exact Prod.ext (by grind) (by grind)))
          | (obtain ⟨w1, w2, w3⟩ := lo5.one (show (1 : Int) * 1 = 1 by decide)
             subst w1 w2 w3
             refine Eq.mp (congrArg (fun z => G (wD z)) (?_ : mul _ p q = (_, _))) hG
             unfold mul
             first
               | (rw [if_neg (by decide)]; exact Prod.ext (by grind) (by grind))
               | (rw [if_pos rfl]; done)
               | (rw [if_pos rfl]; exact Prod.ext (by grind) (by grind)))
          | (obtain ⟨w1, w2, w3⟩ := lo6.one (show (1 : Int) * 1 = 1 by decide)
             subst w1 w2 w3
             refine Eq.mp (congrArg (fun z => G (wD z)) (?_ : mul _ p q = (_, _))) hG
             unfold mul
             first
               | (rw [if_neg (by decide)]; exact Prod.ext (by grind) (by grind))
               | (rw [if_pos rfl]; done)
               | (rw [if_pos rfl]; exact Prod.ext (by grind) (by grind)))
          | exact absurd rfl (show ¬ ((5 : Int) = 5) by assumption)
          | (exfalso; omega)
      case h1012 =>
        exact cm (by walk_at "bd") (by walk_at "bd") (by decide)
      case h1013 =>
        refine ⟨by decide, Bd.mono (by walk_at "bd") (by decide), Bd.mono (by walk_at "bd") (by decide), Bd.mono (by walk_at "bd") (by decide), by decide⟩
      case h1014 =>
        first
          | exact absurd rfl (show ¬ ((5 : Int) = 5) by assumption)
          | (obtain ⟨w1, w2, w3⟩ := lo1.one (show (1 : Int) * 1 = 1 by decide)
             subst w1 w2 w3
             refine Eq.mp (congrArg (fun z => G (wD z)) (?_ : mul _ p q = (_, _))) hG
             unfold mul
             first
               | (rw [if_neg (by decide)]; exact Prod.ext (by grind) (by grind))
               | (rw [if_pos rfl]; done)
               | (rw [if_pos rfl]; exact Prod.ext (by grind) (by grind)))
          | (obtain ⟨w1, w2, w3⟩ := lo2.one (show (1 : Int) * 1 = 1 by decide)
             subst w1 w2 w3
             refine Eq.mp (congrArg (fun z => G (wD z)) (?_ : mul _ p q = (_, _))) hG
             unfold mul
             first
               | (rw [if_neg (by decide)]; exact Prod.ext (by grind) (by grind))
               | (rw [if_pos rfl]; done)
               | (rw [if_pos rfl]; exact Prod.ext (by grind) (by grind)))
          | (obtain ⟨w1, w2, w3⟩ := lo3.one (show (1 : Int) * 1 = 1 by decide)
             subst w1 w2 w3
             refine Eq.mp (congrArg (fun z => G (wD z)) (?_ : mul _ p q = (_, _))) hG
             unfold mul
             first
               | (rw [if_neg (by decide)]; exact Prod.ext (by grind) (by grind))
               | (rw [if_pos rfl]; done)
               | (rw [if_pos rfl]; exact Prod.ext (by grind) (by grind)))
          | (obtain ⟨w1, w2, w3⟩ := lo4.one (show (1 : Int) * 1 = 1 by decide)
             subst w1 w2 w3
             refine Eq.mp (congrArg (fun z => G (wD z)) (?_ : mul _ p q = (_, _))) hG
             unfold mul
             first
               | (rw [if_neg (by decide)]; exact Prod.ext (by grind) (by grind))
               | (rw [if_pos rfl]; done)
               | (rw [if_pos rfl]; exact Prod.ext (by grind) (by grind)))
          | (obtain ⟨w1, w2, w3⟩ := lo5.one (show (1 : Int) * 1 = 1 by decide)
             subst w1 w2 w3
             refine Eq.mp (congrArg (fun z => G (wD z)) (?_ : mul _ p q = (_, _))) hG
             unfold mul
             first
               | (rw [if_neg (by decide)]; exact Prod.ext (by grind) (by grind))
               | (rw [if_pos rfl]; done)
               | (rw [if_pos rfl]; exact Prod.ext (by grind) (by grind)))
          | (obtain ⟨w1, w2, w3⟩ := lo6.one (show (1 : Int) * 1 = 1 by decide)
             subst w1 w2 w3
             refine Eq.mp (congrArg (fun z => G (wD z)) (?_ : mul _ p q = (_, _))) hG
             unfold mul
             first
               | (rw [if_neg (by decide)]; exact Prod.ext (by grind) (by grind))
               | (rw [if_pos rfl]; done)
               | (rw [if_pos rfl]; exact Prod.ext (by grind) (by grind)))
          | exact absurd rfl (show ¬ ((5 : Int) = 5) by assumption)
          | (exfalso; omega)
    ·
      obtain ⟨hp1, hp2⟩ := hp
      obtain ⟨hq1, hq2⟩ := hq
      refine (as_asg (i := 3) ?h2001 (c_mul (c_ixTn (nm 1 rfl (c_int (And.intro (by decide) (c_ixTn (nm 2 rfl (c_int (And.intro (by decide) (And.intro ?h2002 (as_asg (i := 4) ?h2003 (c_add (c_mul (c_ixTn (nm 1 rfl (c_int (And.intro (by decide) (c_ixTn (nm 2 rfl (c_int (And.intro (by decide) (And.intro ?h2004 (c_ixL (c_ofN (n_disp (ca_cons (c_mulS (c_int (nm 3 rfl (And.intro (.inl (And.intro (by decide) (by decide))) (ca_cons (c_mulS (c_int (nm 3 rfl (And.intro (.inl (And.intro (by decide) (by decide))) (ca_cons (nm 3 rfl (ca_nil (And.intro (And.intro rfl (Nat.le_of_ble_eq_true rfl)) (c_index (c_ofN (n_disp (ca_cons (c_int (ca_cons (c_int (ca_cons (c_int (ca_nil (And.intro (And.intro rfl (Nat.le_of_ble_eq_true rfl)) (And.intro ?h2005 (ca_cons (nm 0 rfl (ca_nil ⟨[2, 3, 5], 2, rfl, rfl, (by decide), ⟨2, _, rfl, rfl, (as_asg (i := 5) ?h2006 (c_add (c_add (c_mul (c_ixTn (nm 1 rfl (c_int (And.intro (by decide) (c_ixTn (nm 2 rfl (c_int (And.intro (by decide) (And.intro ?h2007 (c_mul (c_ixTn (nm 1 rfl (c_int (And.intro (by decide) (c_ixTn (nm 2 rfl (c_int (And.intro (by decide) (And.intro ?h2008 (c_if (t_eqI (nm 0 rfl (c_int (And.intro (fun b1 => (nm 3 rfl (as_ret hQ (c_call c__law_form (hr.mono (by decide)) (ca_cons (nm 4 rfl (ca_cons (nm 5 rfl (ca_cons (c_mul (c_ixTn (nm 1 rfl (c_int (And.intro (by decide) (c_ixTn (nm 2 rfl (c_int (And.intro (by decide) (And.intro ?h2009 (ca_nil ⟨_, _, _, 3900, rfl, ?h2010, fun x5 y5 z5 lo5 hx5 hy5 hz5 => And.intro rfl (And.intro rfl ?h2011)⟩)))))))))))))))))))) (fun b1 => (c_int (as_ret hQ (c_call c__law_form (hr.mono (by decide)) (ca_cons (nm 4 rfl (ca_cons (nm 5 rfl (ca_cons (c_mul (c_ixTn (nm 1 rfl (c_int (And.intro (by decide) (c_ixTn (nm 2 rfl (c_int (And.intro (by decide) (And.intro ?h2012 (ca_nil ⟨_, _, _, 3900, rfl, ?h2013, fun x6 y6 z6 lo6 hx6 hy6 hz6 => And.intro rfl (And.intro rfl ?h2014)⟩))))))))))))))))))))))))))))))))))))))))))))))))⟩⟩)))))))))))))))))))))))))))))))))))))))))))))))))))))))
      case h2001 =>
        exact sc__law_times.nd
      case h2002 =>
        exact cm (by walk_at "bd") (by walk_at "bd") (by decide)
      case h2003 =>
        exact sc__law_times.nd
      case h2004 =>
        exact cm (by walk_at "bd") (by walk_at "bd") (by decide)
      case h2005 =>
        exact ⟨[2, 3, 5], rfl⟩
      case h2006 =>
        exact sc__law_times.nd
      case h2007 =>
        exact cm (by walk_at "bd") (by walk_at "bd") (by decide)
      case h2008 =>
        exact cm (by walk_at "bd") (by walk_at "bd") (by decide)
      case h2009 =>
        exact cm (by walk_at "bd") (by walk_at "bd") (by decide)
      case h2010 =>
        refine ⟨by decide, Bd.mono (by walk_at "bd") (by decide), Bd.mono (by walk_at "bd") (by decide), Bd.mono (by walk_at "bd") (by decide), by decide⟩
      case h2011 =>
        first
          | exact absurd rfl (show ¬ ((5 : Int) = 5) by assumption)
          | (obtain ⟨w1, w2, w3⟩ := lo1.one (show (1 : Int) * 1 = 1 by decide)
             subst w1 w2 w3
             refine Eq.mp (congrArg (fun z => G (wD z)) (?_ : mul _ p q = (_, _))) hG
             unfold mul
             first
               | (rw [if_neg (by decide)]; exact Prod.ext (by grind) (by grind))
               | (rw [if_pos rfl]; done)
               | (rw [if_pos rfl]; exact Prod.ext (by grind) (by grind)))
          | (obtain ⟨w1, w2, w3⟩ := lo2.one (show (1 : Int) * 1 = 1 by decide)
             subst w1 w2 w3
             refine Eq.mp (congrArg (fun z => G (wD z)) (?_ : mul _ p q = (_, _))) hG
             unfold mul
             first
               | (rw [if_neg (by decide)]; exact Prod.ext (by grind) (by grind))
               | (rw [if_pos rfl]; done)
               | (rw [if_pos rfl]; exact Prod.ext (by grind) (by grind)))
          | (obtain ⟨w1, w2, w3⟩ := lo3.one (show (1 : Int) * 1 = 1 by decide)
             subst w1 w2 w3
             refine Eq.mp (congrArg (fun z => G (wD z)) (?_ : mul _ p q = (_, _))) hG
             unfold mul
             first
               | (rw [if_neg (by decide)]; exact Prod.ext (by grind) (by grind))
               | (rw [if_pos rfl]; done)
               | (rw [if_pos rfl]; exact Prod.ext (by grind) (by grind)))
          | (obtain ⟨w1, w2, w3⟩ := lo4.one (show (1 : Int) * 1 = 1 by decide)
             subst w1 w2 w3
             refine Eq.mp (congrArg (fun z => G (wD z)) (?_ : mul _ p q = (_, _))) hG
             unfold mul
             first
               | (rw [if_neg (by decide)]; exact Prod.ext (by grind) (by grind))
               | (rw [if_pos rfl]; done)
               | (rw [if_pos rfl]; exact Prod.ext (by grind) (by grind)))
          | (obtain ⟨w1, w2, w3⟩ := lo5.one (show (1 : Int) * 1 = 1 by decide)
             subst w1 w2 w3
             refine Eq.mp (congrArg (fun z => G (wD z)) (?_ : mul _ p q = (_, _))) hG
             unfold mul
             first
               | (rw [if_neg (by decide)]; exact Prod.ext (by grind) (by grind))
               | (rw [if_pos rfl]; done)
               | (rw [if_pos rfl]; exact Prod.ext (by grind) (by grind)))
          | (obtain ⟨w1, w2, w3⟩ := lo6.one (show (1 : Int) * 1 = 1 by decide)
             subst w1 w2 w3
             refine Eq.mp (congrArg (fun z => G (wD z)) (?_ : mul _ p q = (_, _))) hG
             unfold mul
             first
               | (rw [if_neg (by decide)]; exact Prod.ext (by grind) (by grind))
               | (rw [if_pos rfl]; done)
               | (rw [if_pos rfl]; exact Prod.ext (by grind) (by grind)))
          | exact absurd rfl (show ¬ ((5 : Int) = 5) by assumption)
          | (exfalso; omega)
      case h2012 =>
        exact cm (by walk_at "bd") (by walk_at "bd") (by decide)
      case h2013 =>
        refine ⟨by decide, Bd.mono (by walk_at "bd") (by decide), Bd.mono (by walk_at "bd") (by decide), Bd.mono (by walk_at "bd") (by decide), by decide⟩
      case h2014 =>
        first
          | exact absurd rfl (show ¬ ((5 : Int) = 5) by assumption)
          | (obtain ⟨w1, w2, w3⟩ := lo1.one (show (1 : Int) * 1 = 1 by decide)
             subst w1 w2 w3
             refine Eq.mp (congrArg (fun z => G (wD z)) (?_ : mul _ p q = (_, _))) hG
             unfold mul
             first
               | (rw [if_neg (by decide)]; exact Prod.ext (by grind) (by grind))
               | (rw [if_pos rfl]; done)
               | (rw [if_pos rfl]; exact Prod.ext (by grind) (by grind)))
          | (obtain ⟨w1, w2, w3⟩ := lo2.one (show (1 : Int) * 1 = 1 by decide)
             subst w1 w2 w3
             refine Eq.mp (congrArg (fun z => G (wD z)) (?_ : mul _ p q = (_, _))) hG
             unfold mul
             first
               | (rw [if_neg (by decide)]; exact Prod.ext (by grind) (by grind))
               | (rw [if_pos rfl]; done)
               | (rw [if_pos rfl]; exact Prod.ext (by grind) (by grind)))
          | (obtain ⟨w1, w2, w3⟩ := lo3.one (show (1 : Int) * 1 = 1 by decide)
             subst w1 w2 w3
             refine Eq.mp (congrArg (fun z => G (wD z)) (?_ : mul _ p q = (_, _))) hG
             unfold mul
             first
               | (rw [if_neg (by decide)]; exact Prod.ext (by grind) (by grind))
               | (rw [if_pos rfl]; done)
               | (rw [if_pos rfl]; exact Prod.ext (by grind) (by grind)))
          | (obtain ⟨w1, w2, w3⟩ := lo4.one (show (1 : Int) * 1 = 1 by decide)
             subst w1 w2 w3
             refine Eq.mp (congrArg (fun z => G (wD z)) (?_ : mul _ p q = (_, _))) hG
             unfold mul
             first
               | (rw [if_neg (by decide)]; exact Prod.ext (by grind) (by grind))
               | (rw [if_pos rfl]; done)
               | (rw [if_pos rfl]; exact Prod.ext (by grind) (by grind)))
          | (obtain ⟨w1, w2, w3⟩ := lo5.one (show (1 : Int) * 1 = 1 by decide)
             subst w1 w2 w3
             refine Eq.mp (congrArg (fun z => G (wD z)) (?_ : mul _ p q = (_, _))) hG
             unfold mul
             first
               | (rw [if_neg (by decide)]; exact Prod.ext (by grind) (by grind))
               | (rw [if_pos rfl]; done)
               | (rw [if_pos rfl]; exact Prod.ext (by grind) (by grind)))
          | (obtain ⟨w1, w2, w3⟩ := lo6.one (show (1 : Int) * 1 = 1 by decide)
             subst w1 w2 w3
             refine Eq.mp (congrArg (fun z => G (wD z)) (?_ : mul _ p q = (_, _))) hG
             unfold mul
             first
               | (rw [if_neg (by decide)]; exact Prod.ext (by grind) (by grind))
               | (rw [if_pos rfl]; done)
               | (rw [if_pos rfl]; exact Prod.ext (by grind) (by grind)))
          | exact absurd rfl (show ¬ ((5 : Int) = 5) by assumption)
          | (exfalso; omega)

end
end Y75

set_option Elab.async false
set_option linter.all false
set_option maxRecDepth 100000
set_option maxHeartbeats 8000000
namespace Y75
open PySem PySem.Spec PyProof.Rows L2 Evl Wz
open Y02 (Kd)
local macro_rules | `(tactic| walk_at "bd") => `(tactic| (repeat (first | assumption | apply Bd.mul | apply Bd.add | apply Bd.sub | apply Bd.neg | exact Bd.z | exact Bd.of _)))
local macro_rules | `(tactic| walk_at "bm") => `(tactic| (first | assumption | exact Bd.mono (by walk_at "bd") (by decide)))
local macro_rules | `(tactic| walk_at "b2") => `(tactic| (repeat (first | assumption | apply And.intro | walk_at "bm" | decide | omega)))

/-- what is compared: of a depth of at most n -/
def Sh : Nat → Dat → Prop
  | 0, d => ∃ i, d = .bl i
  | n + 1, d => (∃ i, d = .bl i) ∨ ∃ xs : List Dat, (d = .tup xs ∨ d = .lst xs) ∧ xs.length ≤ 1000 ∧ ∀ (i : Nat) (e : Dat), xs[i]? = some e → Sh n e
def F__law_same (n : Nat) : FP := fun ds Q => ∃ d, ds = [d, d] ∧ Sh n d ∧ Q (.bl true)
theorem rd_sh {n : Nat} {d : Dat} {k : Cs} (h : Sh n d) : rd k d = d := by
  cases n with
  | zero =>
    rw [Sh] at h
    rcases h with ⟨i, rfl⟩
    rfl
  | succ n =>
    rw [Sh] at h
    rcases h with ⟨i, rfl⟩ | ⟨xs, rfl | rfl, _⟩ <;> rfl
theorem all_rep (n : Nat) : (List.replicate n true).all id = true := by
  induction n with
  | zero => rfl
  | succ n ih => rw [List.replicate_succ, List.all_cons, ih]; rfl
theorem sh_b2 {a b : Bool} : Sh 1 (.lst [.bl a, .bl b]) := by
  rw [Sh]
  refine .inr ⟨_, .inr rfl, Nat.le_of_ble_eq_true rfl, fun i e h => ?_⟩
  rw [Sh]
  match i, h with
  | 0, h => exact ⟨a, (Option.some.inj h).symm⟩
  | 1, h => exact ⟨b, (Option.some.inj h).symm⟩
set_option exponentiation.threshold 1000000
section
variable {P : Program} {w : World} {K : PySem.W.Frag} {mg : Str → Option Value} {base : Heap} {C : Addr}

/-! ### _law_mate -/
abbrev s__law_mate : Stmt := topS 39
theorem sc__law_mate : FnScope ["kind", "p"] ["kind", "p"] (defScope s__law_mate) := ⟨rfl, rfl, rfl, by decide +kernel, rfl, by decide +kernel, by decide +kernel⟩
def F__law_mate : FP := fun ds Q => ∃ k p, ds = [.int k, wD p] ∧ Q (wD (mate k p))
theorem ok__law_mate {f : Addr} {fd : FuncData} (Fn : Fun K "_law_mate" "_law_mate" s__law_mate f fd)  : FnOk P w K mg base CX0 1 f fd ["kind", "p"] (spP K F__law_mate) := by
  refine fn_P Fn sc__law_mate (fun ds G h => ?_) (fun cdv A outer s H Q E ds G hr hF hQ => ?_)
  · obtain ⟨k, p, rfl, hG⟩ := h
    rfl
  · obtain ⟨k, p, rfl, hG⟩ := hF
    refine (as_ret hQ (c_if (t_eqI (nm 0 rfl (c_int (And.intro (fun b1 => (c_tup (ca_cons (c_add (c_ixTn (nm 1 rfl (c_int (And.intro (by decide) (c_ixTn (nm 1 rfl (c_int (And.intro (by decide) (ca_cons (c_neg (c_ixTn (nm 1 rfl (c_int (And.intro (by decide) (ca_cons (c_ixTn (nm 1 rfl (c_int (And.intro (by decide) (ca_nil (And.intro (And.intro rfl (Nat.le_of_ble_eq_true rfl)) (And.intro rfl ?h1)))))))))))))))))))))))))) (fun b1 => (c_tup (ca_cons (c_ixTn (nm 1 rfl (c_int (And.intro (by decide) (ca_cons (c_neg (c_ixTn (nm 1 rfl (c_int (And.intro (by decide) (ca_cons (c_ixTn (nm 1 rfl (c_int (And.intro (by decide) (ca_nil (And.intro (And.intro rfl (Nat.le_of_ble_eq_true rfl)) (And.intro rfl ?h2)))))))))))))))))))))))))))
    case h1 =>
      first | (rw [show mate k p = _ from if_pos b1] at hG; exact hG) | (rw [show mate k p = _ from if_neg b1] at hG; exact hG)
    case h2 =>
      first | (rw [show mate k p = _ from if_pos b1] at hG; exact hG) | (rw [show mate k p = _ from if_neg b1] at hG; exact hG)

/-! ### _law_by -/
abbrev s__law_by : Stmt := topS 40
theorem sc__law_by : FnScope ["kind", "p", "q", "other", "below", "above"] ["kind", "p", "q"] (defScope s__law_by) := ⟨rfl, rfl, rfl, by decide +kernel, rfl, by decide +kernel, by decide +kernel⟩
def F__law_by : FP := fun ds Q => ∃ k p q, ds = [.int k, wD p, wD q] ∧ (Kd k ∧ B2 500 p ∧ B2 500 q ∧ q ≠ (0, 0)) ∧ ∀ x y z, LO ((mul k p (mate k q)).1 * 1) ((mul k p (mate k q)).2 * 1) (1 * nrm k q) x y z → Bd 2000 x → Bd 2000 y → Bd 2000 z → Q (nD x y z)
theorem ok__law_by {f : Addr} {fd : FuncData} (Fn : Fun K "_law_by" "_law_by" s__law_by f fd) (c__law_mate : Cl P w K mg base 1 "_law_mate" ["kind", "p"] (spP K F__law_mate)) (c__law_times : Cl P w K mg base 3 "_law_times" ["kind", "p", "q"] (spP K F__law_times)) (c__law_form : Cl P w K mg base 2 "_law_form" ["a", "b", "n"] (spP K F__law_form)) : FnOk P w K mg base CX0 4 f fd ["kind", "p", "q"] (spP K F__law_by) := by
  refine fn_P Fn sc__law_by (fun ds G h => ?_) (fun cdv A outer s H Q E ds G hr hF hQ => ?_)
  · obtain ⟨k, p, q, rfl, ⟨hk, hp, hq, hq0⟩, hG⟩ := h
    rfl
  · obtain ⟨k, p, q, rfl, ⟨hk, hp, hq, hq0⟩, hG⟩ := hF
    have hn0 := nrm_ne hk hq0
    have hm := mate_b (k := k) hq
    obtain ⟨t1, t2⟩ := mul_b hk hp hm
    obtain ⟨u1, u2⟩ := mul_b hk hq hm
    have en : mul k q (mate k q) = (nrm k q, 0) := mul_mate k q
    have hnb := nrm_b hk hq
    refine (as_asg (i := 3) ?h1 (c_call c__law_mate (hr.mono (by decide)) (ca_cons (nm 0 rfl (ca_cons (nm 2 rfl (ca_nil ⟨_, q, rfl, And.intro rfl (as_asg (i := 4) ?h2 (c_call c__law_times (hr.mono (by decide)) (ca_cons (nm 0 rfl (ca_cons (nm 2 rfl (ca_cons (nm 3 rfl (ca_nil ⟨_, q, mate k q, rfl, ⟨hk, hq.mono (by decide), hm.mono (by decide)⟩, And.intro rfl (as_asg (i := 5) ?h3 (c_call c__law_times (hr.mono (by decide)) (ca_cons (nm 0 rfl (ca_cons (nm 1 rfl (ca_cons (nm 3 rfl (ca_nil ⟨_, p, mate k q, rfl, ⟨hk, hp.mono (by decide), hm.mono (by decide)⟩, And.intro rfl (as_ret hQ (c_call c__law_form (hr.mono (by decide)) (ca_cons (c_mul (c_ixTn (nm 5 rfl (c_int (And.intro (by decide) (c_ixTn (nm 4 rfl (c_int (And.intro (by decide) (And.intro ?h4 (ca_cons (c_mul (c_ixTn (nm 5 rfl (c_int (And.intro (by decide) (c_ixTn (nm 4 rfl (c_int (And.intro (by decide) (And.intro ?h5 (ca_cons (c_mul (c_ixTn (nm 5 rfl (c_int (And.intro (by decide) (c_ixTn (nm 4 rfl (c_int (And.intro (by decide) (And.intro ?h6 (ca_nil ⟨_, _, _, 2000, rfl, ?h7, fun x1 y1 z1 lo1 hx1 hy1 hz1 => And.intro rfl (And.intro rfl ?h8)⟩))))))))))))))))))))))))))))))))))))⟩)))))))))⟩)))))))))⟩)))))))
    case h1 =>
      exact sc__law_by.nd
    case h2 =>
      exact sc__law_by.nd
    case h3 =>
      exact sc__law_by.nd
    case h4 =>
      first | exact cm (t1.mono (show 1005 ≤ 2000 by decide)) (oneB (by decide)) (by decide) | exact cm (t2.mono (show 1005 ≤ 2000 by decide)) (oneB (by decide)) (by decide) | exact cm (oneB (n := 1) (by decide)) (u1.mono (show 1005 ≤ 2000 by decide)) (by decide) | exact cm t1 (oneB (n := 1) (by decide)) (by decide) | exact cm t2 (oneB (n := 1) (by decide)) (by decide) | exact cm (oneB (n := 1) (by decide)) u1 (by decide)
    case h5 =>
      first | exact cm (t1.mono (show 1005 ≤ 2000 by decide)) (oneB (by decide)) (by decide) | exact cm (t2.mono (show 1005 ≤ 2000 by decide)) (oneB (by decide)) (by decide) | exact cm (oneB (n := 1) (by decide)) (u1.mono (show 1005 ≤ 2000 by decide)) (by decide) | exact cm t1 (oneB (n := 1) (by decide)) (by decide) | exact cm t2 (oneB (n := 1) (by decide)) (by decide) | exact cm (oneB (n := 1) (by decide)) u1 (by decide)
    case h6 =>
      first | exact cm (t1.mono (show 1005 ≤ 2000 by decide)) (oneB (by decide)) (by decide) | exact cm (t2.mono (show 1005 ≤ 2000 by decide)) (oneB (by decide)) (by decide) | exact cm (oneB (n := 1) (by decide)) (u1.mono (show 1005 ≤ 2000 by decide)) (by decide) | exact cm t1 (oneB (n := 1) (by decide)) (by decide) | exact cm t2 (oneB (n := 1) (by decide)) (by decide) | exact cm (oneB (n := 1) (by decide)) u1 (by decide)
    case h7 =>
      rw [en]
      exact ⟨by rw [Int.one_mul]; exact hn0, one_bm (t1.mono (by decide)), one_bm (t2.mono (by decide)), one_mb (hnb.mono (by decide)), by decide⟩
    case h8 =>
      rw [en] at lo1
      exact hG _ _ _ lo1 hx1 hy1 hz1

/-! ### _law_same -/
abbrev s__law_same : Stmt := topS 41
theorem sc__law_same : FnScope ["told", "due", "kinds", "k"] ["told", "due"] (defScope s__law_same) := ⟨rfl, rfl, rfl, by decide +kernel, rfl, by decide +kernel, by decide +kernel⟩
theorem al_flat {f : Addr} {cdv : Value} {A : Around} {outer : List Env} {s : Shared} {H : Hp} {Q : VK} {E : XK} {d : Dat} {G : Dat → Prop} {j : Nat} (m_isinstance : mg "isinstance" = none) (m_bool : mg "bool" = none) (m_int : mg "int" = none) (m_str : mg "str" = none) (m_tuple : mg "tuple" = none) (m_list : mg "list" = none) (m_len : mg "len" = none) (m_range : mg "range" = none) (m_all : mg "all" = none) (hr : Room j (A.deeper (envOfC "_law_same" (defScope s__law_same) s.heap.objs.size f cdv))) (hd : Sh 0 d) (hG : G (.bl true)) (hQ : RetC K [] H Q (fun d _ => G d)) :
    AS (cxOf CX0 P w K mg base ["told", "due", "kinds", "k"] "_law_same" (defScope s__law_same) f cdv A outer s H E).nox [] [] (defBody s__law_same) { nx := fun _ H' => Q .non H', rt := Q } [some d, some d, none, none] [] H := by
  unfold Sh at hd
  rcases hd with ⟨i, rfl⟩
  refine (as_ifn (t_isN (nm 1 rfl (as_ifn (t_val (c_isi3 (U1 := "bool") (U2 := "int") (U3 := "str") m_isinstance m_bool (by decide +kernel) m_int (by decide +kernel) m_str (by decide +kernel) (nm 1 rfl ⟨_, true, true, false, rfl, (by decide +kernel), (by decide +kernel), (by decide +kernel), (as_asg (i := 2) ?h101 (c_ofN (n_disp (ca_cons (c_eqD hr.units (c_isi (U := "bool") m_isinstance (ca_cons (nm 0 rfl (ca_cons (c_ty (T := "bool") m_bool (by decide +kernel) (ca_nil ⟨rfl, _, true, rfl, (by decide +kernel), (c_isi (U := "bool") m_isinstance (ca_cons (nm 1 rfl (ca_cons (c_ty (T := "bool") m_bool (by decide +kernel) (ca_nil ⟨rfl, _, true, rfl, (by decide +kernel), (And.intro ?h102 (ca_cons (c_eqD hr.units (c_isi (U := "str") m_isinstance (ca_cons (nm 0 rfl (ca_cons (c_ty (T := "str") m_str (by decide +kernel) (ca_nil ⟨rfl, _, false, rfl, (by decide +kernel), (c_isi (U := "str") m_isinstance (ca_cons (nm 1 rfl (ca_cons (c_ty (T := "str") m_str (by decide +kernel) (ca_nil ⟨rfl, _, false, rfl, (by decide +kernel), (And.intro ?h103 (ca_nil (And.intro (And.intro rfl (Nat.le_of_ble_eq_true rfl)) (as_ret hQ (c_and (c_isi3 (U1 := "bool") (U2 := "int") (U3 := "str") m_isinstance m_bool (by decide +kernel) m_int (by decide +kernel) m_str (by decide +kernel) (nm 0 rfl ⟨_, true, true, false, rfl, (by decide +kernel), (by decide +kernel), (by decide +kernel), (c_andB (c_eqD hr.units (nm 2 rfl (c_ofN (n_disp (ca_cons (c_bl (ca_cons (c_bl (ca_nil (And.intro (And.intro rfl (Nat.le_of_ble_eq_true rfl)) (And.intro ?h104 (And.intro (fun b1 => (c_one (c_eqD hr.units (nm 0 rfl (nm 1 rfl (And.intro ?h105 (And.intro rfl ?h106))))))) (fun b2 => (And.intro rfl ?h107)))))))))))))))⟩)))))))⟩))))))⟩)))))))))⟩))))))⟩)))))))))))⟩)))))))
  case h101 =>
    exact sc__law_same.nd
  case h102 =>
    exact ⟨⟨rfl, rfl⟩, rfl, rfl⟩
  case h103 =>
    exact ⟨⟨rfl, rfl⟩, rfl, rfl⟩
  case h104 =>
    exact ⟨⟨rfl, rfl⟩, rfl, rfl⟩
  case h105 =>
    exact ⟨⟨rfl, rfl⟩, rfl, rfl⟩
  case h106 =>
    first
      | (simp [pd, pd.pds, PyData.eqv, PyData.eqvAll]; exact hG)
      | (simpa [pd, pd.pds, PyData.eqv, PyData.eqvAll] using hG)
      | (exfalso; simp [pd, pd.pds, PyData.eqv, PyData.eqvAll] at b1; done)
      | (exfalso; simp [pd, pd.pds, PyData.eqv, PyData.eqvAll] at b2; done)
  case h107 =>
    first
      | (simp [pd, pd.pds, PyData.eqv, PyData.eqvAll]; exact hG)
      | (simpa [pd, pd.pds, PyData.eqv, PyData.eqvAll] using hG)
      | (exfalso; simp [pd, pd.pds, PyData.eqv, PyData.eqvAll] at b1; done)
      | (exfalso; simp [pd, pd.pds, PyData.eqv, PyData.eqvAll] at b2; done)
theorem ok__law_same {f : Addr} {fd : FuncData} (Fn : Fun K "_law_same" "_law_same" s__law_same f fd) (hm : mg "_law_same" = some (.ref f)) (hkp : PySem.W.keepIn K (.ref f) = true) (hb : Binds K fd ["told", "due"] []) (m_isinstance : mg "isinstance" = none) (m_bool : mg "bool" = none) (m_int : mg "int" = none) (m_str : mg "str" = none) (m_tuple : mg "tuple" = none) (m_list : mg "list" = none) (m_len : mg "len" = none) (m_range : mg "range" = none) (m_all : mg "all" = none) : ∀ n : Nat, FnOk P w K mg base CX0 (n + 1) f fd ["told", "due"] (spP K (F__law_same n))
  | 0 => by
    refine fn_P Fn sc__law_same (fun ds G h => ?_) (fun cdv A outer s H Q E ds G hr hF hQ => ?_)
    · obtain ⟨d, rfl, _⟩ := h
      rfl
    · obtain ⟨d, rfl, hd, hG⟩ := hF
      exact al_flat m_isinstance m_bool m_int m_str m_tuple m_list m_len m_range m_all hr hd hG hQ
  | n + 1 => by
    have c__law_same : Cl P w K mg base (n + 1) "_law_same" ["told", "due"] (spP K (F__law_same n)) := ⟨f, fd, hm, hkp, hb, ok__law_same Fn hm hkp hb m_isinstance m_bool m_int m_str m_tuple m_list m_len m_range m_all n⟩
    refine fn_P Fn sc__law_same (fun ds G h => ?_) (fun cdv A outer s H Q E ds G hr hF hQ => ?_)
    · obtain ⟨d, rfl, _⟩ := h
      rfl
    · obtain ⟨d, rfl, hd, hG⟩ := hF
      rw [Sh] at hd
      rcases hd with hd | ⟨xs, hx, hl, hs⟩
      · exact al_flat m_isinstance m_bool m_int m_str m_tuple m_list m_len m_range m_all hr hd hG hQ
      · rcases hx with rfl | rfl
        ·
          refine (as_ifn (t_isN (nm 1 rfl (as_ifn (t_val (c_isi3 (U1 := "bool") (U2 := "int") (U3 := "str") m_isinstance m_bool (by decide +kernel) m_int (by decide +kernel) m_str (by decide +kernel) (nm 1 rfl ⟨_, false, false, false, rfl, (by decide +kernel), (by decide +kernel), (by decide +kernel), (as_ifn (t_w (w_or (t_neDB hr.units (c_isi (U := "list") m_isinstance (ca_cons (nm 1 rfl (ca_cons (c_ty (T := "list") m_list (by decide +kernel) (ca_nil ⟨rfl, _, false, rfl, (by decide +kernel), (c_isi (U := "list") m_isinstance (ca_cons (nm 0 rfl (ca_cons (c_ty (T := "list") m_list (by decide +kernel) (ca_nil ⟨rfl, _, false, rfl, (by decide +kernel), (And.intro ?h201 (And.intro (fun b1 => (as_ret hQ (c_bl (And.intro rfl ?h202)))) (fun b1 => (w_or1 (t_neDB hr.units (c_isi (U := "tuple") m_isinstance (ca_cons (nm 1 rfl (ca_cons (c_ty (T := "tuple") m_tuple (by decide +kernel) (ca_nil ⟨rfl, _, true, rfl, (by decide +kernel), (c_isi (U := "tuple") m_isinstance (ca_cons (nm 0 rfl (ca_cons (c_ty (T := "tuple") m_tuple (by decide +kernel) (ca_nil ⟨rfl, _, true, rfl, (by decide +kernel), (And.intro ?h203 (And.intro (fun b2 => (as_ret hQ (c_bl (And.intro rfl ?h204)))) (fun b2 => (as_ret hQ (c_andB (c_eqI (c_lenT m_len (ca_cons (nm 0 rfl (ca_nil (c_lenT m_len (ca_cons (nm 1 rfl (ca_nil (And.intro (fun b3 => (c_one (c_all rfl m_all (ca_cons (c_ofN (n_lcR (j := 3) rfl ?h205 m_range (blkOk_by (N := ["told", "due", "kinds", "k"]) (sc := defScope s__law_same) (by decide +kernel)) (fun _ _ _ _ _ => pg_name (i := 3) sc__law_same.nd rfl (Or.inl rfl)) (ca_cons (c_lenT m_len (ca_cons (nm 1 rfl (ca_nil (ca_nil ⟨?h211, (fun l acc q => acc = List.replicate l (Dat.bl true) ∧ q = []), ⟨rfl, rfl⟩, ⟨fun _ _ _ _ _ l d acc q hl hd hw => ?h206⟩, fun acc q hw ha => ?h207⟩)))))))))))) (fun b4 => (And.intro rfl ?h212)))))))))))))))))⟩))))))⟩)))))))))))⟩))))))⟩))))))))))⟩)))))))
          case h201 =>
            exact ⟨⟨rfl, rfl⟩, rfl, rfl⟩
          case h202 =>
            first
              | (exfalso; simp [pd, PyData.eqv] at b1; done)
              | (exfalso; simp [pd, PyData.eqv] at b2; done)
              | (exfalso; simp [pd, PyData.eqv] at b3; done)
              | (exfalso; simp [pd, PyData.eqv] at b4; done)
              | exact hG
          case h203 =>
            exact ⟨⟨rfl, rfl⟩, rfl, rfl⟩
          case h204 =>
            first
              | (exfalso; simp [pd, PyData.eqv] at b1; done)
              | (exfalso; simp [pd, PyData.eqv] at b2; done)
              | (exfalso; simp [pd, PyData.eqv] at b3; done)
              | (exfalso; simp [pd, PyData.eqv] at b4; done)
              | exact hG
          case h205 =>
            exact sc__law_same.nd
          case h206 =>
            obtain ⟨rfl, rfl⟩ := hw
            cases hd
            have hl2 : l < xs.length := by omega
            obtain ⟨e, he⟩ : ∃ e, xs[l]? = some e := ⟨_, List.getElem?_eq_getElem hl2⟩
            refine (c_call c__law_same hr (ca_cons (c_ixT (nm 0 rfl (nm 3 rfl ⟨l, e, rfl, he, (ca_cons (c_ixT (nm 1 rfl (nm 3 rfl ⟨l, e, rfl, he, (ca_nil ⟨_, rfl, ?h208, And.intro rfl (And.intro rfl ⟨by rw [← List.replicate_succ'], rfl⟩)⟩)⟩))))⟩)))))
            case h208 =>
              rw [rd_sh (hs _ _ he)]
              exact hs _ _ he
          case h207 =>
            obtain ⟨rfl, rfl⟩ := hw
            refine (ca_nil ⟨List.replicate xs.length true, ?h209, (And.intro rfl ?h210)⟩)
            case h209 =>
              rw [Int.toNat_natCast, List.map_replicate]
            case h210 =>
              rw [all_rep]
              exact hG
          case h211 =>
            omega
          case h212 =>
            first
              | (exfalso; simp [pd, PyData.eqv] at b1; done)
              | (exfalso; simp [pd, PyData.eqv] at b2; done)
              | (exfalso; simp [pd, PyData.eqv] at b3; done)
              | (exfalso; simp [pd, PyData.eqv] at b4; done)
              | exact hG
        ·
          refine (as_ifn (t_isN (nm 1 rfl (as_ifn (t_val (c_isi3 (U1 := "bool") (U2 := "int") (U3 := "str") m_isinstance m_bool (by decide +kernel) m_int (by decide +kernel) m_str (by decide +kernel) (nm 1 rfl ⟨_, false, false, false, rfl, (by decide +kernel), (by decide +kernel), (by decide +kernel), (as_ifn (t_w (w_or (t_neDB hr.units (c_isi (U := "list") m_isinstance (ca_cons (nm 1 rfl (ca_cons (c_ty (T := "list") m_list (by decide +kernel) (ca_nil ⟨rfl, _, true, rfl, (by decide +kernel), (c_isi (U := "list") m_isinstance (ca_cons (nm 0 rfl (ca_cons (c_ty (T := "list") m_list (by decide +kernel) (ca_nil ⟨rfl, _, true, rfl, (by decide +kernel), (And.intro ?h301 (And.intro (fun b1 => (as_ret hQ (c_bl (And.intro rfl ?h302)))) (fun b1 => (w_or1 (t_neDB hr.units (c_isi (U := "tuple") m_isinstance (ca_cons (nm 1 rfl (ca_cons (c_ty (T := "tuple") m_tuple (by decide +kernel) (ca_nil ⟨rfl, _, false, rfl, (by decide +kernel), (c_isi (U := "tuple") m_isinstance (ca_cons (nm 0 rfl (ca_cons (c_ty (T := "tuple") m_tuple (by decide +kernel) (ca_nil ⟨rfl, _, false, rfl, (by decide +kernel), (And.intro ?h303 (And.intro (fun b2 => (as_ret hQ (c_bl (And.intro rfl ?h304)))) (fun b2 => (as_ret hQ (c_andB (c_eqI (c_lenL m_len (ca_cons (nm 0 rfl (ca_nil (c_lenL m_len (ca_cons (nm 1 rfl (ca_nil (And.intro (fun b3 => (c_one (c_all rfl m_all (ca_cons (c_ofN (n_lcR (j := 3) rfl ?h305 m_range (blkOk_by (N := ["told", "due", "kinds", "k"]) (sc := defScope s__law_same) (by decide +kernel)) (fun _ _ _ _ _ => pg_name (i := 3) sc__law_same.nd rfl (Or.inl rfl)) (ca_cons (c_lenL m_len (ca_cons (nm 1 rfl (ca_nil (ca_nil ⟨?h311, (fun l acc q => acc = List.replicate l (Dat.bl true) ∧ q = []), ⟨rfl, rfl⟩, ⟨fun _ _ _ _ _ l d acc q hl hd hw => ?h306⟩, fun acc q hw ha => ?h307⟩)))))))))))) (fun b4 => (And.intro rfl ?h312)))))))))))))))))⟩))))))⟩)))))))))))⟩))))))⟩))))))))))⟩)))))))
          case h301 =>
            exact ⟨⟨rfl, rfl⟩, rfl, rfl⟩
          case h302 =>
            first
              | (exfalso; simp [pd, PyData.eqv] at b1; done)
              | (exfalso; simp [pd, PyData.eqv] at b2; done)
              | (exfalso; simp [pd, PyData.eqv] at b3; done)
              | (exfalso; simp [pd, PyData.eqv] at b4; done)
              | exact hG
          case h303 =>
            exact ⟨⟨rfl, rfl⟩, rfl, rfl⟩
          case h304 =>
            first
              | (exfalso; simp [pd, PyData.eqv] at b1; done)
              | (exfalso; simp [pd, PyData.eqv] at b2; done)
              | (exfalso; simp [pd, PyData.eqv] at b3; done)
              | (exfalso; simp [pd, PyData.eqv] at b4; done)
              | exact hG
          case h305 =>
            exact sc__law_same.nd
          case h306 =>
            obtain ⟨rfl, rfl⟩ := hw
            cases hd
            have hl2 : l < xs.length := by omega
            obtain ⟨e, he⟩ : ∃ e, xs[l]? = some e := ⟨_, List.getElem?_eq_getElem hl2⟩
            refine (c_call c__law_same hr (ca_cons (c_ixL (nm 0 rfl (nm 3 rfl ⟨l, e, rfl, he, (ca_cons (c_ixL (nm 1 rfl (nm 3 rfl ⟨l, e, rfl, he, (ca_nil ⟨_, rfl, ?h308, And.intro rfl (And.intro rfl ⟨by rw [← List.replicate_succ'], rfl⟩)⟩)⟩))))⟩)))))
            case h308 =>
              rw [rd_sh (hs _ _ he)]
              exact hs _ _ he
          case h307 =>
            obtain ⟨rfl, rfl⟩ := hw
            refine (ca_nil ⟨List.replicate xs.length true, ?h309, (And.intro rfl ?h310)⟩)
            case h309 =>
              rw [Int.toNat_natCast, List.map_replicate]
            case h310 =>
              rw [all_rep]
              exact hG
          case h311 =>
            omega
          case h312 =>
            first
              | (exfalso; simp [pd, PyData.eqv] at b1; done)
              | (exfalso; simp [pd, PyData.eqv] at b2; done)
              | (exfalso; simp [pd, PyData.eqv] at b3; done)
              | (exfalso; simp [pd, PyData.eqv] at b4; done)
              | exact hG

end
end Y75

set_option Elab.async false
set_option linter.all false
set_option maxRecDepth 100000
set_option maxHeartbeats 8000000
namespace Y75
open PySem PySem.Spec PyProof.Rows L2 Evl Wz
open Y02 (Kd)
local macro_rules | `(tactic| walk_at "bd") => `(tactic| (repeat (first | assumption | apply Bd.mul | apply Bd.add | apply Bd.sub | apply Bd.neg | exact Bd.z | exact Bd.of _)))
local macro_rules | `(tactic| walk_at "bm") => `(tactic| (first | assumption | exact Bd.mono (by walk_at "bd") (by decide)))
local macro_rules | `(tactic| walk_at "b2") => `(tactic| (repeat (first | assumption | apply And.intro | walk_at "bm" | decide | omega)))
theorem decZ {a b : Z2} : PyData.eqv (pd (pD a)) (pd (pD b)) = decide (a = b) := eqv_pD a b
theorem at4 {i : Int} {C : Dat → Prop} (h0 : 0 ≤ i) (h1 : i < 4) (h : ∀ n : Int, 3 ≤ n → n ≤ 100000 → C (.int n)) : onAt [.int 3, .int 10, .int 100, .int (10 ^ (5 : Int).toNat)] i C := by
  by_cases e : i = 0
  · exact ⟨0, _, by omega, rfl, h _ (by decide) (by decide)⟩
  · by_cases e1 : i = 1
    · exact ⟨1, _, by omega, rfl, h _ (by decide) (by decide)⟩
    · by_cases e2 : i = 2
      · exact ⟨2, _, by omega, rfl, h _ (by decide) (by decide)⟩
      · exact ⟨3, _, by omega, rfl, h _ (by decide) (by decide)⟩
theorem at3k {i : Int} {C : Dat → Prop} (h0 : 0 ≤ i) (h1 : i < 3) (h : ∀ k, Kd k → C (.int k)) : onAt [.int 2, .int 3, .int 5] i C := by
  by_cases e : i = 0
  · exact ⟨0, _, by omega, rfl, h _ (.inl rfl)⟩
  · by_cases e1 : i = 1
    · exact ⟨1, _, by omega, rfl, h _ (.inr (.inl rfl))⟩
    · exact ⟨2, _, by omega, rfl, h _ (.inr (.inr rfl))⟩
theorem ten11 : (10 : Int) ^ (11 : Int).toNat = 100000000000 := by decide
theorem bd17 {v : Int} (h : v.natAbs ≤ 100000) : Bd 17 v := by
  show v.natAbs < 2 ^ 17
  have e : 2 ^ 17 = 131072 := by decide
  omega
theorem bd37 {v : Int} (h : v.natAbs ≤ 100000000000) : Bd 37 v := by
  show v.natAbs < 2 ^ 37
  have e : 2 ^ 37 = 137438953472 := by decide
  omega
theorem lo_q {k : Int} (hk : Kd k) {p q : Z2} {x y z : Int} (hq : q ≠ (0, 0)) (h : LO ((mul k p (mate k q)).1 * 1) ((mul k p (mate k q)).2 * 1) (1 * nrm k q) x y z) : ((2 * x + z).fdiv (2 * z), (2 * y + z).fdiv (2 * z)) = quo k p q := by
  have hn : 1 * nrm k q ≠ 0 := by
    have := nrm_ne hk hq
    omega
  unfold quo
  rw [lo_quo (t := 0) h hn, lo_quo2 h hn, Int.one_mul, Int.mul_one, Int.mul_one]
set_option exponentiation.threshold 1000000
section
variable {P : Program} {w : World} {K : PySem.W.Frag} {mg : Str → Option Value} {base : Heap} {C : Addr}

/-! ### _law_whole_times -/
abbrev s__law_whole_times : Stmt := topS 42
theorem sc__law_whole_times : FnScope ["kind", "p", "q"] ["kind", "p", "q"] (defScope s__law_whole_times) := ⟨rfl, rfl, rfl, by decide +kernel, rfl, by decide +kernel, by decide +kernel⟩
def F__law_whole_times : FP := fun ds Q => ∃ k p q, ds = [.int k, pD p, pD q] ∧ (Kd k ∧ B2 1900 p ∧ B2 1900 q) ∧ Q (pD (mul k p q))
theorem ok__law_whole_times {f : Addr} {fd : FuncData} (Fn : Fun K "_law_whole_times" "_law_whole_times" s__law_whole_times f fd) (c__law_times : Cl P w K mg base 3 "_law_times" ["kind", "p", "q"] (spP K F__law_times)) : FnOk P w K mg base CX0 4 f fd ["kind", "p", "q"] (spP K F__law_whole_times) := by
  refine fn_P Fn sc__law_whole_times (fun ds G h => ?_) (fun cdv A outer s H Q E ds G hr hF hQ => ?_)
  · obtain ⟨k, p, q, rfl, ⟨hk, hp, hq⟩, hG⟩ := h
    rfl
  · obtain ⟨k, p, q, rfl, ⟨hk, hp, hq⟩, hG⟩ := hF
    refine (as_ret hQ (c_cutT (c_call c__law_times (hr.mono (by decide)) (ca_cons (nm 0 rfl (ca_cons (c_tup (ca_cons (c_ixTn (nm 1 rfl (c_int (And.intro (by decide) (ca_cons (c_ixTn (nm 1 rfl (c_int (And.intro (by decide) (ca_cons (c_int (ca_nil (And.intro (And.intro rfl (Nat.le_of_ble_eq_true rfl)) (ca_cons (c_tup (ca_cons (c_ixTn (nm 2 rfl (c_int (And.intro (by decide) (ca_cons (c_ixTn (nm 2 rfl (c_int (And.intro (by decide) (ca_cons (c_int (ca_nil (And.intro (And.intro rfl (Nat.le_of_ble_eq_true rfl)) (ca_nil ⟨_, p, q, rfl, ⟨hk, hp, hq⟩, And.intro rfl (o_none (o_some (c_int (And.intro rfl ?h1))))⟩))))))))))))))))))))))))))))))))))))))
    case h1 =>
      exact hG

/-! ### _law_whole_by -/
abbrev s__law_whole_by : Stmt := topS 43
theorem sc__law_whole_by : FnScope ["kind", "p", "q"] ["kind", "p", "q"] (defScope s__law_whole_by) := ⟨rfl, rfl, rfl, by decide +kernel, rfl, by decide +kernel, by decide +kernel⟩
def F__law_whole_by : FP := fun ds Q => ∃ k p q, ds = [.int k, pD p, pD q] ∧ (Kd k ∧ B2 500 p ∧ B2 500 q ∧ q ≠ (0, 0)) ∧ ∀ x y z, LO ((mul k p (mate k q)).1 * 1) ((mul k p (mate k q)).2 * 1) (1 * nrm k q) x y z → Bd 2000 x → Bd 2000 y → Bd 2000 z → Q (nD x y z)
theorem ok__law_whole_by {f : Addr} {fd : FuncData} (Fn : Fun K "_law_whole_by" "_law_whole_by" s__law_whole_by f fd) (c__law_by : Cl P w K mg base 4 "_law_by" ["kind", "p", "q"] (spP K F__law_by)) : FnOk P w K mg base CX0 5 f fd ["kind", "p", "q"] (spP K F__law_whole_by) := by
  refine fn_P Fn sc__law_whole_by (fun ds G h => ?_) (fun cdv A outer s H Q E ds G hr hF hQ => ?_)
  · obtain ⟨k, p, q, rfl, ⟨hk, hp, hq, hq0⟩, hG⟩ := h
    rfl
  · obtain ⟨k, p, q, rfl, ⟨hk, hp, hq, hq0⟩, hG⟩ := hF
    refine (as_ret hQ (c_call c__law_by (hr.mono (by decide)) (ca_cons (nm 0 rfl (ca_cons (c_tup (ca_cons (c_ixTn (nm 1 rfl (c_int (And.intro (by decide) (ca_cons (c_ixTn (nm 1 rfl (c_int (And.intro (by decide) (ca_cons (c_int (ca_nil (And.intro (And.intro rfl (Nat.le_of_ble_eq_true rfl)) (ca_cons (c_tup (ca_cons (c_ixTn (nm 2 rfl (c_int (And.intro (by decide) (ca_cons (c_ixTn (nm 2 rfl (c_int (And.intro (by decide) (ca_cons (c_int (ca_nil (And.intro (And.intro rfl (Nat.le_of_ble_eq_true rfl)) (ca_nil ⟨_, p, q, rfl, ⟨hk, hp, hq, hq0⟩, fun x1 y1 z1 lo1 hx1 hy1 hz1 => And.intro rfl (And.intro rfl ?h1)⟩)))))))))))))))))))))))))))))))))))))
    case h1 =>
      exact hG _ _ _ lo1 hx1 hy1 hz1

/-! ### _law_norm -/
abbrev s__law_norm : Stmt := topS 44
theorem sc__law_norm : FnScope ["kind", "p"] ["kind", "p"] (defScope s__law_norm) := ⟨rfl, rfl, rfl, by decide +kernel, rfl, by decide +kernel, by decide +kernel⟩
def F__law_norm : FP := fun ds Q => ∃ k p, ds = [.int k, pD p] ∧ (Kd k ∧ B2 1000 p) ∧ Q (.int (nrm k p))
theorem ok__law_norm {f : Addr} {fd : FuncData} (Fn : Fun K "_law_norm" "_law_norm" s__law_norm f fd) (c__law_times : Cl P w K mg base 3 "_law_times" ["kind", "p", "q"] (spP K F__law_times)) (c__law_mate : Cl P w K mg base 1 "_law_mate" ["kind", "p"] (spP K F__law_mate)) : FnOk P w K mg base CX0 4 f fd ["kind", "p"] (spP K F__law_norm) := by
  refine fn_P Fn sc__law_norm (fun ds G h => ?_) (fun cdv A outer s H Q E ds G hr hF hQ => ?_)
  · obtain ⟨k, p, rfl, ⟨hk, hp⟩, hG⟩ := h
    rfl
  · obtain ⟨k, p, rfl, ⟨hk, hp⟩, hG⟩ := hF
    have hm := mate_b (k := k) hp
    refine (as_ret hQ (c_ixTn (c_call c__law_times (hr.mono (by decide)) (ca_cons (nm 0 rfl (ca_cons (c_tup (ca_cons (c_ixTn (nm 1 rfl (c_int (And.intro (by decide) (ca_cons (c_ixTn (nm 1 rfl (c_int (And.intro (by decide) (ca_cons (c_int (ca_nil (And.intro (And.intro rfl (Nat.le_of_ble_eq_true rfl)) (ca_cons (c_call c__law_mate (hr.mono (by decide)) (ca_cons (nm 0 rfl (ca_cons (c_tup (ca_cons (c_ixTn (nm 1 rfl (c_int (And.intro (by decide) (ca_cons (c_ixTn (nm 1 rfl (c_int (And.intro (by decide) (ca_cons (c_int (ca_nil (And.intro (And.intro rfl (Nat.le_of_ble_eq_true rfl)) (ca_nil ⟨_, p, rfl, And.intro rfl (ca_nil ⟨_, p, mate k p, rfl, ⟨hk, hp.mono (by decide), hm.mono (by decide)⟩, And.intro rfl (c_int (And.intro (by decide) (And.intro rfl ?h1)))⟩)⟩))))))))))))))))))))))))))))))))))))))))))
    case h1 =>
      rw [show mul k p (mate k p) = (nrm k p, 0) from mul_mate k p]
      exact hG

/-! ### _law_divisor -/
abbrev s__law_divisor : Stmt := topS 45
theorem sc__law_divisor : FnScope ["kind", "p", "q", "turn", "a", "b", "n", "nearest", "away"] ["kind", "p", "q"] (defScope s__law_divisor) := ⟨rfl, rfl, rfl, by decide +kernel, rfl, by decide +kernel, by decide +kernel⟩
def F__law_divisor : FP := fun ds Q => ∃ k p q, ds = [.int k, pD p, pD q] ∧ (Kd k ∧ B2 40 p ∧ B2 40 q) ∧ Q (pD (euc k 600 p q))
theorem ok__law_divisor {f : Addr} {fd : FuncData} (Fn : Fun K "_law_divisor" "_law_divisor" s__law_divisor f fd) (c__law_whole_by : Cl P w K mg base 5 "_law_whole_by" ["kind", "p", "q"] (spP K F__law_whole_by)) (c__law_whole_times : Cl P w K mg base 4 "_law_whole_times" ["kind", "p", "q"] (spP K F__law_whole_times)) (m_range : mg "range" = none) : FnOk P w K mg base CX0 6 f fd ["kind", "p", "q"] (spP K F__law_divisor) := by
  refine fn_P Fn sc__law_divisor (fun ds G h => ?_) (fun cdv A outer s H Q E ds G hr hF hQ => ?_)
  · obtain ⟨k, p0, q0, rfl, ⟨hk, hp, hq⟩, hG⟩ := h
    rfl
  · obtain ⟨k, p0, q0, rfl, ⟨hk, hp, hq⟩, hG⟩ := hF
    refine (as_forR1 (i := 3) ?h1 rfl PassesOwn.never m_range (ca_cons (c_int (ca_nil ⟨_, (fun j es qq => ∃ (p q : Z2) (x0 x1 x2 x3 x4 x5 : Option Dat), es = [some (.int k), some (pD p), some (pD q), x0, x1, x2, x3, x4, x5] ∧ qq = [] ∧ Eu k p0 q0 j p q), (fun es qq => ∃ (p q : Z2) (x0 x1 x2 x3 x4 x5 : Option Dat), es = [some (.int k), some (pD p), some (pD q), x0, x1, x2, x3, x4, x5] ∧ qq = [] ∧ p = euc k 600 p0 q0), rfl, ?h17, ⟨p0, q0, _, _, _, _, _, _, rfl, rfl, Eu.start hk hp hq⟩, ⟨fun H10 e10 fr0 j d es q hj hd hw => ?h2, fun es q hw => ?h3, fun es q hw => ?h15⟩⟩))))
    case h1 =>
      exact sc__law_divisor.nd
    case h2 =>
      obtain ⟨p, q, x0, x1, x2, x3, x4, x5, rfl, rfl, hE⟩ := hw
      cases hd
      have hbp : q ≠ (0, 0) → B2 500 p ∧ B2 500 q := fun h => by
        have := hE.few hk h
        exact ⟨hE.bp.mono (by omega), hE.bq.mono (by omega)⟩
      refine (as_ifn (t_eqDB hr.units (nm 2 rfl (c_tup (ca_cons (c_int (ca_cons (c_int (ca_nil (And.intro (And.intro rfl (Nat.le_of_ble_eq_true rfl)) (And.intro ?h4 (And.intro (fun b1 => (as_brk rfl ?h5)) (fun b1 => (as_unp3 (i := 4) (j := 5) (l := 6) ?h6 rfl (c_call c__law_whole_by (hr.mono (by decide)) (ca_cons (nm 0 rfl (ca_cons (nm 1 rfl (ca_cons (nm 2 rfl (ca_nil ⟨_, p, q, rfl, ⟨hk, (hbp (eqf b1)).1, (hbp (eqf b1)).2, eqf b1⟩, fun x1 y1 z1 lo1 hx1 hy1 hz1 => And.intro rfl ⟨_, _, _, rfl, (as_asg (i := 7) ?h7 (c_tup (ca_cons (c_fdivX (c_add (c_mulS (c_int (nm 4 rfl (And.intro (.inl (And.intro (by decide) (by decide))) (nm 6 rfl (c_mulS (c_int (nm 6 rfl (And.intro (.inl (And.intro (by decide) (by decide))) (And.intro ?h8 (ca_cons (c_fdivX (c_add (c_mulS (c_int (nm 5 rfl (And.intro (.inl (And.intro (by decide) (by decide))) (nm 6 rfl (c_mulS (c_int (nm 6 rfl (And.intro (.inl (And.intro (by decide) (by decide))) (And.intro ?h9 (ca_nil (And.intro (And.intro rfl (Nat.le_of_ble_eq_true rfl)) (as_asg (i := 8) ?h10 (c_call c__law_whole_times (hr.mono (by decide)) (ca_cons (nm 0 rfl (ca_cons (nm 7 rfl (ca_cons (nm 2 rfl (ca_nil ⟨_, (_, _), q, rfl, ?h11, And.intro rfl (as_par (i := 1) (j := 2) ?h12 rfl (ca_cons (nm 2 rfl (ca_cons (c_tup (ca_cons (c_sub (c_ixTn (nm 1 rfl (c_int (And.intro (by decide) (c_ixTn (nm 8 rfl (c_int (And.intro (by decide) (ca_cons (c_sub (c_ixTn (nm 1 rfl (c_int (And.intro (by decide) (c_ixTn (nm 8 rfl (c_int (And.intro (by decide) (ca_nil (And.intro (And.intro rfl (Nat.le_of_ble_eq_true rfl)) (ca_nil ⟨_, _, rfl, (as_end rfl ?h13)⟩))))))))))))))))))))))))))))⟩)))))))))))))))))))))))))))))))))))))))⟩⟩))))))))))))))))))))))
      case h4 =>
        exact ⟨⟨rfl, rfl⟩, rfl, rfl⟩
      case h5 =>
        have he : q = (0, 0) := eqt b1
        subst he
        exact ⟨p, _, _, _, _, _, _, _, rfl, rfl, hE.done.1⟩
      case h6 =>
        exact sc__law_divisor.nd
      case h7 =>
        exact sc__law_divisor.nd
      case h8 =>
        have hnz := nrm_ne hk (eqf b1)
        have hz0 : z1 ≠ 0 := fun e => by
          have := Y02.lo_mul (a := (mul k p (mate k q)).1 * 1) (b := (mul k p (mate k q)).2 * 1) (n := 1 * nrm k q) (by omega)
          rw [← lo1.z, e] at this
          omega
        exact cdx (n := 2003) (by omega) (Bd.mono (two_b.mul hz1) (by decide)) (by decide)
      case h9 =>
        have hnz := nrm_ne hk (eqf b1)
        have hz0 : z1 ≠ 0 := fun e => by
          have := Y02.lo_mul (a := (mul k p (mate k q)).1 * 1) (b := (mul k p (mate k q)).2 * 1) (n := 1 * nrm k q) (by omega)
          rw [← lo1.z, e] at this
          omega
        exact cdx (n := 2003) (by omega) (Bd.mono (two_b.mul hz1) (by decide)) (by decide)
      case h10 =>
        exact sc__law_divisor.nd
      case h11 =>
        show Kd k ∧ B2 1900 ((2 * x1 + z1).fdiv (2 * z1), (2 * y1 + z1).fdiv (2 * z1)) ∧ B2 1900 q
        rw [lo_q hk (eqf b1) lo1]
        exact ⟨hk, (quo_b hk (eqf b1) (hbp (eqf b1)).1 (hbp (eqf b1)).2).mono (by decide), ((hbp (eqf b1)).2).mono (by decide)⟩
      case h12 =>
        exact sc__law_divisor.nd
      case h13 =>
        have hq0 : q ≠ (0, 0) := eqf b1
        have hqq := lo_q hk hq0 lo1
        refine ⟨q, rst k p q ((2 * x1 + z1).fdiv (2 * z1), (2 * y1 + z1).fdiv (2 * z1)), _, _, _, _, _, _, rfl, rfl, ?_⟩
        rw [hqq]
        exact hE.next hk hq0
    case h3 =>
      obtain ⟨p, q, x0, x1, x2, x3, x4, x5, rfl, rfl, hE⟩ := hw
      have hq0 : q = (0, 0) := Classical.byContradiction fun h => by
        have := hE.few hk h
        omega
      have hpe : p = euc k 600 p0 q0 := by
        subst hq0
        exact hE.done.1
      refine (as_ret hQ (nm 1 rfl (And.intro rfl ?h14)))
      case h14 =>
        subst hpe
        exact hG
    case h15 =>
      obtain ⟨p, q, x0, x1, x2, x3, x4, x5, rfl, rfl, hpe⟩ := hw
      refine (as_ret hQ (nm 1 rfl (And.intro rfl ?h16)))
      case h16 =>
        subst hpe
        exact hG
    case h17 =>
      first | omega | decide

end
end Y75

set_option Elab.async false
set_option linter.all false
set_option maxRecDepth 100000
set_option maxHeartbeats 8000000
namespace Y75
open PySem PySem.Spec PyProof.Rows L2 Evl Wz
open Y02 (Kd)
local macro_rules | `(tactic| walk_at "bd") => `(tactic| (repeat (first | assumption | apply Bd.mul | apply Bd.add | apply Bd.sub | apply Bd.neg | exact Bd.z | exact Bd.of _)))
local macro_rules | `(tactic| walk_at "bm") => `(tactic| (first | assumption | exact Bd.mono (by walk_at "bd") (by decide)))
local macro_rules | `(tactic| walk_at "b2") => `(tactic| (repeat (first | assumption | apply And.intro | walk_at "bm" | decide | omega)))
theorem two_of {a b d : Dat} {j : Nat} {C : Dat → Prop} (ha : C a) (hb : C b) (h : [a, b][j]? = some d) : C d := by
  match j, h with
  | 0, h => exact Option.some.inj h ▸ ha
  | 1, h => exact Option.some.inj h ▸ hb
theorem map_at {zs : List Z2} {j : Nat} {d : Dat} (h : (zs.map (fun z => pD z))[j]? = some d) : ∃ z, d = pD z := by
  rw [List.getElem?_map] at h
  cases q : zs[j]? with
  | none => rw [q] at h; cases h
  | some z => rw [q] at h; exact ⟨z, (Option.some.inj h).symm⟩
def Ls (l : Nat) (acc : List Dat) : Prop := ∃ zs : List Z2, acc = zs.map (fun z => pD z) ∧ zs.length = l ∧ ∀ z ∈ zs, B2 39 z
theorem Ls.nil : Ls 0 [] := ⟨[], rfl, rfl, fun z h => by cases h⟩
theorem Ls.next {l : Nat} {acc : List Dat} {z : Z2} (h : Ls l acc) (g : B2 39 z) : Ls (l + 1) (acc ++ [pD z]) := by
  obtain ⟨zs, rfl, h2, h3⟩ := h
  refine ⟨zs ++ [z], by rw [List.map_append]; rfl, by rw [List.length_append, h2]; rfl, fun y hy => ?_⟩
  rcases List.mem_append.mp hy with hy | hy
  · exact h3 y hy
  · cases hy with
    | head => exact g
    | tail _ h => cases h
theorem Ls.two {acc : List Dat} (h : Ls 2 acc) : ∃ p q, acc = [pD p, pD q] ∧ B2 39 p ∧ B2 39 q := by
  obtain ⟨zs, rfl, h2, h3⟩ := h
  match zs, h2 with
  | [p, q], _ => exact ⟨p, q, rfl, h3 p (.head _), h3 q (.tail _ (.head _))⟩
set_option exponentiation.threshold 1000000
section
variable {P : Program} {w : World} {K : PySem.W.Frag} {mg : Str → Option Value} {base : Heap} {C : Addr}

/-! ### _law_divides -/
abbrev s__law_divides : Stmt := topS 46
theorem sc__law_divides : FnScope ["kind", "q", "p"] ["kind", "q", "p"] (defScope s__law_divides) := ⟨rfl, rfl, rfl, by decide +kernel, rfl, by decide +kernel, by decide +kernel⟩
def F__law_divides : FP := fun ds Q => ∃ k q p, ds = [.int k, pD q, pD p] ∧ (Kd k ∧ B2 300 q ∧ B2 300 p) ∧ Q (.bl (decide (dvb k q p)))
theorem ok__law_divides {f : Addr} {fd : FuncData} (Fn : Fun K "_law_divides" "_law_divides" s__law_divides f fd) (c__law_whole_by : Cl P w K mg base 5 "_law_whole_by" ["kind", "p", "q"] (spP K F__law_whole_by)) : FnOk P w K mg base CX0 6 f fd ["kind", "q", "p"] (spP K F__law_divides) := by
  refine fn_P Fn sc__law_divides (fun ds G h => ?_) (fun cdv A outer s H Q E ds G hr hF hQ => ?_)
  · obtain ⟨k, q, p, rfl, ⟨hk, hq, hp⟩, hG⟩ := h
    rfl
  · obtain ⟨k, q, p, rfl, ⟨hk, hq, hp⟩, hG⟩ := hF
    refine (as_ret hQ (c_if (t_eqDB hr.units (nm 1 rfl (c_tup (ca_cons (c_int (ca_cons (c_int (ca_nil (And.intro (And.intro rfl (Nat.le_of_ble_eq_true rfl)) (And.intro ?h1 (And.intro (fun b1 => (c_eqD hr.units (nm 2 rfl (c_tup (ca_cons (c_int (ca_cons (c_int (ca_nil (And.intro (And.intro rfl (Nat.le_of_ble_eq_true rfl)) (And.intro ?h2 (And.intro rfl ?h3)))))))))))) (fun b1 => (c_eqI (c_ixTn (c_call c__law_whole_by (hr.mono (by decide)) (ca_cons (nm 0 rfl (ca_cons (nm 2 rfl (ca_cons (nm 1 rfl (ca_nil ⟨_, p, q, rfl, ⟨hk, hp.mono (by decide), hq.mono (by decide), eqf b1⟩, fun x1 y1 z1 lo1 hx1 hy1 hz1 => And.intro rfl (c_int (And.intro (by decide) (c_int (And.intro rfl ?h4))))⟩))))))))))))))))))))))))
    case h1 =>
      exact ⟨⟨rfl, rfl⟩, rfl, rfl⟩
    case h2 =>
      exact ⟨⟨rfl, rfl⟩, rfl, rfl⟩
    case h3 =>
      first
        | (rw [show decide (z1 = 1) = decide (dvb k q p) from decide_eq_decide.mpr (dvb_lo hk (eqf b1) lo1)]; exact hG)
        | (have he : q = (0, 0) := eqt b1
           subst he
           rw [show decide (dvb k (0, 0) p) = decide (p = (0, 0)) from decide_eq_decide.mpr (by unfold dvb; rw [if_pos rfl]), ← eqv_pD p (0, 0)] at hG
           exact hG)
    case h4 =>
      first
        | (rw [show decide (z1 = 1) = decide (dvb k q p) from decide_eq_decide.mpr (dvb_lo hk (eqf b1) lo1)]; exact hG)
        | (have he : q = (0, 0) := eqt b1
           subst he
           rw [show decide (dvb k (0, 0) p) = decide (p = (0, 0)) from decide_eq_decide.mpr (by unfold dvb; rw [if_pos rfl]), ← eqv_pD p (0, 0)] at hG
           exact hG)

/-! ### _law_whole -/
abbrev s__law_whole : Stmt := topS 47
theorem sc__law_whole : FnScope ["pot", "great", "way", "most"] ["pot", "great"] (defScope s__law_whole) := ⟨rfl, rfl, rfl, by decide +kernel, rfl, by decide +kernel, by decide +kernel⟩
def F__law_whole : FD := fun ds c Q => ∃ g0, ds = [.int g0] ∧ Dk c ∧ ∀ z c', (g0 < 2 → B2 17 z) → B2 37 z → Dk c' → Q (pD z) c'
theorem ok__law_whole {f : Addr} {fd : FuncData} (Fn : Fun K "_law_whole" "_law_whole" s__law_whole f fd) (c__law_take : Cl P w K mg base 1 "_law_take" ["pot", "many"] (spD K F__law_take)) : FnOk P w K mg base CX0 2 f fd ["pot", "great"] (spD K F__law_whole) := by
  refine fn_D Fn sc__law_whole (fun ds c G h => ?_) (fun cdv A outer s H Q E pa ds c G hr hF hQ => ?_)
  · obtain ⟨g0, rfl, hdk, hG⟩ := h
    rfl
  · obtain ⟨g0, rfl, hdk, hG⟩ := hF
    have t11 := ten11
    have h11 : Bd 37 ((10 : Int) ^ (11 : Int).toNat) := by rw [ten11]; exact bd37 (by decide)
    refine (as_asg (i := 2) ?h1 (c_callD c__law_take (hr.mono (by decide)) (ca_cons (nm 0 rfl (ca_cons (c_int (ca_nil (And.intro rfl ⟨_, rfl, ⟨?h2, ?h3, (by assumption)⟩, fun v1 c1 hv1 hw1 hd1 => And.intro rfl (as_ifn (t_eqI (nm 2 rfl (c_int (And.intro (fun b1 => (as_ret hQ (c_tup (ca_cons (c_int (ca_cons (c_int (ca_nil (And.intro (And.intro rfl (Nat.le_of_ble_eq_true rfl)) (And.intro rfl ?h4)))))))))) (fun b1 => (as_asg (i := 3) ?h5 (c_if (t_w (w_or (t_lt (nm 1 rfl (c_int (And.intro (fun b2 => (c_ixL (c_ofN (n_disp (ca_cons (c_int (ca_cons (c_int (ca_cons (c_int (ca_cons (c_powW (c_int (c_int (And.intro ?h6 (ca_nil (And.intro (And.intro rfl (Nat.le_of_ble_eq_true rfl)) (c_callD c__law_take (hr.mono (by decide)) (ca_cons (nm 0 rfl (ca_cons (c_int (ca_nil (And.intro rfl ⟨_, rfl, ⟨?h7, ?h8, (by assumption)⟩, fun v2 c2 hv2 hw2 hd2 => And.intro rfl (at4 hv2 hw2 (fun most hma hmb => (as_ret hQ (c_tup (ca_cons (c_sub (c_callD c__law_take (hr.mono (by decide)) (ca_cons (nm 0 rfl (ca_cons (c_add (c_mulS (c_int (nm 3 rfl (And.intro (.inl (And.intro (by decide) (by decide))) (c_int (ca_nil (And.intro rfl ⟨_, rfl, ⟨?h9, ?h10, (by assumption)⟩, fun v3 c3 hv3 hw3 hd3 => And.intro rfl (nm 3 rfl (ca_cons (c_sub (c_callD c__law_take (hr.mono (by decide)) (ca_cons (nm 0 rfl (ca_cons (c_add (c_mulS (c_int (nm 3 rfl (And.intro (.inl (And.intro (by decide) (by decide))) (c_int (ca_nil (And.intro rfl ⟨_, rfl, ⟨?h11, ?h12, (by assumption)⟩, fun v4 c4 hv4 hw4 hd4 => And.intro rfl (nm 3 rfl (ca_nil (And.intro (And.intro rfl (Nat.le_of_ble_eq_true rfl)) (And.intro rfl ?h13))))⟩)))))))))))))))⟩))))))))))))))))))⟩)))))))))))))))))))))))) (fun b2 => (w_or1 (t_lt (nm 2 rfl (c_int (And.intro (fun b3 => (c_ixL (c_ofN (n_disp (ca_cons (c_int (ca_cons (c_int (ca_cons (c_int (ca_cons (c_powW (c_int (c_int (And.intro ?h14 (ca_nil (And.intro (And.intro rfl (Nat.le_of_ble_eq_true rfl)) (c_callD c__law_take (hr.mono (by decide)) (ca_cons (nm 0 rfl (ca_cons (c_int (ca_nil (And.intro rfl ⟨_, rfl, ⟨?h15, ?h16, (by assumption)⟩, fun v5 c5 hv5 hw5 hd5 => And.intro rfl (at4 hv5 hw5 (fun most hma hmb => (as_ret hQ (c_tup (ca_cons (c_sub (c_callD c__law_take (hr.mono (by decide)) (ca_cons (nm 0 rfl (ca_cons (c_add (c_mulS (c_int (nm 3 rfl (And.intro (.inl (And.intro (by decide) (by decide))) (c_int (ca_nil (And.intro rfl ⟨_, rfl, ⟨?h17, ?h18, (by assumption)⟩, fun v6 c6 hv6 hw6 hd6 => And.intro rfl (nm 3 rfl (ca_cons (c_sub (c_callD c__law_take (hr.mono (by decide)) (ca_cons (nm 0 rfl (ca_cons (c_add (c_mulS (c_int (nm 3 rfl (And.intro (.inl (And.intro (by decide) (by decide))) (c_int (ca_nil (And.intro rfl ⟨_, rfl, ⟨?h19, ?h20, (by assumption)⟩, fun v7 c7 hv7 hw7 hd7 => And.intro rfl (nm 3 rfl (ca_nil (And.intro (And.intro rfl (Nat.le_of_ble_eq_true rfl)) (And.intro rfl ?h21))))⟩)))))))))))))))⟩))))))))))))))))))⟩)))))))))))))))))))))))) (fun b3 => (c_powW (c_int (c_int (And.intro ?h22 (as_ret hQ (c_tup (ca_cons (c_sub (c_callD c__law_take (hr.mono (by decide)) (ca_cons (nm 0 rfl (ca_cons (c_add (c_mulS (c_int (nm 3 rfl (And.intro (.inl (And.intro (by decide) (by decide))) (c_int (ca_nil (And.intro rfl ⟨_, rfl, ⟨?h23, ?h24, (by assumption)⟩, fun v8 c8 hv8 hw8 hd8 => And.intro rfl (nm 3 rfl (ca_cons (c_sub (c_callD c__law_take (hr.mono (by decide)) (ca_cons (nm 0 rfl (ca_cons (c_add (c_mulS (c_int (nm 3 rfl (And.intro (.inl (And.intro (by decide) (by decide))) (c_int (ca_nil (And.intro rfl ⟨_, rfl, ⟨?h25, ?h26, (by assumption)⟩, fun v9 c9 hv9 hw9 hd9 => And.intro rfl (nm 3 rfl (ca_nil (And.intro (And.intro rfl (Nat.le_of_ble_eq_true rfl)) (And.intro rfl ?h27))))⟩)))))))))))))))⟩)))))))))))))))))))))))))))))))))))))))))⟩))))))))
    case h1 =>
      exact sc__law_whole.nd
    case h2 =>
      first | decide | omega
    case h3 =>
      first | exact Bd.of _ | exact bd_r (by omega) (by omega) (by decide) | exact Bd.mono (((Bd.of (2 : Int)).mul h11).add (Bd.of (1 : Int))) (by decide)
    case h4 =>
      first
        | exact ⟨_, rfl, hG (0, 0) _ (fun _ => ⟨zeroB, zeroB⟩) ⟨zeroB, zeroB⟩ (by assumption)⟩
        | exact ⟨_, rfl, hG (_, _) _ (fun _ => ⟨bd17 (by omega), bd17 (by omega)⟩) ⟨bd37 (by omega), bd37 (by omega)⟩ (by assumption)⟩
        | exact ⟨_, rfl, hG (_, _) _ (fun h => absurd h (by omega)) ⟨bd37 (by omega), bd37 (by omega)⟩ (by assumption)⟩
    case h5 =>
      exact sc__law_whole.nd
    case h6 =>
      exact cpw (by first | omega | decide) (Bd.of _) (by decide)
    case h7 =>
      first | decide | omega
    case h8 =>
      first | exact Bd.of _ | exact bd_r (by omega) (by omega) (by decide) | exact Bd.mono (((Bd.of (2 : Int)).mul h11).add (Bd.of (1 : Int))) (by decide)
    case h9 =>
      first | decide | omega
    case h10 =>
      first | exact Bd.of _ | exact bd_r (by omega) (by omega) (by decide) | exact Bd.mono (((Bd.of (2 : Int)).mul h11).add (Bd.of (1 : Int))) (by decide)
    case h11 =>
      first | decide | omega
    case h12 =>
      first | exact Bd.of _ | exact bd_r (by omega) (by omega) (by decide) | exact Bd.mono (((Bd.of (2 : Int)).mul h11).add (Bd.of (1 : Int))) (by decide)
    case h13 =>
      first
        | exact ⟨_, rfl, hG (0, 0) _ (fun _ => ⟨zeroB, zeroB⟩) ⟨zeroB, zeroB⟩ (by assumption)⟩
        | exact ⟨_, rfl, hG (_, _) _ (fun _ => ⟨bd17 (by omega), bd17 (by omega)⟩) ⟨bd37 (by omega), bd37 (by omega)⟩ (by assumption)⟩
        | exact ⟨_, rfl, hG (_, _) _ (fun h => absurd h (by omega)) ⟨bd37 (by omega), bd37 (by omega)⟩ (by assumption)⟩
    case h14 =>
      exact cpw (by first | omega | decide) (Bd.of _) (by decide)
    case h15 =>
      first | decide | omega
    case h16 =>
      first | exact Bd.of _ | exact bd_r (by omega) (by omega) (by decide) | exact Bd.mono (((Bd.of (2 : Int)).mul h11).add (Bd.of (1 : Int))) (by decide)
    case h17 =>
      first | decide | omega
    case h18 =>
      first | exact Bd.of _ | exact bd_r (by omega) (by omega) (by decide) | exact Bd.mono (((Bd.of (2 : Int)).mul h11).add (Bd.of (1 : Int))) (by decide)
    case h19 =>
      first | decide | omega
    case h20 =>
      first | exact Bd.of _ | exact bd_r (by omega) (by omega) (by decide) | exact Bd.mono (((Bd.of (2 : Int)).mul h11).add (Bd.of (1 : Int))) (by decide)
    case h21 =>
      first
        | exact ⟨_, rfl, hG (0, 0) _ (fun _ => ⟨zeroB, zeroB⟩) ⟨zeroB, zeroB⟩ (by assumption)⟩
        | exact ⟨_, rfl, hG (_, _) _ (fun _ => ⟨bd17 (by omega), bd17 (by omega)⟩) ⟨bd37 (by omega), bd37 (by omega)⟩ (by assumption)⟩
        | exact ⟨_, rfl, hG (_, _) _ (fun h => absurd h (by omega)) ⟨bd37 (by omega), bd37 (by omega)⟩ (by assumption)⟩
    case h22 =>
      exact cpw (by first | omega | decide) (Bd.of _) (by decide)
    case h23 =>
      first | decide | omega
    case h24 =>
      first | exact Bd.of _ | exact bd_r (by omega) (by omega) (by decide) | exact Bd.mono (((Bd.of (2 : Int)).mul h11).add (Bd.of (1 : Int))) (by decide)
    case h25 =>
      first | decide | omega
    case h26 =>
      first | exact Bd.of _ | exact bd_r (by omega) (by omega) (by decide) | exact Bd.mono (((Bd.of (2 : Int)).mul h11).add (Bd.of (1 : Int))) (by decide)
    case h27 =>
      first
        | exact ⟨_, rfl, hG (0, 0) _ (fun _ => ⟨zeroB, zeroB⟩) ⟨zeroB, zeroB⟩ (by assumption)⟩
        | exact ⟨_, rfl, hG (_, _) _ (fun _ => ⟨bd17 (by omega), bd17 (by omega)⟩) ⟨bd37 (by omega), bd37 (by omega)⟩ (by assumption)⟩
        | exact ⟨_, rfl, hG (_, _) _ (fun h => absurd h (by omega)) ⟨bd37 (by omega), bd37 (by omega)⟩ (by assumption)⟩

end
end Y75

set_option Elab.async false
set_option linter.all false
set_option maxRecDepth 100000
set_option maxHeartbeats 8000000
namespace Y75
open PySem PySem.Spec PyProof.Rows L2 Evl Wz
open Y02 (Kd)
local macro_rules | `(tactic| walk_at "bd") => `(tactic| (repeat (first | assumption | apply Bd.mul | apply Bd.add | apply Bd.sub | apply Bd.neg | exact Bd.z | exact Bd.of _)))
local macro_rules | `(tactic| walk_at "bm") => `(tactic| (first | assumption | exact Bd.mono (by walk_at "bd") (by decide)))
local macro_rules | `(tactic| walk_at "b2") => `(tactic| (repeat (first | assumption | apply And.intro | walk_at "bm" | decide | omega)))
theorem dv_back {k : Int} {p q u : Z2} : add (mul k u q) (mul k (rst k p q u) (1, 0)) = p := by
  rw [mul_one]
  unfold rst add sub
  exact Prod.ext (by dsimp only; omega) (by dsimp only; omega)
theorem abs_no {x y : Int} (hy : y ≠ 0) (h : 4 * x.natAbs ≤ 3 * y.natAbs) (b : (if y < 0 then -y else y) ≤ (if x < 0 then -x else x)) : False := by
  split at b <;> split at b <;> omega
set_option exponentiation.threshold 1000000
section
variable {P : Program} {w : World} {K : PySem.W.Frag} {mg : Str → Option Value} {base : Heap} {C : Addr}

/-! ### _law_some -/
abbrev s__law_some : Stmt := topS 48
theorem sc__law_some : FnScope ["pot", "kind", "way", "third", "turn"] ["pot", "kind"] (defScope s__law_some) := ⟨rfl, rfl, rfl, by decide +kernel, rfl, by decide +kernel, by decide +kernel⟩
def F__law_some : FE := fun ds c Q => ∃ k, ds = [.int k] ∧ (Kd k ∧ Dk c) ∧ ∀ p q c', B2 39 p → B2 39 q → Dk c' → Q [pD p, pD q] c'
theorem ok__law_some {f : Addr} {fd : FuncData} (Fn : Fun K "_law_some" "_law_some" s__law_some f fd) (c__law_take : Cl P w K mg base 1 "_law_take" ["pot", "many"] (spD K F__law_take)) (c__law_whole : Cl P w K mg base 2 "_law_whole" ["pot", "great"] (spD K F__law_whole)) (c__law_whole_times : Cl P w K mg base 4 "_law_whole_times" ["kind", "p", "q"] (spP K F__law_whole_times)) (m_range : mg "range" = none) : FnOk P w K mg base CX0 5 f fd ["pot", "kind"] (spE K F__law_some) := by
  refine fn_E Fn sc__law_some (fun ds c G h => ?_) (fun cdv A outer s H Q E pa ds c G hr hF hQ => ?_)
  · obtain ⟨k, rfl, ⟨hk, hdk⟩, hG⟩ := h
    rfl
  · obtain ⟨k, rfl, ⟨hk, hdk⟩, hG⟩ := hF
    refine (as_asg (i := 2) ?h1 (c_callD c__law_take (hr.mono (by decide)) (ca_cons (nm 0 rfl (ca_cons (c_int (ca_nil (And.intro rfl ⟨_, rfl, ⟨?h2, ?h3, (by assumption)⟩, fun v1 c1 hv1 hw1 hd1 => And.intro rfl (as_ifn (t_lt (nm 2 rfl (c_int (And.intro (fun b1 => (as_retN hQ (n_disp (ca_cons (c_callD c__law_whole (hr.mono (by decide)) (ca_cons (nm 0 rfl (ca_cons (c_int (ca_nil (And.intro rfl ⟨_, rfl, (by assumption), fun wz1 cw1 h171 h371 hdw1 => And.intro rfl (ca_cons (c_callD c__law_whole (hr.mono (by decide)) (ca_cons (nm 0 rfl (ca_cons (c_int (ca_nil (And.intro rfl ⟨_, rfl, (by assumption), fun wz2 cw2 h172 h372 hdw2 => And.intro rfl (ca_nil (And.intro (And.intro rfl (Nat.le_of_ble_eq_true rfl)) ?h4))⟩))))))))⟩))))))))))) (fun b1 => (as_asg (i := 3) (hx := .inr rfl) ?h5 (c_callD c__law_whole (hr.mono (by decide)) (ca_cons (nm 0 rfl (ca_cons (c_int (ca_nil (And.intro rfl ⟨_, rfl, (by assumption), fun wz3 cw3 h173 h373 hdw3 => And.intro rfl (as_ifn (t_eqI (nm 2 rfl (c_int (And.intro (fun b2 => (as_retN hQ (n_disp (ca_cons (nm 3 rfl (ca_cons (c_call c__law_whole_times (hr.mono (by decide)) (ca_cons (nm 1 rfl (ca_cons (nm 3 rfl (ca_cons (c_callD c__law_whole (hr.mono (by decide)) (ca_cons (nm 0 rfl (ca_cons (c_int (ca_nil (And.intro rfl ⟨_, rfl, (by assumption), fun wz4 cw4 h174 h374 hdw4 => And.intro rfl (ca_nil ⟨_, (_, _), (_, _), rfl, ?h6, And.intro rfl (ca_nil (And.intro (And.intro rfl (Nat.le_of_ble_eq_true rfl)) ?h7))⟩)⟩))))))))))))))))))) (fun b2 => (as_retN hQ (n_lcR (j := 4) rfl ?h8 m_range (blkOk_by (N := ["pot", "kind", "way", "third", "turn"]) (sc := defScope s__law_some) (by decide +kernel)) (fun _ _ _ _ _ => pg_name (i := 4) sc__law_some.nd rfl (Or.inl rfl)) (ca_cons (c_int (ca_nil ⟨?h14, (fun l acc q => ∃ cq, q = [cq] ∧ Dk cq ∧ Ls l acc), ⟨_, rfl, (by assumption), Ls.nil⟩, ⟨fun _ _ _ _ _ l d acc q hl hd hw => ?h9⟩, fun acc q hw ha => ?h10⟩)))))))))))⟩))))))))))))))⟩))))))))
    case h1 =>
      exact sc__law_some.nd
    case h2 =>
      first | decide | omega
    case h3 =>
      first | assumption | exact bd_r (by omega) (by omega) (by decide)
    case h4 =>
      first
        | exact ⟨_, rfl, hG _ _ _ hp hq (by assumption)⟩
        | exact ⟨_, rfl, hG wz1 wz2 _ (h371.mono (by decide)) (h372.mono (by decide)) (by assumption)⟩
        | exact ⟨_, rfl, hG wz1 (mul k wz1 wz2) _ (h371.mono (by decide)) ((mul_b hk (h171 (by decide)) (h172 (by decide))).mono (by decide)) (by assumption)⟩
        | exact ⟨_, rfl, hG wz1 wz3 _ (h371.mono (by decide)) (h373.mono (by decide)) (by assumption)⟩
        | exact ⟨_, rfl, hG wz1 (mul k wz1 wz3) _ (h371.mono (by decide)) ((mul_b hk (h171 (by decide)) (h173 (by decide))).mono (by decide)) (by assumption)⟩
        | exact ⟨_, rfl, hG wz1 wz4 _ (h371.mono (by decide)) (h374.mono (by decide)) (by assumption)⟩
        | exact ⟨_, rfl, hG wz1 (mul k wz1 wz4) _ (h371.mono (by decide)) ((mul_b hk (h171 (by decide)) (h174 (by decide))).mono (by decide)) (by assumption)⟩
        | exact ⟨_, rfl, hG wz1 wz5 _ (h371.mono (by decide)) (h375.mono (by decide)) (by assumption)⟩
        | exact ⟨_, rfl, hG wz1 (mul k wz1 wz5) _ (h371.mono (by decide)) ((mul_b hk (h171 (by decide)) (h175 (by decide))).mono (by decide)) (by assumption)⟩
        | exact ⟨_, rfl, hG wz1 wz6 _ (h371.mono (by decide)) (h376.mono (by decide)) (by assumption)⟩
        | exact ⟨_, rfl, hG wz1 (mul k wz1 wz6) _ (h371.mono (by decide)) ((mul_b hk (h171 (by decide)) (h176 (by decide))).mono (by decide)) (by assumption)⟩
        | exact ⟨_, rfl, hG wz2 wz3 _ (h372.mono (by decide)) (h373.mono (by decide)) (by assumption)⟩
        | exact ⟨_, rfl, hG wz2 (mul k wz2 wz3) _ (h372.mono (by decide)) ((mul_b hk (h172 (by decide)) (h173 (by decide))).mono (by decide)) (by assumption)⟩
        | exact ⟨_, rfl, hG wz2 wz4 _ (h372.mono (by decide)) (h374.mono (by decide)) (by assumption)⟩
        | exact ⟨_, rfl, hG wz2 (mul k wz2 wz4) _ (h372.mono (by decide)) ((mul_b hk (h172 (by decide)) (h174 (by decide))).mono (by decide)) (by assumption)⟩
        | exact ⟨_, rfl, hG wz2 wz5 _ (h372.mono (by decide)) (h375.mono (by decide)) (by assumption)⟩
        | exact ⟨_, rfl, hG wz2 (mul k wz2 wz5) _ (h372.mono (by decide)) ((mul_b hk (h172 (by decide)) (h175 (by decide))).mono (by decide)) (by assumption)⟩
        | exact ⟨_, rfl, hG wz2 wz6 _ (h372.mono (by decide)) (h376.mono (by decide)) (by assumption)⟩
        | exact ⟨_, rfl, hG wz2 (mul k wz2 wz6) _ (h372.mono (by decide)) ((mul_b hk (h172 (by decide)) (h176 (by decide))).mono (by decide)) (by assumption)⟩
        | exact ⟨_, rfl, hG wz3 wz4 _ (h373.mono (by decide)) (h374.mono (by decide)) (by assumption)⟩
        | exact ⟨_, rfl, hG wz3 (mul k wz3 wz4) _ (h373.mono (by decide)) ((mul_b hk (h173 (by decide)) (h174 (by decide))).mono (by decide)) (by assumption)⟩
        | exact ⟨_, rfl, hG wz3 wz5 _ (h373.mono (by decide)) (h375.mono (by decide)) (by assumption)⟩
        | exact ⟨_, rfl, hG wz3 (mul k wz3 wz5) _ (h373.mono (by decide)) ((mul_b hk (h173 (by decide)) (h175 (by decide))).mono (by decide)) (by assumption)⟩
        | exact ⟨_, rfl, hG wz3 wz6 _ (h373.mono (by decide)) (h376.mono (by decide)) (by assumption)⟩
        | exact ⟨_, rfl, hG wz3 (mul k wz3 wz6) _ (h373.mono (by decide)) ((mul_b hk (h173 (by decide)) (h176 (by decide))).mono (by decide)) (by assumption)⟩
        | exact ⟨_, rfl, hG wz4 wz5 _ (h374.mono (by decide)) (h375.mono (by decide)) (by assumption)⟩
        | exact ⟨_, rfl, hG wz4 (mul k wz4 wz5) _ (h374.mono (by decide)) ((mul_b hk (h174 (by decide)) (h175 (by decide))).mono (by decide)) (by assumption)⟩
        | exact ⟨_, rfl, hG wz4 wz6 _ (h374.mono (by decide)) (h376.mono (by decide)) (by assumption)⟩
        | exact ⟨_, rfl, hG wz4 (mul k wz4 wz6) _ (h374.mono (by decide)) ((mul_b hk (h174 (by decide)) (h176 (by decide))).mono (by decide)) (by assumption)⟩
        | exact ⟨_, rfl, hG wz5 wz6 _ (h375.mono (by decide)) (h376.mono (by decide)) (by assumption)⟩
        | exact ⟨_, rfl, hG wz5 (mul k wz5 wz6) _ (h375.mono (by decide)) ((mul_b hk (h175 (by decide)) (h176 (by decide))).mono (by decide)) (by assumption)⟩
    case h5 =>
      exact sc__law_some.nd
    case h6 =>
      first
        | exact ⟨hk, (h171 (by decide)).mono (by decide), (h172 (by decide)).mono (by decide)⟩
        | exact ⟨hk, (h171 (by decide)).mono (by decide), (h173 (by decide)).mono (by decide)⟩
        | exact ⟨hk, (h171 (by decide)).mono (by decide), (h174 (by decide)).mono (by decide)⟩
        | exact ⟨hk, (h171 (by decide)).mono (by decide), (h175 (by decide)).mono (by decide)⟩
        | exact ⟨hk, (h171 (by decide)).mono (by decide), (h176 (by decide)).mono (by decide)⟩
        | exact ⟨hk, (h172 (by decide)).mono (by decide), (h173 (by decide)).mono (by decide)⟩
        | exact ⟨hk, (h172 (by decide)).mono (by decide), (h174 (by decide)).mono (by decide)⟩
        | exact ⟨hk, (h172 (by decide)).mono (by decide), (h175 (by decide)).mono (by decide)⟩
        | exact ⟨hk, (h172 (by decide)).mono (by decide), (h176 (by decide)).mono (by decide)⟩
        | exact ⟨hk, (h173 (by decide)).mono (by decide), (h174 (by decide)).mono (by decide)⟩
        | exact ⟨hk, (h173 (by decide)).mono (by decide), (h175 (by decide)).mono (by decide)⟩
        | exact ⟨hk, (h173 (by decide)).mono (by decide), (h176 (by decide)).mono (by decide)⟩
        | exact ⟨hk, (h174 (by decide)).mono (by decide), (h175 (by decide)).mono (by decide)⟩
        | exact ⟨hk, (h174 (by decide)).mono (by decide), (h176 (by decide)).mono (by decide)⟩
        | exact ⟨hk, (h175 (by decide)).mono (by decide), (h176 (by decide)).mono (by decide)⟩
    case h7 =>
      first
        | exact ⟨_, rfl, hG _ _ _ hp hq (by assumption)⟩
        | exact ⟨_, rfl, hG wz1 wz2 _ (h371.mono (by decide)) (h372.mono (by decide)) (by assumption)⟩
        | exact ⟨_, rfl, hG wz1 (mul k wz1 wz2) _ (h371.mono (by decide)) ((mul_b hk (h171 (by decide)) (h172 (by decide))).mono (by decide)) (by assumption)⟩
        | exact ⟨_, rfl, hG wz1 wz3 _ (h371.mono (by decide)) (h373.mono (by decide)) (by assumption)⟩
        | exact ⟨_, rfl, hG wz1 (mul k wz1 wz3) _ (h371.mono (by decide)) ((mul_b hk (h171 (by decide)) (h173 (by decide))).mono (by decide)) (by assumption)⟩
        | exact ⟨_, rfl, hG wz1 wz4 _ (h371.mono (by decide)) (h374.mono (by decide)) (by assumption)⟩
        | exact ⟨_, rfl, hG wz1 (mul k wz1 wz4) _ (h371.mono (by decide)) ((mul_b hk (h171 (by decide)) (h174 (by decide))).mono (by decide)) (by assumption)⟩
        | exact ⟨_, rfl, hG wz1 wz5 _ (h371.mono (by decide)) (h375.mono (by decide)) (by assumption)⟩
        | exact ⟨_, rfl, hG wz1 (mul k wz1 wz5) _ (h371.mono (by decide)) ((mul_b hk (h171 (by decide)) (h175 (by decide))).mono (by decide)) (by assumption)⟩
        | exact ⟨_, rfl, hG wz1 wz6 _ (h371.mono (by decide)) (h376.mono (by decide)) (by assumption)⟩
        | exact ⟨_, rfl, hG wz1 (mul k wz1 wz6) _ (h371.mono (by decide)) ((mul_b hk (h171 (by decide)) (h176 (by decide))).mono (by decide)) (by assumption)⟩
        | exact ⟨_, rfl, hG wz2 wz3 _ (h372.mono (by decide)) (h373.mono (by decide)) (by assumption)⟩
        | exact ⟨_, rfl, hG wz2 (mul k wz2 wz3) _ (h372.mono (by decide)) ((mul_b hk (h172 (by decide)) (h173 (by decide))).mono (by decide)) (by assumption)⟩
        | exact ⟨_, rfl, hG wz2 wz4 _ (h372.mono (by decide)) (h374.mono (by decide)) (by assumption)⟩
        | exact ⟨_, rfl, hG wz2 (mul k wz2 wz4) _ (h372.mono (by decide)) ((mul_b hk (h172 (by decide)) (h174 (by decide))).mono (by decide)) (by assumption)⟩
        | exact ⟨_, rfl, hG wz2 wz5 _ (h372.mono (by decide)) (h375.mono (by decide)) (by assumption)⟩
        | exact ⟨_, rfl, hG wz2 (mul k wz2 wz5) _ (h372.mono (by decide)) ((mul_b hk (h172 (by decide)) (h175 (by decide))).mono (by decide)) (by assumption)⟩
        | exact ⟨_, rfl, hG wz2 wz6 _ (h372.mono (by decide)) (h376.mono (by decide)) (by assumption)⟩
        | exact ⟨_, rfl, hG wz2 (mul k wz2 wz6) _ (h372.mono (by decide)) ((mul_b hk (h172 (by decide)) (h176 (by decide))).mono (by decide)) (by assumption)⟩
        | exact ⟨_, rfl, hG wz3 wz4 _ (h373.mono (by decide)) (h374.mono (by decide)) (by assumption)⟩
        | exact ⟨_, rfl, hG wz3 (mul k wz3 wz4) _ (h373.mono (by decide)) ((mul_b hk (h173 (by decide)) (h174 (by decide))).mono (by decide)) (by assumption)⟩
        | exact ⟨_, rfl, hG wz3 wz5 _ (h373.mono (by decide)) (h375.mono (by decide)) (by assumption)⟩
        | exact ⟨_, rfl, hG wz3 (mul k wz3 wz5) _ (h373.mono (by decide)) ((mul_b hk (h173 (by decide)) (h175 (by decide))).mono (by decide)) (by assumption)⟩
        | exact ⟨_, rfl, hG wz3 wz6 _ (h373.mono (by decide)) (h376.mono (by decide)) (by assumption)⟩
        | exact ⟨_, rfl, hG wz3 (mul k wz3 wz6) _ (h373.mono (by decide)) ((mul_b hk (h173 (by decide)) (h176 (by decide))).mono (by decide)) (by assumption)⟩
        | exact ⟨_, rfl, hG wz4 wz5 _ (h374.mono (by decide)) (h375.mono (by decide)) (by assumption)⟩
        | exact ⟨_, rfl, hG wz4 (mul k wz4 wz5) _ (h374.mono (by decide)) ((mul_b hk (h174 (by decide)) (h175 (by decide))).mono (by decide)) (by assumption)⟩
        | exact ⟨_, rfl, hG wz4 wz6 _ (h374.mono (by decide)) (h376.mono (by decide)) (by assumption)⟩
        | exact ⟨_, rfl, hG wz4 (mul k wz4 wz6) _ (h374.mono (by decide)) ((mul_b hk (h174 (by decide)) (h176 (by decide))).mono (by decide)) (by assumption)⟩
        | exact ⟨_, rfl, hG wz5 wz6 _ (h375.mono (by decide)) (h376.mono (by decide)) (by assumption)⟩
        | exact ⟨_, rfl, hG wz5 (mul k wz5 wz6) _ (h375.mono (by decide)) ((mul_b hk (h175 (by decide)) (h176 (by decide))).mono (by decide)) (by assumption)⟩
    case h8 =>
      exact sc__law_some.nd
    case h9 =>
      obtain ⟨cq, rfl, hdq, hls⟩ := hw
      refine (c_call c__law_whole_times (hr.mono (by decide)) (ca_cons (nm 1 rfl (ca_cons (nm 3 rfl (ca_cons (c_callD c__law_whole (hr.mono (by decide)) (ca_cons (nm 0 rfl (ca_cons (c_int (ca_nil (And.intro rfl ⟨_, rfl, (by assumption), fun wz5 cw5 h175 h375 hdw5 => And.intro rfl (ca_nil ⟨_, (_, _), (_, _), rfl, ?h11, And.intro rfl (And.intro rfl ⟨_, rfl, (by assumption), hls.next ?h12⟩)⟩)⟩)))))))))))))
      case h11 =>
        first
          | exact ⟨hk, (h171 (by decide)).mono (by decide), (h172 (by decide)).mono (by decide)⟩
          | exact ⟨hk, (h171 (by decide)).mono (by decide), (h173 (by decide)).mono (by decide)⟩
          | exact ⟨hk, (h171 (by decide)).mono (by decide), (h174 (by decide)).mono (by decide)⟩
          | exact ⟨hk, (h171 (by decide)).mono (by decide), (h175 (by decide)).mono (by decide)⟩
          | exact ⟨hk, (h171 (by decide)).mono (by decide), (h176 (by decide)).mono (by decide)⟩
          | exact ⟨hk, (h172 (by decide)).mono (by decide), (h173 (by decide)).mono (by decide)⟩
          | exact ⟨hk, (h172 (by decide)).mono (by decide), (h174 (by decide)).mono (by decide)⟩
          | exact ⟨hk, (h172 (by decide)).mono (by decide), (h175 (by decide)).mono (by decide)⟩
          | exact ⟨hk, (h172 (by decide)).mono (by decide), (h176 (by decide)).mono (by decide)⟩
          | exact ⟨hk, (h173 (by decide)).mono (by decide), (h174 (by decide)).mono (by decide)⟩
          | exact ⟨hk, (h173 (by decide)).mono (by decide), (h175 (by decide)).mono (by decide)⟩
          | exact ⟨hk, (h173 (by decide)).mono (by decide), (h176 (by decide)).mono (by decide)⟩
          | exact ⟨hk, (h174 (by decide)).mono (by decide), (h175 (by decide)).mono (by decide)⟩
          | exact ⟨hk, (h174 (by decide)).mono (by decide), (h176 (by decide)).mono (by decide)⟩
          | exact ⟨hk, (h175 (by decide)).mono (by decide), (h176 (by decide)).mono (by decide)⟩
      case h12 =>
        first
          | exact ((mul_b hk (h171 (by decide)) (h172 (by decide))).mono (by decide))
          | exact ((mul_b hk (h171 (by decide)) (h173 (by decide))).mono (by decide))
          | exact ((mul_b hk (h171 (by decide)) (h174 (by decide))).mono (by decide))
          | exact ((mul_b hk (h171 (by decide)) (h175 (by decide))).mono (by decide))
          | exact ((mul_b hk (h171 (by decide)) (h176 (by decide))).mono (by decide))
          | exact ((mul_b hk (h172 (by decide)) (h173 (by decide))).mono (by decide))
          | exact ((mul_b hk (h172 (by decide)) (h174 (by decide))).mono (by decide))
          | exact ((mul_b hk (h172 (by decide)) (h175 (by decide))).mono (by decide))
          | exact ((mul_b hk (h172 (by decide)) (h176 (by decide))).mono (by decide))
          | exact ((mul_b hk (h173 (by decide)) (h174 (by decide))).mono (by decide))
          | exact ((mul_b hk (h173 (by decide)) (h175 (by decide))).mono (by decide))
          | exact ((mul_b hk (h173 (by decide)) (h176 (by decide))).mono (by decide))
          | exact ((mul_b hk (h174 (by decide)) (h175 (by decide))).mono (by decide))
          | exact ((mul_b hk (h174 (by decide)) (h176 (by decide))).mono (by decide))
          | exact ((mul_b hk (h175 (by decide)) (h176 (by decide))).mono (by decide))
    case h10 =>
      obtain ⟨cq, rfl, hdq, hls⟩ := hw
      obtain ⟨pp, qq, rfl, hp, hq⟩ := hls.two
      refine ?h13
      case h13 =>
        first
          | exact ⟨_, rfl, hG _ _ _ hp hq (by assumption)⟩
          | exact ⟨_, rfl, hG wz1 wz2 _ (h371.mono (by decide)) (h372.mono (by decide)) (by assumption)⟩
          | exact ⟨_, rfl, hG wz1 (mul k wz1 wz2) _ (h371.mono (by decide)) ((mul_b hk (h171 (by decide)) (h172 (by decide))).mono (by decide)) (by assumption)⟩
          | exact ⟨_, rfl, hG wz1 wz3 _ (h371.mono (by decide)) (h373.mono (by decide)) (by assumption)⟩
          | exact ⟨_, rfl, hG wz1 (mul k wz1 wz3) _ (h371.mono (by decide)) ((mul_b hk (h171 (by decide)) (h173 (by decide))).mono (by decide)) (by assumption)⟩
          | exact ⟨_, rfl, hG wz1 wz4 _ (h371.mono (by decide)) (h374.mono (by decide)) (by assumption)⟩
          | exact ⟨_, rfl, hG wz1 (mul k wz1 wz4) _ (h371.mono (by decide)) ((mul_b hk (h171 (by decide)) (h174 (by decide))).mono (by decide)) (by assumption)⟩
          | exact ⟨_, rfl, hG wz1 wz5 _ (h371.mono (by decide)) (h375.mono (by decide)) (by assumption)⟩
          | exact ⟨_, rfl, hG wz1 (mul k wz1 wz5) _ (h371.mono (by decide)) ((mul_b hk (h171 (by decide)) (h175 (by decide))).mono (by decide)) (by assumption)⟩
          | exact ⟨_, rfl, hG wz1 wz6 _ (h371.mono (by decide)) (h376.mono (by decide)) (by assumption)⟩
          | exact ⟨_, rfl, hG wz1 (mul k wz1 wz6) _ (h371.mono (by decide)) ((mul_b hk (h171 (by decide)) (h176 (by decide))).mono (by decide)) (by assumption)⟩
          | exact ⟨_, rfl, hG wz2 wz3 _ (h372.mono (by decide)) (h373.mono (by decide)) (by assumption)⟩
          | exact ⟨_, rfl, hG wz2 (mul k wz2 wz3) _ (h372.mono (by decide)) ((mul_b hk (h172 (by decide)) (h173 (by decide))).mono (by decide)) (by assumption)⟩
          | exact ⟨_, rfl, hG wz2 wz4 _ (h372.mono (by decide)) (h374.mono (by decide)) (by assumption)⟩
          | exact ⟨_, rfl, hG wz2 (mul k wz2 wz4) _ (h372.mono (by decide)) ((mul_b hk (h172 (by decide)) (h174 (by decide))).mono (by decide)) (by assumption)⟩
          | exact ⟨_, rfl, hG wz2 wz5 _ (h372.mono (by decide)) (h375.mono (by decide)) (by assumption)⟩
          | exact ⟨_, rfl, hG wz2 (mul k wz2 wz5) _ (h372.mono (by decide)) ((mul_b hk (h172 (by decide)) (h175 (by decide))).mono (by decide)) (by assumption)⟩
          | exact ⟨_, rfl, hG wz2 wz6 _ (h372.mono (by decide)) (h376.mono (by decide)) (by assumption)⟩
          | exact ⟨_, rfl, hG wz2 (mul k wz2 wz6) _ (h372.mono (by decide)) ((mul_b hk (h172 (by decide)) (h176 (by decide))).mono (by decide)) (by assumption)⟩
          | exact ⟨_, rfl, hG wz3 wz4 _ (h373.mono (by decide)) (h374.mono (by decide)) (by assumption)⟩
          | exact ⟨_, rfl, hG wz3 (mul k wz3 wz4) _ (h373.mono (by decide)) ((mul_b hk (h173 (by decide)) (h174 (by decide))).mono (by decide)) (by assumption)⟩
          | exact ⟨_, rfl, hG wz3 wz5 _ (h373.mono (by decide)) (h375.mono (by decide)) (by assumption)⟩
          | exact ⟨_, rfl, hG wz3 (mul k wz3 wz5) _ (h373.mono (by decide)) ((mul_b hk (h173 (by decide)) (h175 (by decide))).mono (by decide)) (by assumption)⟩
          | exact ⟨_, rfl, hG wz3 wz6 _ (h373.mono (by decide)) (h376.mono (by decide)) (by assumption)⟩
          | exact ⟨_, rfl, hG wz3 (mul k wz3 wz6) _ (h373.mono (by decide)) ((mul_b hk (h173 (by decide)) (h176 (by decide))).mono (by decide)) (by assumption)⟩
          | exact ⟨_, rfl, hG wz4 wz5 _ (h374.mono (by decide)) (h375.mono (by decide)) (by assumption)⟩
          | exact ⟨_, rfl, hG wz4 (mul k wz4 wz5) _ (h374.mono (by decide)) ((mul_b hk (h174 (by decide)) (h175 (by decide))).mono (by decide)) (by assumption)⟩
          | exact ⟨_, rfl, hG wz4 wz6 _ (h374.mono (by decide)) (h376.mono (by decide)) (by assumption)⟩
          | exact ⟨_, rfl, hG wz4 (mul k wz4 wz6) _ (h374.mono (by decide)) ((mul_b hk (h174 (by decide)) (h176 (by decide))).mono (by decide)) (by assumption)⟩
          | exact ⟨_, rfl, hG wz5 wz6 _ (h375.mono (by decide)) (h376.mono (by decide)) (by assumption)⟩
          | exact ⟨_, rfl, hG wz5 (mul k wz5 wz6) _ (h375.mono (by decide)) ((mul_b hk (h175 (by decide)) (h176 (by decide))).mono (by decide)) (by assumption)⟩
    case h14 =>
      first | assumption | exact Nat.le_of_ble_eq_true rfl | omega

/-! ### _law_is_pair -/
abbrev s__law_is_pair : Stmt := topS 49
theorem sc__law_is_pair : FnScope ["told", "many", "pair", "a"] ["told", "many"] (defScope s__law_is_pair) := ⟨rfl, rfl, rfl, by decide +kernel, rfl, by decide +kernel, by decide +kernel⟩
def F__law_is_pair : FP := fun ds Q => ∃ (zs : List Z2) (n : Int), ds = [.tup (zs.map (fun z => pD z)), .int n] ∧ (n = (zs.length : Int) ∧ zs.length ≤ 3) ∧ Q (.bl true)
theorem ok__law_is_pair {f : Addr} {fd : FuncData} (Fn : Fun K "_law_is_pair" "_law_is_pair" s__law_is_pair f fd) (m_isinstance : mg "isinstance" = none) (m_tuple : mg "tuple" = none) (m_len : mg "len" = none) (m_bool : mg "bool" = none) (m_int : mg "int" = none) : FnOk P w K mg base CX0 1 f fd ["told", "many"] (spP K F__law_is_pair) := by
  refine fn_P Fn sc__law_is_pair (fun ds G h => ?_) (fun cdv A outer s H Q E ds G hr hF hQ => ?_)
  · obtain ⟨zs, n, rfl, ⟨hn, hl⟩, hG⟩ := h
    rfl
  · obtain ⟨zs, n, rfl, ⟨hn, hl⟩, hG⟩ := hF
    refine (as_ifn (t_w (w_or (t_not (t_val (c_isi (U := "tuple") m_isinstance (ca_cons (nm 0 rfl (ca_cons (c_ty (T := "tuple") m_tuple (by decide +kernel) (ca_nil ⟨rfl, _, true, rfl, (by decide +kernel), (w_or1 (t_neI (c_lenT m_len (ca_cons (nm 0 rfl (ca_nil (nm 1 rfl (And.intro (fun b1 => (as_ret hQ (c_bl (And.intro rfl ?h1)))) (fun b1 => (as_forT (i := 2) ?h2 rfl PassesOwn.never (nm 0 rfl ⟨(fun j es q => ∃ x y, es = [some (.tup (zs.map (fun z => pD z))), some (.int n), x, y] ∧ q = []), (fun _ _ => False), ⟨_, _, rfl, rfl⟩, ⟨fun H10 e10 fr0 j d es q hj hd hw => ?h3, fun es q hw => ?h4, fun _ _ h => h.elim⟩⟩)))))))))))⟩)))))))))))
    case h1 =>
      first
        | exact hG
        | (exfalso; simp at b1; omega)
        | (exfalso; simp [pd, pd.pds, PyData.eqv, PyData.eqvAll] at b2; done)
        | (exfalso; simp [pd, pd.pds, PyData.eqv, PyData.eqvAll] at b3; done)
    case h2 =>
      exact sc__law_is_pair.nd
    case h3 =>
      obtain ⟨x, y, rfl, rfl⟩ := hw
      obtain ⟨z, rfl⟩ := map_at hd
      refine (as_ifn (t_w (w_or (t_not (t_val (c_isi (U := "tuple") m_isinstance (ca_cons (nm 2 rfl (ca_cons (c_ty (T := "tuple") m_tuple (by decide +kernel) (ca_nil ⟨rfl, _, true, rfl, (by decide +kernel), (w_or1 (t_neI (c_lenT m_len (ca_cons (nm 2 rfl (ca_nil (c_int (And.intro (fun h => absurd rfl h) (fun _ => (as_ifn (t_neDB hr.units (c_ofN (n_lcTc (j := 3) rfl ?h5 (blkOk_by (N := ["told", "many", "pair", "a"]) (sc := defScope s__law_is_pair) (by decide +kernel)) (fun _ _ _ _ _ => pg_name (i := 3) sc__law_is_pair.nd rfl (Or.inl rfl)) (nm 2 rfl ⟨?h10, (fun l acc q => acc = [] ∧ q = []), ⟨rfl, rfl⟩, ⟨fun _ _ _ _ _ l d acc q hl hd hw => ?h6⟩, fun acc q hw ha => ?h7⟩))))))))))))))⟩)))))))))))
      case h5 =>
        exact sc__law_is_pair.nd
      case h6 =>
        obtain ⟨rfl, rfl⟩ := hw
        obtain ⟨i, rfl⟩ := two_of (C := fun d => ∃ i, d = .int i) ⟨_, rfl⟩ ⟨_, rfl⟩ hd
        refine (t_w (w_or (t_val (c_isi (U := "bool") m_isinstance (ca_cons (nm 3 rfl (ca_cons (c_ty (T := "bool") m_bool (by decide +kernel) (ca_nil ⟨rfl, _, false, rfl, (by decide +kernel), (w_or1 (t_not (t_val (c_isi (U := "int") m_isinstance (ca_cons (nm 3 rfl (ca_cons (c_ty (T := "int") m_int (by decide +kernel) (ca_nil ⟨rfl, _, true, rfl, (by decide +kernel), ⟨rfl, rfl⟩⟩)))))))))⟩)))))))))
      case h7 =>
        obtain ⟨rfl, rfl⟩ := hw
        refine (c_ofN (n_disp (ca_nil (And.intro (And.intro rfl (Nat.le_of_ble_eq_true rfl)) (And.intro ?h8 (And.intro (fun b2 => (as_ret (RetC.sub hQ e10 fr0) (c_bl (And.intro rfl ?h9)))) (fun b2 => (as_end rfl ⟨_, _, rfl, rfl⟩))))))))
        case h8 =>
          exact ⟨⟨rfl, rfl⟩, rfl, rfl⟩
        case h9 =>
          first
            | exact hG
            | (exfalso; simp at b1; omega)
            | (exfalso; simp [pd, pd.pds, PyData.eqv, PyData.eqvAll] at b2; done)
            | (exfalso; simp [pd, pd.pds, PyData.eqv, PyData.eqvAll] at b3; done)
      case h10 =>
        first | assumption | exact Nat.le_of_ble_eq_true rfl | omega
    case h4 =>
      obtain ⟨x, y, rfl, rfl⟩ := hw
      refine (as_ret hQ (c_bl (And.intro rfl ?h11)))
      case h11 =>
        first
          | exact hG
          | (exfalso; simp at b1; omega)
          | (exfalso; simp [pd, pd.pds, PyData.eqv, PyData.eqvAll] at b2; done)
          | (exfalso; simp [pd, pd.pds, PyData.eqv, PyData.eqvAll] at b3; done)

/-! ### _law_sum_of -/
abbrev s__law_sum_of : Stmt := topS 50
theorem sc__law_sum_of : FnScope ["kind", "p", "x", "q", "y", "one", "other"] ["kind", "p", "x", "q", "y"] (defScope s__law_sum_of) := ⟨rfl, rfl, rfl, by decide +kernel, rfl, by decide +kernel, by decide +kernel⟩
def F__law_sum_of : FP := fun ds Q => ∃ k p x q y, ds = [.int k, pD p, pD x, pD q, pD y] ∧ (Kd k ∧ B2 1900 p ∧ B2 1900 x ∧ B2 1900 q ∧ B2 1900 y) ∧ Q (pD (add (mul k p x) (mul k q y)))
theorem ok__law_sum_of {f : Addr} {fd : FuncData} (Fn : Fun K "_law_sum_of" "_law_sum_of" s__law_sum_of f fd) (c__law_whole_times : Cl P w K mg base 4 "_law_whole_times" ["kind", "p", "q"] (spP K F__law_whole_times)) : FnOk P w K mg base CX0 5 f fd ["kind", "p", "x", "q", "y"] (spP K F__law_sum_of) := by
  refine fn_P Fn sc__law_sum_of (fun ds G h => ?_) (fun cdv A outer s H Q E ds G hr hF hQ => ?_)
  · obtain ⟨k, p, x, q, y, rfl, ⟨hk, hp, hx, hq, hy⟩, hG⟩ := h
    rfl
  · obtain ⟨k, p, x, q, y, rfl, ⟨hk, hp, hx, hq, hy⟩, hG⟩ := hF
    refine (as_par (i := 5) (j := 6) ?h1 rfl (ca_cons (c_call c__law_whole_times (hr.mono (by decide)) (ca_cons (nm 0 rfl (ca_cons (nm 1 rfl (ca_cons (nm 2 rfl (ca_nil ⟨_, p, x, rfl, ⟨hk, hp, hx⟩, And.intro rfl (ca_cons (c_call c__law_whole_times (hr.mono (by decide)) (ca_cons (nm 0 rfl (ca_cons (nm 3 rfl (ca_cons (nm 4 rfl (ca_nil ⟨_, q, y, rfl, ⟨hk, hq, hy⟩, And.intro rfl (ca_nil ⟨_, _, rfl, (as_ret hQ (c_tup (ca_cons (c_add (c_ixTn (nm 5 rfl (c_int (And.intro (by decide) (c_ixTn (nm 6 rfl (c_int (And.intro (by decide) (ca_cons (c_add (c_ixTn (nm 5 rfl (c_int (And.intro (by decide) (c_ixTn (nm 6 rfl (c_int (And.intro (by decide) (ca_nil (And.intro (And.intro rfl (Nat.le_of_ble_eq_true rfl)) (And.intro rfl ?h2)))))))))))))))))))))))))⟩)⟩)))))))))⟩))))))))))
    case h1 =>
      exact sc__law_sum_of.nd
    case h2 =>
      exact hG

/-! ### _law_divided_right -/
abbrev s__law_divided_right : Stmt := topS 51
theorem sc__law_divided_right : FnScope ["kind", "p", "q", "told"] ["kind", "p", "q"] (defScope s__law_divided_right) := ⟨rfl, rfl, rfl, by decide +kernel, rfl, by decide +kernel, by decide +kernel⟩
def F__law_divided_right : FP := fun ds Q => ∃ k p q, ds = [.int k, pD p, pD q] ∧ (Kd k ∧ B2 39 p ∧ B2 39 q ∧ q ≠ (0, 0)) ∧ Q (.bl true)
theorem ok__law_divided_right {f : Addr} {fd : FuncData} (Fn : Fun K "_law_divided_right" "_law_divided_right" s__law_divided_right f fd) (c_divided : Cl P w K mg base 4 "divided" ["kind", "p", "q"] (spP K F_divided)) (c__law_is_pair : Cl P w K mg base 1 "_law_is_pair" ["told", "many"] (spP K F__law_is_pair)) (c__law_sum_of : Cl P w K mg base 5 "_law_sum_of" ["kind", "p", "x", "q", "y"] (spP K F__law_sum_of)) (c__law_norm : Cl P w K mg base 4 "_law_norm" ["kind", "p"] (spP K F__law_norm)) (ck_divided : ClK P w K mg base 4 "divided" ["kind", "p", "q"] ["q", "p", "kind"] [2, 1, 0] (spP K F_divided)) (m_abs : mg "abs" = none) : FnOk P w K mg base CX0 6 f fd ["kind", "p", "q"] (spP K F__law_divided_right) := by
  refine fn_P Fn sc__law_divided_right (fun ds G h => ?_) (fun cdv A outer s H Q E ds G hr hF hQ => ?_)
  · obtain ⟨k, p, q, rfl, ⟨hk, hp, hq, hq0⟩, hG⟩ := h
    rfl
  · obtain ⟨k, p, q, rfl, ⟨hk, hp, hq, hq0⟩, hG⟩ := hF
    have hu := quo_b hk hq0 hp hq
    have hu5 : B2 1900 (quo k p q) := hu.mono (by decide)
    have hrr := rst_bd (p := p) hk hq0 hq
    have hr9 : B2 1900 (rst k p q (quo k p q)) := hrr.mono (by decide)
    have hr5 : B2 1000 (rst k p q (quo k p q)) := hrr.mono (by decide)
    have hp9 : B2 1900 p := hp.mono (by decide)
    have hq9 : B2 1900 q := hq.mono (by decide)
    have h1 : B2 1900 ((1, 0) : Z2) := b2_s (by decide) (by decide) (by decide)
    refine (as_forL (i := 3) ?h1 rfl PassesOwn.never (c_ofN (n_disp (ca_cons (c_call c_divided (hr.mono (by decide)) (ca_cons (nm 0 rfl (ca_cons (nm 1 rfl (ca_cons (nm 2 rfl (ca_nil ⟨_, p, q, rfl, ?h2, And.intro rfl (ca_cons (c_callK ck_divided (hr.mono (by decide)) (ck_cons (nm 2 rfl (ck_cons (nm 1 rfl (ck_cons (nm 0 rfl (ck_nil (And.intro rfl ⟨_, p, q, rfl, ?h3, And.intro rfl (ca_nil (And.intro (And.intro rfl (Nat.le_of_ble_eq_true rfl)) ⟨(fun j es qq => ∃ x, es = [some (.int k), some (pD p), some (pD q), x] ∧ qq = []), (fun _ _ => False), ⟨_, rfl, rfl⟩, ⟨fun H10 e10 fr0 j d es q hj hd hw => ?h4, fun es q hw => ?h5, fun _ _ h => h.elim⟩⟩))⟩))))))))))⟩))))))))))))
    case h1 =>
      exact sc__law_divided_right.nd
    case h2 =>
      exact ⟨hk, hp.mono (by decide), hq.mono (by decide), hq0⟩
    case h3 =>
      exact ⟨hk, hp.mono (by decide), hq.mono (by decide), hq0⟩
    case h4 =>
      obtain ⟨x, rfl, rfl⟩ := hw
      have hd2 := two_of (C := fun d => d = (ppD (quo k p q) (rst k p q (quo k p q)))) rfl rfl hd
      subst hd2
      refine (as_ifn (t_w (w_or (t_not (t_val (c_call c__law_is_pair (hr.mono (by decide)) (ca_cons (nm 3 rfl (ca_cons (c_int (ca_nil ⟨[(quo k p q), rst k p q (quo k p q)], 2, rfl, ⟨rfl, Nat.le_of_ble_eq_true rfl⟩, And.intro rfl (w_or1 (t_neDB hr.units (c_call c__law_sum_of (hr.mono (by decide)) (ca_cons (nm 0 rfl (ca_cons (c_ixTn (nm 3 rfl (c_int (And.intro (by decide) (ca_cons (nm 2 rfl (ca_cons (c_ixTn (nm 3 rfl (c_int (And.intro (by decide) (ca_cons (c_tup (ca_cons (c_int (ca_cons (c_int (ca_nil (And.intro (And.intro rfl (Nat.le_of_ble_eq_true rfl)) (ca_nil ⟨_, (quo k p q), q, rst k p q (quo k p q), (1, 0), rfl, ⟨hk, hu5, hq9, hr9, h1⟩, And.intro rfl (nm 1 rfl (And.intro ?h6 (And.intro (fun b1 => (as_ret (RetC.sub hQ e10 fr0) (c_bl (And.intro rfl ?h7)))) (fun b1 => (as_ifn (t_ge (c_abs m_abs (ca_cons (c_call c__law_norm (hr.mono (by decide)) (ca_cons (nm 0 rfl (ca_cons (c_ixTn (nm 3 rfl (c_int (And.intro (by decide) (ca_nil ⟨_, rst k p q (quo k p q), rfl, ⟨hk, hr5⟩, And.intro rfl (ca_nil (c_abs m_abs (ca_cons (c_call c__law_norm (hr.mono (by decide)) (ca_cons (nm 0 rfl (ca_cons (nm 2 rfl (ca_nil ⟨_, q, rfl, ⟨hk, hq.mono (by decide)⟩, And.intro rfl (ca_nil (And.intro (fun b2 => (as_ret (RetC.sub hQ e10 fr0) (c_bl (And.intro rfl ?h8)))) (fun b2 => (as_end rfl ⟨_, rfl, rfl⟩))))⟩)))))))))⟩)))))))))))))))))⟩))))))))))))))))))))))))))⟩)))))))))))
      case h6 =>
        exact ⟨⟨rfl, rfl⟩, rfl, rfl⟩
      case h7 =>
        first
          | exact hG
          | exact absurd dv_back (net b1)
          | exact (abs_no (nrm_ne hk hq0) (rst_norm hk hq0) (by assumption)).elim
      case h8 =>
        first
          | exact hG
          | exact absurd dv_back (net b1)
          | exact (abs_no (nrm_ne hk hq0) (rst_norm hk hq0) (by assumption)).elim
    case h5 =>
      obtain ⟨x, rfl, rfl⟩ := hw
      refine (as_ret hQ (c_bl (And.intro rfl ?h9)))
      case h9 =>
        first
          | exact hG
          | exact absurd dv_back (net b1)
          | exact (abs_no (nrm_ne hk hq0) (rst_norm hk hq0) (by assumption)).elim

end
end Y75

set_option Elab.async false
set_option linter.all false
set_option maxRecDepth 100000
set_option maxHeartbeats 8000000
namespace Y75
open PySem PySem.Spec PyProof.Rows L2 Evl Wz
open Y02 (Kd)
local macro_rules | `(tactic| walk_at "bd") => `(tactic| (repeat (first | assumption | apply Bd.mul | apply Bd.add | apply Bd.sub | apply Bd.neg | exact Bd.z | exact Bd.of _)))
local macro_rules | `(tactic| walk_at "bm") => `(tactic| (first | assumption | exact Bd.mono (by walk_at "bd") (by decide)))
local macro_rules | `(tactic| walk_at "b2") => `(tactic| (repeat (first | assumption | apply And.intro | walk_at "bm" | decide | omega)))
theorem eqv_bl (a b : Bool) : PyData.eqv (pd (.bl a)) (pd (.bl b)) = (a == b) := by cases a <;> cases b <;> rfl
theorem bl_no {a b : Bool} (h : a = b) (g : (!PyData.eqv (pd (.bl a)) (pd (.bl b))) = true) : False := by
  rw [eqv_bl, h] at g
  simp at g
theorem eu_end {k : Int} (hk : Kd k) {p0 q0 : Z2} : ∀ (n j : Nat) (p q : Z2), Eu k p0 q0 j p q → j + n = 209 → ∃ (j' : Nat) (d : Z2), Eu k p0 q0 j' d (0, 0) ∧ j' ≤ 209
  | 0, j, p, q, h, e => by
    by_cases hq : q = (0, 0)
    · subst hq; exact ⟨j, p, h, by omega⟩
    · have := h.few hk hq
      omega
  | n + 1, j, p, q, h, e => by
    by_cases hq : q = (0, 0)
    · subst hq; exact ⟨j, p, h, by omega⟩
    · exact eu_end hk n (j + 1) _ _ (h.next hk hq) (by omega)
theorem euc_b {k : Int} (hk : Kd k) {p q : Z2} (hp : B2 40 p) (hq : B2 40 q) : B2 260 (euc k 600 p q) := by
  obtain ⟨j, d, h, hj⟩ := eu_end hk 209 0 p q (Eu.start hk hp hq) rfl
  rw [← h.done.1]
  exact h.bp.mono (by omega)
theorem euc_dv {k : Int} (hk : Kd k) {p q : Z2} (hp : B2 40 p) (hq : B2 40 q) : Dv k (euc k 600 p q) p ∧ Dv k (euc k 600 p q) q := by
  obtain ⟨j, d, h, hj⟩ := eu_end hk 209 0 p q (Eu.start hk hp hq) rfl
  rw [← h.done.1]
  exact h.done.2
theorem dv_z {k : Int} {p : Z2} (h : Dv k (0, 0) p) : p = (0, 0) := by
  obtain ⟨t, rfl⟩ := h
  exact mul_zero k t
theorem euc_zi {k : Int} (hk : Kd k) {p q : Z2} (hp : B2 40 p) (hq : B2 40 q) : euc k 600 p q = (0, 0) ↔ p = (0, 0) ∧ q = (0, 0) := by
  obtain ⟨h1, h2⟩ := euc_dv hk hp hq
  constructor
  · intro e
    rw [e] at h1 h2
    exact ⟨dv_z h1, dv_z h2⟩
  · rintro ⟨rfl, rfl⟩
    exact euc_z k 600 (0, 0)
set_option exponentiation.threshold 1000000
section
variable {P : Program} {w : World} {K : PySem.W.Frag} {mg : Str → Option Value} {base : Heap} {C : Addr}

/-! ### _law_divisor_right -/
abbrev s__law_divisor_right : Stmt := topS 52
theorem sc__law_divisor_right : FnScope ["kind", "p", "q", "told"] ["kind", "p", "q"] (defScope s__law_divisor_right) := ⟨rfl, rfl, rfl, by decide +kernel, rfl, by decide +kernel, by decide +kernel⟩
def F__law_divisor_right : FP := fun ds Q => ∃ k p q, ds = [.int k, pD p, pD q] ∧ (Kd k ∧ B2 39 p ∧ B2 39 q) ∧ Q (.bl true)
theorem ok__law_divisor_right {f : Addr} {fd : FuncData} (Fn : Fun K "_law_divisor_right" "_law_divisor_right" s__law_divisor_right f fd) (c_common_divisor : Cl P w K mg base 7 "common_divisor" ["kind", "p", "q"] (spP K F_common_divisor)) (c__law_is_pair : Cl P w K mg base 1 "_law_is_pair" ["told", "many"] (spP K F__law_is_pair)) (c__law_sum_of : Cl P w K mg base 5 "_law_sum_of" ["kind", "p", "x", "q", "y"] (spP K F__law_sum_of)) (c__law_divides : Cl P w K mg base 6 "_law_divides" ["kind", "q", "p"] (spP K F__law_divides)) (ck_common_divisor : ClK P w K mg base 7 "common_divisor" ["kind", "p", "q"] ["kind", "q", "p"] [0, 2, 1] (spP K F_common_divisor)) : FnOk P w K mg base CX0 8 f fd ["kind", "p", "q"] (spP K F__law_divisor_right) := by
  refine fn_P Fn sc__law_divisor_right (fun ds G h => ?_) (fun cdv A outer s H Q E ds G hr hF hQ => ?_)
  · obtain ⟨k, p, q, rfl, ⟨hk, hp, hq⟩, hG⟩ := h
    rfl
  · obtain ⟨k, p, q, rfl, ⟨hk, hp, hq⟩, hG⟩ := hF
    have hp40 : B2 40 p := hp.mono (by decide)
    have hq40 : B2 40 q := hq.mono (by decide)
    have hp9 : B2 1900 p := hp.mono (by decide)
    have hq9 : B2 1900 q := hq.mono (by decide)
    have hD : B2 300 (euc k 600 p q) := (euc_b hk hp40 hq40).mono (by decide)
    obtain ⟨hdp, hdq⟩ := euc_dv hk hp40 hq40
    have hzi := euc_zi hk hp40 hq40
    have dp : decide (dvb k (euc k 600 p q) p) = true := decide_eq_true ((dvb_iff hk).mpr hdp)
    have dq : decide (dvb k (euc k 600 p q) q) = true := decide_eq_true ((dvb_iff hk).mpr hdq)
    refine (as_forL (i := 3) ?h1 rfl PassesOwn.never (c_ofN (n_disp (ca_cons (c_call c_common_divisor (hr.mono (by decide)) (ca_cons (nm 0 rfl (ca_cons (nm 1 rfl (ca_cons (nm 2 rfl (ca_nil ⟨_, p, q, rfl, ⟨hk, hp40, hq40⟩, fun xA yA heA hbA hdpA hdqA hxA hyA => And.intro rfl (ca_cons (c_callK ck_common_divisor (hr.mono (by decide)) (ck_cons (nm 0 rfl (ck_cons (nm 2 rfl (ck_cons (nm 1 rfl (ck_nil (And.intro rfl ⟨_, p, q, rfl, ⟨hk, hp40, hq40⟩, fun xB yB heB hbB hdpB hdqB hxB hyB => And.intro rfl (ca_nil (And.intro (And.intro rfl (Nat.le_of_ble_eq_true rfl)) ⟨(fun j es qq => ∃ x, es = [some (.int k), some (pD p), some (pD q), x] ∧ qq = []), (fun _ _ => False), ⟨_, rfl, rfl⟩, ⟨fun H10 e10 fr0 j d es q hj hd hw => ?h2, fun es q hw => ?h3, fun _ _ h => h.elim⟩⟩))⟩))))))))))⟩))))))))))))
    case h1 =>
      exact sc__law_divisor_right.nd
    case h2 =>
      obtain ⟨x, rfl, rfl⟩ := hw
      obtain ⟨sx, sy, rfl, hse, hsx, hsy⟩ := two_of (C := fun d => ∃ sx sy, d = .tup [pD (euc k 600 p q), pD sx, pD sy] ∧ add (mul k p sx) (mul k q sy) = (euc k 600 p q) ∧ B2 1900 sx ∧ B2 1900 sy) ⟨xA, yA, rfl, heA, hxA, hyA⟩ ⟨xB, yB, rfl, heB, hxB, hyB⟩ hd
      refine (as_ifn (t_w (w_or (t_not (t_val (c_call c__law_is_pair (hr.mono (by decide)) (ca_cons (nm 3 rfl (ca_cons (c_int (ca_nil ⟨[(euc k 600 p q), sx, sy], 3, rfl, ⟨rfl, Nat.le_of_ble_eq_true rfl⟩, And.intro rfl (w_or1 (t_neDB hr.units (c_call c__law_sum_of (hr.mono (by decide)) (ca_cons (nm 0 rfl (ca_cons (nm 1 rfl (ca_cons (c_ixTn (nm 3 rfl (c_int (And.intro (by decide) (ca_cons (nm 2 rfl (ca_cons (c_ixTn (nm 3 rfl (c_int (And.intro (by decide) (ca_nil ⟨_, p, sx, q, sy, rfl, ⟨hk, hp9, hsx, hq9, hsy⟩, And.intro rfl (c_ixTn (nm 3 rfl (c_int (And.intro (by decide) (And.intro ?h4 (And.intro (fun b1 => (as_ret (RetC.sub hQ e10 fr0) (c_bl (And.intro rfl ?h5)))) (fun b1 => (as_ifn (t_w (w_or (t_not (t_valB (c_call c__law_divides (hr.mono (by decide)) (ca_cons (nm 0 rfl (ca_cons (c_ixTn (nm 3 rfl (c_int (And.intro (by decide) (ca_cons (nm 1 rfl (ca_nil ⟨_, (euc k 600 p q), p, rfl, ⟨hk, hD, hp.mono (by decide)⟩, And.intro rfl (And.intro (fun b2 => (w_or1 (t_not (t_valB (c_call c__law_divides (hr.mono (by decide)) (ca_cons (nm 0 rfl (ca_cons (c_ixTn (nm 3 rfl (c_int (And.intro (by decide) (ca_cons (nm 2 rfl (ca_nil ⟨_, (euc k 600 p q), q, rfl, ⟨hk, hD, hq.mono (by decide)⟩, And.intro rfl (And.intro (fun b3 => (as_ifn (t_neDB hr.units (c_eqD hr.units (c_ixTn (nm 3 rfl (c_int (And.intro (by decide) (c_tup (ca_cons (c_int (ca_cons (c_int (ca_nil (And.intro (And.intro rfl (Nat.le_of_ble_eq_true rfl)) (And.intro ?h6 (c_andB (c_eqD hr.units (nm 1 rfl (c_tup (ca_cons (c_int (ca_cons (c_int (ca_nil (And.intro (And.intro rfl (Nat.le_of_ble_eq_true rfl)) (And.intro ?h7 (And.intro (fun b4 => (c_one (c_eqD hr.units (nm 2 rfl (c_tup (ca_cons (c_int (ca_cons (c_int (ca_nil (And.intro (And.intro rfl (Nat.le_of_ble_eq_true rfl)) (And.intro ?h8 (And.intro ?h9 (And.intro (fun b6 => (as_ret (RetC.sub hQ e10 fr0) (c_bl (And.intro rfl ?h10)))) (fun b6 => (as_end rfl ⟨_, rfl, rfl⟩)))))))))))))))) (fun b5 => (And.intro ?h11 (And.intro (fun b7 => (as_ret (RetC.sub hQ e10 fr0) (c_bl (And.intro rfl ?h12)))) (fun b7 => (as_end rfl ⟨_, rfl, rfl⟩))))))))))))))))))))))))))))))))) (fun b3 => (as_ret (RetC.sub hQ e10 fr0) (c_bl (And.intro rfl ?h13)))))⟩))))))))))))))) (fun b2 => (as_ret (RetC.sub hQ e10 fr0) (c_bl (And.intro rfl ?h14)))))⟩)))))))))))))))))))))))⟩))))))))))))))))))))⟩)))))))))))
      case h4 =>
        exact ⟨⟨rfl, rfl⟩, rfl, rfl⟩
      case h5 =>
        first
          | exact hG
          | exact absurd hse (net b1)
          | exact absurd (dp.symm.trans b1) (by decide)
          | exact absurd (dq.symm.trans b1) (by decide)
          | exact absurd (dp.symm.trans b2) (by decide)
          | exact absurd (dq.symm.trans b2) (by decide)
          | exact absurd (dp.symm.trans b3) (by decide)
          | exact absurd (dq.symm.trans b3) (by decide)
          | exact absurd (dp.symm.trans b4) (by decide)
          | exact absurd (dq.symm.trans b4) (by decide)
          | (refine (bl_no ?_ b2).elim
             rw [eqv_pD (euc k 600 p q) (0, 0), eqv_pD q (0, 0)]
             exact decide_eq_decide.mpr (hzi.trans ⟨fun h => h.2, fun h => ⟨eqt b1, h⟩⟩))
          | (refine (bl_no ?_ b2).elim
             rw [eqv_pD (euc k 600 p q) (0, 0)]
             exact decide_eq_false (fun h => absurd (hzi.mp h).1 (eqf b1)))
          | (refine (bl_no ?_ b3).elim
             rw [eqv_pD (euc k 600 p q) (0, 0), eqv_pD q (0, 0)]
             exact decide_eq_decide.mpr (hzi.trans ⟨fun h => h.2, fun h => ⟨eqt b1, h⟩⟩))
          | (refine (bl_no ?_ b3).elim
             rw [eqv_pD (euc k 600 p q) (0, 0)]
             exact decide_eq_false (fun h => absurd (hzi.mp h).1 (eqf b1)))
          | (refine (bl_no ?_ b3).elim
             rw [eqv_pD (euc k 600 p q) (0, 0), eqv_pD q (0, 0)]
             exact decide_eq_decide.mpr (hzi.trans ⟨fun h => h.2, fun h => ⟨eqt b2, h⟩⟩))
          | (refine (bl_no ?_ b3).elim
             rw [eqv_pD (euc k 600 p q) (0, 0)]
             exact decide_eq_false (fun h => absurd (hzi.mp h).1 (eqf b2)))
          | (refine (bl_no ?_ b4).elim
             rw [eqv_pD (euc k 600 p q) (0, 0), eqv_pD q (0, 0)]
             exact decide_eq_decide.mpr (hzi.trans ⟨fun h => h.2, fun h => ⟨eqt b1, h⟩⟩))
          | (refine (bl_no ?_ b4).elim
             rw [eqv_pD (euc k 600 p q) (0, 0)]
             exact decide_eq_false (fun h => absurd (hzi.mp h).1 (eqf b1)))
          | (refine (bl_no ?_ b4).elim
             rw [eqv_pD (euc k 600 p q) (0, 0), eqv_pD q (0, 0)]
             exact decide_eq_decide.mpr (hzi.trans ⟨fun h => h.2, fun h => ⟨eqt b2, h⟩⟩))
          | (refine (bl_no ?_ b4).elim
             rw [eqv_pD (euc k 600 p q) (0, 0)]
             exact decide_eq_false (fun h => absurd (hzi.mp h).1 (eqf b2)))
          | (refine (bl_no ?_ b4).elim
             rw [eqv_pD (euc k 600 p q) (0, 0), eqv_pD q (0, 0)]
             exact decide_eq_decide.mpr (hzi.trans ⟨fun h => h.2, fun h => ⟨eqt b3, h⟩⟩))
          | (refine (bl_no ?_ b4).elim
             rw [eqv_pD (euc k 600 p q) (0, 0)]
             exact decide_eq_false (fun h => absurd (hzi.mp h).1 (eqf b3)))
          | (refine (bl_no ?_ b5).elim
             rw [eqv_pD (euc k 600 p q) (0, 0), eqv_pD q (0, 0)]
             exact decide_eq_decide.mpr (hzi.trans ⟨fun h => h.2, fun h => ⟨eqt b2, h⟩⟩))
          | (refine (bl_no ?_ b5).elim
             rw [eqv_pD (euc k 600 p q) (0, 0)]
             exact decide_eq_false (fun h => absurd (hzi.mp h).1 (eqf b2)))
          | (refine (bl_no ?_ b5).elim
             rw [eqv_pD (euc k 600 p q) (0, 0), eqv_pD q (0, 0)]
             exact decide_eq_decide.mpr (hzi.trans ⟨fun h => h.2, fun h => ⟨eqt b3, h⟩⟩))
          | (refine (bl_no ?_ b5).elim
             rw [eqv_pD (euc k 600 p q) (0, 0)]
             exact decide_eq_false (fun h => absurd (hzi.mp h).1 (eqf b3)))
          | (refine (bl_no ?_ b5).elim
             rw [eqv_pD (euc k 600 p q) (0, 0), eqv_pD q (0, 0)]
             exact decide_eq_decide.mpr (hzi.trans ⟨fun h => h.2, fun h => ⟨eqt b4, h⟩⟩))
          | (refine (bl_no ?_ b5).elim
             rw [eqv_pD (euc k 600 p q) (0, 0)]
             exact decide_eq_false (fun h => absurd (hzi.mp h).1 (eqf b4)))
          | (refine (bl_no ?_ b6).elim
             rw [eqv_pD (euc k 600 p q) (0, 0), eqv_pD q (0, 0)]
             exact decide_eq_decide.mpr (hzi.trans ⟨fun h => h.2, fun h => ⟨eqt b3, h⟩⟩))
          | (refine (bl_no ?_ b6).elim
             rw [eqv_pD (euc k 600 p q) (0, 0)]
             exact decide_eq_false (fun h => absurd (hzi.mp h).1 (eqf b3)))
          | (refine (bl_no ?_ b6).elim
             rw [eqv_pD (euc k 600 p q) (0, 0), eqv_pD q (0, 0)]
             exact decide_eq_decide.mpr (hzi.trans ⟨fun h => h.2, fun h => ⟨eqt b4, h⟩⟩))
          | (refine (bl_no ?_ b6).elim
             rw [eqv_pD (euc k 600 p q) (0, 0)]
             exact decide_eq_false (fun h => absurd (hzi.mp h).1 (eqf b4)))
          | (refine (bl_no ?_ b6).elim
             rw [eqv_pD (euc k 600 p q) (0, 0), eqv_pD q (0, 0)]
             exact decide_eq_decide.mpr (hzi.trans ⟨fun h => h.2, fun h => ⟨eqt b5, h⟩⟩))
          | (refine (bl_no ?_ b6).elim
             rw [eqv_pD (euc k 600 p q) (0, 0)]
             exact decide_eq_false (fun h => absurd (hzi.mp h).1 (eqf b5)))
          | (refine (bl_no ?_ b7).elim
             rw [eqv_pD (euc k 600 p q) (0, 0), eqv_pD q (0, 0)]
             exact decide_eq_decide.mpr (hzi.trans ⟨fun h => h.2, fun h => ⟨eqt b4, h⟩⟩))
          | (refine (bl_no ?_ b7).elim
             rw [eqv_pD (euc k 600 p q) (0, 0)]
             exact decide_eq_false (fun h => absurd (hzi.mp h).1 (eqf b4)))
          | (refine (bl_no ?_ b7).elim
             rw [eqv_pD (euc k 600 p q) (0, 0), eqv_pD q (0, 0)]
             exact decide_eq_decide.mpr (hzi.trans ⟨fun h => h.2, fun h => ⟨eqt b5, h⟩⟩))
          | (refine (bl_no ?_ b7).elim
             rw [eqv_pD (euc k 600 p q) (0, 0)]
             exact decide_eq_false (fun h => absurd (hzi.mp h).1 (eqf b5)))
          | (refine (bl_no ?_ b7).elim
             rw [eqv_pD (euc k 600 p q) (0, 0), eqv_pD q (0, 0)]
             exact decide_eq_decide.mpr (hzi.trans ⟨fun h => h.2, fun h => ⟨eqt b6, h⟩⟩))
          | (refine (bl_no ?_ b7).elim
             rw [eqv_pD (euc k 600 p q) (0, 0)]
             exact decide_eq_false (fun h => absurd (hzi.mp h).1 (eqf b6)))
          | (refine (bl_no ?_ b8).elim
             rw [eqv_pD (euc k 600 p q) (0, 0), eqv_pD q (0, 0)]
             exact decide_eq_decide.mpr (hzi.trans ⟨fun h => h.2, fun h => ⟨eqt b5, h⟩⟩))
          | (refine (bl_no ?_ b8).elim
             rw [eqv_pD (euc k 600 p q) (0, 0)]
             exact decide_eq_false (fun h => absurd (hzi.mp h).1 (eqf b5)))
          | (refine (bl_no ?_ b8).elim
             rw [eqv_pD (euc k 600 p q) (0, 0), eqv_pD q (0, 0)]
             exact decide_eq_decide.mpr (hzi.trans ⟨fun h => h.2, fun h => ⟨eqt b6, h⟩⟩))
          | (refine (bl_no ?_ b8).elim
             rw [eqv_pD (euc k 600 p q) (0, 0)]
             exact decide_eq_false (fun h => absurd (hzi.mp h).1 (eqf b6)))
          | (refine (bl_no ?_ b8).elim
             rw [eqv_pD (euc k 600 p q) (0, 0), eqv_pD q (0, 0)]
             exact decide_eq_decide.mpr (hzi.trans ⟨fun h => h.2, fun h => ⟨eqt b7, h⟩⟩))
          | (refine (bl_no ?_ b8).elim
             rw [eqv_pD (euc k 600 p q) (0, 0)]
             exact decide_eq_false (fun h => absurd (hzi.mp h).1 (eqf b7)))
          | (refine (bl_no ?_ b9).elim
             rw [eqv_pD (euc k 600 p q) (0, 0), eqv_pD q (0, 0)]
             exact decide_eq_decide.mpr (hzi.trans ⟨fun h => h.2, fun h => ⟨eqt b6, h⟩⟩))
          | (refine (bl_no ?_ b9).elim
             rw [eqv_pD (euc k 600 p q) (0, 0)]
             exact decide_eq_false (fun h => absurd (hzi.mp h).1 (eqf b6)))
          | (refine (bl_no ?_ b9).elim
             rw [eqv_pD (euc k 600 p q) (0, 0), eqv_pD q (0, 0)]
             exact decide_eq_decide.mpr (hzi.trans ⟨fun h => h.2, fun h => ⟨eqt b7, h⟩⟩))
          | (refine (bl_no ?_ b9).elim
             rw [eqv_pD (euc k 600 p q) (0, 0)]
             exact decide_eq_false (fun h => absurd (hzi.mp h).1 (eqf b7)))
          | (refine (bl_no ?_ b9).elim
             rw [eqv_pD (euc k 600 p q) (0, 0), eqv_pD q (0, 0)]
             exact decide_eq_decide.mpr (hzi.trans ⟨fun h => h.2, fun h => ⟨eqt b8, h⟩⟩))
          | (refine (bl_no ?_ b9).elim
             rw [eqv_pD (euc k 600 p q) (0, 0)]
             exact decide_eq_false (fun h => absurd (hzi.mp h).1 (eqf b8)))
          | (refine (bl_no ?_ b10).elim
             rw [eqv_pD (euc k 600 p q) (0, 0), eqv_pD q (0, 0)]
             exact decide_eq_decide.mpr (hzi.trans ⟨fun h => h.2, fun h => ⟨eqt b7, h⟩⟩))
          | (refine (bl_no ?_ b10).elim
             rw [eqv_pD (euc k 600 p q) (0, 0)]
             exact decide_eq_false (fun h => absurd (hzi.mp h).1 (eqf b7)))
          | (refine (bl_no ?_ b10).elim
             rw [eqv_pD (euc k 600 p q) (0, 0), eqv_pD q (0, 0)]
             exact decide_eq_decide.mpr (hzi.trans ⟨fun h => h.2, fun h => ⟨eqt b8, h⟩⟩))
          | (refine (bl_no ?_ b10).elim
             rw [eqv_pD (euc k 600 p q) (0, 0)]
             exact decide_eq_false (fun h => absurd (hzi.mp h).1 (eqf b8)))
          | (refine (bl_no ?_ b10).elim
             rw [eqv_pD (euc k 600 p q) (0, 0), eqv_pD q (0, 0)]
             exact decide_eq_decide.mpr (hzi.trans ⟨fun h => h.2, fun h => ⟨eqt b9, h⟩⟩))
          | (refine (bl_no ?_ b10).elim
             rw [eqv_pD (euc k 600 p q) (0, 0)]
             exact decide_eq_false (fun h => absurd (hzi.mp h).1 (eqf b9)))
          | (refine (bl_no ?_ b11).elim
             rw [eqv_pD (euc k 600 p q) (0, 0), eqv_pD q (0, 0)]
             exact decide_eq_decide.mpr (hzi.trans ⟨fun h => h.2, fun h => ⟨eqt b8, h⟩⟩))
          | (refine (bl_no ?_ b11).elim
             rw [eqv_pD (euc k 600 p q) (0, 0)]
             exact decide_eq_false (fun h => absurd (hzi.mp h).1 (eqf b8)))
          | (refine (bl_no ?_ b11).elim
             rw [eqv_pD (euc k 600 p q) (0, 0), eqv_pD q (0, 0)]
             exact decide_eq_decide.mpr (hzi.trans ⟨fun h => h.2, fun h => ⟨eqt b9, h⟩⟩))
          | (refine (bl_no ?_ b11).elim
             rw [eqv_pD (euc k 600 p q) (0, 0)]
             exact decide_eq_false (fun h => absurd (hzi.mp h).1 (eqf b9)))
          | (refine (bl_no ?_ b11).elim
             rw [eqv_pD (euc k 600 p q) (0, 0), eqv_pD q (0, 0)]
             exact decide_eq_decide.mpr (hzi.trans ⟨fun h => h.2, fun h => ⟨eqt b10, h⟩⟩))
          | (refine (bl_no ?_ b11).elim
             rw [eqv_pD (euc k 600 p q) (0, 0)]
             exact decide_eq_false (fun h => absurd (hzi.mp h).1 (eqf b10)))
      case h6 =>
        exact ⟨⟨rfl, rfl⟩, rfl, rfl⟩
      case h7 =>
        exact ⟨⟨rfl, rfl⟩, rfl, rfl⟩
      case h8 =>
        exact ⟨⟨rfl, rfl⟩, rfl, rfl⟩
      case h9 =>
        exact ⟨⟨rfl, rfl⟩, rfl, rfl⟩
      case h10 =>
        first
          | exact hG
          | exact absurd hse (net b1)
          | exact absurd (dp.symm.trans b1) (by decide)
          | exact absurd (dq.symm.trans b1) (by decide)
          | exact absurd (dp.symm.trans b2) (by decide)
          | exact absurd (dq.symm.trans b2) (by decide)
          | exact absurd (dp.symm.trans b3) (by decide)
          | exact absurd (dq.symm.trans b3) (by decide)
          | exact absurd (dp.symm.trans b4) (by decide)
          | exact absurd (dq.symm.trans b4) (by decide)
          | (refine (bl_no ?_ b2).elim
             rw [eqv_pD (euc k 600 p q) (0, 0), eqv_pD q (0, 0)]
             exact decide_eq_decide.mpr (hzi.trans ⟨fun h => h.2, fun h => ⟨eqt b1, h⟩⟩))
          | (refine (bl_no ?_ b2).elim
             rw [eqv_pD (euc k 600 p q) (0, 0)]
             exact decide_eq_false (fun h => absurd (hzi.mp h).1 (eqf b1)))
          | (refine (bl_no ?_ b3).elim
             rw [eqv_pD (euc k 600 p q) (0, 0), eqv_pD q (0, 0)]
             exact decide_eq_decide.mpr (hzi.trans ⟨fun h => h.2, fun h => ⟨eqt b1, h⟩⟩))
          | (refine (bl_no ?_ b3).elim
             rw [eqv_pD (euc k 600 p q) (0, 0)]
             exact decide_eq_false (fun h => absurd (hzi.mp h).1 (eqf b1)))
          | (refine (bl_no ?_ b3).elim
             rw [eqv_pD (euc k 600 p q) (0, 0), eqv_pD q (0, 0)]
             exact decide_eq_decide.mpr (hzi.trans ⟨fun h => h.2, fun h => ⟨eqt b2, h⟩⟩))
          | (refine (bl_no ?_ b3).elim
             rw [eqv_pD (euc k 600 p q) (0, 0)]
             exact decide_eq_false (fun h => absurd (hzi.mp h).1 (eqf b2)))
          | (refine (bl_no ?_ b4).elim
             rw [eqv_pD (euc k 600 p q) (0, 0), eqv_pD q (0, 0)]
             exact decide_eq_decide.mpr (hzi.trans ⟨fun h => h.2, fun h => ⟨eqt b1, h⟩⟩))
          | (refine (bl_no ?_ b4).elim
             rw [eqv_pD (euc k 600 p q) (0, 0)]
             exact decide_eq_false (fun h => absurd (hzi.mp h).1 (eqf b1)))
          | (refine (bl_no ?_ b4).elim
             rw [eqv_pD (euc k 600 p q) (0, 0), eqv_pD q (0, 0)]
             exact decide_eq_decide.mpr (hzi.trans ⟨fun h => h.2, fun h => ⟨eqt b2, h⟩⟩))
          | (refine (bl_no ?_ b4).elim
             rw [eqv_pD (euc k 600 p q) (0, 0)]
             exact decide_eq_false (fun h => absurd (hzi.mp h).1 (eqf b2)))
          | (refine (bl_no ?_ b4).elim
             rw [eqv_pD (euc k 600 p q) (0, 0), eqv_pD q (0, 0)]
             exact decide_eq_decide.mpr (hzi.trans ⟨fun h => h.2, fun h => ⟨eqt b3, h⟩⟩))
          | (refine (bl_no ?_ b4).elim
             rw [eqv_pD (euc k 600 p q) (0, 0)]
             exact decide_eq_false (fun h => absurd (hzi.mp h).1 (eqf b3)))
          | (refine (bl_no ?_ b5).elim
             rw [eqv_pD (euc k 600 p q) (0, 0), eqv_pD q (0, 0)]
             exact decide_eq_decide.mpr (hzi.trans ⟨fun h => h.2, fun h => ⟨eqt b2, h⟩⟩))
          | (refine (bl_no ?_ b5).elim
             rw [eqv_pD (euc k 600 p q) (0, 0)]
             exact decide_eq_false (fun h => absurd (hzi.mp h).1 (eqf b2)))
          | (refine (bl_no ?_ b5).elim
             rw [eqv_pD (euc k 600 p q) (0, 0), eqv_pD q (0, 0)]
             exact decide_eq_decide.mpr (hzi.trans ⟨fun h => h.2, fun h => ⟨eqt b3, h⟩⟩))
          | (refine (bl_no ?_ b5).elim
             rw [eqv_pD (euc k 600 p q) (0, 0)]
             exact decide_eq_false (fun h => absurd (hzi.mp h).1 (eqf b3)))
          | (refine (bl_no ?_ b5).elim
             rw [eqv_pD (euc k 600 p q) (0, 0), eqv_pD q (0, 0)]
             exact decide_eq_decide.mpr (hzi.trans ⟨fun h => h.2, fun h => ⟨eqt b4, h⟩⟩))
          | (refine (bl_no ?_ b5).elim
             rw [eqv_pD (euc k 600 p q) (0, 0)]
             exact decide_eq_false (fun h => absurd (hzi.mp h).1 (eqf b4)))
          | (refine (bl_no ?_ b6).elim
             rw [eqv_pD (euc k 600 p q) (0, 0), eqv_pD q (0, 0)]
             exact decide_eq_decide.mpr (hzi.trans ⟨fun h => h.2, fun h => ⟨eqt b3, h⟩⟩))
          | (refine (bl_no ?_ b6).elim
             rw [eqv_pD (euc k 600 p q) (0, 0)]
             exact decide_eq_false (fun h => absurd (hzi.mp h).1 (eqf b3)))
          | (refine (bl_no ?_ b6).elim
             rw [eqv_pD (euc k 600 p q) (0, 0), eqv_pD q (0, 0)]
             exact decide_eq_decide.mpr (hzi.trans ⟨fun h => h.2, fun h => ⟨eqt b4, h⟩⟩))
          | (refine (bl_no ?_ b6).elim
             rw [eqv_pD (euc k 600 p q) (0, 0)]
             exact decide_eq_false (fun h => absurd (hzi.mp h).1 (eqf b4)))
          | (refine (bl_no ?_ b6).elim
             rw [eqv_pD (euc k 600 p q) (0, 0), eqv_pD q (0, 0)]
             exact decide_eq_decide.mpr (hzi.trans ⟨fun h => h.2, fun h => ⟨eqt b5, h⟩⟩))
          | (refine (bl_no ?_ b6).elim
             rw [eqv_pD (euc k 600 p q) (0, 0)]
             exact decide_eq_false (fun h => absurd (hzi.mp h).1 (eqf b5)))
          | (refine (bl_no ?_ b7).elim
             rw [eqv_pD (euc k 600 p q) (0, 0), eqv_pD q (0, 0)]
             exact decide_eq_decide.mpr (hzi.trans ⟨fun h => h.2, fun h => ⟨eqt b4, h⟩⟩))
          | (refine (bl_no ?_ b7).elim
             rw [eqv_pD (euc k 600 p q) (0, 0)]
             exact decide_eq_false (fun h => absurd (hzi.mp h).1 (eqf b4)))
          | (refine (bl_no ?_ b7).elim
             rw [eqv_pD (euc k 600 p q) (0, 0), eqv_pD q (0, 0)]
             exact decide_eq_decide.mpr (hzi.trans ⟨fun h => h.2, fun h => ⟨eqt b5, h⟩⟩))
          | (refine (bl_no ?_ b7).elim
             rw [eqv_pD (euc k 600 p q) (0, 0)]
             exact decide_eq_false (fun h => absurd (hzi.mp h).1 (eqf b5)))
          | (refine (bl_no ?_ b7).elim
             rw [eqv_pD (euc k 600 p q) (0, 0), eqv_pD q (0, 0)]
             exact decide_eq_decide.mpr (hzi.trans ⟨fun h => h.2, fun h => ⟨eqt b6, h⟩⟩))
          | (refine (bl_no ?_ b7).elim
             rw [eqv_pD (euc k 600 p q) (0, 0)]
             exact decide_eq_false (fun h => absurd (hzi.mp h).1 (eqf b6)))
          | (refine (bl_no ?_ b8).elim
             rw [eqv_pD (euc k 600 p q) (0, 0), eqv_pD q (0, 0)]
             exact decide_eq_decide.mpr (hzi.trans ⟨fun h => h.2, fun h => ⟨eqt b5, h⟩⟩))
          | (refine (bl_no ?_ b8).elim
             rw [eqv_pD (euc k 600 p q) (0, 0)]
             exact decide_eq_false (fun h => absurd (hzi.mp h).1 (eqf b5)))
          | (refine (bl_no ?_ b8).elim
             rw [eqv_pD (euc k 600 p q) (0, 0), eqv_pD q (0, 0)]
             exact decide_eq_decide.mpr (hzi.trans ⟨fun h => h.2, fun h => ⟨eqt b6, h⟩⟩))
          | (refine (bl_no ?_ b8).elim
             rw [eqv_pD (euc k 600 p q) (0, 0)]
             exact decide_eq_false (fun h => absurd (hzi.mp h).1 (eqf b6)))
          | (refine (bl_no ?_ b8).elim
             rw [eqv_pD (euc k 600 p q) (0, 0), eqv_pD q (0, 0)]
             exact decide_eq_decide.mpr (hzi.trans ⟨fun h => h.2, fun h => ⟨eqt b7, h⟩⟩))
          | (refine (bl_no ?_ b8).elim
             rw [eqv_pD (euc k 600 p q) (0, 0)]
             exact decide_eq_false (fun h => absurd (hzi.mp h).1 (eqf b7)))
          | (refine (bl_no ?_ b9).elim
             rw [eqv_pD (euc k 600 p q) (0, 0), eqv_pD q (0, 0)]
             exact decide_eq_decide.mpr (hzi.trans ⟨fun h => h.2, fun h => ⟨eqt b6, h⟩⟩))
          | (refine (bl_no ?_ b9).elim
             rw [eqv_pD (euc k 600 p q) (0, 0)]
             exact decide_eq_false (fun h => absurd (hzi.mp h).1 (eqf b6)))
          | (refine (bl_no ?_ b9).elim
             rw [eqv_pD (euc k 600 p q) (0, 0), eqv_pD q (0, 0)]
             exact decide_eq_decide.mpr (hzi.trans ⟨fun h => h.2, fun h => ⟨eqt b7, h⟩⟩))
          | (refine (bl_no ?_ b9).elim
             rw [eqv_pD (euc k 600 p q) (0, 0)]
             exact decide_eq_false (fun h => absurd (hzi.mp h).1 (eqf b7)))
          | (refine (bl_no ?_ b9).elim
             rw [eqv_pD (euc k 600 p q) (0, 0), eqv_pD q (0, 0)]
             exact decide_eq_decide.mpr (hzi.trans ⟨fun h => h.2, fun h => ⟨eqt b8, h⟩⟩))
          | (refine (bl_no ?_ b9).elim
             rw [eqv_pD (euc k 600 p q) (0, 0)]
             exact decide_eq_false (fun h => absurd (hzi.mp h).1 (eqf b8)))
          | (refine (bl_no ?_ b10).elim
             rw [eqv_pD (euc k 600 p q) (0, 0), eqv_pD q (0, 0)]
             exact decide_eq_decide.mpr (hzi.trans ⟨fun h => h.2, fun h => ⟨eqt b7, h⟩⟩))
          | (refine (bl_no ?_ b10).elim
             rw [eqv_pD (euc k 600 p q) (0, 0)]
             exact decide_eq_false (fun h => absurd (hzi.mp h).1 (eqf b7)))
          | (refine (bl_no ?_ b10).elim
             rw [eqv_pD (euc k 600 p q) (0, 0), eqv_pD q (0, 0)]
             exact decide_eq_decide.mpr (hzi.trans ⟨fun h => h.2, fun h => ⟨eqt b8, h⟩⟩))
          | (refine (bl_no ?_ b10).elim
             rw [eqv_pD (euc k 600 p q) (0, 0)]
             exact decide_eq_false (fun h => absurd (hzi.mp h).1 (eqf b8)))
          | (refine (bl_no ?_ b10).elim
             rw [eqv_pD (euc k 600 p q) (0, 0), eqv_pD q (0, 0)]
             exact decide_eq_decide.mpr (hzi.trans ⟨fun h => h.2, fun h => ⟨eqt b9, h⟩⟩))
          | (refine (bl_no ?_ b10).elim
             rw [eqv_pD (euc k 600 p q) (0, 0)]
             exact decide_eq_false (fun h => absurd (hzi.mp h).1 (eqf b9)))
          | (refine (bl_no ?_ b11).elim
             rw [eqv_pD (euc k 600 p q) (0, 0), eqv_pD q (0, 0)]
             exact decide_eq_decide.mpr (hzi.trans ⟨fun h => h.2, fun h => ⟨eqt b8, h⟩⟩))
          | (refine (bl_no ?_ b11).elim
             rw [eqv_pD (euc k 600 p q) (0, 0)]
             exact decide_eq_false (fun h => absurd (hzi.mp h).1 (eqf b8)))
          | (refine (bl_no ?_ b11).elim
             rw [eqv_pD (euc k 600 p q) (0, 0), eqv_pD q (0, 0)]
             exact decide_eq_decide.mpr (hzi.trans ⟨fun h => h.2, fun h => ⟨eqt b9, h⟩⟩))
          | (refine (bl_no ?_ b11).elim
             rw [eqv_pD (euc k 600 p q) (0, 0)]
             exact decide_eq_false (fun h => absurd (hzi.mp h).1 (eqf b9)))
          | (refine (bl_no ?_ b11).elim
             rw [eqv_pD (euc k 600 p q) (0, 0), eqv_pD q (0, 0)]
             exact decide_eq_decide.mpr (hzi.trans ⟨fun h => h.2, fun h => ⟨eqt b10, h⟩⟩))
          | (refine (bl_no ?_ b11).elim
             rw [eqv_pD (euc k 600 p q) (0, 0)]
             exact decide_eq_false (fun h => absurd (hzi.mp h).1 (eqf b10)))
      case h11 =>
        exact ⟨⟨rfl, rfl⟩, rfl, rfl⟩
      case h12 =>
        first
          | exact hG
          | exact absurd hse (net b1)
          | exact absurd (dp.symm.trans b1) (by decide)
          | exact absurd (dq.symm.trans b1) (by decide)
          | exact absurd (dp.symm.trans b2) (by decide)
          | exact absurd (dq.symm.trans b2) (by decide)
          | exact absurd (dp.symm.trans b3) (by decide)
          | exact absurd (dq.symm.trans b3) (by decide)
          | exact absurd (dp.symm.trans b4) (by decide)
          | exact absurd (dq.symm.trans b4) (by decide)
          | (refine (bl_no ?_ b2).elim
             rw [eqv_pD (euc k 600 p q) (0, 0), eqv_pD q (0, 0)]
             exact decide_eq_decide.mpr (hzi.trans ⟨fun h => h.2, fun h => ⟨eqt b1, h⟩⟩))
          | (refine (bl_no ?_ b2).elim
             rw [eqv_pD (euc k 600 p q) (0, 0)]
             exact decide_eq_false (fun h => absurd (hzi.mp h).1 (eqf b1)))
          | (refine (bl_no ?_ b3).elim
             rw [eqv_pD (euc k 600 p q) (0, 0), eqv_pD q (0, 0)]
             exact decide_eq_decide.mpr (hzi.trans ⟨fun h => h.2, fun h => ⟨eqt b1, h⟩⟩))
          | (refine (bl_no ?_ b3).elim
             rw [eqv_pD (euc k 600 p q) (0, 0)]
             exact decide_eq_false (fun h => absurd (hzi.mp h).1 (eqf b1)))
          | (refine (bl_no ?_ b3).elim
             rw [eqv_pD (euc k 600 p q) (0, 0), eqv_pD q (0, 0)]
             exact decide_eq_decide.mpr (hzi.trans ⟨fun h => h.2, fun h => ⟨eqt b2, h⟩⟩))
          | (refine (bl_no ?_ b3).elim
             rw [eqv_pD (euc k 600 p q) (0, 0)]
             exact decide_eq_false (fun h => absurd (hzi.mp h).1 (eqf b2)))
          | (refine (bl_no ?_ b4).elim
             rw [eqv_pD (euc k 600 p q) (0, 0), eqv_pD q (0, 0)]
             exact decide_eq_decide.mpr (hzi.trans ⟨fun h => h.2, fun h => ⟨eqt b1, h⟩⟩))
          | (refine (bl_no ?_ b4).elim
             rw [eqv_pD (euc k 600 p q) (0, 0)]
             exact decide_eq_false (fun h => absurd (hzi.mp h).1 (eqf b1)))
          | (refine (bl_no ?_ b4).elim
             rw [eqv_pD (euc k 600 p q) (0, 0), eqv_pD q (0, 0)]
             exact decide_eq_decide.mpr (hzi.trans ⟨fun h => h.2, fun h => ⟨eqt b2, h⟩⟩))
          | (refine (bl_no ?_ b4).elim
             rw [eqv_pD (euc k 600 p q) (0, 0)]
             exact decide_eq_false (fun h => absurd (hzi.mp h).1 (eqf b2)))
          | (refine (bl_no ?_ b4).elim
             rw [eqv_pD (euc k 600 p q) (0, 0), eqv_pD q (0, 0)]
             exact decide_eq_decide.mpr (hzi.trans ⟨fun h => h.2, fun h => ⟨eqt b3, h⟩⟩))
          | (refine (bl_no ?_ b4).elim
             rw [eqv_pD (euc k 600 p q) (0, 0)]
             exact decide_eq_false (fun h => absurd (hzi.mp h).1 (eqf b3)))
          | (refine (bl_no ?_ b5).elim
             rw [eqv_pD (euc k 600 p q) (0, 0), eqv_pD q (0, 0)]
             exact decide_eq_decide.mpr (hzi.trans ⟨fun h => h.2, fun h => ⟨eqt b2, h⟩⟩))
          | (refine (bl_no ?_ b5).elim
             rw [eqv_pD (euc k 600 p q) (0, 0)]
             exact decide_eq_false (fun h => absurd (hzi.mp h).1 (eqf b2)))
          | (refine (bl_no ?_ b5).elim
             rw [eqv_pD (euc k 600 p q) (0, 0), eqv_pD q (0, 0)]
             exact decide_eq_decide.mpr (hzi.trans ⟨fun h => h.2, fun h => ⟨eqt b3, h⟩⟩))
          | (refine (bl_no ?_ b5).elim
             rw [eqv_pD (euc k 600 p q) (0, 0)]
             exact decide_eq_false (fun h => absurd (hzi.mp h).1 (eqf b3)))
          | (refine (bl_no ?_ b5).elim
             rw [eqv_pD (euc k 600 p q) (0, 0), eqv_pD q (0, 0)]
             exact decide_eq_decide.mpr (hzi.trans ⟨fun h => h.2, fun h => ⟨eqt b4, h⟩⟩))
          | (refine (bl_no ?_ b5).elim
             rw [eqv_pD (euc k 600 p q) (0, 0)]
             exact decide_eq_false (fun h => absurd (hzi.mp h).1 (eqf b4)))
          | (refine (bl_no ?_ b6).elim
             rw [eqv_pD (euc k 600 p q) (0, 0), eqv_pD q (0, 0)]
             exact decide_eq_decide.mpr (hzi.trans ⟨fun h => h.2, fun h => ⟨eqt b3, h⟩⟩))
          | (refine (bl_no ?_ b6).elim
             rw [eqv_pD (euc k 600 p q) (0, 0)]
             exact decide_eq_false (fun h => absurd (hzi.mp h).1 (eqf b3)))
          | (refine (bl_no ?_ b6).elim
             rw [eqv_pD (euc k 600 p q) (0, 0), eqv_pD q (0, 0)]
             exact decide_eq_decide.mpr (hzi.trans ⟨fun h => h.2, fun h => ⟨eqt b4, h⟩⟩))
          | (refine (bl_no ?_ b6).elim
             rw [eqv_pD (euc k 600 p q) (0, 0)]
             exact decide_eq_false (fun h => absurd (hzi.mp h).1 (eqf b4)))
          | (refine (bl_no ?_ b6).elim
             rw [eqv_pD (euc k 600 p q) (0, 0), eqv_pD q (0, 0)]
             exact decide_eq_decide.mpr (hzi.trans ⟨fun h => h.2, fun h => ⟨eqt b5, h⟩⟩))
          | (refine (bl_no ?_ b6).elim
             rw [eqv_pD (euc k 600 p q) (0, 0)]
             exact decide_eq_false (fun h => absurd (hzi.mp h).1 (eqf b5)))
          | (refine (bl_no ?_ b7).elim
             rw [eqv_pD (euc k 600 p q) (0, 0), eqv_pD q (0, 0)]
             exact decide_eq_decide.mpr (hzi.trans ⟨fun h => h.2, fun h => ⟨eqt b4, h⟩⟩))
          | (refine (bl_no ?_ b7).elim
             rw [eqv_pD (euc k 600 p q) (0, 0)]
             exact decide_eq_false (fun h => absurd (hzi.mp h).1 (eqf b4)))
          | (refine (bl_no ?_ b7).elim
             rw [eqv_pD (euc k 600 p q) (0, 0), eqv_pD q (0, 0)]
             exact decide_eq_decide.mpr (hzi.trans ⟨fun h => h.2, fun h => ⟨eqt b5, h⟩⟩))
          | (refine (bl_no ?_ b7).elim
             rw [eqv_pD (euc k 600 p q) (0, 0)]
             exact decide_eq_false (fun h => absurd (hzi.mp h).1 (eqf b5)))
          | (refine (bl_no ?_ b7).elim
             rw [eqv_pD (euc k 600 p q) (0, 0), eqv_pD q (0, 0)]
             exact decide_eq_decide.mpr (hzi.trans ⟨fun h => h.2, fun h => ⟨eqt b6, h⟩⟩))
          | (refine (bl_no ?_ b7).elim
             rw [eqv_pD (euc k 600 p q) (0, 0)]
             exact decide_eq_false (fun h => absurd (hzi.mp h).1 (eqf b6)))
          | (refine (bl_no ?_ b8).elim
             rw [eqv_pD (euc k 600 p q) (0, 0), eqv_pD q (0, 0)]
             exact decide_eq_decide.mpr (hzi.trans ⟨fun h => h.2, fun h => ⟨eqt b5, h⟩⟩))
          | (refine (bl_no ?_ b8).elim
             rw [eqv_pD (euc k 600 p q) (0, 0)]
             exact decide_eq_false (fun h => absurd (hzi.mp h).1 (eqf b5)))
          | (refine (bl_no ?_ b8).elim
             rw [eqv_pD (euc k 600 p q) (0, 0), eqv_pD q (0, 0)]
             exact decide_eq_decide.mpr (hzi.trans ⟨fun h => h.2, fun h => ⟨eqt b6, h⟩⟩))
          | (refine (bl_no ?_ b8).elim
             rw [eqv_pD (euc k 600 p q) (0, 0)]
             exact decide_eq_false (fun h => absurd (hzi.mp h).1 (eqf b6)))
          | (refine (bl_no ?_ b8).elim
             rw [eqv_pD (euc k 600 p q) (0, 0), eqv_pD q (0, 0)]
             exact decide_eq_decide.mpr (hzi.trans ⟨fun h => h.2, fun h => ⟨eqt b7, h⟩⟩))
          | (refine (bl_no ?_ b8).elim
             rw [eqv_pD (euc k 600 p q) (0, 0)]
             exact decide_eq_false (fun h => absurd (hzi.mp h).1 (eqf b7)))
          | (refine (bl_no ?_ b9).elim
             rw [eqv_pD (euc k 600 p q) (0, 0), eqv_pD q (0, 0)]
             exact decide_eq_decide.mpr (hzi.trans ⟨fun h => h.2, fun h => ⟨eqt b6, h⟩⟩))
          | (refine (bl_no ?_ b9).elim
             rw [eqv_pD (euc k 600 p q) (0, 0)]
             exact decide_eq_false (fun h => absurd (hzi.mp h).1 (eqf b6)))
          | (refine (bl_no ?_ b9).elim
             rw [eqv_pD (euc k 600 p q) (0, 0), eqv_pD q (0, 0)]
             exact decide_eq_decide.mpr (hzi.trans ⟨fun h => h.2, fun h => ⟨eqt b7, h⟩⟩))
          | (refine (bl_no ?_ b9).elim
             rw [eqv_pD (euc k 600 p q) (0, 0)]
             exact decide_eq_false (fun h => absurd (hzi.mp h).1 (eqf b7)))
          | (refine (bl_no ?_ b9).elim
             rw [eqv_pD (euc k 600 p q) (0, 0), eqv_pD q (0, 0)]
             exact decide_eq_decide.mpr (hzi.trans ⟨fun h => h.2, fun h => ⟨eqt b8, h⟩⟩))
          | (refine (bl_no ?_ b9).elim
             rw [eqv_pD (euc k 600 p q) (0, 0)]
             exact decide_eq_false (fun h => absurd (hzi.mp h).1 (eqf b8)))
          | (refine (bl_no ?_ b10).elim
             rw [eqv_pD (euc k 600 p q) (0, 0), eqv_pD q (0, 0)]
             exact decide_eq_decide.mpr (hzi.trans ⟨fun h => h.2, fun h => ⟨eqt b7, h⟩⟩))
          | (refine (bl_no ?_ b10).elim
             rw [eqv_pD (euc k 600 p q) (0, 0)]
             exact decide_eq_false (fun h => absurd (hzi.mp h).1 (eqf b7)))
          | (refine (bl_no ?_ b10).elim
             rw [eqv_pD (euc k 600 p q) (0, 0), eqv_pD q (0, 0)]
             exact decide_eq_decide.mpr (hzi.trans ⟨fun h => h.2, fun h => ⟨eqt b8, h⟩⟩))
          | (refine (bl_no ?_ b10).elim
             rw [eqv_pD (euc k 600 p q) (0, 0)]
             exact decide_eq_false (fun h => absurd (hzi.mp h).1 (eqf b8)))
          | (refine (bl_no ?_ b10).elim
             rw [eqv_pD (euc k 600 p q) (0, 0), eqv_pD q (0, 0)]
             exact decide_eq_decide.mpr (hzi.trans ⟨fun h => h.2, fun h => ⟨eqt b9, h⟩⟩))
          | (refine (bl_no ?_ b10).elim
             rw [eqv_pD (euc k 600 p q) (0, 0)]
             exact decide_eq_false (fun h => absurd (hzi.mp h).1 (eqf b9)))
          | (refine (bl_no ?_ b11).elim
             rw [eqv_pD (euc k 600 p q) (0, 0), eqv_pD q (0, 0)]
             exact decide_eq_decide.mpr (hzi.trans ⟨fun h => h.2, fun h => ⟨eqt b8, h⟩⟩))
          | (refine (bl_no ?_ b11).elim
             rw [eqv_pD (euc k 600 p q) (0, 0)]
             exact decide_eq_false (fun h => absurd (hzi.mp h).1 (eqf b8)))
          | (refine (bl_no ?_ b11).elim
             rw [eqv_pD (euc k 600 p q) (0, 0), eqv_pD q (0, 0)]
             exact decide_eq_decide.mpr (hzi.trans ⟨fun h => h.2, fun h => ⟨eqt b9, h⟩⟩))
          | (refine (bl_no ?_ b11).elim
             rw [eqv_pD (euc k 600 p q) (0, 0)]
             exact decide_eq_false (fun h => absurd (hzi.mp h).1 (eqf b9)))
          | (refine (bl_no ?_ b11).elim
             rw [eqv_pD (euc k 600 p q) (0, 0), eqv_pD q (0, 0)]
             exact decide_eq_decide.mpr (hzi.trans ⟨fun h => h.2, fun h => ⟨eqt b10, h⟩⟩))
          | (refine (bl_no ?_ b11).elim
             rw [eqv_pD (euc k 600 p q) (0, 0)]
             exact decide_eq_false (fun h => absurd (hzi.mp h).1 (eqf b10)))
      case h13 =>
        first
          | exact hG
          | exact absurd hse (net b1)
          | exact absurd (dp.symm.trans b1) (by decide)
          | exact absurd (dq.symm.trans b1) (by decide)
          | exact absurd (dp.symm.trans b2) (by decide)
          | exact absurd (dq.symm.trans b2) (by decide)
          | exact absurd (dp.symm.trans b3) (by decide)
          | exact absurd (dq.symm.trans b3) (by decide)
          | exact absurd (dp.symm.trans b4) (by decide)
          | exact absurd (dq.symm.trans b4) (by decide)
          | (refine (bl_no ?_ b2).elim
             rw [eqv_pD (euc k 600 p q) (0, 0), eqv_pD q (0, 0)]
             exact decide_eq_decide.mpr (hzi.trans ⟨fun h => h.2, fun h => ⟨eqt b1, h⟩⟩))
          | (refine (bl_no ?_ b2).elim
             rw [eqv_pD (euc k 600 p q) (0, 0)]
             exact decide_eq_false (fun h => absurd (hzi.mp h).1 (eqf b1)))
          | (refine (bl_no ?_ b3).elim
             rw [eqv_pD (euc k 600 p q) (0, 0), eqv_pD q (0, 0)]
             exact decide_eq_decide.mpr (hzi.trans ⟨fun h => h.2, fun h => ⟨eqt b1, h⟩⟩))
          | (refine (bl_no ?_ b3).elim
             rw [eqv_pD (euc k 600 p q) (0, 0)]
             exact decide_eq_false (fun h => absurd (hzi.mp h).1 (eqf b1)))
          | (refine (bl_no ?_ b3).elim
             rw [eqv_pD (euc k 600 p q) (0, 0), eqv_pD q (0, 0)]
             exact decide_eq_decide.mpr (hzi.trans ⟨fun h => h.2, fun h => ⟨eqt b2, h⟩⟩))
          | (refine (bl_no ?_ b3).elim
             rw [eqv_pD (euc k 600 p q) (0, 0)]
             exact decide_eq_false (fun h => absurd (hzi.mp h).1 (eqf b2)))
          | (refine (bl_no ?_ b4).elim
             rw [eqv_pD (euc k 600 p q) (0, 0), eqv_pD q (0, 0)]
             exact decide_eq_decide.mpr (hzi.trans ⟨fun h => h.2, fun h => ⟨eqt b1, h⟩⟩))
          | (refine (bl_no ?_ b4).elim
             rw [eqv_pD (euc k 600 p q) (0, 0)]
             exact decide_eq_false (fun h => absurd (hzi.mp h).1 (eqf b1)))
          | (refine (bl_no ?_ b4).elim
             rw [eqv_pD (euc k 600 p q) (0, 0), eqv_pD q (0, 0)]
             exact decide_eq_decide.mpr (hzi.trans ⟨fun h => h.2, fun h => ⟨eqt b2, h⟩⟩))
          | (refine (bl_no ?_ b4).elim
             rw [eqv_pD (euc k 600 p q) (0, 0)]
             exact decide_eq_false (fun h => absurd (hzi.mp h).1 (eqf b2)))
          | (refine (bl_no ?_ b4).elim
             rw [eqv_pD (euc k 600 p q) (0, 0), eqv_pD q (0, 0)]
             exact decide_eq_decide.mpr (hzi.trans ⟨fun h => h.2, fun h => ⟨eqt b3, h⟩⟩))
          | (refine (bl_no ?_ b4).elim
             rw [eqv_pD (euc k 600 p q) (0, 0)]
             exact decide_eq_false (fun h => absurd (hzi.mp h).1 (eqf b3)))
          | (refine (bl_no ?_ b5).elim
             rw [eqv_pD (euc k 600 p q) (0, 0), eqv_pD q (0, 0)]
             exact decide_eq_decide.mpr (hzi.trans ⟨fun h => h.2, fun h => ⟨eqt b2, h⟩⟩))
          | (refine (bl_no ?_ b5).elim
             rw [eqv_pD (euc k 600 p q) (0, 0)]
             exact decide_eq_false (fun h => absurd (hzi.mp h).1 (eqf b2)))
          | (refine (bl_no ?_ b5).elim
             rw [eqv_pD (euc k 600 p q) (0, 0), eqv_pD q (0, 0)]
             exact decide_eq_decide.mpr (hzi.trans ⟨fun h => h.2, fun h => ⟨eqt b3, h⟩⟩))
          | (refine (bl_no ?_ b5).elim
             rw [eqv_pD (euc k 600 p q) (0, 0)]
             exact decide_eq_false (fun h => absurd (hzi.mp h).1 (eqf b3)))
          | (refine (bl_no ?_ b5).elim
             rw [eqv_pD (euc k 600 p q) (0, 0), eqv_pD q (0, 0)]
             exact decide_eq_decide.mpr (hzi.trans ⟨fun h => h.2, fun h => ⟨eqt b4, h⟩⟩))
          | (refine (bl_no ?_ b5).elim
             rw [eqv_pD (euc k 600 p q) (0, 0)]
             exact decide_eq_false (fun h => absurd (hzi.mp h).1 (eqf b4)))
          | (refine (bl_no ?_ b6).elim
             rw [eqv_pD (euc k 600 p q) (0, 0), eqv_pD q (0, 0)]
             exact decide_eq_decide.mpr (hzi.trans ⟨fun h => h.2, fun h => ⟨eqt b3, h⟩⟩))
          | (refine (bl_no ?_ b6).elim
             rw [eqv_pD (euc k 600 p q) (0, 0)]
             exact decide_eq_false (fun h => absurd (hzi.mp h).1 (eqf b3)))
          | (refine (bl_no ?_ b6).elim
             rw [eqv_pD (euc k 600 p q) (0, 0), eqv_pD q (0, 0)]
             exact decide_eq_decide.mpr (hzi.trans ⟨fun h => h.2, fun h => ⟨eqt b4, h⟩⟩))
          | (refine (bl_no ?_ b6).elim
             rw [eqv_pD (euc k 600 p q) (0, 0)]
             exact decide_eq_false (fun h => absurd (hzi.mp h).1 (eqf b4)))
          | (refine (bl_no ?_ b6).elim
             rw [eqv_pD (euc k 600 p q) (0, 0), eqv_pD q (0, 0)]
             exact decide_eq_decide.mpr (hzi.trans ⟨fun h => h.2, fun h => ⟨eqt b5, h⟩⟩))
          | (refine (bl_no ?_ b6).elim
             rw [eqv_pD (euc k 600 p q) (0, 0)]
             exact decide_eq_false (fun h => absurd (hzi.mp h).1 (eqf b5)))
          | (refine (bl_no ?_ b7).elim
             rw [eqv_pD (euc k 600 p q) (0, 0), eqv_pD q (0, 0)]
             exact decide_eq_decide.mpr (hzi.trans ⟨fun h => h.2, fun h => ⟨eqt b4, h⟩⟩))
          | (refine (bl_no ?_ b7).elim
             rw [eqv_pD (euc k 600 p q) (0, 0)]
             exact decide_eq_false (fun h => absurd (hzi.mp h).1 (eqf b4)))
          | (refine (bl_no ?_ b7).elim
             rw [eqv_pD (euc k 600 p q) (0, 0), eqv_pD q (0, 0)]
             exact decide_eq_decide.mpr (hzi.trans ⟨fun h => h.2, fun h => ⟨eqt b5, h⟩⟩))
          | (refine (bl_no ?_ b7).elim
             rw [eqv_pD (euc k 600 p q) (0, 0)]
             exact decide_eq_false (fun h => absurd (hzi.mp h).1 (eqf b5)))
          | (refine (bl_no ?_ b7).elim
             rw [eqv_pD (euc k 600 p q) (0, 0), eqv_pD q (0, 0)]
             exact decide_eq_decide.mpr (hzi.trans ⟨fun h => h.2, fun h => ⟨eqt b6, h⟩⟩))
          | (refine (bl_no ?_ b7).elim
             rw [eqv_pD (euc k 600 p q) (0, 0)]
             exact decide_eq_false (fun h => absurd (hzi.mp h).1 (eqf b6)))
          | (refine (bl_no ?_ b8).elim
             rw [eqv_pD (euc k 600 p q) (0, 0), eqv_pD q (0, 0)]
             exact decide_eq_decide.mpr (hzi.trans ⟨fun h => h.2, fun h => ⟨eqt b5, h⟩⟩))
          | (refine (bl_no ?_ b8).elim
             rw [eqv_pD (euc k 600 p q) (0, 0)]
             exact decide_eq_false (fun h => absurd (hzi.mp h).1 (eqf b5)))
          | (refine (bl_no ?_ b8).elim
             rw [eqv_pD (euc k 600 p q) (0, 0), eqv_pD q (0, 0)]
             exact decide_eq_decide.mpr (hzi.trans ⟨fun h => h.2, fun h => ⟨eqt b6, h⟩⟩))
          | (refine (bl_no ?_ b8).elim
             rw [eqv_pD (euc k 600 p q) (0, 0)]
             exact decide_eq_false (fun h => absurd (hzi.mp h).1 (eqf b6)))
          | (refine (bl_no ?_ b8).elim
             rw [eqv_pD (euc k 600 p q) (0, 0), eqv_pD q (0, 0)]
             exact decide_eq_decide.mpr (hzi.trans ⟨fun h => h.2, fun h => ⟨eqt b7, h⟩⟩))
          | (refine (bl_no ?_ b8).elim
             rw [eqv_pD (euc k 600 p q) (0, 0)]
             exact decide_eq_false (fun h => absurd (hzi.mp h).1 (eqf b7)))
          | (refine (bl_no ?_ b9).elim
             rw [eqv_pD (euc k 600 p q) (0, 0), eqv_pD q (0, 0)]
             exact decide_eq_decide.mpr (hzi.trans ⟨fun h => h.2, fun h => ⟨eqt b6, h⟩⟩))
          | (refine (bl_no ?_ b9).elim
             rw [eqv_pD (euc k 600 p q) (0, 0)]
             exact decide_eq_false (fun h => absurd (hzi.mp h).1 (eqf b6)))
          | (refine (bl_no ?_ b9).elim
             rw [eqv_pD (euc k 600 p q) (0, 0), eqv_pD q (0, 0)]
             exact decide_eq_decide.mpr (hzi.trans ⟨fun h => h.2, fun h => ⟨eqt b7, h⟩⟩))
          | (refine (bl_no ?_ b9).elim
             rw [eqv_pD (euc k 600 p q) (0, 0)]
             exact decide_eq_false (fun h => absurd (hzi.mp h).1 (eqf b7)))
          | (refine (bl_no ?_ b9).elim
             rw [eqv_pD (euc k 600 p q) (0, 0), eqv_pD q (0, 0)]
             exact decide_eq_decide.mpr (hzi.trans ⟨fun h => h.2, fun h => ⟨eqt b8, h⟩⟩))
          | (refine (bl_no ?_ b9).elim
             rw [eqv_pD (euc k 600 p q) (0, 0)]
             exact decide_eq_false (fun h => absurd (hzi.mp h).1 (eqf b8)))
          | (refine (bl_no ?_ b10).elim
             rw [eqv_pD (euc k 600 p q) (0, 0), eqv_pD q (0, 0)]
             exact decide_eq_decide.mpr (hzi.trans ⟨fun h => h.2, fun h => ⟨eqt b7, h⟩⟩))
          | (refine (bl_no ?_ b10).elim
             rw [eqv_pD (euc k 600 p q) (0, 0)]
             exact decide_eq_false (fun h => absurd (hzi.mp h).1 (eqf b7)))
          | (refine (bl_no ?_ b10).elim
             rw [eqv_pD (euc k 600 p q) (0, 0), eqv_pD q (0, 0)]
             exact decide_eq_decide.mpr (hzi.trans ⟨fun h => h.2, fun h => ⟨eqt b8, h⟩⟩))
          | (refine (bl_no ?_ b10).elim
             rw [eqv_pD (euc k 600 p q) (0, 0)]
             exact decide_eq_false (fun h => absurd (hzi.mp h).1 (eqf b8)))
          | (refine (bl_no ?_ b10).elim
             rw [eqv_pD (euc k 600 p q) (0, 0), eqv_pD q (0, 0)]
             exact decide_eq_decide.mpr (hzi.trans ⟨fun h => h.2, fun h => ⟨eqt b9, h⟩⟩))
          | (refine (bl_no ?_ b10).elim
             rw [eqv_pD (euc k 600 p q) (0, 0)]
             exact decide_eq_false (fun h => absurd (hzi.mp h).1 (eqf b9)))
          | (refine (bl_no ?_ b11).elim
             rw [eqv_pD (euc k 600 p q) (0, 0), eqv_pD q (0, 0)]
             exact decide_eq_decide.mpr (hzi.trans ⟨fun h => h.2, fun h => ⟨eqt b8, h⟩⟩))
          | (refine (bl_no ?_ b11).elim
             rw [eqv_pD (euc k 600 p q) (0, 0)]
             exact decide_eq_false (fun h => absurd (hzi.mp h).1 (eqf b8)))
          | (refine (bl_no ?_ b11).elim
             rw [eqv_pD (euc k 600 p q) (0, 0), eqv_pD q (0, 0)]
             exact decide_eq_decide.mpr (hzi.trans ⟨fun h => h.2, fun h => ⟨eqt b9, h⟩⟩))
          | (refine (bl_no ?_ b11).elim
             rw [eqv_pD (euc k 600 p q) (0, 0)]
             exact decide_eq_false (fun h => absurd (hzi.mp h).1 (eqf b9)))
          | (refine (bl_no ?_ b11).elim
             rw [eqv_pD (euc k 600 p q) (0, 0), eqv_pD q (0, 0)]
             exact decide_eq_decide.mpr (hzi.trans ⟨fun h => h.2, fun h => ⟨eqt b10, h⟩⟩))
          | (refine (bl_no ?_ b11).elim
             rw [eqv_pD (euc k 600 p q) (0, 0)]
             exact decide_eq_false (fun h => absurd (hzi.mp h).1 (eqf b10)))
      case h14 =>
        first
          | exact hG
          | exact absurd hse (net b1)
          | exact absurd (dp.symm.trans b1) (by decide)
          | exact absurd (dq.symm.trans b1) (by decide)
          | exact absurd (dp.symm.trans b2) (by decide)
          | exact absurd (dq.symm.trans b2) (by decide)
          | exact absurd (dp.symm.trans b3) (by decide)
          | exact absurd (dq.symm.trans b3) (by decide)
          | exact absurd (dp.symm.trans b4) (by decide)
          | exact absurd (dq.symm.trans b4) (by decide)
          | (refine (bl_no ?_ b2).elim
             rw [eqv_pD (euc k 600 p q) (0, 0), eqv_pD q (0, 0)]
             exact decide_eq_decide.mpr (hzi.trans ⟨fun h => h.2, fun h => ⟨eqt b1, h⟩⟩))
          | (refine (bl_no ?_ b2).elim
             rw [eqv_pD (euc k 600 p q) (0, 0)]
             exact decide_eq_false (fun h => absurd (hzi.mp h).1 (eqf b1)))
          | (refine (bl_no ?_ b3).elim
             rw [eqv_pD (euc k 600 p q) (0, 0), eqv_pD q (0, 0)]
             exact decide_eq_decide.mpr (hzi.trans ⟨fun h => h.2, fun h => ⟨eqt b1, h⟩⟩))
          | (refine (bl_no ?_ b3).elim
             rw [eqv_pD (euc k 600 p q) (0, 0)]
             exact decide_eq_false (fun h => absurd (hzi.mp h).1 (eqf b1)))
          | (refine (bl_no ?_ b3).elim
             rw [eqv_pD (euc k 600 p q) (0, 0), eqv_pD q (0, 0)]
             exact decide_eq_decide.mpr (hzi.trans ⟨fun h => h.2, fun h => ⟨eqt b2, h⟩⟩))
          | (refine (bl_no ?_ b3).elim
             rw [eqv_pD (euc k 600 p q) (0, 0)]
             exact decide_eq_false (fun h => absurd (hzi.mp h).1 (eqf b2)))
          | (refine (bl_no ?_ b4).elim
             rw [eqv_pD (euc k 600 p q) (0, 0), eqv_pD q (0, 0)]
             exact decide_eq_decide.mpr (hzi.trans ⟨fun h => h.2, fun h => ⟨eqt b1, h⟩⟩))
          | (refine (bl_no ?_ b4).elim
             rw [eqv_pD (euc k 600 p q) (0, 0)]
             exact decide_eq_false (fun h => absurd (hzi.mp h).1 (eqf b1)))
          | (refine (bl_no ?_ b4).elim
             rw [eqv_pD (euc k 600 p q) (0, 0), eqv_pD q (0, 0)]
             exact decide_eq_decide.mpr (hzi.trans ⟨fun h => h.2, fun h => ⟨eqt b2, h⟩⟩))
          | (refine (bl_no ?_ b4).elim
             rw [eqv_pD (euc k 600 p q) (0, 0)]
             exact decide_eq_false (fun h => absurd (hzi.mp h).1 (eqf b2)))
          | (refine (bl_no ?_ b4).elim
             rw [eqv_pD (euc k 600 p q) (0, 0), eqv_pD q (0, 0)]
             exact decide_eq_decide.mpr (hzi.trans ⟨fun h => h.2, fun h => ⟨eqt b3, h⟩⟩))
          | (refine (bl_no ?_ b4).elim
             rw [eqv_pD (euc k 600 p q) (0, 0)]
             exact decide_eq_false (fun h => absurd (hzi.mp h).1 (eqf b3)))
          | (refine (bl_no ?_ b5).elim
             rw [eqv_pD (euc k 600 p q) (0, 0), eqv_pD q (0, 0)]
             exact decide_eq_decide.mpr (hzi.trans ⟨fun h => h.2, fun h => ⟨eqt b2, h⟩⟩))
          | (refine (bl_no ?_ b5).elim
             rw [eqv_pD (euc k 600 p q) (0, 0)]
             exact decide_eq_false (fun h => absurd (hzi.mp h).1 (eqf b2)))
          | (refine (bl_no ?_ b5).elim
             rw [eqv_pD (euc k 600 p q) (0, 0), eqv_pD q (0, 0)]
             exact decide_eq_decide.mpr (hzi.trans ⟨fun h => h.2, fun h => ⟨eqt b3, h⟩⟩))
          | (refine (bl_no ?_ b5).elim
             rw [eqv_pD (euc k 600 p q) (0, 0)]
             exact decide_eq_false (fun h => absurd (hzi.mp h).1 (eqf b3)))
          | (refine (bl_no ?_ b5).elim
             rw [eqv_pD (euc k 600 p q) (0, 0), eqv_pD q (0, 0)]
             exact decide_eq_decide.mpr (hzi.trans ⟨fun h => h.2, fun h => ⟨eqt b4, h⟩⟩))
          | (refine (bl_no ?_ b5).elim
             rw [eqv_pD (euc k 600 p q) (0, 0)]
             exact decide_eq_false (fun h => absurd (hzi.mp h).1 (eqf b4)))
          | (refine (bl_no ?_ b6).elim
             rw [eqv_pD (euc k 600 p q) (0, 0), eqv_pD q (0, 0)]
             exact decide_eq_decide.mpr (hzi.trans ⟨fun h => h.2, fun h => ⟨eqt b3, h⟩⟩))
          | (refine (bl_no ?_ b6).elim
             rw [eqv_pD (euc k 600 p q) (0, 0)]
             exact decide_eq_false (fun h => absurd (hzi.mp h).1 (eqf b3)))
          | (refine (bl_no ?_ b6).elim
             rw [eqv_pD (euc k 600 p q) (0, 0), eqv_pD q (0, 0)]
             exact decide_eq_decide.mpr (hzi.trans ⟨fun h => h.2, fun h => ⟨eqt b4, h⟩⟩))
          | (refine (bl_no ?_ b6).elim
             rw [eqv_pD (euc k 600 p q) (0, 0)]
             exact decide_eq_false (fun h => absurd (hzi.mp h).1 (eqf b4)))
          | (refine (bl_no ?_ b6).elim
             rw [eqv_pD (euc k 600 p q) (0, 0), eqv_pD q (0, 0)]
             exact decide_eq_decide.mpr (hzi.trans ⟨fun h => h.2, fun h => ⟨eqt b5, h⟩⟩))
          | (refine (bl_no ?_ b6).elim
             rw [eqv_pD (euc k 600 p q) (0, 0)]
             exact decide_eq_false (fun h => absurd (hzi.mp h).1 (eqf b5)))
          | (refine (bl_no ?_ b7).elim
             rw [eqv_pD (euc k 600 p q) (0, 0), eqv_pD q (0, 0)]
             exact decide_eq_decide.mpr (hzi.trans ⟨fun h => h.2, fun h => ⟨eqt b4, h⟩⟩))
          | (refine (bl_no ?_ b7).elim
             rw [eqv_pD (euc k 600 p q) (0, 0)]
             exact decide_eq_false (fun h => absurd (hzi.mp h).1 (eqf b4)))
          | (refine (bl_no ?_ b7).elim
             rw [eqv_pD (euc k 600 p q) (0, 0), eqv_pD q (0, 0)]
             exact decide_eq_decide.mpr (hzi.trans ⟨fun h => h.2, fun h => ⟨eqt b5, h⟩⟩))
          | (refine (bl_no ?_ b7).elim
             rw [eqv_pD (euc k 600 p q) (0, 0)]
             exact decide_eq_false (fun h => absurd (hzi.mp h).1 (eqf b5)))
          | (refine (bl_no ?_ b7).elim
             rw [eqv_pD (euc k 600 p q) (0, 0), eqv_pD q (0, 0)]
             exact decide_eq_decide.mpr (hzi.trans ⟨fun h => h.2, fun h => ⟨eqt b6, h⟩⟩))
          | (refine (bl_no ?_ b7).elim
             rw [eqv_pD (euc k 600 p q) (0, 0)]
             exact decide_eq_false (fun h => absurd (hzi.mp h).1 (eqf b6)))
          | (refine (bl_no ?_ b8).elim
             rw [eqv_pD (euc k 600 p q) (0, 0), eqv_pD q (0, 0)]
             exact decide_eq_decide.mpr (hzi.trans ⟨fun h => h.2, fun h => ⟨eqt b5, h⟩⟩))
          | (refine (bl_no ?_ b8).elim
             rw [eqv_pD (euc k 600 p q) (0, 0)]
             exact decide_eq_false (fun h => absurd (hzi.mp h).1 (eqf b5)))
          | (refine (bl_no ?_ b8).elim
             rw [eqv_pD (euc k 600 p q) (0, 0), eqv_pD q (0, 0)]
             exact decide_eq_decide.mpr (hzi.trans ⟨fun h => h.2, fun h => ⟨eqt b6, h⟩⟩))
          | (refine (bl_no ?_ b8).elim
             rw [eqv_pD (euc k 600 p q) (0, 0)]
             exact decide_eq_false (fun h => absurd (hzi.mp h).1 (eqf b6)))
          | (refine (bl_no ?_ b8).elim
             rw [eqv_pD (euc k 600 p q) (0, 0), eqv_pD q (0, 0)]
             exact decide_eq_decide.mpr (hzi.trans ⟨fun h => h.2, fun h => ⟨eqt b7, h⟩⟩))
          | (refine (bl_no ?_ b8).elim
             rw [eqv_pD (euc k 600 p q) (0, 0)]
             exact decide_eq_false (fun h => absurd (hzi.mp h).1 (eqf b7)))
          | (refine (bl_no ?_ b9).elim
             rw [eqv_pD (euc k 600 p q) (0, 0), eqv_pD q (0, 0)]
             exact decide_eq_decide.mpr (hzi.trans ⟨fun h => h.2, fun h => ⟨eqt b6, h⟩⟩))
          | (refine (bl_no ?_ b9).elim
             rw [eqv_pD (euc k 600 p q) (0, 0)]
             exact decide_eq_false (fun h => absurd (hzi.mp h).1 (eqf b6)))
          | (refine (bl_no ?_ b9).elim
             rw [eqv_pD (euc k 600 p q) (0, 0), eqv_pD q (0, 0)]
             exact decide_eq_decide.mpr (hzi.trans ⟨fun h => h.2, fun h => ⟨eqt b7, h⟩⟩))
          | (refine (bl_no ?_ b9).elim
             rw [eqv_pD (euc k 600 p q) (0, 0)]
             exact decide_eq_false (fun h => absurd (hzi.mp h).1 (eqf b7)))
          | (refine (bl_no ?_ b9).elim
             rw [eqv_pD (euc k 600 p q) (0, 0), eqv_pD q (0, 0)]
             exact decide_eq_decide.mpr (hzi.trans ⟨fun h => h.2, fun h => ⟨eqt b8, h⟩⟩))
          | (refine (bl_no ?_ b9).elim
             rw [eqv_pD (euc k 600 p q) (0, 0)]
             exact decide_eq_false (fun h => absurd (hzi.mp h).1 (eqf b8)))
          | (refine (bl_no ?_ b10).elim
             rw [eqv_pD (euc k 600 p q) (0, 0), eqv_pD q (0, 0)]
             exact decide_eq_decide.mpr (hzi.trans ⟨fun h => h.2, fun h => ⟨eqt b7, h⟩⟩))
          | (refine (bl_no ?_ b10).elim
             rw [eqv_pD (euc k 600 p q) (0, 0)]
             exact decide_eq_false (fun h => absurd (hzi.mp h).1 (eqf b7)))
          | (refine (bl_no ?_ b10).elim
             rw [eqv_pD (euc k 600 p q) (0, 0), eqv_pD q (0, 0)]
             exact decide_eq_decide.mpr (hzi.trans ⟨fun h => h.2, fun h => ⟨eqt b8, h⟩⟩))
          | (refine (bl_no ?_ b10).elim
             rw [eqv_pD (euc k 600 p q) (0, 0)]
             exact decide_eq_false (fun h => absurd (hzi.mp h).1 (eqf b8)))
          | (refine (bl_no ?_ b10).elim
             rw [eqv_pD (euc k 600 p q) (0, 0), eqv_pD q (0, 0)]
             exact decide_eq_decide.mpr (hzi.trans ⟨fun h => h.2, fun h => ⟨eqt b9, h⟩⟩))
          | (refine (bl_no ?_ b10).elim
             rw [eqv_pD (euc k 600 p q) (0, 0)]
             exact decide_eq_false (fun h => absurd (hzi.mp h).1 (eqf b9)))
          | (refine (bl_no ?_ b11).elim
             rw [eqv_pD (euc k 600 p q) (0, 0), eqv_pD q (0, 0)]
             exact decide_eq_decide.mpr (hzi.trans ⟨fun h => h.2, fun h => ⟨eqt b8, h⟩⟩))
          | (refine (bl_no ?_ b11).elim
             rw [eqv_pD (euc k 600 p q) (0, 0)]
             exact decide_eq_false (fun h => absurd (hzi.mp h).1 (eqf b8)))
          | (refine (bl_no ?_ b11).elim
             rw [eqv_pD (euc k 600 p q) (0, 0), eqv_pD q (0, 0)]
             exact decide_eq_decide.mpr (hzi.trans ⟨fun h => h.2, fun h => ⟨eqt b9, h⟩⟩))
          | (refine (bl_no ?_ b11).elim
             rw [eqv_pD (euc k 600 p q) (0, 0)]
             exact decide_eq_false (fun h => absurd (hzi.mp h).1 (eqf b9)))
          | (refine (bl_no ?_ b11).elim
             rw [eqv_pD (euc k 600 p q) (0, 0), eqv_pD q (0, 0)]
             exact decide_eq_decide.mpr (hzi.trans ⟨fun h => h.2, fun h => ⟨eqt b10, h⟩⟩))
          | (refine (bl_no ?_ b11).elim
             rw [eqv_pD (euc k 600 p q) (0, 0)]
             exact decide_eq_false (fun h => absurd (hzi.mp h).1 (eqf b10)))
    case h3 =>
      obtain ⟨x, rfl, rfl⟩ := hw
      refine (as_ret hQ (c_bl (And.intro rfl ?h15)))
      case h15 =>
        first
          | exact hG
          | exact absurd hse (net b1)
          | exact absurd (dp.symm.trans b1) (by decide)
          | exact absurd (dq.symm.trans b1) (by decide)
          | exact absurd (dp.symm.trans b2) (by decide)
          | exact absurd (dq.symm.trans b2) (by decide)
          | exact absurd (dp.symm.trans b3) (by decide)
          | exact absurd (dq.symm.trans b3) (by decide)
          | exact absurd (dp.symm.trans b4) (by decide)
          | exact absurd (dq.symm.trans b4) (by decide)
          | (refine (bl_no ?_ b2).elim
             rw [eqv_pD (euc k 600 p q) (0, 0), eqv_pD q (0, 0)]
             exact decide_eq_decide.mpr (hzi.trans ⟨fun h => h.2, fun h => ⟨eqt b1, h⟩⟩))
          | (refine (bl_no ?_ b2).elim
             rw [eqv_pD (euc k 600 p q) (0, 0)]
             exact decide_eq_false (fun h => absurd (hzi.mp h).1 (eqf b1)))
          | (refine (bl_no ?_ b3).elim
             rw [eqv_pD (euc k 600 p q) (0, 0), eqv_pD q (0, 0)]
             exact decide_eq_decide.mpr (hzi.trans ⟨fun h => h.2, fun h => ⟨eqt b1, h⟩⟩))
          | (refine (bl_no ?_ b3).elim
             rw [eqv_pD (euc k 600 p q) (0, 0)]
             exact decide_eq_false (fun h => absurd (hzi.mp h).1 (eqf b1)))
          | (refine (bl_no ?_ b3).elim
             rw [eqv_pD (euc k 600 p q) (0, 0), eqv_pD q (0, 0)]
             exact decide_eq_decide.mpr (hzi.trans ⟨fun h => h.2, fun h => ⟨eqt b2, h⟩⟩))
          | (refine (bl_no ?_ b3).elim
             rw [eqv_pD (euc k 600 p q) (0, 0)]
             exact decide_eq_false (fun h => absurd (hzi.mp h).1 (eqf b2)))
          | (refine (bl_no ?_ b4).elim
             rw [eqv_pD (euc k 600 p q) (0, 0), eqv_pD q (0, 0)]
             exact decide_eq_decide.mpr (hzi.trans ⟨fun h => h.2, fun h => ⟨eqt b1, h⟩⟩))
          | (refine (bl_no ?_ b4).elim
             rw [eqv_pD (euc k 600 p q) (0, 0)]
             exact decide_eq_false (fun h => absurd (hzi.mp h).1 (eqf b1)))
          | (refine (bl_no ?_ b4).elim
             rw [eqv_pD (euc k 600 p q) (0, 0), eqv_pD q (0, 0)]
             exact decide_eq_decide.mpr (hzi.trans ⟨fun h => h.2, fun h => ⟨eqt b2, h⟩⟩))
          | (refine (bl_no ?_ b4).elim
             rw [eqv_pD (euc k 600 p q) (0, 0)]
             exact decide_eq_false (fun h => absurd (hzi.mp h).1 (eqf b2)))
          | (refine (bl_no ?_ b4).elim
             rw [eqv_pD (euc k 600 p q) (0, 0), eqv_pD q (0, 0)]
             exact decide_eq_decide.mpr (hzi.trans ⟨fun h => h.2, fun h => ⟨eqt b3, h⟩⟩))
          | (refine (bl_no ?_ b4).elim
             rw [eqv_pD (euc k 600 p q) (0, 0)]
             exact decide_eq_false (fun h => absurd (hzi.mp h).1 (eqf b3)))
          | (refine (bl_no ?_ b5).elim
             rw [eqv_pD (euc k 600 p q) (0, 0), eqv_pD q (0, 0)]
             exact decide_eq_decide.mpr (hzi.trans ⟨fun h => h.2, fun h => ⟨eqt b2, h⟩⟩))
          | (refine (bl_no ?_ b5).elim
             rw [eqv_pD (euc k 600 p q) (0, 0)]
             exact decide_eq_false (fun h => absurd (hzi.mp h).1 (eqf b2)))
          | (refine (bl_no ?_ b5).elim
             rw [eqv_pD (euc k 600 p q) (0, 0), eqv_pD q (0, 0)]
             exact decide_eq_decide.mpr (hzi.trans ⟨fun h => h.2, fun h => ⟨eqt b3, h⟩⟩))
          | (refine (bl_no ?_ b5).elim
             rw [eqv_pD (euc k 600 p q) (0, 0)]
             exact decide_eq_false (fun h => absurd (hzi.mp h).1 (eqf b3)))
          | (refine (bl_no ?_ b5).elim
             rw [eqv_pD (euc k 600 p q) (0, 0), eqv_pD q (0, 0)]
             exact decide_eq_decide.mpr (hzi.trans ⟨fun h => h.2, fun h => ⟨eqt b4, h⟩⟩))
          | (refine (bl_no ?_ b5).elim
             rw [eqv_pD (euc k 600 p q) (0, 0)]
             exact decide_eq_false (fun h => absurd (hzi.mp h).1 (eqf b4)))
          | (refine (bl_no ?_ b6).elim
             rw [eqv_pD (euc k 600 p q) (0, 0), eqv_pD q (0, 0)]
             exact decide_eq_decide.mpr (hzi.trans ⟨fun h => h.2, fun h => ⟨eqt b3, h⟩⟩))
          | (refine (bl_no ?_ b6).elim
             rw [eqv_pD (euc k 600 p q) (0, 0)]
             exact decide_eq_false (fun h => absurd (hzi.mp h).1 (eqf b3)))
          | (refine (bl_no ?_ b6).elim
             rw [eqv_pD (euc k 600 p q) (0, 0), eqv_pD q (0, 0)]
             exact decide_eq_decide.mpr (hzi.trans ⟨fun h => h.2, fun h => ⟨eqt b4, h⟩⟩))
          | (refine (bl_no ?_ b6).elim
             rw [eqv_pD (euc k 600 p q) (0, 0)]
             exact decide_eq_false (fun h => absurd (hzi.mp h).1 (eqf b4)))
          | (refine (bl_no ?_ b6).elim
             rw [eqv_pD (euc k 600 p q) (0, 0), eqv_pD q (0, 0)]
             exact decide_eq_decide.mpr (hzi.trans ⟨fun h => h.2, fun h => ⟨eqt b5, h⟩⟩))
          | (refine (bl_no ?_ b6).elim
             rw [eqv_pD (euc k 600 p q) (0, 0)]
             exact decide_eq_false (fun h => absurd (hzi.mp h).1 (eqf b5)))
          | (refine (bl_no ?_ b7).elim
             rw [eqv_pD (euc k 600 p q) (0, 0), eqv_pD q (0, 0)]
             exact decide_eq_decide.mpr (hzi.trans ⟨fun h => h.2, fun h => ⟨eqt b4, h⟩⟩))
          | (refine (bl_no ?_ b7).elim
             rw [eqv_pD (euc k 600 p q) (0, 0)]
             exact decide_eq_false (fun h => absurd (hzi.mp h).1 (eqf b4)))
          | (refine (bl_no ?_ b7).elim
             rw [eqv_pD (euc k 600 p q) (0, 0), eqv_pD q (0, 0)]
             exact decide_eq_decide.mpr (hzi.trans ⟨fun h => h.2, fun h => ⟨eqt b5, h⟩⟩))
          | (refine (bl_no ?_ b7).elim
             rw [eqv_pD (euc k 600 p q) (0, 0)]
             exact decide_eq_false (fun h => absurd (hzi.mp h).1 (eqf b5)))
          | (refine (bl_no ?_ b7).elim
             rw [eqv_pD (euc k 600 p q) (0, 0), eqv_pD q (0, 0)]
             exact decide_eq_decide.mpr (hzi.trans ⟨fun h => h.2, fun h => ⟨eqt b6, h⟩⟩))
          | (refine (bl_no ?_ b7).elim
             rw [eqv_pD (euc k 600 p q) (0, 0)]
             exact decide_eq_false (fun h => absurd (hzi.mp h).1 (eqf b6)))
          | (refine (bl_no ?_ b8).elim
             rw [eqv_pD (euc k 600 p q) (0, 0), eqv_pD q (0, 0)]
             exact decide_eq_decide.mpr (hzi.trans ⟨fun h => h.2, fun h => ⟨eqt b5, h⟩⟩))
          | (refine (bl_no ?_ b8).elim
             rw [eqv_pD (euc k 600 p q) (0, 0)]
             exact decide_eq_false (fun h => absurd (hzi.mp h).1 (eqf b5)))
          | (refine (bl_no ?_ b8).elim
             rw [eqv_pD (euc k 600 p q) (0, 0), eqv_pD q (0, 0)]
             exact decide_eq_decide.mpr (hzi.trans ⟨fun h => h.2, fun h => ⟨eqt b6, h⟩⟩))
          | (refine (bl_no ?_ b8).elim
             rw [eqv_pD (euc k 600 p q) (0, 0)]
             exact decide_eq_false (fun h => absurd (hzi.mp h).1 (eqf b6)))
          | (refine (bl_no ?_ b8).elim
             rw [eqv_pD (euc k 600 p q) (0, 0), eqv_pD q (0, 0)]
             exact decide_eq_decide.mpr (hzi.trans ⟨fun h => h.2, fun h => ⟨eqt b7, h⟩⟩))
          | (refine (bl_no ?_ b8).elim
             rw [eqv_pD (euc k 600 p q) (0, 0)]
             exact decide_eq_false (fun h => absurd (hzi.mp h).1 (eqf b7)))
          | (refine (bl_no ?_ b9).elim
             rw [eqv_pD (euc k 600 p q) (0, 0), eqv_pD q (0, 0)]
             exact decide_eq_decide.mpr (hzi.trans ⟨fun h => h.2, fun h => ⟨eqt b6, h⟩⟩))
          | (refine (bl_no ?_ b9).elim
             rw [eqv_pD (euc k 600 p q) (0, 0)]
             exact decide_eq_false (fun h => absurd (hzi.mp h).1 (eqf b6)))
          | (refine (bl_no ?_ b9).elim
             rw [eqv_pD (euc k 600 p q) (0, 0), eqv_pD q (0, 0)]
             exact decide_eq_decide.mpr (hzi.trans ⟨fun h => h.2, fun h => ⟨eqt b7, h⟩⟩))
          | (refine (bl_no ?_ b9).elim
             rw [eqv_pD (euc k 600 p q) (0, 0)]
             exact decide_eq_false (fun h => absurd (hzi.mp h).1 (eqf b7)))
          | (refine (bl_no ?_ b9).elim
             rw [eqv_pD (euc k 600 p q) (0, 0), eqv_pD q (0, 0)]
             exact decide_eq_decide.mpr (hzi.trans ⟨fun h => h.2, fun h => ⟨eqt b8, h⟩⟩))
          | (refine (bl_no ?_ b9).elim
             rw [eqv_pD (euc k 600 p q) (0, 0)]
             exact decide_eq_false (fun h => absurd (hzi.mp h).1 (eqf b8)))
          | (refine (bl_no ?_ b10).elim
             rw [eqv_pD (euc k 600 p q) (0, 0), eqv_pD q (0, 0)]
             exact decide_eq_decide.mpr (hzi.trans ⟨fun h => h.2, fun h => ⟨eqt b7, h⟩⟩))
          | (refine (bl_no ?_ b10).elim
             rw [eqv_pD (euc k 600 p q) (0, 0)]
             exact decide_eq_false (fun h => absurd (hzi.mp h).1 (eqf b7)))
          | (refine (bl_no ?_ b10).elim
             rw [eqv_pD (euc k 600 p q) (0, 0), eqv_pD q (0, 0)]
             exact decide_eq_decide.mpr (hzi.trans ⟨fun h => h.2, fun h => ⟨eqt b8, h⟩⟩))
          | (refine (bl_no ?_ b10).elim
             rw [eqv_pD (euc k 600 p q) (0, 0)]
             exact decide_eq_false (fun h => absurd (hzi.mp h).1 (eqf b8)))
          | (refine (bl_no ?_ b10).elim
             rw [eqv_pD (euc k 600 p q) (0, 0), eqv_pD q (0, 0)]
             exact decide_eq_decide.mpr (hzi.trans ⟨fun h => h.2, fun h => ⟨eqt b9, h⟩⟩))
          | (refine (bl_no ?_ b10).elim
             rw [eqv_pD (euc k 600 p q) (0, 0)]
             exact decide_eq_false (fun h => absurd (hzi.mp h).1 (eqf b9)))
          | (refine (bl_no ?_ b11).elim
             rw [eqv_pD (euc k 600 p q) (0, 0), eqv_pD q (0, 0)]
             exact decide_eq_decide.mpr (hzi.trans ⟨fun h => h.2, fun h => ⟨eqt b8, h⟩⟩))
          | (refine (bl_no ?_ b11).elim
             rw [eqv_pD (euc k 600 p q) (0, 0)]
             exact decide_eq_false (fun h => absurd (hzi.mp h).1 (eqf b8)))
          | (refine (bl_no ?_ b11).elim
             rw [eqv_pD (euc k 600 p q) (0, 0), eqv_pD q (0, 0)]
             exact decide_eq_decide.mpr (hzi.trans ⟨fun h => h.2, fun h => ⟨eqt b9, h⟩⟩))
          | (refine (bl_no ?_ b11).elim
             rw [eqv_pD (euc k 600 p q) (0, 0)]
             exact decide_eq_false (fun h => absurd (hzi.mp h).1 (eqf b9)))
          | (refine (bl_no ?_ b11).elim
             rw [eqv_pD (euc k 600 p q) (0, 0), eqv_pD q (0, 0)]
             exact decide_eq_decide.mpr (hzi.trans ⟨fun h => h.2, fun h => ⟨eqt b10, h⟩⟩))
          | (refine (bl_no ?_ b11).elim
             rw [eqv_pD (euc k 600 p q) (0, 0)]
             exact decide_eq_false (fun h => absurd (hzi.mp h).1 (eqf b10)))

/-! ### _law_solved_right -/
abbrev s__law_solved_right : Stmt := topS 53
theorem sc__law_solved_right : FnScope ["kind", "p", "q", "c", "due", "told"] ["kind", "p", "q", "c"] (defScope s__law_solved_right) := ⟨rfl, rfl, rfl, by decide +kernel, rfl, by decide +kernel, by decide +kernel⟩
def F__law_solved_right : FP := fun ds Q => ∃ k p q z, ds = [.int k, pD p, pD q, pD z] ∧ (Kd k ∧ B2 39 p ∧ B2 39 q ∧ B2 300 z) ∧ Q (.bl true)
theorem ok__law_solved_right {f : Addr} {fd : FuncData} (Fn : Fun K "_law_solved_right" "_law_solved_right" s__law_solved_right f fd) (c__law_divides : Cl P w K mg base 6 "_law_divides" ["kind", "q", "p"] (spP K F__law_divides)) (c__law_divisor : Cl P w K mg base 6 "_law_divisor" ["kind", "p", "q"] (spP K F__law_divisor)) (c_solved : Cl P w K mg base 7 "solved" ["kind", "p", "q", "c"] (spP K F_solved)) (c__law_is_pair : Cl P w K mg base 1 "_law_is_pair" ["told", "many"] (spP K F__law_is_pair)) (c__law_sum_of : Cl P w K mg base 5 "_law_sum_of" ["kind", "p", "x", "q", "y"] (spP K F__law_sum_of)) (ck_solved : ClK P w K mg base 7 "solved" ["kind", "p", "q", "c"] ["c", "q", "p", "kind"] [3, 2, 1, 0] (spP K F_solved)) : FnOk P w K mg base CX0 8 f fd ["kind", "p", "q", "c"] (spP K F__law_solved_right) := by
  refine fn_P Fn sc__law_solved_right (fun ds G h => ?_) (fun cdv A outer s H Q E ds G hr hF hQ => ?_)
  · obtain ⟨k, p, q, z, rfl, ⟨hk, hp, hq, hz⟩, hG⟩ := h
    rfl
  · obtain ⟨k, p, q, z, rfl, ⟨hk, hp, hq, hz⟩, hG⟩ := hF
    have hp40 : B2 40 p := hp.mono (by decide)
    have hq40 : B2 40 q := hq.mono (by decide)
    have hp9 : B2 1900 p := hp.mono (by decide)
    have hq9 : B2 1900 q := hq.mono (by decide)
    have hD : B2 300 (euc k 600 p q) := (euc_b hk hp40 hq40).mono (by decide)
    refine (as_asg (i := 4) ?h1 (c_call c__law_divides (hr.mono (by decide)) (ca_cons (nm 0 rfl (ca_cons (c_call c__law_divisor (hr.mono (by decide)) (ca_cons (nm 0 rfl (ca_cons (nm 1 rfl (ca_cons (nm 2 rfl (ca_nil ⟨_, p, q, rfl, ⟨hk, hp40, hq40⟩, And.intro rfl (ca_cons (nm 3 rfl (ca_nil ⟨_, (euc k 600 p q), z, rfl, ⟨hk, hD, hz⟩, And.intro rfl (as_forL (i := 5) ?h2 rfl PassesOwn.never (c_ofN (n_disp (ca_cons (c_call c_solved (hr.mono (by decide)) (ca_cons (nm 0 rfl (ca_cons (nm 1 rfl (ca_cons (nm 2 rfl (ca_cons (nm 3 rfl (ca_nil ⟨_, p, q, z, rfl, ⟨hk, hp40, hq40, hz⟩, fun hnoA => And.intro rfl (ca_cons (c_callK ck_solved (hr.mono (by decide)) (ck_cons (nm 3 rfl (ck_cons (nm 2 rfl (ck_cons (nm 1 rfl (ck_cons (nm 0 rfl (ck_nil (And.intro rfl ⟨_, p, q, z, rfl, ⟨hk, hp40, hq40, hz⟩, fun hnoB => And.intro rfl (ca_nil (And.intro (And.intro rfl (Nat.le_of_ble_eq_true rfl)) ⟨(fun j es qq => ∃ x, es = [some (.int k), some (pD p), some (pD q), some (pD z), some (.bl (decide (dvb k (euc k 600 p q) z))), x] ∧ qq = []), (fun _ _ => False), ⟨_, rfl, rfl⟩, ⟨fun H10 e10 fr0 j d es q hj hd hw => ?h3, fun es q hw => ?h4, fun _ _ h => h.elim⟩⟩)), fun xB yB hdvB heB hxB hyB => And.intro rfl (ca_nil (And.intro (And.intro rfl (Nat.le_of_ble_eq_true rfl)) ⟨(fun j es qq => ∃ x, es = [some (.int k), some (pD p), some (pD q), some (pD z), some (.bl (decide (dvb k (euc k 600 p q) z))), x] ∧ qq = []), (fun _ _ => False), ⟨_, rfl, rfl⟩, ⟨fun H10 e10 fr0 j d es q hj hd hw => ?h14, fun es q hw => ?h15, fun _ _ h => h.elim⟩⟩))⟩)))))))))))), fun xA yA hdvA heA hxA hyA => And.intro rfl (ca_cons (c_callK ck_solved (hr.mono (by decide)) (ck_cons (nm 3 rfl (ck_cons (nm 2 rfl (ck_cons (nm 1 rfl (ck_cons (nm 0 rfl (ck_nil (And.intro rfl ⟨_, p, q, z, rfl, ⟨hk, hp40, hq40, hz⟩, fun hnoB => And.intro rfl (ca_nil (And.intro (And.intro rfl (Nat.le_of_ble_eq_true rfl)) ⟨(fun j es qq => ∃ x, es = [some (.int k), some (pD p), some (pD q), some (pD z), some (.bl (decide (dvb k (euc k 600 p q) z))), x] ∧ qq = []), (fun _ _ => False), ⟨_, rfl, rfl⟩, ⟨fun H10 e10 fr0 j d es q hj hd hw => ?h25, fun es q hw => ?h26, fun _ _ h => h.elim⟩⟩)), fun xB yB hdvB heB hxB hyB => And.intro rfl (ca_nil (And.intro (And.intro rfl (Nat.le_of_ble_eq_true rfl)) ⟨(fun j es qq => ∃ x, es = [some (.int k), some (pD p), some (pD q), some (pD z), some (.bl (decide (dvb k (euc k 600 p q) z))), x] ∧ qq = []), (fun _ _ => False), ⟨_, rfl, rfl⟩, ⟨fun H10 e10 fr0 j d es q hj hd hw => ?h36, fun es q hw => ?h37, fun _ _ h => h.elim⟩⟩))⟩))))))))))))⟩))))))))))))))⟩)))⟩)))))))))))))
    case h1 =>
      exact sc__law_solved_right.nd
    case h2 =>
      exact sc__law_solved_right.nd
    case h3 =>
      obtain ⟨x, rfl, rfl⟩ := hw
      have hcc := two_of (C := fun d => (¬ dvb k (euc k 600 p q) z ∧ d = .non) ∨ (dvb k (euc k 600 p q) z ∧ ∃ sx sy, d = ppD sx sy ∧ add (mul k p sx) (mul k q sy) = z ∧ B2 1900 sx ∧ B2 1900 sy)) (by first | exact .inl ⟨hnoA, rfl⟩ | exact .inr ⟨hdvA, xA, yA, rfl, heA, hxA, hyA⟩) (by first | exact .inl ⟨hnoB, rfl⟩ | exact .inr ⟨hdvB, xB, yB, rfl, heB, hxB, hyB⟩) hd
      rcases hcc with ⟨hno, rfl⟩ | ⟨hdv, sx, sy, rfl, hse, hsx, hsy⟩
      ·
        rw [show decide (dvb k (euc k 600 p q) z) = false from decide_eq_false hno]
        refine (as_ifn (t_neDB hr.units (c_notN (nm 5 rfl (nm 4 rfl (And.intro ?h5 (And.intro (fun b1 => (as_ret (RetC.sub hQ e10 fr0) (c_bl (And.intro rfl ?h6)))) (fun b1 => (as_ifn (t_w (w_and (t_val (nm 4 rfl (as_end rfl ?h7))))))))))))))
        case h5 =>
          exact ⟨⟨rfl, rfl⟩, rfl, rfl⟩
        case h6 =>
          first
            | exact hG
            | exact absurd hse (net b1)
            | exact (bl_no rfl b1).elim
            | exact absurd hse (net b2)
            | exact (bl_no rfl b2).elim
            | exact absurd hse (net b3)
            | exact (bl_no rfl b3).elim
            | exact absurd hse (net b4)
            | exact (bl_no rfl b4).elim
            | exact absurd hse (net b5)
            | exact (bl_no rfl b5).elim
            | exact absurd hse (net b6)
            | exact (bl_no rfl b6).elim
            | exact absurd hse (net b7)
            | exact (bl_no rfl b7).elim
            | exact absurd hse (net b8)
            | exact (bl_no rfl b8).elim
            | exact absurd hse (net b9)
            | exact (bl_no rfl b9).elim
            | exact absurd hse (net b10)
            | exact (bl_no rfl b10).elim
            | exact absurd hse (net b11)
            | exact (bl_no rfl b11).elim
            | exact absurd hse (net b12)
            | exact (bl_no rfl b12).elim
            | exact absurd hse (net b13)
            | exact (bl_no rfl b13).elim
            | exact absurd hse (net b14)
            | exact (bl_no rfl b14).elim
            | exact absurd hse (net b15)
            | exact (bl_no rfl b15).elim
            | exact absurd hse (net b16)
            | exact (bl_no rfl b16).elim
            | exact absurd hse (net b17)
            | exact (bl_no rfl b17).elim
            | exact absurd hse (net b18)
            | exact (bl_no rfl b18).elim
            | exact absurd hse (net b19)
            | exact (bl_no rfl b19).elim
        case h7 =>
          exact ⟨_, rfl, rfl⟩
      ·
        rw [show decide (dvb k (euc k 600 p q) z) = true from decide_eq_true hdv]
        refine (as_ifn (t_neDB hr.units (c_notN (nm 5 rfl (nm 4 rfl (And.intro ?h8 (And.intro (fun b2 => (as_ret (RetC.sub hQ e10 fr0) (c_bl (And.intro rfl ?h9)))) (fun b2 => (as_ifn (t_w (w_and (t_val (nm 4 rfl (w_and1 (t_w (w_or (t_not (t_val (c_call c__law_is_pair (hr.mono (by decide)) (ca_cons (nm 5 rfl (ca_cons (c_int (ca_nil ⟨[sx, sy], 2, rfl, ⟨rfl, Nat.le_of_ble_eq_true rfl⟩, And.intro rfl (w_or1 (t_neDB hr.units (c_call c__law_sum_of (hr.mono (by decide)) (ca_cons (nm 0 rfl (ca_cons (nm 1 rfl (ca_cons (c_ixTn (nm 5 rfl (c_int (And.intro (by decide) (ca_cons (nm 2 rfl (ca_cons (c_ixTn (nm 5 rfl (c_int (And.intro (by decide) (ca_nil ⟨_, p, sx, q, sy, rfl, ⟨hk, hp9, hsx, hq9, hsy⟩, And.intro rfl (nm 3 rfl (And.intro ?h10 (And.intro (fun b3 => (as_ret (RetC.sub hQ e10 fr0) (c_bl (And.intro rfl ?h11)))) (fun b3 => (as_end rfl ?h12)))))⟩))))))))))))))))))))⟩))))))))))))))))))))))))
        case h8 =>
          exact ⟨⟨rfl, rfl⟩, rfl, rfl⟩
        case h9 =>
          first
            | exact hG
            | exact absurd hse (net b1)
            | exact (bl_no rfl b1).elim
            | exact absurd hse (net b2)
            | exact (bl_no rfl b2).elim
            | exact absurd hse (net b3)
            | exact (bl_no rfl b3).elim
            | exact absurd hse (net b4)
            | exact (bl_no rfl b4).elim
            | exact absurd hse (net b5)
            | exact (bl_no rfl b5).elim
            | exact absurd hse (net b6)
            | exact (bl_no rfl b6).elim
            | exact absurd hse (net b7)
            | exact (bl_no rfl b7).elim
            | exact absurd hse (net b8)
            | exact (bl_no rfl b8).elim
            | exact absurd hse (net b9)
            | exact (bl_no rfl b9).elim
            | exact absurd hse (net b10)
            | exact (bl_no rfl b10).elim
            | exact absurd hse (net b11)
            | exact (bl_no rfl b11).elim
            | exact absurd hse (net b12)
            | exact (bl_no rfl b12).elim
            | exact absurd hse (net b13)
            | exact (bl_no rfl b13).elim
            | exact absurd hse (net b14)
            | exact (bl_no rfl b14).elim
            | exact absurd hse (net b15)
            | exact (bl_no rfl b15).elim
            | exact absurd hse (net b16)
            | exact (bl_no rfl b16).elim
            | exact absurd hse (net b17)
            | exact (bl_no rfl b17).elim
            | exact absurd hse (net b18)
            | exact (bl_no rfl b18).elim
            | exact absurd hse (net b19)
            | exact (bl_no rfl b19).elim
        case h10 =>
          exact ⟨⟨rfl, rfl⟩, rfl, rfl⟩
        case h11 =>
          first
            | exact hG
            | exact absurd hse (net b1)
            | exact (bl_no rfl b1).elim
            | exact absurd hse (net b2)
            | exact (bl_no rfl b2).elim
            | exact absurd hse (net b3)
            | exact (bl_no rfl b3).elim
            | exact absurd hse (net b4)
            | exact (bl_no rfl b4).elim
            | exact absurd hse (net b5)
            | exact (bl_no rfl b5).elim
            | exact absurd hse (net b6)
            | exact (bl_no rfl b6).elim
            | exact absurd hse (net b7)
            | exact (bl_no rfl b7).elim
            | exact absurd hse (net b8)
            | exact (bl_no rfl b8).elim
            | exact absurd hse (net b9)
            | exact (bl_no rfl b9).elim
            | exact absurd hse (net b10)
            | exact (bl_no rfl b10).elim
            | exact absurd hse (net b11)
            | exact (bl_no rfl b11).elim
            | exact absurd hse (net b12)
            | exact (bl_no rfl b12).elim
            | exact absurd hse (net b13)
            | exact (bl_no rfl b13).elim
            | exact absurd hse (net b14)
            | exact (bl_no rfl b14).elim
            | exact absurd hse (net b15)
            | exact (bl_no rfl b15).elim
            | exact absurd hse (net b16)
            | exact (bl_no rfl b16).elim
            | exact absurd hse (net b17)
            | exact (bl_no rfl b17).elim
            | exact absurd hse (net b18)
            | exact (bl_no rfl b18).elim
            | exact absurd hse (net b19)
            | exact (bl_no rfl b19).elim
        case h12 =>
          exact ⟨_, rfl, rfl⟩
    case h4 =>
      obtain ⟨x, rfl, rfl⟩ := hw
      refine (as_ret hQ (c_bl (And.intro rfl ?h13)))
      case h13 =>
        first
          | exact hG
          | exact absurd hse (net b1)
          | exact (bl_no rfl b1).elim
          | exact absurd hse (net b2)
          | exact (bl_no rfl b2).elim
          | exact absurd hse (net b3)
          | exact (bl_no rfl b3).elim
          | exact absurd hse (net b4)
          | exact (bl_no rfl b4).elim
          | exact absurd hse (net b5)
          | exact (bl_no rfl b5).elim
          | exact absurd hse (net b6)
          | exact (bl_no rfl b6).elim
          | exact absurd hse (net b7)
          | exact (bl_no rfl b7).elim
          | exact absurd hse (net b8)
          | exact (bl_no rfl b8).elim
          | exact absurd hse (net b9)
          | exact (bl_no rfl b9).elim
          | exact absurd hse (net b10)
          | exact (bl_no rfl b10).elim
          | exact absurd hse (net b11)
          | exact (bl_no rfl b11).elim
          | exact absurd hse (net b12)
          | exact (bl_no rfl b12).elim
          | exact absurd hse (net b13)
          | exact (bl_no rfl b13).elim
          | exact absurd hse (net b14)
          | exact (bl_no rfl b14).elim
          | exact absurd hse (net b15)
          | exact (bl_no rfl b15).elim
          | exact absurd hse (net b16)
          | exact (bl_no rfl b16).elim
          | exact absurd hse (net b17)
          | exact (bl_no rfl b17).elim
          | exact absurd hse (net b18)
          | exact (bl_no rfl b18).elim
          | exact absurd hse (net b19)
          | exact (bl_no rfl b19).elim
    case h14 =>
      obtain ⟨x, rfl, rfl⟩ := hw
      have hcc := two_of (C := fun d => (¬ dvb k (euc k 600 p q) z ∧ d = .non) ∨ (dvb k (euc k 600 p q) z ∧ ∃ sx sy, d = ppD sx sy ∧ add (mul k p sx) (mul k q sy) = z ∧ B2 1900 sx ∧ B2 1900 sy)) (by first | exact .inl ⟨hnoA, rfl⟩ | exact .inr ⟨hdvA, xA, yA, rfl, heA, hxA, hyA⟩) (by first | exact .inl ⟨hnoB, rfl⟩ | exact .inr ⟨hdvB, xB, yB, rfl, heB, hxB, hyB⟩) hd
      rcases hcc with ⟨hno, rfl⟩ | ⟨hdv, sx, sy, rfl, hse, hsx, hsy⟩
      ·
        rw [show decide (dvb k (euc k 600 p q) z) = false from decide_eq_false hno]
        refine (as_ifn (t_neDB hr.units (c_notN (nm 5 rfl (nm 4 rfl (And.intro ?h16 (And.intro (fun b4 => (as_ret (RetC.sub hQ e10 fr0) (c_bl (And.intro rfl ?h17)))) (fun b4 => (as_ifn (t_w (w_and (t_val (nm 4 rfl (as_end rfl ?h18))))))))))))))
        case h16 =>
          exact ⟨⟨rfl, rfl⟩, rfl, rfl⟩
        case h17 =>
          first
            | exact hG
            | exact absurd hse (net b1)
            | exact (bl_no rfl b1).elim
            | exact absurd hse (net b2)
            | exact (bl_no rfl b2).elim
            | exact absurd hse (net b3)
            | exact (bl_no rfl b3).elim
            | exact absurd hse (net b4)
            | exact (bl_no rfl b4).elim
            | exact absurd hse (net b5)
            | exact (bl_no rfl b5).elim
            | exact absurd hse (net b6)
            | exact (bl_no rfl b6).elim
            | exact absurd hse (net b7)
            | exact (bl_no rfl b7).elim
            | exact absurd hse (net b8)
            | exact (bl_no rfl b8).elim
            | exact absurd hse (net b9)
            | exact (bl_no rfl b9).elim
            | exact absurd hse (net b10)
            | exact (bl_no rfl b10).elim
            | exact absurd hse (net b11)
            | exact (bl_no rfl b11).elim
            | exact absurd hse (net b12)
            | exact (bl_no rfl b12).elim
            | exact absurd hse (net b13)
            | exact (bl_no rfl b13).elim
            | exact absurd hse (net b14)
            | exact (bl_no rfl b14).elim
            | exact absurd hse (net b15)
            | exact (bl_no rfl b15).elim
            | exact absurd hse (net b16)
            | exact (bl_no rfl b16).elim
            | exact absurd hse (net b17)
            | exact (bl_no rfl b17).elim
            | exact absurd hse (net b18)
            | exact (bl_no rfl b18).elim
            | exact absurd hse (net b19)
            | exact (bl_no rfl b19).elim
        case h18 =>
          exact ⟨_, rfl, rfl⟩
      ·
        rw [show decide (dvb k (euc k 600 p q) z) = true from decide_eq_true hdv]
        refine (as_ifn (t_neDB hr.units (c_notN (nm 5 rfl (nm 4 rfl (And.intro ?h19 (And.intro (fun b5 => (as_ret (RetC.sub hQ e10 fr0) (c_bl (And.intro rfl ?h20)))) (fun b5 => (as_ifn (t_w (w_and (t_val (nm 4 rfl (w_and1 (t_w (w_or (t_not (t_val (c_call c__law_is_pair (hr.mono (by decide)) (ca_cons (nm 5 rfl (ca_cons (c_int (ca_nil ⟨[sx, sy], 2, rfl, ⟨rfl, Nat.le_of_ble_eq_true rfl⟩, And.intro rfl (w_or1 (t_neDB hr.units (c_call c__law_sum_of (hr.mono (by decide)) (ca_cons (nm 0 rfl (ca_cons (nm 1 rfl (ca_cons (c_ixTn (nm 5 rfl (c_int (And.intro (by decide) (ca_cons (nm 2 rfl (ca_cons (c_ixTn (nm 5 rfl (c_int (And.intro (by decide) (ca_nil ⟨_, p, sx, q, sy, rfl, ⟨hk, hp9, hsx, hq9, hsy⟩, And.intro rfl (nm 3 rfl (And.intro ?h21 (And.intro (fun b6 => (as_ret (RetC.sub hQ e10 fr0) (c_bl (And.intro rfl ?h22)))) (fun b6 => (as_end rfl ?h23)))))⟩))))))))))))))))))))⟩))))))))))))))))))))))))
        case h19 =>
          exact ⟨⟨rfl, rfl⟩, rfl, rfl⟩
        case h20 =>
          first
            | exact hG
            | exact absurd hse (net b1)
            | exact (bl_no rfl b1).elim
            | exact absurd hse (net b2)
            | exact (bl_no rfl b2).elim
            | exact absurd hse (net b3)
            | exact (bl_no rfl b3).elim
            | exact absurd hse (net b4)
            | exact (bl_no rfl b4).elim
            | exact absurd hse (net b5)
            | exact (bl_no rfl b5).elim
            | exact absurd hse (net b6)
            | exact (bl_no rfl b6).elim
            | exact absurd hse (net b7)
            | exact (bl_no rfl b7).elim
            | exact absurd hse (net b8)
            | exact (bl_no rfl b8).elim
            | exact absurd hse (net b9)
            | exact (bl_no rfl b9).elim
            | exact absurd hse (net b10)
            | exact (bl_no rfl b10).elim
            | exact absurd hse (net b11)
            | exact (bl_no rfl b11).elim
            | exact absurd hse (net b12)
            | exact (bl_no rfl b12).elim
            | exact absurd hse (net b13)
            | exact (bl_no rfl b13).elim
            | exact absurd hse (net b14)
            | exact (bl_no rfl b14).elim
            | exact absurd hse (net b15)
            | exact (bl_no rfl b15).elim
            | exact absurd hse (net b16)
            | exact (bl_no rfl b16).elim
            | exact absurd hse (net b17)
            | exact (bl_no rfl b17).elim
            | exact absurd hse (net b18)
            | exact (bl_no rfl b18).elim
            | exact absurd hse (net b19)
            | exact (bl_no rfl b19).elim
        case h21 =>
          exact ⟨⟨rfl, rfl⟩, rfl, rfl⟩
        case h22 =>
          first
            | exact hG
            | exact absurd hse (net b1)
            | exact (bl_no rfl b1).elim
            | exact absurd hse (net b2)
            | exact (bl_no rfl b2).elim
            | exact absurd hse (net b3)
            | exact (bl_no rfl b3).elim
            | exact absurd hse (net b4)
            | exact (bl_no rfl b4).elim
            | exact absurd hse (net b5)
            | exact (bl_no rfl b5).elim
            | exact absurd hse (net b6)
            | exact (bl_no rfl b6).elim
            | exact absurd hse (net b7)
            | exact (bl_no rfl b7).elim
            | exact absurd hse (net b8)
            | exact (bl_no rfl b8).elim
            | exact absurd hse (net b9)
            | exact (bl_no rfl b9).elim
            | exact absurd hse (net b10)
            | exact (bl_no rfl b10).elim
            | exact absurd hse (net b11)
            | exact (bl_no rfl b11).elim
            | exact absurd hse (net b12)
            | exact (bl_no rfl b12).elim
            | exact absurd hse (net b13)
            | exact (bl_no rfl b13).elim
            | exact absurd hse (net b14)
            | exact (bl_no rfl b14).elim
            | exact absurd hse (net b15)
            | exact (bl_no rfl b15).elim
            | exact absurd hse (net b16)
            | exact (bl_no rfl b16).elim
            | exact absurd hse (net b17)
            | exact (bl_no rfl b17).elim
            | exact absurd hse (net b18)
            | exact (bl_no rfl b18).elim
            | exact absurd hse (net b19)
            | exact (bl_no rfl b19).elim
        case h23 =>
          exact ⟨_, rfl, rfl⟩
    case h15 =>
      obtain ⟨x, rfl, rfl⟩ := hw
      refine (as_ret hQ (c_bl (And.intro rfl ?h24)))
      case h24 =>
        first
          | exact hG
          | exact absurd hse (net b1)
          | exact (bl_no rfl b1).elim
          | exact absurd hse (net b2)
          | exact (bl_no rfl b2).elim
          | exact absurd hse (net b3)
          | exact (bl_no rfl b3).elim
          | exact absurd hse (net b4)
          | exact (bl_no rfl b4).elim
          | exact absurd hse (net b5)
          | exact (bl_no rfl b5).elim
          | exact absurd hse (net b6)
          | exact (bl_no rfl b6).elim
          | exact absurd hse (net b7)
          | exact (bl_no rfl b7).elim
          | exact absurd hse (net b8)
          | exact (bl_no rfl b8).elim
          | exact absurd hse (net b9)
          | exact (bl_no rfl b9).elim
          | exact absurd hse (net b10)
          | exact (bl_no rfl b10).elim
          | exact absurd hse (net b11)
          | exact (bl_no rfl b11).elim
          | exact absurd hse (net b12)
          | exact (bl_no rfl b12).elim
          | exact absurd hse (net b13)
          | exact (bl_no rfl b13).elim
          | exact absurd hse (net b14)
          | exact (bl_no rfl b14).elim
          | exact absurd hse (net b15)
          | exact (bl_no rfl b15).elim
          | exact absurd hse (net b16)
          | exact (bl_no rfl b16).elim
          | exact absurd hse (net b17)
          | exact (bl_no rfl b17).elim
          | exact absurd hse (net b18)
          | exact (bl_no rfl b18).elim
          | exact absurd hse (net b19)
          | exact (bl_no rfl b19).elim
    case h25 =>
      obtain ⟨x, rfl, rfl⟩ := hw
      have hcc := two_of (C := fun d => (¬ dvb k (euc k 600 p q) z ∧ d = .non) ∨ (dvb k (euc k 600 p q) z ∧ ∃ sx sy, d = ppD sx sy ∧ add (mul k p sx) (mul k q sy) = z ∧ B2 1900 sx ∧ B2 1900 sy)) (by first | exact .inl ⟨hnoA, rfl⟩ | exact .inr ⟨hdvA, xA, yA, rfl, heA, hxA, hyA⟩) (by first | exact .inl ⟨hnoB, rfl⟩ | exact .inr ⟨hdvB, xB, yB, rfl, heB, hxB, hyB⟩) hd
      rcases hcc with ⟨hno, rfl⟩ | ⟨hdv, sx, sy, rfl, hse, hsx, hsy⟩
      ·
        rw [show decide (dvb k (euc k 600 p q) z) = false from decide_eq_false hno]
        refine (as_ifn (t_neDB hr.units (c_notN (nm 5 rfl (nm 4 rfl (And.intro ?h27 (And.intro (fun b7 => (as_ret (RetC.sub hQ e10 fr0) (c_bl (And.intro rfl ?h28)))) (fun b7 => (as_ifn (t_w (w_and (t_val (nm 4 rfl (as_end rfl ?h29))))))))))))))
        case h27 =>
          exact ⟨⟨rfl, rfl⟩, rfl, rfl⟩
        case h28 =>
          first
            | exact hG
            | exact absurd hse (net b1)
            | exact (bl_no rfl b1).elim
            | exact absurd hse (net b2)
            | exact (bl_no rfl b2).elim
            | exact absurd hse (net b3)
            | exact (bl_no rfl b3).elim
            | exact absurd hse (net b4)
            | exact (bl_no rfl b4).elim
            | exact absurd hse (net b5)
            | exact (bl_no rfl b5).elim
            | exact absurd hse (net b6)
            | exact (bl_no rfl b6).elim
            | exact absurd hse (net b7)
            | exact (bl_no rfl b7).elim
            | exact absurd hse (net b8)
            | exact (bl_no rfl b8).elim
            | exact absurd hse (net b9)
            | exact (bl_no rfl b9).elim
            | exact absurd hse (net b10)
            | exact (bl_no rfl b10).elim
            | exact absurd hse (net b11)
            | exact (bl_no rfl b11).elim
            | exact absurd hse (net b12)
            | exact (bl_no rfl b12).elim
            | exact absurd hse (net b13)
            | exact (bl_no rfl b13).elim
            | exact absurd hse (net b14)
            | exact (bl_no rfl b14).elim
            | exact absurd hse (net b15)
            | exact (bl_no rfl b15).elim
            | exact absurd hse (net b16)
            | exact (bl_no rfl b16).elim
            | exact absurd hse (net b17)
            | exact (bl_no rfl b17).elim
            | exact absurd hse (net b18)
            | exact (bl_no rfl b18).elim
            | exact absurd hse (net b19)
            | exact (bl_no rfl b19).elim
        case h29 =>
          exact ⟨_, rfl, rfl⟩
      ·
        rw [show decide (dvb k (euc k 600 p q) z) = true from decide_eq_true hdv]
        refine (as_ifn (t_neDB hr.units (c_notN (nm 5 rfl (nm 4 rfl (And.intro ?h30 (And.intro (fun b8 => (as_ret (RetC.sub hQ e10 fr0) (c_bl (And.intro rfl ?h31)))) (fun b8 => (as_ifn (t_w (w_and (t_val (nm 4 rfl (w_and1 (t_w (w_or (t_not (t_val (c_call c__law_is_pair (hr.mono (by decide)) (ca_cons (nm 5 rfl (ca_cons (c_int (ca_nil ⟨[sx, sy], 2, rfl, ⟨rfl, Nat.le_of_ble_eq_true rfl⟩, And.intro rfl (w_or1 (t_neDB hr.units (c_call c__law_sum_of (hr.mono (by decide)) (ca_cons (nm 0 rfl (ca_cons (nm 1 rfl (ca_cons (c_ixTn (nm 5 rfl (c_int (And.intro (by decide) (ca_cons (nm 2 rfl (ca_cons (c_ixTn (nm 5 rfl (c_int (And.intro (by decide) (ca_nil ⟨_, p, sx, q, sy, rfl, ⟨hk, hp9, hsx, hq9, hsy⟩, And.intro rfl (nm 3 rfl (And.intro ?h32 (And.intro (fun b9 => (as_ret (RetC.sub hQ e10 fr0) (c_bl (And.intro rfl ?h33)))) (fun b9 => (as_end rfl ?h34)))))⟩))))))))))))))))))))⟩))))))))))))))))))))))))
        case h30 =>
          exact ⟨⟨rfl, rfl⟩, rfl, rfl⟩
        case h31 =>
          first
            | exact hG
            | exact absurd hse (net b1)
            | exact (bl_no rfl b1).elim
            | exact absurd hse (net b2)
            | exact (bl_no rfl b2).elim
            | exact absurd hse (net b3)
            | exact (bl_no rfl b3).elim
            | exact absurd hse (net b4)
            | exact (bl_no rfl b4).elim
            | exact absurd hse (net b5)
            | exact (bl_no rfl b5).elim
            | exact absurd hse (net b6)
            | exact (bl_no rfl b6).elim
            | exact absurd hse (net b7)
            | exact (bl_no rfl b7).elim
            | exact absurd hse (net b8)
            | exact (bl_no rfl b8).elim
            | exact absurd hse (net b9)
            | exact (bl_no rfl b9).elim
            | exact absurd hse (net b10)
            | exact (bl_no rfl b10).elim
            | exact absurd hse (net b11)
            | exact (bl_no rfl b11).elim
            | exact absurd hse (net b12)
            | exact (bl_no rfl b12).elim
            | exact absurd hse (net b13)
            | exact (bl_no rfl b13).elim
            | exact absurd hse (net b14)
            | exact (bl_no rfl b14).elim
            | exact absurd hse (net b15)
            | exact (bl_no rfl b15).elim
            | exact absurd hse (net b16)
            | exact (bl_no rfl b16).elim
            | exact absurd hse (net b17)
            | exact (bl_no rfl b17).elim
            | exact absurd hse (net b18)
            | exact (bl_no rfl b18).elim
            | exact absurd hse (net b19)
            | exact (bl_no rfl b19).elim
        case h32 =>
          exact ⟨⟨rfl, rfl⟩, rfl, rfl⟩
        case h33 =>
          first
            | exact hG
            | exact absurd hse (net b1)
            | exact (bl_no rfl b1).elim
            | exact absurd hse (net b2)
            | exact (bl_no rfl b2).elim
            | exact absurd hse (net b3)
            | exact (bl_no rfl b3).elim
            | exact absurd hse (net b4)
            | exact (bl_no rfl b4).elim
            | exact absurd hse (net b5)
            | exact (bl_no rfl b5).elim
            | exact absurd hse (net b6)
            | exact (bl_no rfl b6).elim
            | exact absurd hse (net b7)
            | exact (bl_no rfl b7).elim
            | exact absurd hse (net b8)
            | exact (bl_no rfl b8).elim
            | exact absurd hse (net b9)
            | exact (bl_no rfl b9).elim
            | exact absurd hse (net b10)
            | exact (bl_no rfl b10).elim
            | exact absurd hse (net b11)
            | exact (bl_no rfl b11).elim
            | exact absurd hse (net b12)
            | exact (bl_no rfl b12).elim
            | exact absurd hse (net b13)
            | exact (bl_no rfl b13).elim
            | exact absurd hse (net b14)
            | exact (bl_no rfl b14).elim
            | exact absurd hse (net b15)
            | exact (bl_no rfl b15).elim
            | exact absurd hse (net b16)
            | exact (bl_no rfl b16).elim
            | exact absurd hse (net b17)
            | exact (bl_no rfl b17).elim
            | exact absurd hse (net b18)
            | exact (bl_no rfl b18).elim
            | exact absurd hse (net b19)
            | exact (bl_no rfl b19).elim
        case h34 =>
          exact ⟨_, rfl, rfl⟩
    case h26 =>
      obtain ⟨x, rfl, rfl⟩ := hw
      refine (as_ret hQ (c_bl (And.intro rfl ?h35)))
      case h35 =>
        first
          | exact hG
          | exact absurd hse (net b1)
          | exact (bl_no rfl b1).elim
          | exact absurd hse (net b2)
          | exact (bl_no rfl b2).elim
          | exact absurd hse (net b3)
          | exact (bl_no rfl b3).elim
          | exact absurd hse (net b4)
          | exact (bl_no rfl b4).elim
          | exact absurd hse (net b5)
          | exact (bl_no rfl b5).elim
          | exact absurd hse (net b6)
          | exact (bl_no rfl b6).elim
          | exact absurd hse (net b7)
          | exact (bl_no rfl b7).elim
          | exact absurd hse (net b8)
          | exact (bl_no rfl b8).elim
          | exact absurd hse (net b9)
          | exact (bl_no rfl b9).elim
          | exact absurd hse (net b10)
          | exact (bl_no rfl b10).elim
          | exact absurd hse (net b11)
          | exact (bl_no rfl b11).elim
          | exact absurd hse (net b12)
          | exact (bl_no rfl b12).elim
          | exact absurd hse (net b13)
          | exact (bl_no rfl b13).elim
          | exact absurd hse (net b14)
          | exact (bl_no rfl b14).elim
          | exact absurd hse (net b15)
          | exact (bl_no rfl b15).elim
          | exact absurd hse (net b16)
          | exact (bl_no rfl b16).elim
          | exact absurd hse (net b17)
          | exact (bl_no rfl b17).elim
          | exact absurd hse (net b18)
          | exact (bl_no rfl b18).elim
          | exact absurd hse (net b19)
          | exact (bl_no rfl b19).elim
    case h36 =>
      obtain ⟨x, rfl, rfl⟩ := hw
      have hcc := two_of (C := fun d => (¬ dvb k (euc k 600 p q) z ∧ d = .non) ∨ (dvb k (euc k 600 p q) z ∧ ∃ sx sy, d = ppD sx sy ∧ add (mul k p sx) (mul k q sy) = z ∧ B2 1900 sx ∧ B2 1900 sy)) (by first | exact .inl ⟨hnoA, rfl⟩ | exact .inr ⟨hdvA, xA, yA, rfl, heA, hxA, hyA⟩) (by first | exact .inl ⟨hnoB, rfl⟩ | exact .inr ⟨hdvB, xB, yB, rfl, heB, hxB, hyB⟩) hd
      rcases hcc with ⟨hno, rfl⟩ | ⟨hdv, sx, sy, rfl, hse, hsx, hsy⟩
      ·
        rw [show decide (dvb k (euc k 600 p q) z) = false from decide_eq_false hno]
        refine (as_ifn (t_neDB hr.units (c_notN (nm 5 rfl (nm 4 rfl (And.intro ?h38 (And.intro (fun b10 => (as_ret (RetC.sub hQ e10 fr0) (c_bl (And.intro rfl ?h39)))) (fun b10 => (as_ifn (t_w (w_and (t_val (nm 4 rfl (as_end rfl ?h40))))))))))))))
        case h38 =>
          exact ⟨⟨rfl, rfl⟩, rfl, rfl⟩
        case h39 =>
          first
            | exact hG
            | exact absurd hse (net b1)
            | exact (bl_no rfl b1).elim
            | exact absurd hse (net b2)
            | exact (bl_no rfl b2).elim
            | exact absurd hse (net b3)
            | exact (bl_no rfl b3).elim
            | exact absurd hse (net b4)
            | exact (bl_no rfl b4).elim
            | exact absurd hse (net b5)
            | exact (bl_no rfl b5).elim
            | exact absurd hse (net b6)
            | exact (bl_no rfl b6).elim
            | exact absurd hse (net b7)
            | exact (bl_no rfl b7).elim
            | exact absurd hse (net b8)
            | exact (bl_no rfl b8).elim
            | exact absurd hse (net b9)
            | exact (bl_no rfl b9).elim
            | exact absurd hse (net b10)
            | exact (bl_no rfl b10).elim
            | exact absurd hse (net b11)
            | exact (bl_no rfl b11).elim
            | exact absurd hse (net b12)
            | exact (bl_no rfl b12).elim
            | exact absurd hse (net b13)
            | exact (bl_no rfl b13).elim
            | exact absurd hse (net b14)
            | exact (bl_no rfl b14).elim
            | exact absurd hse (net b15)
            | exact (bl_no rfl b15).elim
            | exact absurd hse (net b16)
            | exact (bl_no rfl b16).elim
            | exact absurd hse (net b17)
            | exact (bl_no rfl b17).elim
            | exact absurd hse (net b18)
            | exact (bl_no rfl b18).elim
            | exact absurd hse (net b19)
            | exact (bl_no rfl b19).elim
        case h40 =>
          exact ⟨_, rfl, rfl⟩
      ·
        rw [show decide (dvb k (euc k 600 p q) z) = true from decide_eq_true hdv]
        refine (as_ifn (t_neDB hr.units (c_notN (nm 5 rfl (nm 4 rfl (And.intro ?h41 (And.intro (fun b11 => (as_ret (RetC.sub hQ e10 fr0) (c_bl (And.intro rfl ?h42)))) (fun b11 => (as_ifn (t_w (w_and (t_val (nm 4 rfl (w_and1 (t_w (w_or (t_not (t_val (c_call c__law_is_pair (hr.mono (by decide)) (ca_cons (nm 5 rfl (ca_cons (c_int (ca_nil ⟨[sx, sy], 2, rfl, ⟨rfl, Nat.le_of_ble_eq_true rfl⟩, And.intro rfl (w_or1 (t_neDB hr.units (c_call c__law_sum_of (hr.mono (by decide)) (ca_cons (nm 0 rfl (ca_cons (nm 1 rfl (ca_cons (c_ixTn (nm 5 rfl (c_int (And.intro (by decide) (ca_cons (nm 2 rfl (ca_cons (c_ixTn (nm 5 rfl (c_int (And.intro (by decide) (ca_nil ⟨_, p, sx, q, sy, rfl, ⟨hk, hp9, hsx, hq9, hsy⟩, And.intro rfl (nm 3 rfl (And.intro ?h43 (And.intro (fun b12 => (as_ret (RetC.sub hQ e10 fr0) (c_bl (And.intro rfl ?h44)))) (fun b12 => (as_end rfl ?h45)))))⟩))))))))))))))))))))⟩))))))))))))))))))))))))
        case h41 =>
          exact ⟨⟨rfl, rfl⟩, rfl, rfl⟩
        case h42 =>
          first
            | exact hG
            | exact absurd hse (net b1)
            | exact (bl_no rfl b1).elim
            | exact absurd hse (net b2)
            | exact (bl_no rfl b2).elim
            | exact absurd hse (net b3)
            | exact (bl_no rfl b3).elim
            | exact absurd hse (net b4)
            | exact (bl_no rfl b4).elim
            | exact absurd hse (net b5)
            | exact (bl_no rfl b5).elim
            | exact absurd hse (net b6)
            | exact (bl_no rfl b6).elim
            | exact absurd hse (net b7)
            | exact (bl_no rfl b7).elim
            | exact absurd hse (net b8)
            | exact (bl_no rfl b8).elim
            | exact absurd hse (net b9)
            | exact (bl_no rfl b9).elim
            | exact absurd hse (net b10)
            | exact (bl_no rfl b10).elim
            | exact absurd hse (net b11)
            | exact (bl_no rfl b11).elim
            | exact absurd hse (net b12)
            | exact (bl_no rfl b12).elim
            | exact absurd hse (net b13)
            | exact (bl_no rfl b13).elim
            | exact absurd hse (net b14)
            | exact (bl_no rfl b14).elim
            | exact absurd hse (net b15)
            | exact (bl_no rfl b15).elim
            | exact absurd hse (net b16)
            | exact (bl_no rfl b16).elim
            | exact absurd hse (net b17)
            | exact (bl_no rfl b17).elim
            | exact absurd hse (net b18)
            | exact (bl_no rfl b18).elim
            | exact absurd hse (net b19)
            | exact (bl_no rfl b19).elim
        case h43 =>
          exact ⟨⟨rfl, rfl⟩, rfl, rfl⟩
        case h44 =>
          first
            | exact hG
            | exact absurd hse (net b1)
            | exact (bl_no rfl b1).elim
            | exact absurd hse (net b2)
            | exact (bl_no rfl b2).elim
            | exact absurd hse (net b3)
            | exact (bl_no rfl b3).elim
            | exact absurd hse (net b4)
            | exact (bl_no rfl b4).elim
            | exact absurd hse (net b5)
            | exact (bl_no rfl b5).elim
            | exact absurd hse (net b6)
            | exact (bl_no rfl b6).elim
            | exact absurd hse (net b7)
            | exact (bl_no rfl b7).elim
            | exact absurd hse (net b8)
            | exact (bl_no rfl b8).elim
            | exact absurd hse (net b9)
            | exact (bl_no rfl b9).elim
            | exact absurd hse (net b10)
            | exact (bl_no rfl b10).elim
            | exact absurd hse (net b11)
            | exact (bl_no rfl b11).elim
            | exact absurd hse (net b12)
            | exact (bl_no rfl b12).elim
            | exact absurd hse (net b13)
            | exact (bl_no rfl b13).elim
            | exact absurd hse (net b14)
            | exact (bl_no rfl b14).elim
            | exact absurd hse (net b15)
            | exact (bl_no rfl b15).elim
            | exact absurd hse (net b16)
            | exact (bl_no rfl b16).elim
            | exact absurd hse (net b17)
            | exact (bl_no rfl b17).elim
            | exact absurd hse (net b18)
            | exact (bl_no rfl b18).elim
            | exact absurd hse (net b19)
            | exact (bl_no rfl b19).elim
        case h45 =>
          exact ⟨_, rfl, rfl⟩
    case h37 =>
      obtain ⟨x, rfl, rfl⟩ := hw
      refine (as_ret hQ (c_bl (And.intro rfl ?h46)))
      case h46 =>
        first
          | exact hG
          | exact absurd hse (net b1)
          | exact (bl_no rfl b1).elim
          | exact absurd hse (net b2)
          | exact (bl_no rfl b2).elim
          | exact absurd hse (net b3)
          | exact (bl_no rfl b3).elim
          | exact absurd hse (net b4)
          | exact (bl_no rfl b4).elim
          | exact absurd hse (net b5)
          | exact (bl_no rfl b5).elim
          | exact absurd hse (net b6)
          | exact (bl_no rfl b6).elim
          | exact absurd hse (net b7)
          | exact (bl_no rfl b7).elim
          | exact absurd hse (net b8)
          | exact (bl_no rfl b8).elim
          | exact absurd hse (net b9)
          | exact (bl_no rfl b9).elim
          | exact absurd hse (net b10)
          | exact (bl_no rfl b10).elim
          | exact absurd hse (net b11)
          | exact (bl_no rfl b11).elim
          | exact absurd hse (net b12)
          | exact (bl_no rfl b12).elim
          | exact absurd hse (net b13)
          | exact (bl_no rfl b13).elim
          | exact absurd hse (net b14)
          | exact (bl_no rfl b14).elim
          | exact absurd hse (net b15)
          | exact (bl_no rfl b15).elim
          | exact absurd hse (net b16)
          | exact (bl_no rfl b16).elim
          | exact absurd hse (net b17)
          | exact (bl_no rfl b17).elim
          | exact absurd hse (net b18)
          | exact (bl_no rfl b18).elim
          | exact absurd hse (net b19)
          | exact (bl_no rfl b19).elim

end
end Y75

set_option Elab.async false
set_option linter.all false
set_option maxRecDepth 100000
set_option maxHeartbeats 8000000
namespace Y75
open PySem PySem.Spec PyProof.Rows L2 Evl Wz
open Y02 (Kd)
local macro_rules | `(tactic| walk_at "bd") => `(tactic| (repeat (first | assumption | apply Bd.mul | apply Bd.add | apply Bd.sub | apply Bd.neg | exact Bd.z | exact Bd.of _)))
local macro_rules | `(tactic| walk_at "bm") => `(tactic| (first | assumption | exact Bd.mono (by walk_at "bd") (by decide)))
local macro_rules | `(tactic| walk_at "b2") => `(tactic| (repeat (first | assumption | apply And.intro | walk_at "bm" | decide | omega)))
theorem three_of {a b e d : Dat} {j : Nat} {C : Dat → Prop} (ha : C a) (hb : C b) (he : C e) (h : [a, b, e][j]? = some d) : C d := by
  match j, h with
  | 0, h => exact Option.some.inj h ▸ ha
  | 1, h => exact Option.some.inj h ▸ hb
  | 2, h => exact Option.some.inj h ▸ he
theorem four_of {a b e u d : Dat} {j : Nat} {C : Dat → Prop} (ha : C a) (hb : C b) (he : C e) (hu : C u) (h : [a, b, e, u][j]? = some d) : C d := by
  match j, h with
  | 0, h => exact Option.some.inj h ▸ ha
  | 1, h => exact Option.some.inj h ▸ hb
  | 2, h => exact Option.some.inj h ▸ he
  | 3, h => exact Option.some.inj h ▸ hu
def fsD : Dat → Dat
  | .tup (a :: _) => a
  | d => d
def snD : Dat → Dat
  | .tup (_ :: b :: _) => b
  | d => d
theorem two_ok {a b c e f g z : Dat} (h : z ∈ [Dat.tup [a, b], Dat.tup [c, e], Dat.tup [f, g]]) : z = .tup [fsD z, snD z] := by
  rcases List.mem_cons.mp h with rfl | h
  · rfl
  · rcases List.mem_cons.mp h with rfl | h
    · rfl
    · rcases List.mem_cons.mp h with rfl | h
      · rfl
      · cases h
def In (l : Nat) (acc : List Dat) : Prop := ∃ ns : List Int, acc = ns.map Dat.int ∧ ns.length = l
theorem In.nil : In 0 [] := ⟨[], rfl, rfl⟩
theorem In.next {l : Nat} {acc : List Dat} {i : Int} (h : In l acc) : In (l + 1) (acc ++ [.int i]) := by
  obtain ⟨ns, rfl, h2⟩ := h
  exact ⟨ns ++ [i], by rw [List.map_append]; rfl, by rw [List.length_append, h2]; rfl⟩
theorem pot_dk {ns : List Int} (hns : ns.length ≤ 63) : Dk ([.int 0, .int 7, .int 3] ++ ns.map Dat.int) := ⟨0, 7, 3, ns, rfl, by decide, by decide, by decide, by decide, by decide, hns⟩
theorem ten4 : (10 : Int) ^ (4 : Int).toNat = 10000 := by decide
set_option exponentiation.threshold 1000000
section
variable {P : Program} {w : World} {K : PySem.W.Frag} {mg : Str → Option Value} {base : Heap} {C : Addr}

/-! ### _law_pair_right -/
abbrev s__law_pair_right : Stmt := topS 54
theorem sc__law_pair_right : FnScope ["pot", "kind", "p", "q", "part", "size", "one", "other", "due", "few", "turn", "x", "y", "made", "near", "c"] ["pot", "kind"] (defScope s__law_pair_right) := ⟨rfl, rfl, rfl, by decide +kernel, rfl, by decide +kernel, by decide +kernel⟩
def F__law_pair_right : FD := fun ds c Q => ∃ k, ds = [.int k] ∧ (Kd k ∧ Dk c) ∧ ∀ c', Dk c' → Q (.bl true) c'
theorem ok__law_pair_right {f : Addr} {fd : FuncData} (Fn : Fun K "_law_pair_right" "_law_pair_right" s__law_pair_right f fd) (c__law_some : Cl P w K mg base 5 "_law_some" ["pot", "kind"] (spE K F__law_some)) (c__law_divided_right : Cl P w K mg base 6 "_law_divided_right" ["kind", "p", "q"] (spP K F__law_divided_right)) (c__law_whole_times : Cl P w K mg base 4 "_law_whole_times" ["kind", "p", "q"] (spP K F__law_whole_times)) (c__law_divides : Cl P w K mg base 6 "_law_divides" ["kind", "q", "p"] (spP K F__law_divides)) (c__law_same : Cl P w K mg base 2 "_law_same" ["told", "due"] (spP K (F__law_same 1))) (c_divides : Cl P w K mg base 4 "divides" ["kind", "q", "p"] (spP K F_divides)) (c__law_divisor_right : Cl P w K mg base 8 "_law_divisor_right" ["kind", "p", "q"] (spP K F__law_divisor_right)) (c__law_take : Cl P w K mg base 1 "_law_take" ["pot", "many"] (spD K F__law_take)) (c__law_sum_of : Cl P w K mg base 5 "_law_sum_of" ["kind", "p", "x", "q", "y"] (spP K F__law_sum_of)) (c__law_whole : Cl P w K mg base 2 "_law_whole" ["pot", "great"] (spD K F__law_whole)) (c__law_solved_right : Cl P w K mg base 8 "_law_solved_right" ["kind", "p", "q", "c"] (spP K F__law_solved_right)) (ck_divides : ClK P w K mg base 4 "divides" ["kind", "q", "p"] ["p", "q", "kind"] [2, 1, 0] (spP K F_divides)) (m_max : mg "max" = none) (m_abs : mg "abs" = none) (m_range : mg "range" = none) : FnOk P w K mg base CX0 9 f fd ["pot", "kind"] (spD K F__law_pair_right) := by
  refine fn_D Fn sc__law_pair_right (fun ds c G h => ?_) (fun cdv A outer s H Q E pa ds c G hr hF hQ => ?_)
  · obtain ⟨k, rfl, ⟨hk, hdk⟩, hG⟩ := h
    rfl
  · obtain ⟨k, rfl, ⟨hk, hdk⟩, hG⟩ := hF
    have t4 := ten4
    refine (as_unpL2 (i := 2) (j := 3) ?h1 rfl (c_ofN (n_callD c__law_some (hr.mono (by decide)) (ca_cons (nm 0 rfl (ca_cons (nm 1 rfl (ca_nil (And.intro rfl ⟨_, rfl, ⟨?h2, (by assumption)⟩, fun p0 q0 cs hp0 hq0 hds => And.intro rfl ⟨_, _, rfl, (as_ifn (t_w (w_and (t_neDB hr.units (nm 3 rfl (c_tup (ca_cons (c_int (ca_cons (c_int (ca_nil (And.intro (And.intro rfl (Nat.le_of_ble_eq_true rfl)) (And.intro ?h3 (And.intro (fun b1 => (w_and1 (t_not (t_val (c_call c__law_divided_right (hr.mono (by decide)) (ca_cons (nm 1 rfl (ca_cons (nm 2 rfl (ca_cons (nm 3 rfl (ca_nil ⟨_, p0, q0, rfl, ?h4, And.intro rfl (as_asg (i := 5) ?h5 (c_maxL rfl m_max (ca_cons (c_ofN (n_lcT (j := 4) rfl ?h6 (blkOk_by (N := ["pot", "kind", "p", "q", "part", "size", "one", "other", "due", "few", "turn", "x", "y", "made", "near", "c"]) (sc := defScope s__law_pair_right) (by decide +kernel)) (fun _ _ _ _ _ => pg_name (i := 4) sc__law_pair_right.nd rfl (Or.inl rfl)) (c_catT (nm 2 rfl (nm 3 rfl (And.intro (Nat.le_of_ble_eq_true rfl) ⟨?h92, (fun l acc q => q = [cs] ∧ In l acc), ⟨rfl, In.nil⟩, ⟨fun _ _ _ _ _ l d acc q hl hd hw => ?h7⟩, fun acc q hw ha => ?h8⟩)))))))))⟩)))))))))))) (fun b1 => (as_asg (i := 5) ?h93 (c_maxL rfl m_max (ca_cons (c_ofN (n_lcT (j := 4) rfl ?h94 (blkOk_by (N := ["pot", "kind", "p", "q", "part", "size", "one", "other", "due", "few", "turn", "x", "y", "made", "near", "c"]) (sc := defScope s__law_pair_right) (by decide +kernel)) (fun _ _ _ _ _ => pg_name (i := 4) sc__law_pair_right.nd rfl (Or.inl rfl)) (c_catT (nm 2 rfl (nm 3 rfl (And.intro (Nat.le_of_ble_eq_true rfl) ⟨?h180, (fun l acc q => q = [cs] ∧ In l acc), ⟨rfl, In.nil⟩, ⟨fun _ _ _ _ _ l d acc q hl hd hw => ?h95⟩, fun acc q hw ha => ?h96⟩))))))))))))))))))))))))⟩⟩)))))))))
    case h1 =>
      exact sc__law_pair_right.nd
    case h2 =>
      assumption
    case h3 =>
      exact ⟨⟨rfl, rfl⟩, rfl, rfl⟩
    case h4 =>
      exact ⟨hk, hp0, hq0, net b1⟩
    case h5 =>
      exact sc__law_pair_right.nd
    case h6 =>
      exact sc__law_pair_right.nd
    case h7 =>
      obtain ⟨rfl, hin⟩ := hw
      obtain ⟨i, rfl⟩ := four_of (C := fun d => ∃ i, d = .int i) ⟨_, rfl⟩ ⟨_, rfl⟩ ⟨_, rfl⟩ ⟨_, rfl⟩ hd
      refine (c_abs m_abs (ca_cons (nm 4 rfl (ca_nil (And.intro rfl ⟨rfl, hin.next⟩)))))
    case h8 =>
      obtain ⟨rfl, ns, rfl, hnl⟩ := hw
      refine (ca_nil ⟨ns, rfl, ?h9, fun size hsz hsm => (as_forL2 (i := 6) (i2 := 7) ?h10 rfl PassesOwn.never (c_ofN (n_disp (ca_cons (c_tup (ca_cons (nm 2 rfl (ca_cons (nm 3 rfl (ca_nil (And.intro (And.intro rfl (Nat.le_of_ble_eq_true rfl)) (ca_cons (c_tup (ca_cons (nm 3 rfl (ca_cons (nm 2 rfl (ca_nil (And.intro (And.intro rfl (Nat.le_of_ble_eq_true rfl)) (ca_cons (c_tup (ca_cons (nm 3 rfl (ca_cons (c_if (t_gt (nm 5 rfl (c_powW (c_int (c_int (And.intro ?h11 (And.intro (fun b2 => (nm 3 rfl (ca_nil (And.intro (And.intro rfl (Nat.le_of_ble_eq_true rfl)) (ca_nil (And.intro (And.intro rfl (Nat.le_of_ble_eq_true rfl)) ⟨(fun j es qq => ∃ (o4 o6 o7 o8 o9 o10 o11 o12 o13 o14 o15 : Option Dat), es = [some (.cel 0), some (.int k), some (pD p0), some (pD q0), o4, some (.int size), o6, o7, o8, o9, o10, o11, o12, o13, o14, o15] ∧ qq = [cs]), (fun _ _ => False), fsD, snD, ⟨_, _, _, _, _, _, _, _, _, _, _, rfl, rfl⟩, (fun z hz => two_ok hz), ⟨fun H10 e10 fr0 j d es q hj hd hw => ?h12, fun es q hw => ?h13, fun _ _ h => h.elim⟩⟩)))))) (fun b2 => (c_call c__law_whole_times (hr.mono (by decide)) (ca_cons (nm 1 rfl (ca_cons (nm 2 rfl (ca_cons (nm 3 rfl (ca_nil ⟨_, p0, q0, rfl, ⟨hk, hp0.mono (by decide), hq0.mono (by decide)⟩, And.intro rfl (ca_nil (And.intro (And.intro rfl (Nat.le_of_ble_eq_true rfl)) (ca_nil (And.intro (And.intro rfl (Nat.le_of_ble_eq_true rfl)) ⟨(fun j es qq => ∃ (o4 o6 o7 o8 o9 o10 o11 o12 o13 o14 o15 : Option Dat), es = [some (.cel 0), some (.int k), some (pD p0), some (pD q0), o4, some (.int size), o6, o7, o8, o9, o10, o11, o12, o13, o14, o15] ∧ qq = [cs]), (fun _ _ => False), fsD, snD, ⟨_, _, _, _, _, _, _, _, _, _, _, rfl, rfl⟩, (fun z hz => two_ok hz), ⟨fun H10 e10 fr0 j d es q hj hd hw => ?h52, fun es q hw => ?h53, fun _ _ h => h.elim⟩⟩))))⟩)))))))))))))))))))))))))))))))))))))))))⟩)
      case h9 =>
        rw [hnl]
        exact Nat.succ_pos _
      case h10 =>
        exact sc__law_pair_right.nd
      case h11 =>
        exact cpw (by first | omega | decide) (Bd.of _) (by decide)
      case h12 =>
        obtain ⟨o4, o6, o7, o8, o9, o10, o11, o12, o13, o14, o15, rfl, rfl⟩ := hw
        obtain ⟨a, b, rfl, ha, hb⟩ := three_of (C := fun d => ∃ a b : Z2, d = .tup [pD a, pD b] ∧ B2 300 a ∧ B2 300 b) (by first | exact ⟨p0, q0, rfl, hp0.mono (by decide), hq0.mono (by decide)⟩ | exact ⟨q0, p0, rfl, hq0.mono (by decide), hp0.mono (by decide)⟩ | exact ⟨q0, q0, rfl, hq0.mono (by decide), hq0.mono (by decide)⟩ | exact ⟨q0, mul k p0 q0, rfl, hq0.mono (by decide), (mul_b hk hp0 hq0).mono (by decide)⟩) (by first | exact ⟨p0, q0, rfl, hp0.mono (by decide), hq0.mono (by decide)⟩ | exact ⟨q0, p0, rfl, hq0.mono (by decide), hp0.mono (by decide)⟩ | exact ⟨q0, q0, rfl, hq0.mono (by decide), hq0.mono (by decide)⟩ | exact ⟨q0, mul k p0 q0, rfl, hq0.mono (by decide), (mul_b hk hp0 hq0).mono (by decide)⟩) (by first | exact ⟨p0, q0, rfl, hp0.mono (by decide), hq0.mono (by decide)⟩ | exact ⟨q0, p0, rfl, hq0.mono (by decide), hp0.mono (by decide)⟩ | exact ⟨q0, q0, rfl, hq0.mono (by decide), hq0.mono (by decide)⟩ | exact ⟨q0, mul k p0 q0, rfl, hq0.mono (by decide), (mul_b hk hp0 hq0).mono (by decide)⟩) hd
        refine (as_asg (i := 8) ?h14 (c_call c__law_divides (hr.mono (by decide)) (ca_cons (nm 1 rfl (ca_cons (nm 6 rfl (ca_cons (nm 7 rfl (ca_nil ⟨_, a, b, rfl, ⟨hk, ha, hb⟩, And.intro rfl (as_ifn (t_not (t_val (c_call c__law_same (hr.mono (by decide)) (ca_cons (c_ofN (n_disp (ca_cons (c_call c_divides (hr.mono (by decide)) (ca_cons (nm 1 rfl (ca_cons (nm 6 rfl (ca_cons (nm 7 rfl (ca_nil ⟨_, a, b, rfl, ⟨hk, ha, hb⟩, And.intro rfl (ca_cons (c_callK ck_divides (hr.mono (by decide)) (ck_cons (nm 7 rfl (ck_cons (nm 6 rfl (ck_cons (nm 1 rfl (ck_nil (And.intro rfl ⟨_, a, b, rfl, ⟨hk, ha, hb⟩, And.intro rfl (ca_nil (And.intro (And.intro rfl (Nat.le_of_ble_eq_true rfl)) (ca_cons (c_ofN (n_disp (ca_cons (nm 8 rfl (ca_cons (nm 8 rfl (ca_nil (And.intro (And.intro rfl (Nat.le_of_ble_eq_true rfl)) (ca_nil ⟨_, rfl, ?h15, And.intro rfl (as_end rfl ?h16)⟩))))))))))))⟩))))))))))⟩))))))))))))))))⟩)))))))))
        case h14 =>
          exact sc__law_pair_right.nd
        case h15 =>
          exact sh_b2
        case h16 =>
          exact ⟨_, _, _, _, _, _, _, _, _, _, _, rfl, rfl⟩
      case h13 =>
        obtain ⟨o4, o6, o7, o8, o9, o10, o11, o12, o13, o14, o15, rfl, rfl⟩ := hw
        refine (as_ifn (t_not (t_val (c_call c__law_divisor_right (hr.mono (by decide)) (ca_cons (nm 1 rfl (ca_cons (nm 2 rfl (ca_cons (nm 3 rfl (ca_nil ⟨_, p0, q0, rfl, ⟨hk, hp0, hq0⟩, And.intro rfl (as_asg (i := 9) (hx := .inr rfl) ?h17 (c_if (t_gt (nm 5 rfl (c_powW (c_int (c_int (And.intro ?h18 (And.intro (fun b3 => (c_int (as_unpL2 (i := 11) (j := 12) ?h19 rfl (c_ofN (n_lcR (j := 10) rfl ?h20 m_range (blkOk_by (N := ["pot", "kind", "p", "q", "part", "size", "one", "other", "due", "few", "turn", "x", "y", "made", "near", "c"]) (sc := defScope s__law_pair_right) (by decide +kernel)) (fun _ _ _ _ _ => pg_name (i := 10) sc__law_pair_right.nd rfl (Or.inl rfl)) (ca_cons (c_int (ca_nil ⟨?h34, (fun l acc q => ∃ cq, q = [cq] ∧ Dk cq ∧ Ls l acc), ⟨_, rfl, (by assumption), Ls.nil⟩, ⟨fun _ _ _ _ _ l d acc q hl hd hw => ?h21⟩, fun acc q hw ha => ?h22⟩)))))))) (fun b3 => (c_powW (c_int (c_int (And.intro ?h35 (as_unpL2 (i := 11) (j := 12) ?h36 rfl (c_ofN (n_lcR (j := 10) rfl ?h37 m_range (blkOk_by (N := ["pot", "kind", "p", "q", "part", "size", "one", "other", "due", "few", "turn", "x", "y", "made", "near", "c"]) (sc := defScope s__law_pair_right) (by decide +kernel)) (fun _ _ _ _ _ => pg_name (i := 10) sc__law_pair_right.nd rfl (Or.inl rfl)) (ca_cons (c_int (ca_nil ⟨?h51, (fun l acc q => ∃ cq, q = [cq] ∧ Dk cq ∧ Ls l acc), ⟨_, rfl, (by assumption), Ls.nil⟩, ⟨fun _ _ _ _ _ l d acc q hl hd hw => ?h38⟩, fun acc q hw ha => ?h39⟩))))))))))))))))))))⟩)))))))))))
        case h17 =>
          exact sc__law_pair_right.nd
        case h18 =>
          exact cpw (by first | omega | decide) (Bd.of _) (by decide)
        case h19 =>
          exact sc__law_pair_right.nd
        case h20 =>
          exact sc__law_pair_right.nd
        case h21 =>
          obtain ⟨cq, rfl, hdq, hls⟩ := hw
          refine (c_tup (ca_cons (c_sub (c_callD c__law_take (hr.mono (by decide)) (ca_cons (nm 0 rfl (ca_cons (c_add (c_mulS (c_int (nm 9 rfl (And.intro (.inl (And.intro (by decide) (by decide))) (c_int (ca_nil (And.intro rfl ⟨_, rfl, ⟨?h23, ?h24, (by assumption)⟩, fun v1 c1 hv1 hw1 hd1 => And.intro rfl (nm 9 rfl (ca_cons (c_sub (c_callD c__law_take (hr.mono (by decide)) (ca_cons (nm 0 rfl (ca_cons (c_add (c_mulS (c_int (nm 9 rfl (And.intro (.inl (And.intro (by decide) (by decide))) (c_int (ca_nil (And.intro rfl ⟨_, rfl, ⟨?h25, ?h26, (by assumption)⟩, fun v2 c2 hv2 hw2 hd2 => And.intro rfl (nm 9 rfl (ca_nil (And.intro (And.intro rfl (Nat.le_of_ble_eq_true rfl)) (And.intro rfl ⟨_, rfl, (by assumption), hls.next (z := (_, _)) ?h27⟩))))⟩)))))))))))))))⟩)))))))))))))))
          case h23 =>
            first | decide | omega
          case h24 =>
            first | exact Bd.of _ | exact bd_r (by omega) (by omega) (by decide)
          case h25 =>
            first | decide | omega
          case h26 =>
            first | exact Bd.of _ | exact bd_r (by omega) (by omega) (by decide)
          case h27 =>
            exact ⟨(bd37 (by omega)).mono (by decide), (bd37 (by omega)).mono (by decide)⟩
        case h22 =>
          obtain ⟨cq, rfl, hdq, hls⟩ := hw
          obtain ⟨pp, qq, rfl, hpp, hqq⟩ := hls.two
          refine ⟨_, _, rfl, (as_par (i := 13) (j := 14) ?h28 rfl (ca_cons (c_call c__law_sum_of (hr.mono (by decide)) (ca_cons (nm 1 rfl (ca_cons (nm 2 rfl (ca_cons (nm 11 rfl (ca_cons (nm 3 rfl (ca_cons (nm 12 rfl (ca_nil ⟨_, p0, pp, q0, qq, rfl, ⟨hk, hp0.mono (by decide), hpp.mono (by decide), hq0.mono (by decide), hqq.mono (by decide)⟩, And.intro rfl (ca_cons (c_callD c__law_whole (hr.mono (by decide)) (ca_cons (nm 0 rfl (ca_cons (c_int (ca_nil (And.intro rfl ⟨_, rfl, (by assumption), fun wz1 cw1 h171 h371 hdw1 => And.intro rfl (ca_nil ⟨_, _, rfl, (as_forL (i := 15) ?h29 rfl PassesOwn.never (c_ofN (n_disp (ca_cons (nm 13 rfl (ca_cons (c_tup (ca_cons (c_add (c_ixTn (nm 13 rfl (c_int (And.intro (by decide) (c_ixTn (nm 14 rfl (c_int (And.intro (by decide) (ca_cons (c_add (c_ixTn (nm 13 rfl (c_int (And.intro (by decide) (c_ixTn (nm 14 rfl (c_int (And.intro (by decide) (ca_nil (And.intro (And.intro rfl (Nat.le_of_ble_eq_true rfl)) (ca_cons (nm 14 rfl (ca_cons (c_tup (ca_cons (c_int (ca_cons (c_int (ca_nil (And.intro (And.intro rfl (Nat.le_of_ble_eq_true rfl)) (ca_nil (And.intro (And.intro rfl (Nat.le_of_ble_eq_true rfl)) ⟨(fun j es qq => ∃ (o4 o6 o7 o8 o9 o10 o11 o12 o13 o14 o15 : Option Dat), es = [some (.cel 0), some (.int k), some (pD p0), some (pD q0), o4, some (.int size), o6, o7, o8, o9, o10, o11, o12, o13, o14, o15] ∧ qq = [cw1]), (fun _ _ => False), ⟨_, _, _, _, _, _, _, _, _, _, _, rfl, rfl⟩, ⟨fun H11 e11 fr1 j d es q hj hd hw => ?h30, fun es q hw => ?h31, fun _ _ h => h.elim⟩⟩)))))))))))))))))))))))))))))))))))))))))⟩)⟩))))))))⟩))))))))))))))⟩
          case h28 =>
            exact sc__law_pair_right.nd
          case h29 =>
            exact sc__law_pair_right.nd
          case h30 =>
            obtain ⟨o4, o6, o7, o8, o9, o10, o11, o12, o13, o14, o15, rfl, rfl⟩ := hw
            have hnear : B2 200 wz1 := h371.mono (by decide)
            have hmade : B2 200 (add (mul k p0 pp) (mul k q0 qq)) := (add_b (mul_b hk hp0 hpp) (mul_b hk hq0 hqq)).mono (by decide)
            obtain ⟨z, rfl, hz⟩ := four_of (C := fun d => ∃ z : Z2, d = pD z ∧ B2 300 z) (by first | exact ⟨(add (mul k p0 pp) (mul k q0 qq)), rfl, hmade.mono (by decide)⟩ | exact ⟨(_, _), rfl, (add_b hmade hnear).mono (by decide)⟩ | exact ⟨wz1, rfl, hnear.mono (by decide)⟩ | exact ⟨(1, 0), rfl, b2_s (by decide) (by decide) (by decide)⟩) (by first | exact ⟨(add (mul k p0 pp) (mul k q0 qq)), rfl, hmade.mono (by decide)⟩ | exact ⟨(_, _), rfl, (add_b hmade hnear).mono (by decide)⟩ | exact ⟨wz1, rfl, hnear.mono (by decide)⟩ | exact ⟨(1, 0), rfl, b2_s (by decide) (by decide) (by decide)⟩) (by first | exact ⟨(add (mul k p0 pp) (mul k q0 qq)), rfl, hmade.mono (by decide)⟩ | exact ⟨(_, _), rfl, (add_b hmade hnear).mono (by decide)⟩ | exact ⟨wz1, rfl, hnear.mono (by decide)⟩ | exact ⟨(1, 0), rfl, b2_s (by decide) (by decide) (by decide)⟩) (by first | exact ⟨(add (mul k p0 pp) (mul k q0 qq)), rfl, hmade.mono (by decide)⟩ | exact ⟨(_, _), rfl, (add_b hmade hnear).mono (by decide)⟩ | exact ⟨wz1, rfl, hnear.mono (by decide)⟩ | exact ⟨(1, 0), rfl, b2_s (by decide) (by decide) (by decide)⟩) hd
            refine (as_ifn (t_not (t_val (c_call c__law_solved_right (hr.mono (by decide)) (ca_cons (nm 1 rfl (ca_cons (nm 2 rfl (ca_cons (nm 3 rfl (ca_cons (nm 15 rfl (ca_nil ⟨_, p0, q0, z, rfl, ⟨hk, hp0, hq0, hz⟩, And.intro rfl (as_end rfl ?h32)⟩)))))))))))))
            case h32 =>
              exact ⟨_, _, _, _, _, _, _, _, _, _, _, rfl, rfl⟩
          case h31 =>
            obtain ⟨o4, o6, o7, o8, o9, o10, o11, o12, o13, o14, o15, rfl, rfl⟩ := hw
            refine (as_ret hQ (c_bl (And.intro rfl ?h33)))
            case h33 =>
              exact ⟨_, rfl, hG _ (by assumption)⟩
        case h34 =>
          first | assumption | exact Nat.le_of_ble_eq_true rfl | omega
        case h35 =>
          exact cpw (by first | omega | decide) (Bd.of _) (by decide)
        case h36 =>
          exact sc__law_pair_right.nd
        case h37 =>
          exact sc__law_pair_right.nd
        case h38 =>
          obtain ⟨cq, rfl, hdq, hls⟩ := hw
          refine (c_tup (ca_cons (c_sub (c_callD c__law_take (hr.mono (by decide)) (ca_cons (nm 0 rfl (ca_cons (c_add (c_mulS (c_int (nm 9 rfl (And.intro (.inl (And.intro (by decide) (by decide))) (c_int (ca_nil (And.intro rfl ⟨_, rfl, ⟨?h40, ?h41, (by assumption)⟩, fun v3 c3 hv3 hw3 hd3 => And.intro rfl (nm 9 rfl (ca_cons (c_sub (c_callD c__law_take (hr.mono (by decide)) (ca_cons (nm 0 rfl (ca_cons (c_add (c_mulS (c_int (nm 9 rfl (And.intro (.inl (And.intro (by decide) (by decide))) (c_int (ca_nil (And.intro rfl ⟨_, rfl, ⟨?h42, ?h43, (by assumption)⟩, fun v4 c4 hv4 hw4 hd4 => And.intro rfl (nm 9 rfl (ca_nil (And.intro (And.intro rfl (Nat.le_of_ble_eq_true rfl)) (And.intro rfl ⟨_, rfl, (by assumption), hls.next (z := (_, _)) ?h44⟩))))⟩)))))))))))))))⟩)))))))))))))))
          case h40 =>
            first | decide | omega
          case h41 =>
            first | exact Bd.of _ | exact bd_r (by omega) (by omega) (by decide)
          case h42 =>
            first | decide | omega
          case h43 =>
            first | exact Bd.of _ | exact bd_r (by omega) (by omega) (by decide)
          case h44 =>
            exact ⟨(bd37 (by omega)).mono (by decide), (bd37 (by omega)).mono (by decide)⟩
        case h39 =>
          obtain ⟨cq, rfl, hdq, hls⟩ := hw
          obtain ⟨pp, qq, rfl, hpp, hqq⟩ := hls.two
          refine ⟨_, _, rfl, (as_par (i := 13) (j := 14) ?h45 rfl (ca_cons (c_call c__law_sum_of (hr.mono (by decide)) (ca_cons (nm 1 rfl (ca_cons (nm 2 rfl (ca_cons (nm 11 rfl (ca_cons (nm 3 rfl (ca_cons (nm 12 rfl (ca_nil ⟨_, p0, pp, q0, qq, rfl, ⟨hk, hp0.mono (by decide), hpp.mono (by decide), hq0.mono (by decide), hqq.mono (by decide)⟩, And.intro rfl (ca_cons (c_callD c__law_whole (hr.mono (by decide)) (ca_cons (nm 0 rfl (ca_cons (c_int (ca_nil (And.intro rfl ⟨_, rfl, (by assumption), fun wz2 cw2 h172 h372 hdw2 => And.intro rfl (ca_nil ⟨_, _, rfl, (as_forL (i := 15) ?h46 rfl PassesOwn.never (c_ofN (n_disp (ca_cons (nm 13 rfl (ca_cons (c_tup (ca_cons (c_add (c_ixTn (nm 13 rfl (c_int (And.intro (by decide) (c_ixTn (nm 14 rfl (c_int (And.intro (by decide) (ca_cons (c_add (c_ixTn (nm 13 rfl (c_int (And.intro (by decide) (c_ixTn (nm 14 rfl (c_int (And.intro (by decide) (ca_nil (And.intro (And.intro rfl (Nat.le_of_ble_eq_true rfl)) (ca_cons (nm 14 rfl (ca_cons (c_tup (ca_cons (c_int (ca_cons (c_int (ca_nil (And.intro (And.intro rfl (Nat.le_of_ble_eq_true rfl)) (ca_nil (And.intro (And.intro rfl (Nat.le_of_ble_eq_true rfl)) ⟨(fun j es qq => ∃ (o4 o6 o7 o8 o9 o10 o11 o12 o13 o14 o15 : Option Dat), es = [some (.cel 0), some (.int k), some (pD p0), some (pD q0), o4, some (.int size), o6, o7, o8, o9, o10, o11, o12, o13, o14, o15] ∧ qq = [cw2]), (fun _ _ => False), ⟨_, _, _, _, _, _, _, _, _, _, _, rfl, rfl⟩, ⟨fun H11 e11 fr1 j d es q hj hd hw => ?h47, fun es q hw => ?h48, fun _ _ h => h.elim⟩⟩)))))))))))))))))))))))))))))))))))))))))⟩)⟩))))))))⟩))))))))))))))⟩
          case h45 =>
            exact sc__law_pair_right.nd
          case h46 =>
            exact sc__law_pair_right.nd
          case h47 =>
            obtain ⟨o4, o6, o7, o8, o9, o10, o11, o12, o13, o14, o15, rfl, rfl⟩ := hw
            have hnear : B2 200 wz2 := h372.mono (by decide)
            have hmade : B2 200 (add (mul k p0 pp) (mul k q0 qq)) := (add_b (mul_b hk hp0 hpp) (mul_b hk hq0 hqq)).mono (by decide)
            obtain ⟨z, rfl, hz⟩ := four_of (C := fun d => ∃ z : Z2, d = pD z ∧ B2 300 z) (by first | exact ⟨(add (mul k p0 pp) (mul k q0 qq)), rfl, hmade.mono (by decide)⟩ | exact ⟨(_, _), rfl, (add_b hmade hnear).mono (by decide)⟩ | exact ⟨wz2, rfl, hnear.mono (by decide)⟩ | exact ⟨(1, 0), rfl, b2_s (by decide) (by decide) (by decide)⟩) (by first | exact ⟨(add (mul k p0 pp) (mul k q0 qq)), rfl, hmade.mono (by decide)⟩ | exact ⟨(_, _), rfl, (add_b hmade hnear).mono (by decide)⟩ | exact ⟨wz2, rfl, hnear.mono (by decide)⟩ | exact ⟨(1, 0), rfl, b2_s (by decide) (by decide) (by decide)⟩) (by first | exact ⟨(add (mul k p0 pp) (mul k q0 qq)), rfl, hmade.mono (by decide)⟩ | exact ⟨(_, _), rfl, (add_b hmade hnear).mono (by decide)⟩ | exact ⟨wz2, rfl, hnear.mono (by decide)⟩ | exact ⟨(1, 0), rfl, b2_s (by decide) (by decide) (by decide)⟩) (by first | exact ⟨(add (mul k p0 pp) (mul k q0 qq)), rfl, hmade.mono (by decide)⟩ | exact ⟨(_, _), rfl, (add_b hmade hnear).mono (by decide)⟩ | exact ⟨wz2, rfl, hnear.mono (by decide)⟩ | exact ⟨(1, 0), rfl, b2_s (by decide) (by decide) (by decide)⟩) hd
            refine (as_ifn (t_not (t_val (c_call c__law_solved_right (hr.mono (by decide)) (ca_cons (nm 1 rfl (ca_cons (nm 2 rfl (ca_cons (nm 3 rfl (ca_cons (nm 15 rfl (ca_nil ⟨_, p0, q0, z, rfl, ⟨hk, hp0, hq0, hz⟩, And.intro rfl (as_end rfl ?h49)⟩)))))))))))))
            case h49 =>
              exact ⟨_, _, _, _, _, _, _, _, _, _, _, rfl, rfl⟩
          case h48 =>
            obtain ⟨o4, o6, o7, o8, o9, o10, o11, o12, o13, o14, o15, rfl, rfl⟩ := hw
            refine (as_ret hQ (c_bl (And.intro rfl ?h50)))
            case h50 =>
              exact ⟨_, rfl, hG _ (by assumption)⟩
        case h51 =>
          first | assumption | exact Nat.le_of_ble_eq_true rfl | omega
      case h52 =>
        obtain ⟨o4, o6, o7, o8, o9, o10, o11, o12, o13, o14, o15, rfl, rfl⟩ := hw
        obtain ⟨a, b, rfl, ha, hb⟩ := three_of (C := fun d => ∃ a b : Z2, d = .tup [pD a, pD b] ∧ B2 300 a ∧ B2 300 b) (by first | exact ⟨p0, q0, rfl, hp0.mono (by decide), hq0.mono (by decide)⟩ | exact ⟨q0, p0, rfl, hq0.mono (by decide), hp0.mono (by decide)⟩ | exact ⟨q0, q0, rfl, hq0.mono (by decide), hq0.mono (by decide)⟩ | exact ⟨q0, mul k p0 q0, rfl, hq0.mono (by decide), (mul_b hk hp0 hq0).mono (by decide)⟩) (by first | exact ⟨p0, q0, rfl, hp0.mono (by decide), hq0.mono (by decide)⟩ | exact ⟨q0, p0, rfl, hq0.mono (by decide), hp0.mono (by decide)⟩ | exact ⟨q0, q0, rfl, hq0.mono (by decide), hq0.mono (by decide)⟩ | exact ⟨q0, mul k p0 q0, rfl, hq0.mono (by decide), (mul_b hk hp0 hq0).mono (by decide)⟩) (by first | exact ⟨p0, q0, rfl, hp0.mono (by decide), hq0.mono (by decide)⟩ | exact ⟨q0, p0, rfl, hq0.mono (by decide), hp0.mono (by decide)⟩ | exact ⟨q0, q0, rfl, hq0.mono (by decide), hq0.mono (by decide)⟩ | exact ⟨q0, mul k p0 q0, rfl, hq0.mono (by decide), (mul_b hk hp0 hq0).mono (by decide)⟩) hd
        refine (as_asg (i := 8) ?h54 (c_call c__law_divides (hr.mono (by decide)) (ca_cons (nm 1 rfl (ca_cons (nm 6 rfl (ca_cons (nm 7 rfl (ca_nil ⟨_, a, b, rfl, ⟨hk, ha, hb⟩, And.intro rfl (as_ifn (t_not (t_val (c_call c__law_same (hr.mono (by decide)) (ca_cons (c_ofN (n_disp (ca_cons (c_call c_divides (hr.mono (by decide)) (ca_cons (nm 1 rfl (ca_cons (nm 6 rfl (ca_cons (nm 7 rfl (ca_nil ⟨_, a, b, rfl, ⟨hk, ha, hb⟩, And.intro rfl (ca_cons (c_callK ck_divides (hr.mono (by decide)) (ck_cons (nm 7 rfl (ck_cons (nm 6 rfl (ck_cons (nm 1 rfl (ck_nil (And.intro rfl ⟨_, a, b, rfl, ⟨hk, ha, hb⟩, And.intro rfl (ca_nil (And.intro (And.intro rfl (Nat.le_of_ble_eq_true rfl)) (ca_cons (c_ofN (n_disp (ca_cons (nm 8 rfl (ca_cons (nm 8 rfl (ca_nil (And.intro (And.intro rfl (Nat.le_of_ble_eq_true rfl)) (ca_nil ⟨_, rfl, ?h55, And.intro rfl (as_end rfl ?h56)⟩))))))))))))⟩))))))))))⟩))))))))))))))))⟩)))))))))
        case h54 =>
          exact sc__law_pair_right.nd
        case h55 =>
          exact sh_b2
        case h56 =>
          exact ⟨_, _, _, _, _, _, _, _, _, _, _, rfl, rfl⟩
      case h53 =>
        obtain ⟨o4, o6, o7, o8, o9, o10, o11, o12, o13, o14, o15, rfl, rfl⟩ := hw
        refine (as_ifn (t_not (t_val (c_call c__law_divisor_right (hr.mono (by decide)) (ca_cons (nm 1 rfl (ca_cons (nm 2 rfl (ca_cons (nm 3 rfl (ca_nil ⟨_, p0, q0, rfl, ⟨hk, hp0, hq0⟩, And.intro rfl (as_asg (i := 9) (hx := .inr rfl) ?h57 (c_if (t_gt (nm 5 rfl (c_powW (c_int (c_int (And.intro ?h58 (And.intro (fun b4 => (c_int (as_unpL2 (i := 11) (j := 12) ?h59 rfl (c_ofN (n_lcR (j := 10) rfl ?h60 m_range (blkOk_by (N := ["pot", "kind", "p", "q", "part", "size", "one", "other", "due", "few", "turn", "x", "y", "made", "near", "c"]) (sc := defScope s__law_pair_right) (by decide +kernel)) (fun _ _ _ _ _ => pg_name (i := 10) sc__law_pair_right.nd rfl (Or.inl rfl)) (ca_cons (c_int (ca_nil ⟨?h74, (fun l acc q => ∃ cq, q = [cq] ∧ Dk cq ∧ Ls l acc), ⟨_, rfl, (by assumption), Ls.nil⟩, ⟨fun _ _ _ _ _ l d acc q hl hd hw => ?h61⟩, fun acc q hw ha => ?h62⟩)))))))) (fun b4 => (c_powW (c_int (c_int (And.intro ?h75 (as_unpL2 (i := 11) (j := 12) ?h76 rfl (c_ofN (n_lcR (j := 10) rfl ?h77 m_range (blkOk_by (N := ["pot", "kind", "p", "q", "part", "size", "one", "other", "due", "few", "turn", "x", "y", "made", "near", "c"]) (sc := defScope s__law_pair_right) (by decide +kernel)) (fun _ _ _ _ _ => pg_name (i := 10) sc__law_pair_right.nd rfl (Or.inl rfl)) (ca_cons (c_int (ca_nil ⟨?h91, (fun l acc q => ∃ cq, q = [cq] ∧ Dk cq ∧ Ls l acc), ⟨_, rfl, (by assumption), Ls.nil⟩, ⟨fun _ _ _ _ _ l d acc q hl hd hw => ?h78⟩, fun acc q hw ha => ?h79⟩))))))))))))))))))))⟩)))))))))))
        case h57 =>
          exact sc__law_pair_right.nd
        case h58 =>
          exact cpw (by first | omega | decide) (Bd.of _) (by decide)
        case h59 =>
          exact sc__law_pair_right.nd
        case h60 =>
          exact sc__law_pair_right.nd
        case h61 =>
          obtain ⟨cq, rfl, hdq, hls⟩ := hw
          refine (c_tup (ca_cons (c_sub (c_callD c__law_take (hr.mono (by decide)) (ca_cons (nm 0 rfl (ca_cons (c_add (c_mulS (c_int (nm 9 rfl (And.intro (.inl (And.intro (by decide) (by decide))) (c_int (ca_nil (And.intro rfl ⟨_, rfl, ⟨?h63, ?h64, (by assumption)⟩, fun v5 c5 hv5 hw5 hd5 => And.intro rfl (nm 9 rfl (ca_cons (c_sub (c_callD c__law_take (hr.mono (by decide)) (ca_cons (nm 0 rfl (ca_cons (c_add (c_mulS (c_int (nm 9 rfl (And.intro (.inl (And.intro (by decide) (by decide))) (c_int (ca_nil (And.intro rfl ⟨_, rfl, ⟨?h65, ?h66, (by assumption)⟩, fun v6 c6 hv6 hw6 hd6 => And.intro rfl (nm 9 rfl (ca_nil (And.intro (And.intro rfl (Nat.le_of_ble_eq_true rfl)) (And.intro rfl ⟨_, rfl, (by assumption), hls.next (z := (_, _)) ?h67⟩))))⟩)))))))))))))))⟩)))))))))))))))
          case h63 =>
            first | decide | omega
          case h64 =>
            first | exact Bd.of _ | exact bd_r (by omega) (by omega) (by decide)
          case h65 =>
            first | decide | omega
          case h66 =>
            first | exact Bd.of _ | exact bd_r (by omega) (by omega) (by decide)
          case h67 =>
            exact ⟨(bd37 (by omega)).mono (by decide), (bd37 (by omega)).mono (by decide)⟩
        case h62 =>
          obtain ⟨cq, rfl, hdq, hls⟩ := hw
          obtain ⟨pp, qq, rfl, hpp, hqq⟩ := hls.two
          refine ⟨_, _, rfl, (as_par (i := 13) (j := 14) ?h68 rfl (ca_cons (c_call c__law_sum_of (hr.mono (by decide)) (ca_cons (nm 1 rfl (ca_cons (nm 2 rfl (ca_cons (nm 11 rfl (ca_cons (nm 3 rfl (ca_cons (nm 12 rfl (ca_nil ⟨_, p0, pp, q0, qq, rfl, ⟨hk, hp0.mono (by decide), hpp.mono (by decide), hq0.mono (by decide), hqq.mono (by decide)⟩, And.intro rfl (ca_cons (c_callD c__law_whole (hr.mono (by decide)) (ca_cons (nm 0 rfl (ca_cons (c_int (ca_nil (And.intro rfl ⟨_, rfl, (by assumption), fun wz3 cw3 h173 h373 hdw3 => And.intro rfl (ca_nil ⟨_, _, rfl, (as_forL (i := 15) ?h69 rfl PassesOwn.never (c_ofN (n_disp (ca_cons (nm 13 rfl (ca_cons (c_tup (ca_cons (c_add (c_ixTn (nm 13 rfl (c_int (And.intro (by decide) (c_ixTn (nm 14 rfl (c_int (And.intro (by decide) (ca_cons (c_add (c_ixTn (nm 13 rfl (c_int (And.intro (by decide) (c_ixTn (nm 14 rfl (c_int (And.intro (by decide) (ca_nil (And.intro (And.intro rfl (Nat.le_of_ble_eq_true rfl)) (ca_cons (nm 14 rfl (ca_cons (c_tup (ca_cons (c_int (ca_cons (c_int (ca_nil (And.intro (And.intro rfl (Nat.le_of_ble_eq_true rfl)) (ca_nil (And.intro (And.intro rfl (Nat.le_of_ble_eq_true rfl)) ⟨(fun j es qq => ∃ (o4 o6 o7 o8 o9 o10 o11 o12 o13 o14 o15 : Option Dat), es = [some (.cel 0), some (.int k), some (pD p0), some (pD q0), o4, some (.int size), o6, o7, o8, o9, o10, o11, o12, o13, o14, o15] ∧ qq = [cw3]), (fun _ _ => False), ⟨_, _, _, _, _, _, _, _, _, _, _, rfl, rfl⟩, ⟨fun H11 e11 fr1 j d es q hj hd hw => ?h70, fun es q hw => ?h71, fun _ _ h => h.elim⟩⟩)))))))))))))))))))))))))))))))))))))))))⟩)⟩))))))))⟩))))))))))))))⟩
          case h68 =>
            exact sc__law_pair_right.nd
          case h69 =>
            exact sc__law_pair_right.nd
          case h70 =>
            obtain ⟨o4, o6, o7, o8, o9, o10, o11, o12, o13, o14, o15, rfl, rfl⟩ := hw
            have hnear : B2 200 wz3 := h373.mono (by decide)
            have hmade : B2 200 (add (mul k p0 pp) (mul k q0 qq)) := (add_b (mul_b hk hp0 hpp) (mul_b hk hq0 hqq)).mono (by decide)
            obtain ⟨z, rfl, hz⟩ := four_of (C := fun d => ∃ z : Z2, d = pD z ∧ B2 300 z) (by first | exact ⟨(add (mul k p0 pp) (mul k q0 qq)), rfl, hmade.mono (by decide)⟩ | exact ⟨(_, _), rfl, (add_b hmade hnear).mono (by decide)⟩ | exact ⟨wz3, rfl, hnear.mono (by decide)⟩ | exact ⟨(1, 0), rfl, b2_s (by decide) (by decide) (by decide)⟩) (by first | exact ⟨(add (mul k p0 pp) (mul k q0 qq)), rfl, hmade.mono (by decide)⟩ | exact ⟨(_, _), rfl, (add_b hmade hnear).mono (by decide)⟩ | exact ⟨wz3, rfl, hnear.mono (by decide)⟩ | exact ⟨(1, 0), rfl, b2_s (by decide) (by decide) (by decide)⟩) (by first | exact ⟨(add (mul k p0 pp) (mul k q0 qq)), rfl, hmade.mono (by decide)⟩ | exact ⟨(_, _), rfl, (add_b hmade hnear).mono (by decide)⟩ | exact ⟨wz3, rfl, hnear.mono (by decide)⟩ | exact ⟨(1, 0), rfl, b2_s (by decide) (by decide) (by decide)⟩) (by first | exact ⟨(add (mul k p0 pp) (mul k q0 qq)), rfl, hmade.mono (by decide)⟩ | exact ⟨(_, _), rfl, (add_b hmade hnear).mono (by decide)⟩ | exact ⟨wz3, rfl, hnear.mono (by decide)⟩ | exact ⟨(1, 0), rfl, b2_s (by decide) (by decide) (by decide)⟩) hd
            refine (as_ifn (t_not (t_val (c_call c__law_solved_right (hr.mono (by decide)) (ca_cons (nm 1 rfl (ca_cons (nm 2 rfl (ca_cons (nm 3 rfl (ca_cons (nm 15 rfl (ca_nil ⟨_, p0, q0, z, rfl, ⟨hk, hp0, hq0, hz⟩, And.intro rfl (as_end rfl ?h72)⟩)))))))))))))
            case h72 =>
              exact ⟨_, _, _, _, _, _, _, _, _, _, _, rfl, rfl⟩
          case h71 =>
            obtain ⟨o4, o6, o7, o8, o9, o10, o11, o12, o13, o14, o15, rfl, rfl⟩ := hw
            refine (as_ret hQ (c_bl (And.intro rfl ?h73)))
            case h73 =>
              exact ⟨_, rfl, hG _ (by assumption)⟩
        case h74 =>
          first | assumption | exact Nat.le_of_ble_eq_true rfl | omega
        case h75 =>
          exact cpw (by first | omega | decide) (Bd.of _) (by decide)
        case h76 =>
          exact sc__law_pair_right.nd
        case h77 =>
          exact sc__law_pair_right.nd
        case h78 =>
          obtain ⟨cq, rfl, hdq, hls⟩ := hw
          refine (c_tup (ca_cons (c_sub (c_callD c__law_take (hr.mono (by decide)) (ca_cons (nm 0 rfl (ca_cons (c_add (c_mulS (c_int (nm 9 rfl (And.intro (.inl (And.intro (by decide) (by decide))) (c_int (ca_nil (And.intro rfl ⟨_, rfl, ⟨?h80, ?h81, (by assumption)⟩, fun v7 c7 hv7 hw7 hd7 => And.intro rfl (nm 9 rfl (ca_cons (c_sub (c_callD c__law_take (hr.mono (by decide)) (ca_cons (nm 0 rfl (ca_cons (c_add (c_mulS (c_int (nm 9 rfl (And.intro (.inl (And.intro (by decide) (by decide))) (c_int (ca_nil (And.intro rfl ⟨_, rfl, ⟨?h82, ?h83, (by assumption)⟩, fun v8 c8 hv8 hw8 hd8 => And.intro rfl (nm 9 rfl (ca_nil (And.intro (And.intro rfl (Nat.le_of_ble_eq_true rfl)) (And.intro rfl ⟨_, rfl, (by assumption), hls.next (z := (_, _)) ?h84⟩))))⟩)))))))))))))))⟩)))))))))))))))
          case h80 =>
            first | decide | omega
          case h81 =>
            first | exact Bd.of _ | exact bd_r (by omega) (by omega) (by decide)
          case h82 =>
            first | decide | omega
          case h83 =>
            first | exact Bd.of _ | exact bd_r (by omega) (by omega) (by decide)
          case h84 =>
            exact ⟨(bd37 (by omega)).mono (by decide), (bd37 (by omega)).mono (by decide)⟩
        case h79 =>
          obtain ⟨cq, rfl, hdq, hls⟩ := hw
          obtain ⟨pp, qq, rfl, hpp, hqq⟩ := hls.two
          refine ⟨_, _, rfl, (as_par (i := 13) (j := 14) ?h85 rfl (ca_cons (c_call c__law_sum_of (hr.mono (by decide)) (ca_cons (nm 1 rfl (ca_cons (nm 2 rfl (ca_cons (nm 11 rfl (ca_cons (nm 3 rfl (ca_cons (nm 12 rfl (ca_nil ⟨_, p0, pp, q0, qq, rfl, ⟨hk, hp0.mono (by decide), hpp.mono (by decide), hq0.mono (by decide), hqq.mono (by decide)⟩, And.intro rfl (ca_cons (c_callD c__law_whole (hr.mono (by decide)) (ca_cons (nm 0 rfl (ca_cons (c_int (ca_nil (And.intro rfl ⟨_, rfl, (by assumption), fun wz4 cw4 h174 h374 hdw4 => And.intro rfl (ca_nil ⟨_, _, rfl, (as_forL (i := 15) ?h86 rfl PassesOwn.never (c_ofN (n_disp (ca_cons (nm 13 rfl (ca_cons (c_tup (ca_cons (c_add (c_ixTn (nm 13 rfl (c_int (And.intro (by decide) (c_ixTn (nm 14 rfl (c_int (And.intro (by decide) (ca_cons (c_add (c_ixTn (nm 13 rfl (c_int (And.intro (by decide) (c_ixTn (nm 14 rfl (c_int (And.intro (by decide) (ca_nil (And.intro (And.intro rfl (Nat.le_of_ble_eq_true rfl)) (ca_cons (nm 14 rfl (ca_cons (c_tup (ca_cons (c_int (ca_cons (c_int (ca_nil (And.intro (And.intro rfl (Nat.le_of_ble_eq_true rfl)) (ca_nil (And.intro (And.intro rfl (Nat.le_of_ble_eq_true rfl)) ⟨(fun j es qq => ∃ (o4 o6 o7 o8 o9 o10 o11 o12 o13 o14 o15 : Option Dat), es = [some (.cel 0), some (.int k), some (pD p0), some (pD q0), o4, some (.int size), o6, o7, o8, o9, o10, o11, o12, o13, o14, o15] ∧ qq = [cw4]), (fun _ _ => False), ⟨_, _, _, _, _, _, _, _, _, _, _, rfl, rfl⟩, ⟨fun H11 e11 fr1 j d es q hj hd hw => ?h87, fun es q hw => ?h88, fun _ _ h => h.elim⟩⟩)))))))))))))))))))))))))))))))))))))))))⟩)⟩))))))))⟩))))))))))))))⟩
          case h85 =>
            exact sc__law_pair_right.nd
          case h86 =>
            exact sc__law_pair_right.nd
          case h87 =>
            obtain ⟨o4, o6, o7, o8, o9, o10, o11, o12, o13, o14, o15, rfl, rfl⟩ := hw
            have hnear : B2 200 wz4 := h374.mono (by decide)
            have hmade : B2 200 (add (mul k p0 pp) (mul k q0 qq)) := (add_b (mul_b hk hp0 hpp) (mul_b hk hq0 hqq)).mono (by decide)
            obtain ⟨z, rfl, hz⟩ := four_of (C := fun d => ∃ z : Z2, d = pD z ∧ B2 300 z) (by first | exact ⟨(add (mul k p0 pp) (mul k q0 qq)), rfl, hmade.mono (by decide)⟩ | exact ⟨(_, _), rfl, (add_b hmade hnear).mono (by decide)⟩ | exact ⟨wz4, rfl, hnear.mono (by decide)⟩ | exact ⟨(1, 0), rfl, b2_s (by decide) (by decide) (by decide)⟩) (by first | exact ⟨(add (mul k p0 pp) (mul k q0 qq)), rfl, hmade.mono (by decide)⟩ | exact ⟨(_, _), rfl, (add_b hmade hnear).mono (by decide)⟩ | exact ⟨wz4, rfl, hnear.mono (by decide)⟩ | exact ⟨(1, 0), rfl, b2_s (by decide) (by decide) (by decide)⟩) (by first | exact ⟨(add (mul k p0 pp) (mul k q0 qq)), rfl, hmade.mono (by decide)⟩ | exact ⟨(_, _), rfl, (add_b hmade hnear).mono (by decide)⟩ | exact ⟨wz4, rfl, hnear.mono (by decide)⟩ | exact ⟨(1, 0), rfl, b2_s (by decide) (by decide) (by decide)⟩) (by first | exact ⟨(add (mul k p0 pp) (mul k q0 qq)), rfl, hmade.mono (by decide)⟩ | exact ⟨(_, _), rfl, (add_b hmade hnear).mono (by decide)⟩ | exact ⟨wz4, rfl, hnear.mono (by decide)⟩ | exact ⟨(1, 0), rfl, b2_s (by decide) (by decide) (by decide)⟩) hd
            refine (as_ifn (t_not (t_val (c_call c__law_solved_right (hr.mono (by decide)) (ca_cons (nm 1 rfl (ca_cons (nm 2 rfl (ca_cons (nm 3 rfl (ca_cons (nm 15 rfl (ca_nil ⟨_, p0, q0, z, rfl, ⟨hk, hp0, hq0, hz⟩, And.intro rfl (as_end rfl ?h89)⟩)))))))))))))
            case h89 =>
              exact ⟨_, _, _, _, _, _, _, _, _, _, _, rfl, rfl⟩
          case h88 =>
            obtain ⟨o4, o6, o7, o8, o9, o10, o11, o12, o13, o14, o15, rfl, rfl⟩ := hw
            refine (as_ret hQ (c_bl (And.intro rfl ?h90)))
            case h90 =>
              exact ⟨_, rfl, hG _ (by assumption)⟩
        case h91 =>
          first | assumption | exact Nat.le_of_ble_eq_true rfl | omega
    case h92 =>
      first | assumption | exact Nat.le_of_ble_eq_true rfl | omega
    case h93 =>
      exact sc__law_pair_right.nd
    case h94 =>
      exact sc__law_pair_right.nd
    case h95 =>
      obtain ⟨rfl, hin⟩ := hw
      obtain ⟨i, rfl⟩ := four_of (C := fun d => ∃ i, d = .int i) ⟨_, rfl⟩ ⟨_, rfl⟩ ⟨_, rfl⟩ ⟨_, rfl⟩ hd
      refine (c_abs m_abs (ca_cons (nm 4 rfl (ca_nil (And.intro rfl ⟨rfl, hin.next⟩)))))
    case h96 =>
      obtain ⟨rfl, ns, rfl, hnl⟩ := hw
      refine (ca_nil ⟨ns, rfl, ?h97, fun size hsz hsm => (as_forL2 (i := 6) (i2 := 7) ?h98 rfl PassesOwn.never (c_ofN (n_disp (ca_cons (c_tup (ca_cons (nm 2 rfl (ca_cons (nm 3 rfl (ca_nil (And.intro (And.intro rfl (Nat.le_of_ble_eq_true rfl)) (ca_cons (c_tup (ca_cons (nm 3 rfl (ca_cons (nm 2 rfl (ca_nil (And.intro (And.intro rfl (Nat.le_of_ble_eq_true rfl)) (ca_cons (c_tup (ca_cons (nm 3 rfl (ca_cons (c_if (t_gt (nm 5 rfl (c_powW (c_int (c_int (And.intro ?h99 (And.intro (fun b5 => (nm 3 rfl (ca_nil (And.intro (And.intro rfl (Nat.le_of_ble_eq_true rfl)) (ca_nil (And.intro (And.intro rfl (Nat.le_of_ble_eq_true rfl)) ⟨(fun j es qq => ∃ (o4 o6 o7 o8 o9 o10 o11 o12 o13 o14 o15 : Option Dat), es = [some (.cel 0), some (.int k), some (pD p0), some (pD q0), o4, some (.int size), o6, o7, o8, o9, o10, o11, o12, o13, o14, o15] ∧ qq = [cs]), (fun _ _ => False), fsD, snD, ⟨_, _, _, _, _, _, _, _, _, _, _, rfl, rfl⟩, (fun z hz => two_ok hz), ⟨fun H10 e10 fr0 j d es q hj hd hw => ?h100, fun es q hw => ?h101, fun _ _ h => h.elim⟩⟩)))))) (fun b5 => (c_call c__law_whole_times (hr.mono (by decide)) (ca_cons (nm 1 rfl (ca_cons (nm 2 rfl (ca_cons (nm 3 rfl (ca_nil ⟨_, p0, q0, rfl, ⟨hk, hp0.mono (by decide), hq0.mono (by decide)⟩, And.intro rfl (ca_nil (And.intro (And.intro rfl (Nat.le_of_ble_eq_true rfl)) (ca_nil (And.intro (And.intro rfl (Nat.le_of_ble_eq_true rfl)) ⟨(fun j es qq => ∃ (o4 o6 o7 o8 o9 o10 o11 o12 o13 o14 o15 : Option Dat), es = [some (.cel 0), some (.int k), some (pD p0), some (pD q0), o4, some (.int size), o6, o7, o8, o9, o10, o11, o12, o13, o14, o15] ∧ qq = [cs]), (fun _ _ => False), fsD, snD, ⟨_, _, _, _, _, _, _, _, _, _, _, rfl, rfl⟩, (fun z hz => two_ok hz), ⟨fun H10 e10 fr0 j d es q hj hd hw => ?h140, fun es q hw => ?h141, fun _ _ h => h.elim⟩⟩))))⟩)))))))))))))))))))))))))))))))))))))))))⟩)
      case h97 =>
        rw [hnl]
        exact Nat.succ_pos _
      case h98 =>
        exact sc__law_pair_right.nd
      case h99 =>
        exact cpw (by first | omega | decide) (Bd.of _) (by decide)
      case h100 =>
        obtain ⟨o4, o6, o7, o8, o9, o10, o11, o12, o13, o14, o15, rfl, rfl⟩ := hw
        obtain ⟨a, b, rfl, ha, hb⟩ := three_of (C := fun d => ∃ a b : Z2, d = .tup [pD a, pD b] ∧ B2 300 a ∧ B2 300 b) (by first | exact ⟨p0, q0, rfl, hp0.mono (by decide), hq0.mono (by decide)⟩ | exact ⟨q0, p0, rfl, hq0.mono (by decide), hp0.mono (by decide)⟩ | exact ⟨q0, q0, rfl, hq0.mono (by decide), hq0.mono (by decide)⟩ | exact ⟨q0, mul k p0 q0, rfl, hq0.mono (by decide), (mul_b hk hp0 hq0).mono (by decide)⟩) (by first | exact ⟨p0, q0, rfl, hp0.mono (by decide), hq0.mono (by decide)⟩ | exact ⟨q0, p0, rfl, hq0.mono (by decide), hp0.mono (by decide)⟩ | exact ⟨q0, q0, rfl, hq0.mono (by decide), hq0.mono (by decide)⟩ | exact ⟨q0, mul k p0 q0, rfl, hq0.mono (by decide), (mul_b hk hp0 hq0).mono (by decide)⟩) (by first | exact ⟨p0, q0, rfl, hp0.mono (by decide), hq0.mono (by decide)⟩ | exact ⟨q0, p0, rfl, hq0.mono (by decide), hp0.mono (by decide)⟩ | exact ⟨q0, q0, rfl, hq0.mono (by decide), hq0.mono (by decide)⟩ | exact ⟨q0, mul k p0 q0, rfl, hq0.mono (by decide), (mul_b hk hp0 hq0).mono (by decide)⟩) hd
        refine (as_asg (i := 8) ?h102 (c_call c__law_divides (hr.mono (by decide)) (ca_cons (nm 1 rfl (ca_cons (nm 6 rfl (ca_cons (nm 7 rfl (ca_nil ⟨_, a, b, rfl, ⟨hk, ha, hb⟩, And.intro rfl (as_ifn (t_not (t_val (c_call c__law_same (hr.mono (by decide)) (ca_cons (c_ofN (n_disp (ca_cons (c_call c_divides (hr.mono (by decide)) (ca_cons (nm 1 rfl (ca_cons (nm 6 rfl (ca_cons (nm 7 rfl (ca_nil ⟨_, a, b, rfl, ⟨hk, ha, hb⟩, And.intro rfl (ca_cons (c_callK ck_divides (hr.mono (by decide)) (ck_cons (nm 7 rfl (ck_cons (nm 6 rfl (ck_cons (nm 1 rfl (ck_nil (And.intro rfl ⟨_, a, b, rfl, ⟨hk, ha, hb⟩, And.intro rfl (ca_nil (And.intro (And.intro rfl (Nat.le_of_ble_eq_true rfl)) (ca_cons (c_ofN (n_disp (ca_cons (nm 8 rfl (ca_cons (nm 8 rfl (ca_nil (And.intro (And.intro rfl (Nat.le_of_ble_eq_true rfl)) (ca_nil ⟨_, rfl, ?h103, And.intro rfl (as_end rfl ?h104)⟩))))))))))))⟩))))))))))⟩))))))))))))))))⟩)))))))))
        case h102 =>
          exact sc__law_pair_right.nd
        case h103 =>
          exact sh_b2
        case h104 =>
          exact ⟨_, _, _, _, _, _, _, _, _, _, _, rfl, rfl⟩
      case h101 =>
        obtain ⟨o4, o6, o7, o8, o9, o10, o11, o12, o13, o14, o15, rfl, rfl⟩ := hw
        refine (as_ifn (t_not (t_val (c_call c__law_divisor_right (hr.mono (by decide)) (ca_cons (nm 1 rfl (ca_cons (nm 2 rfl (ca_cons (nm 3 rfl (ca_nil ⟨_, p0, q0, rfl, ⟨hk, hp0, hq0⟩, And.intro rfl (as_asg (i := 9) (hx := .inr rfl) ?h105 (c_if (t_gt (nm 5 rfl (c_powW (c_int (c_int (And.intro ?h106 (And.intro (fun b6 => (c_int (as_unpL2 (i := 11) (j := 12) ?h107 rfl (c_ofN (n_lcR (j := 10) rfl ?h108 m_range (blkOk_by (N := ["pot", "kind", "p", "q", "part", "size", "one", "other", "due", "few", "turn", "x", "y", "made", "near", "c"]) (sc := defScope s__law_pair_right) (by decide +kernel)) (fun _ _ _ _ _ => pg_name (i := 10) sc__law_pair_right.nd rfl (Or.inl rfl)) (ca_cons (c_int (ca_nil ⟨?h122, (fun l acc q => ∃ cq, q = [cq] ∧ Dk cq ∧ Ls l acc), ⟨_, rfl, (by assumption), Ls.nil⟩, ⟨fun _ _ _ _ _ l d acc q hl hd hw => ?h109⟩, fun acc q hw ha => ?h110⟩)))))))) (fun b6 => (c_powW (c_int (c_int (And.intro ?h123 (as_unpL2 (i := 11) (j := 12) ?h124 rfl (c_ofN (n_lcR (j := 10) rfl ?h125 m_range (blkOk_by (N := ["pot", "kind", "p", "q", "part", "size", "one", "other", "due", "few", "turn", "x", "y", "made", "near", "c"]) (sc := defScope s__law_pair_right) (by decide +kernel)) (fun _ _ _ _ _ => pg_name (i := 10) sc__law_pair_right.nd rfl (Or.inl rfl)) (ca_cons (c_int (ca_nil ⟨?h139, (fun l acc q => ∃ cq, q = [cq] ∧ Dk cq ∧ Ls l acc), ⟨_, rfl, (by assumption), Ls.nil⟩, ⟨fun _ _ _ _ _ l d acc q hl hd hw => ?h126⟩, fun acc q hw ha => ?h127⟩))))))))))))))))))))⟩)))))))))))
        case h105 =>
          exact sc__law_pair_right.nd
        case h106 =>
          exact cpw (by first | omega | decide) (Bd.of _) (by decide)
        case h107 =>
          exact sc__law_pair_right.nd
        case h108 =>
          exact sc__law_pair_right.nd
        case h109 =>
          obtain ⟨cq, rfl, hdq, hls⟩ := hw
          refine (c_tup (ca_cons (c_sub (c_callD c__law_take (hr.mono (by decide)) (ca_cons (nm 0 rfl (ca_cons (c_add (c_mulS (c_int (nm 9 rfl (And.intro (.inl (And.intro (by decide) (by decide))) (c_int (ca_nil (And.intro rfl ⟨_, rfl, ⟨?h111, ?h112, (by assumption)⟩, fun v9 c9 hv9 hw9 hd9 => And.intro rfl (nm 9 rfl (ca_cons (c_sub (c_callD c__law_take (hr.mono (by decide)) (ca_cons (nm 0 rfl (ca_cons (c_add (c_mulS (c_int (nm 9 rfl (And.intro (.inl (And.intro (by decide) (by decide))) (c_int (ca_nil (And.intro rfl ⟨_, rfl, ⟨?h113, ?h114, (by assumption)⟩, fun v10 c10 hv10 hw10 hd10 => And.intro rfl (nm 9 rfl (ca_nil (And.intro (And.intro rfl (Nat.le_of_ble_eq_true rfl)) (And.intro rfl ⟨_, rfl, (by assumption), hls.next (z := (_, _)) ?h115⟩))))⟩)))))))))))))))⟩)))))))))))))))
          case h111 =>
            first | decide | omega
          case h112 =>
            first | exact Bd.of _ | exact bd_r (by omega) (by omega) (by decide)
          case h113 =>
            first | decide | omega
          case h114 =>
            first | exact Bd.of _ | exact bd_r (by omega) (by omega) (by decide)
          case h115 =>
            exact ⟨(bd37 (by omega)).mono (by decide), (bd37 (by omega)).mono (by decide)⟩
        case h110 =>
          obtain ⟨cq, rfl, hdq, hls⟩ := hw
          obtain ⟨pp, qq, rfl, hpp, hqq⟩ := hls.two
          refine ⟨_, _, rfl, (as_par (i := 13) (j := 14) ?h116 rfl (ca_cons (c_call c__law_sum_of (hr.mono (by decide)) (ca_cons (nm 1 rfl (ca_cons (nm 2 rfl (ca_cons (nm 11 rfl (ca_cons (nm 3 rfl (ca_cons (nm 12 rfl (ca_nil ⟨_, p0, pp, q0, qq, rfl, ⟨hk, hp0.mono (by decide), hpp.mono (by decide), hq0.mono (by decide), hqq.mono (by decide)⟩, And.intro rfl (ca_cons (c_callD c__law_whole (hr.mono (by decide)) (ca_cons (nm 0 rfl (ca_cons (c_int (ca_nil (And.intro rfl ⟨_, rfl, (by assumption), fun wz5 cw5 h175 h375 hdw5 => And.intro rfl (ca_nil ⟨_, _, rfl, (as_forL (i := 15) ?h117 rfl PassesOwn.never (c_ofN (n_disp (ca_cons (nm 13 rfl (ca_cons (c_tup (ca_cons (c_add (c_ixTn (nm 13 rfl (c_int (And.intro (by decide) (c_ixTn (nm 14 rfl (c_int (And.intro (by decide) (ca_cons (c_add (c_ixTn (nm 13 rfl (c_int (And.intro (by decide) (c_ixTn (nm 14 rfl (c_int (And.intro (by decide) (ca_nil (And.intro (And.intro rfl (Nat.le_of_ble_eq_true rfl)) (ca_cons (nm 14 rfl (ca_cons (c_tup (ca_cons (c_int (ca_cons (c_int (ca_nil (And.intro (And.intro rfl (Nat.le_of_ble_eq_true rfl)) (ca_nil (And.intro (And.intro rfl (Nat.le_of_ble_eq_true rfl)) ⟨(fun j es qq => ∃ (o4 o6 o7 o8 o9 o10 o11 o12 o13 o14 o15 : Option Dat), es = [some (.cel 0), some (.int k), some (pD p0), some (pD q0), o4, some (.int size), o6, o7, o8, o9, o10, o11, o12, o13, o14, o15] ∧ qq = [cw5]), (fun _ _ => False), ⟨_, _, _, _, _, _, _, _, _, _, _, rfl, rfl⟩, ⟨fun H11 e11 fr1 j d es q hj hd hw => ?h118, fun es q hw => ?h119, fun _ _ h => h.elim⟩⟩)))))))))))))))))))))))))))))))))))))))))⟩)⟩))))))))⟩))))))))))))))⟩
          case h116 =>
            exact sc__law_pair_right.nd
          case h117 =>
            exact sc__law_pair_right.nd
          case h118 =>
            obtain ⟨o4, o6, o7, o8, o9, o10, o11, o12, o13, o14, o15, rfl, rfl⟩ := hw
            have hnear : B2 200 wz5 := h375.mono (by decide)
            have hmade : B2 200 (add (mul k p0 pp) (mul k q0 qq)) := (add_b (mul_b hk hp0 hpp) (mul_b hk hq0 hqq)).mono (by decide)
            obtain ⟨z, rfl, hz⟩ := four_of (C := fun d => ∃ z : Z2, d = pD z ∧ B2 300 z) (by first | exact ⟨(add (mul k p0 pp) (mul k q0 qq)), rfl, hmade.mono (by decide)⟩ | exact ⟨(_, _), rfl, (add_b hmade hnear).mono (by decide)⟩ | exact ⟨wz5, rfl, hnear.mono (by decide)⟩ | exact ⟨(1, 0), rfl, b2_s (by decide) (by decide) (by decide)⟩) (by first | exact ⟨(add (mul k p0 pp) (mul k q0 qq)), rfl, hmade.mono (by decide)⟩ | exact ⟨(_, _), rfl, (add_b hmade hnear).mono (by decide)⟩ | exact ⟨wz5, rfl, hnear.mono (by decide)⟩ | exact ⟨(1, 0), rfl, b2_s (by decide) (by decide) (by decide)⟩) (by first | exact ⟨(add (mul k p0 pp) (mul k q0 qq)), rfl, hmade.mono (by decide)⟩ | exact ⟨(_, _), rfl, (add_b hmade hnear).mono (by decide)⟩ | exact ⟨wz5, rfl, hnear.mono (by decide)⟩ | exact ⟨(1, 0), rfl, b2_s (by decide) (by decide) (by decide)⟩) (by first | exact ⟨(add (mul k p0 pp) (mul k q0 qq)), rfl, hmade.mono (by decide)⟩ | exact ⟨(_, _), rfl, (add_b hmade hnear).mono (by decide)⟩ | exact ⟨wz5, rfl, hnear.mono (by decide)⟩ | exact ⟨(1, 0), rfl, b2_s (by decide) (by decide) (by decide)⟩) hd
            refine (as_ifn (t_not (t_val (c_call c__law_solved_right (hr.mono (by decide)) (ca_cons (nm 1 rfl (ca_cons (nm 2 rfl (ca_cons (nm 3 rfl (ca_cons (nm 15 rfl (ca_nil ⟨_, p0, q0, z, rfl, ⟨hk, hp0, hq0, hz⟩, And.intro rfl (as_end rfl ?h120)⟩)))))))))))))
            case h120 =>
              exact ⟨_, _, _, _, _, _, _, _, _, _, _, rfl, rfl⟩
          case h119 =>
            obtain ⟨o4, o6, o7, o8, o9, o10, o11, o12, o13, o14, o15, rfl, rfl⟩ := hw
            refine (as_ret hQ (c_bl (And.intro rfl ?h121)))
            case h121 =>
              exact ⟨_, rfl, hG _ (by assumption)⟩
        case h122 =>
          first | assumption | exact Nat.le_of_ble_eq_true rfl | omega
        case h123 =>
          exact cpw (by first | omega | decide) (Bd.of _) (by decide)
        case h124 =>
          exact sc__law_pair_right.nd
        case h125 =>
          exact sc__law_pair_right.nd
        case h126 =>
          obtain ⟨cq, rfl, hdq, hls⟩ := hw
          refine (c_tup (ca_cons (c_sub (c_callD c__law_take (hr.mono (by decide)) (ca_cons (nm 0 rfl (ca_cons (c_add (c_mulS (c_int (nm 9 rfl (And.intro (.inl (And.intro (by decide) (by decide))) (c_int (ca_nil (And.intro rfl ⟨_, rfl, ⟨?h128, ?h129, (by assumption)⟩, fun v11 c11 hv11 hw11 hd11 => And.intro rfl (nm 9 rfl (ca_cons (c_sub (c_callD c__law_take (hr.mono (by decide)) (ca_cons (nm 0 rfl (ca_cons (c_add (c_mulS (c_int (nm 9 rfl (And.intro (.inl (And.intro (by decide) (by decide))) (c_int (ca_nil (And.intro rfl ⟨_, rfl, ⟨?h130, ?h131, (by assumption)⟩, fun v12 c12 hv12 hw12 hd12 => And.intro rfl (nm 9 rfl (ca_nil (And.intro (And.intro rfl (Nat.le_of_ble_eq_true rfl)) (And.intro rfl ⟨_, rfl, (by assumption), hls.next (z := (_, _)) ?h132⟩))))⟩)))))))))))))))⟩)))))))))))))))
          case h128 =>
            first | decide | omega
          case h129 =>
            first | exact Bd.of _ | exact bd_r (by omega) (by omega) (by decide)
          case h130 =>
            first | decide | omega
          case h131 =>
            first | exact Bd.of _ | exact bd_r (by omega) (by omega) (by decide)
          case h132 =>
            exact ⟨(bd37 (by omega)).mono (by decide), (bd37 (by omega)).mono (by decide)⟩
        case h127 =>
          obtain ⟨cq, rfl, hdq, hls⟩ := hw
          obtain ⟨pp, qq, rfl, hpp, hqq⟩ := hls.two
          refine ⟨_, _, rfl, (as_par (i := 13) (j := 14) ?h133 rfl (ca_cons (c_call c__law_sum_of (hr.mono (by decide)) (ca_cons (nm 1 rfl (ca_cons (nm 2 rfl (ca_cons (nm 11 rfl (ca_cons (nm 3 rfl (ca_cons (nm 12 rfl (ca_nil ⟨_, p0, pp, q0, qq, rfl, ⟨hk, hp0.mono (by decide), hpp.mono (by decide), hq0.mono (by decide), hqq.mono (by decide)⟩, And.intro rfl (ca_cons (c_callD c__law_whole (hr.mono (by decide)) (ca_cons (nm 0 rfl (ca_cons (c_int (ca_nil (And.intro rfl ⟨_, rfl, (by assumption), fun wz6 cw6 h176 h376 hdw6 => And.intro rfl (ca_nil ⟨_, _, rfl, (as_forL (i := 15) ?h134 rfl PassesOwn.never (c_ofN (n_disp (ca_cons (nm 13 rfl (ca_cons (c_tup (ca_cons (c_add (c_ixTn (nm 13 rfl (c_int (And.intro (by decide) (c_ixTn (nm 14 rfl (c_int (And.intro (by decide) (ca_cons (c_add (c_ixTn (nm 13 rfl (c_int (And.intro (by decide) (c_ixTn (nm 14 rfl (c_int (And.intro (by decide) (ca_nil (And.intro (And.intro rfl (Nat.le_of_ble_eq_true rfl)) (ca_cons (nm 14 rfl (ca_cons (c_tup (ca_cons (c_int (ca_cons (c_int (ca_nil (And.intro (And.intro rfl (Nat.le_of_ble_eq_true rfl)) (ca_nil (And.intro (And.intro rfl (Nat.le_of_ble_eq_true rfl)) ⟨(fun j es qq => ∃ (o4 o6 o7 o8 o9 o10 o11 o12 o13 o14 o15 : Option Dat), es = [some (.cel 0), some (.int k), some (pD p0), some (pD q0), o4, some (.int size), o6, o7, o8, o9, o10, o11, o12, o13, o14, o15] ∧ qq = [cw6]), (fun _ _ => False), ⟨_, _, _, _, _, _, _, _, _, _, _, rfl, rfl⟩, ⟨fun H11 e11 fr1 j d es q hj hd hw => ?h135, fun es q hw => ?h136, fun _ _ h => h.elim⟩⟩)))))))))))))))))))))))))))))))))))))))))⟩)⟩))))))))⟩))))))))))))))⟩
          case h133 =>
            exact sc__law_pair_right.nd
          case h134 =>
            exact sc__law_pair_right.nd
          case h135 =>
            obtain ⟨o4, o6, o7, o8, o9, o10, o11, o12, o13, o14, o15, rfl, rfl⟩ := hw
            have hnear : B2 200 wz6 := h376.mono (by decide)
            have hmade : B2 200 (add (mul k p0 pp) (mul k q0 qq)) := (add_b (mul_b hk hp0 hpp) (mul_b hk hq0 hqq)).mono (by decide)
            obtain ⟨z, rfl, hz⟩ := four_of (C := fun d => ∃ z : Z2, d = pD z ∧ B2 300 z) (by first | exact ⟨(add (mul k p0 pp) (mul k q0 qq)), rfl, hmade.mono (by decide)⟩ | exact ⟨(_, _), rfl, (add_b hmade hnear).mono (by decide)⟩ | exact ⟨wz6, rfl, hnear.mono (by decide)⟩ | exact ⟨(1, 0), rfl, b2_s (by decide) (by decide) (by decide)⟩) (by first | exact ⟨(add (mul k p0 pp) (mul k q0 qq)), rfl, hmade.mono (by decide)⟩ | exact ⟨(_, _), rfl, (add_b hmade hnear).mono (by decide)⟩ | exact ⟨wz6, rfl, hnear.mono (by decide)⟩ | exact ⟨(1, 0), rfl, b2_s (by decide) (by decide) (by decide)⟩) (by first | exact ⟨(add (mul k p0 pp) (mul k q0 qq)), rfl, hmade.mono (by decide)⟩ | exact ⟨(_, _), rfl, (add_b hmade hnear).mono (by decide)⟩ | exact ⟨wz6, rfl, hnear.mono (by decide)⟩ | exact ⟨(1, 0), rfl, b2_s (by decide) (by decide) (by decide)⟩) (by first | exact ⟨(add (mul k p0 pp) (mul k q0 qq)), rfl, hmade.mono (by decide)⟩ | exact ⟨(_, _), rfl, (add_b hmade hnear).mono (by decide)⟩ | exact ⟨wz6, rfl, hnear.mono (by decide)⟩ | exact ⟨(1, 0), rfl, b2_s (by decide) (by decide) (by decide)⟩) hd
            refine (as_ifn (t_not (t_val (c_call c__law_solved_right (hr.mono (by decide)) (ca_cons (nm 1 rfl (ca_cons (nm 2 rfl (ca_cons (nm 3 rfl (ca_cons (nm 15 rfl (ca_nil ⟨_, p0, q0, z, rfl, ⟨hk, hp0, hq0, hz⟩, And.intro rfl (as_end rfl ?h137)⟩)))))))))))))
            case h137 =>
              exact ⟨_, _, _, _, _, _, _, _, _, _, _, rfl, rfl⟩
          case h136 =>
            obtain ⟨o4, o6, o7, o8, o9, o10, o11, o12, o13, o14, o15, rfl, rfl⟩ := hw
            refine (as_ret hQ (c_bl (And.intro rfl ?h138)))
            case h138 =>
              exact ⟨_, rfl, hG _ (by assumption)⟩
        case h139 =>
          first | assumption | exact Nat.le_of_ble_eq_true rfl | omega
      case h140 =>
        obtain ⟨o4, o6, o7, o8, o9, o10, o11, o12, o13, o14, o15, rfl, rfl⟩ := hw
        obtain ⟨a, b, rfl, ha, hb⟩ := three_of (C := fun d => ∃ a b : Z2, d = .tup [pD a, pD b] ∧ B2 300 a ∧ B2 300 b) (by first | exact ⟨p0, q0, rfl, hp0.mono (by decide), hq0.mono (by decide)⟩ | exact ⟨q0, p0, rfl, hq0.mono (by decide), hp0.mono (by decide)⟩ | exact ⟨q0, q0, rfl, hq0.mono (by decide), hq0.mono (by decide)⟩ | exact ⟨q0, mul k p0 q0, rfl, hq0.mono (by decide), (mul_b hk hp0 hq0).mono (by decide)⟩) (by first | exact ⟨p0, q0, rfl, hp0.mono (by decide), hq0.mono (by decide)⟩ | exact ⟨q0, p0, rfl, hq0.mono (by decide), hp0.mono (by decide)⟩ | exact ⟨q0, q0, rfl, hq0.mono (by decide), hq0.mono (by decide)⟩ | exact ⟨q0, mul k p0 q0, rfl, hq0.mono (by decide), (mul_b hk hp0 hq0).mono (by decide)⟩) (by first | exact ⟨p0, q0, rfl, hp0.mono (by decide), hq0.mono (by decide)⟩ | exact ⟨q0, p0, rfl, hq0.mono (by decide), hp0.mono (by decide)⟩ | exact ⟨q0, q0, rfl, hq0.mono (by decide), hq0.mono (by decide)⟩ | exact ⟨q0, mul k p0 q0, rfl, hq0.mono (by decide), (mul_b hk hp0 hq0).mono (by decide)⟩) hd
        refine (as_asg (i := 8) ?h142 (c_call c__law_divides (hr.mono (by decide)) (ca_cons (nm 1 rfl (ca_cons (nm 6 rfl (ca_cons (nm 7 rfl (ca_nil ⟨_, a, b, rfl, ⟨hk, ha, hb⟩, And.intro rfl (as_ifn (t_not (t_val (c_call c__law_same (hr.mono (by decide)) (ca_cons (c_ofN (n_disp (ca_cons (c_call c_divides (hr.mono (by decide)) (ca_cons (nm 1 rfl (ca_cons (nm 6 rfl (ca_cons (nm 7 rfl (ca_nil ⟨_, a, b, rfl, ⟨hk, ha, hb⟩, And.intro rfl (ca_cons (c_callK ck_divides (hr.mono (by decide)) (ck_cons (nm 7 rfl (ck_cons (nm 6 rfl (ck_cons (nm 1 rfl (ck_nil (And.intro rfl ⟨_, a, b, rfl, ⟨hk, ha, hb⟩, And.intro rfl (ca_nil (And.intro (And.intro rfl (Nat.le_of_ble_eq_true rfl)) (ca_cons (c_ofN (n_disp (ca_cons (nm 8 rfl (ca_cons (nm 8 rfl (ca_nil (And.intro (And.intro rfl (Nat.le_of_ble_eq_true rfl)) (ca_nil ⟨_, rfl, ?h143, And.intro rfl (as_end rfl ?h144)⟩))))))))))))⟩))))))))))⟩))))))))))))))))⟩)))))))))
        case h142 =>
          exact sc__law_pair_right.nd
        case h143 =>
          exact sh_b2
        case h144 =>
          exact ⟨_, _, _, _, _, _, _, _, _, _, _, rfl, rfl⟩
      case h141 =>
        obtain ⟨o4, o6, o7, o8, o9, o10, o11, o12, o13, o14, o15, rfl, rfl⟩ := hw
        refine (as_ifn (t_not (t_val (c_call c__law_divisor_right (hr.mono (by decide)) (ca_cons (nm 1 rfl (ca_cons (nm 2 rfl (ca_cons (nm 3 rfl (ca_nil ⟨_, p0, q0, rfl, ⟨hk, hp0, hq0⟩, And.intro rfl (as_asg (i := 9) (hx := .inr rfl) ?h145 (c_if (t_gt (nm 5 rfl (c_powW (c_int (c_int (And.intro ?h146 (And.intro (fun b7 => (c_int (as_unpL2 (i := 11) (j := 12) ?h147 rfl (c_ofN (n_lcR (j := 10) rfl ?h148 m_range (blkOk_by (N := ["pot", "kind", "p", "q", "part", "size", "one", "other", "due", "few", "turn", "x", "y", "made", "near", "c"]) (sc := defScope s__law_pair_right) (by decide +kernel)) (fun _ _ _ _ _ => pg_name (i := 10) sc__law_pair_right.nd rfl (Or.inl rfl)) (ca_cons (c_int (ca_nil ⟨?h162, (fun l acc q => ∃ cq, q = [cq] ∧ Dk cq ∧ Ls l acc), ⟨_, rfl, (by assumption), Ls.nil⟩, ⟨fun _ _ _ _ _ l d acc q hl hd hw => ?h149⟩, fun acc q hw ha => ?h150⟩)))))))) (fun b7 => (c_powW (c_int (c_int (And.intro ?h163 (as_unpL2 (i := 11) (j := 12) ?h164 rfl (c_ofN (n_lcR (j := 10) rfl ?h165 m_range (blkOk_by (N := ["pot", "kind", "p", "q", "part", "size", "one", "other", "due", "few", "turn", "x", "y", "made", "near", "c"]) (sc := defScope s__law_pair_right) (by decide +kernel)) (fun _ _ _ _ _ => pg_name (i := 10) sc__law_pair_right.nd rfl (Or.inl rfl)) (ca_cons (c_int (ca_nil ⟨?h179, (fun l acc q => ∃ cq, q = [cq] ∧ Dk cq ∧ Ls l acc), ⟨_, rfl, (by assumption), Ls.nil⟩, ⟨fun _ _ _ _ _ l d acc q hl hd hw => ?h166⟩, fun acc q hw ha => ?h167⟩))))))))))))))))))))⟩)))))))))))
        case h145 =>
          exact sc__law_pair_right.nd
        case h146 =>
          exact cpw (by first | omega | decide) (Bd.of _) (by decide)
        case h147 =>
          exact sc__law_pair_right.nd
        case h148 =>
          exact sc__law_pair_right.nd
        case h149 =>
          obtain ⟨cq, rfl, hdq, hls⟩ := hw
          refine (c_tup (ca_cons (c_sub (c_callD c__law_take (hr.mono (by decide)) (ca_cons (nm 0 rfl (ca_cons (c_add (c_mulS (c_int (nm 9 rfl (And.intro (.inl (And.intro (by decide) (by decide))) (c_int (ca_nil (And.intro rfl ⟨_, rfl, ⟨?h151, ?h152, (by assumption)⟩, fun v13 c13 hv13 hw13 hd13 => And.intro rfl (nm 9 rfl (ca_cons (c_sub (c_callD c__law_take (hr.mono (by decide)) (ca_cons (nm 0 rfl (ca_cons (c_add (c_mulS (c_int (nm 9 rfl (And.intro (.inl (And.intro (by decide) (by decide))) (c_int (ca_nil (And.intro rfl ⟨_, rfl, ⟨?h153, ?h154, (by assumption)⟩, fun v14 c14 hv14 hw14 hd14 => And.intro rfl (nm 9 rfl (ca_nil (And.intro (And.intro rfl (Nat.le_of_ble_eq_true rfl)) (And.intro rfl ⟨_, rfl, (by assumption), hls.next (z := (_, _)) ?h155⟩))))⟩)))))))))))))))⟩)))))))))))))))
          case h151 =>
            first | decide | omega
          case h152 =>
            first | exact Bd.of _ | exact bd_r (by omega) (by omega) (by decide)
          case h153 =>
            first | decide | omega
          case h154 =>
            first | exact Bd.of _ | exact bd_r (by omega) (by omega) (by decide)
          case h155 =>
            exact ⟨(bd37 (by omega)).mono (by decide), (bd37 (by omega)).mono (by decide)⟩
        case h150 =>
          obtain ⟨cq, rfl, hdq, hls⟩ := hw
          obtain ⟨pp, qq, rfl, hpp, hqq⟩ := hls.two
          refine ⟨_, _, rfl, (as_par (i := 13) (j := 14) ?h156 rfl (ca_cons (c_call c__law_sum_of (hr.mono (by decide)) (ca_cons (nm 1 rfl (ca_cons (nm 2 rfl (ca_cons (nm 11 rfl (ca_cons (nm 3 rfl (ca_cons (nm 12 rfl (ca_nil ⟨_, p0, pp, q0, qq, rfl, ⟨hk, hp0.mono (by decide), hpp.mono (by decide), hq0.mono (by decide), hqq.mono (by decide)⟩, And.intro rfl (ca_cons (c_callD c__law_whole (hr.mono (by decide)) (ca_cons (nm 0 rfl (ca_cons (c_int (ca_nil (And.intro rfl ⟨_, rfl, (by assumption), fun wz7 cw7 h177 h377 hdw7 => And.intro rfl (ca_nil ⟨_, _, rfl, (as_forL (i := 15) ?h157 rfl PassesOwn.never (c_ofN (n_disp (ca_cons (nm 13 rfl (ca_cons (c_tup (ca_cons (c_add (c_ixTn (nm 13 rfl (c_int (And.intro (by decide) (c_ixTn (nm 14 rfl (c_int (And.intro (by decide) (ca_cons (c_add (c_ixTn (nm 13 rfl (c_int (And.intro (by decide) (c_ixTn (nm 14 rfl (c_int (And.intro (by decide) (ca_nil (And.intro (And.intro rfl (Nat.le_of_ble_eq_true rfl)) (ca_cons (nm 14 rfl (ca_cons (c_tup (ca_cons (c_int (ca_cons (c_int (ca_nil (And.intro (And.intro rfl (Nat.le_of_ble_eq_true rfl)) (ca_nil (And.intro (And.intro rfl (Nat.le_of_ble_eq_true rfl)) ⟨(fun j es qq => ∃ (o4 o6 o7 o8 o9 o10 o11 o12 o13 o14 o15 : Option Dat), es = [some (.cel 0), some (.int k), some (pD p0), some (pD q0), o4, some (.int size), o6, o7, o8, o9, o10, o11, o12, o13, o14, o15] ∧ qq = [cw7]), (fun _ _ => False), ⟨_, _, _, _, _, _, _, _, _, _, _, rfl, rfl⟩, ⟨fun H11 e11 fr1 j d es q hj hd hw => ?h158, fun es q hw => ?h159, fun _ _ h => h.elim⟩⟩)))))))))))))))))))))))))))))))))))))))))⟩)⟩))))))))⟩))))))))))))))⟩
          case h156 =>
            exact sc__law_pair_right.nd
          case h157 =>
            exact sc__law_pair_right.nd
          case h158 =>
            obtain ⟨o4, o6, o7, o8, o9, o10, o11, o12, o13, o14, o15, rfl, rfl⟩ := hw
            have hnear : B2 200 wz7 := h377.mono (by decide)
            have hmade : B2 200 (add (mul k p0 pp) (mul k q0 qq)) := (add_b (mul_b hk hp0 hpp) (mul_b hk hq0 hqq)).mono (by decide)
            obtain ⟨z, rfl, hz⟩ := four_of (C := fun d => ∃ z : Z2, d = pD z ∧ B2 300 z) (by first | exact ⟨(add (mul k p0 pp) (mul k q0 qq)), rfl, hmade.mono (by decide)⟩ | exact ⟨(_, _), rfl, (add_b hmade hnear).mono (by decide)⟩ | exact ⟨wz7, rfl, hnear.mono (by decide)⟩ | exact ⟨(1, 0), rfl, b2_s (by decide) (by decide) (by decide)⟩) (by first | exact ⟨(add (mul k p0 pp) (mul k q0 qq)), rfl, hmade.mono (by decide)⟩ | exact ⟨(_, _), rfl, (add_b hmade hnear).mono (by decide)⟩ | exact ⟨wz7, rfl, hnear.mono (by decide)⟩ | exact ⟨(1, 0), rfl, b2_s (by decide) (by decide) (by decide)⟩) (by first | exact ⟨(add (mul k p0 pp) (mul k q0 qq)), rfl, hmade.mono (by decide)⟩ | exact ⟨(_, _), rfl, (add_b hmade hnear).mono (by decide)⟩ | exact ⟨wz7, rfl, hnear.mono (by decide)⟩ | exact ⟨(1, 0), rfl, b2_s (by decide) (by decide) (by decide)⟩) (by first | exact ⟨(add (mul k p0 pp) (mul k q0 qq)), rfl, hmade.mono (by decide)⟩ | exact ⟨(_, _), rfl, (add_b hmade hnear).mono (by decide)⟩ | exact ⟨wz7, rfl, hnear.mono (by decide)⟩ | exact ⟨(1, 0), rfl, b2_s (by decide) (by decide) (by decide)⟩) hd
            refine (as_ifn (t_not (t_val (c_call c__law_solved_right (hr.mono (by decide)) (ca_cons (nm 1 rfl (ca_cons (nm 2 rfl (ca_cons (nm 3 rfl (ca_cons (nm 15 rfl (ca_nil ⟨_, p0, q0, z, rfl, ⟨hk, hp0, hq0, hz⟩, And.intro rfl (as_end rfl ?h160)⟩)))))))))))))
            case h160 =>
              exact ⟨_, _, _, _, _, _, _, _, _, _, _, rfl, rfl⟩
          case h159 =>
            obtain ⟨o4, o6, o7, o8, o9, o10, o11, o12, o13, o14, o15, rfl, rfl⟩ := hw
            refine (as_ret hQ (c_bl (And.intro rfl ?h161)))
            case h161 =>
              exact ⟨_, rfl, hG _ (by assumption)⟩
        case h162 =>
          first | assumption | exact Nat.le_of_ble_eq_true rfl | omega
        case h163 =>
          exact cpw (by first | omega | decide) (Bd.of _) (by decide)
        case h164 =>
          exact sc__law_pair_right.nd
        case h165 =>
          exact sc__law_pair_right.nd
        case h166 =>
          obtain ⟨cq, rfl, hdq, hls⟩ := hw
          refine (c_tup (ca_cons (c_sub (c_callD c__law_take (hr.mono (by decide)) (ca_cons (nm 0 rfl (ca_cons (c_add (c_mulS (c_int (nm 9 rfl (And.intro (.inl (And.intro (by decide) (by decide))) (c_int (ca_nil (And.intro rfl ⟨_, rfl, ⟨?h168, ?h169, (by assumption)⟩, fun v15 c15 hv15 hw15 hd15 => And.intro rfl (nm 9 rfl (ca_cons (c_sub (c_callD c__law_take (hr.mono (by decide)) (ca_cons (nm 0 rfl (ca_cons (c_add (c_mulS (c_int (nm 9 rfl (And.intro (.inl (And.intro (by decide) (by decide))) (c_int (ca_nil (And.intro rfl ⟨_, rfl, ⟨?h170, ?h171, (by assumption)⟩, fun v16 c16 hv16 hw16 hd16 => And.intro rfl (nm 9 rfl (ca_nil (And.intro (And.intro rfl (Nat.le_of_ble_eq_true rfl)) (And.intro rfl ⟨_, rfl, (by assumption), hls.next (z := (_, _)) ?h172⟩))))⟩)))))))))))))))⟩)))))))))))))))
          case h168 =>
            first | decide | omega
          case h169 =>
            first | exact Bd.of _ | exact bd_r (by omega) (by omega) (by decide)
          case h170 =>
            first | decide | omega
          case h171 =>
            first | exact Bd.of _ | exact bd_r (by omega) (by omega) (by decide)
          case h172 =>
            exact ⟨(bd37 (by omega)).mono (by decide), (bd37 (by omega)).mono (by decide)⟩
        case h167 =>
          obtain ⟨cq, rfl, hdq, hls⟩ := hw
          obtain ⟨pp, qq, rfl, hpp, hqq⟩ := hls.two
          refine ⟨_, _, rfl, (as_par (i := 13) (j := 14) ?h173 rfl (ca_cons (c_call c__law_sum_of (hr.mono (by decide)) (ca_cons (nm 1 rfl (ca_cons (nm 2 rfl (ca_cons (nm 11 rfl (ca_cons (nm 3 rfl (ca_cons (nm 12 rfl (ca_nil ⟨_, p0, pp, q0, qq, rfl, ⟨hk, hp0.mono (by decide), hpp.mono (by decide), hq0.mono (by decide), hqq.mono (by decide)⟩, And.intro rfl (ca_cons (c_callD c__law_whole (hr.mono (by decide)) (ca_cons (nm 0 rfl (ca_cons (c_int (ca_nil (And.intro rfl ⟨_, rfl, (by assumption), fun wz8 cw8 h178 h378 hdw8 => And.intro rfl (ca_nil ⟨_, _, rfl, (as_forL (i := 15) ?h174 rfl PassesOwn.never (c_ofN (n_disp (ca_cons (nm 13 rfl (ca_cons (c_tup (ca_cons (c_add (c_ixTn (nm 13 rfl (c_int (And.intro (by decide) (c_ixTn (nm 14 rfl (c_int (And.intro (by decide) (ca_cons (c_add (c_ixTn (nm 13 rfl (c_int (And.intro (by decide) (c_ixTn (nm 14 rfl (c_int (And.intro (by decide) (ca_nil (And.intro (And.intro rfl (Nat.le_of_ble_eq_true rfl)) (ca_cons (nm 14 rfl (ca_cons (c_tup (ca_cons (c_int (ca_cons (c_int (ca_nil (And.intro (And.intro rfl (Nat.le_of_ble_eq_true rfl)) (ca_nil (And.intro (And.intro rfl (Nat.le_of_ble_eq_true rfl)) ⟨(fun j es qq => ∃ (o4 o6 o7 o8 o9 o10 o11 o12 o13 o14 o15 : Option Dat), es = [some (.cel 0), some (.int k), some (pD p0), some (pD q0), o4, some (.int size), o6, o7, o8, o9, o10, o11, o12, o13, o14, o15] ∧ qq = [cw8]), (fun _ _ => False), ⟨_, _, _, _, _, _, _, _, _, _, _, rfl, rfl⟩, ⟨fun H11 e11 fr1 j d es q hj hd hw => ?h175, fun es q hw => ?h176, fun _ _ h => h.elim⟩⟩)))))))))))))))))))))))))))))))))))))))))⟩)⟩))))))))⟩))))))))))))))⟩
          case h173 =>
            exact sc__law_pair_right.nd
          case h174 =>
            exact sc__law_pair_right.nd
          case h175 =>
            obtain ⟨o4, o6, o7, o8, o9, o10, o11, o12, o13, o14, o15, rfl, rfl⟩ := hw
            have hnear : B2 200 wz8 := h378.mono (by decide)
            have hmade : B2 200 (add (mul k p0 pp) (mul k q0 qq)) := (add_b (mul_b hk hp0 hpp) (mul_b hk hq0 hqq)).mono (by decide)
            obtain ⟨z, rfl, hz⟩ := four_of (C := fun d => ∃ z : Z2, d = pD z ∧ B2 300 z) (by first | exact ⟨(add (mul k p0 pp) (mul k q0 qq)), rfl, hmade.mono (by decide)⟩ | exact ⟨(_, _), rfl, (add_b hmade hnear).mono (by decide)⟩ | exact ⟨wz8, rfl, hnear.mono (by decide)⟩ | exact ⟨(1, 0), rfl, b2_s (by decide) (by decide) (by decide)⟩) (by first | exact ⟨(add (mul k p0 pp) (mul k q0 qq)), rfl, hmade.mono (by decide)⟩ | exact ⟨(_, _), rfl, (add_b hmade hnear).mono (by decide)⟩ | exact ⟨wz8, rfl, hnear.mono (by decide)⟩ | exact ⟨(1, 0), rfl, b2_s (by decide) (by decide) (by decide)⟩) (by first | exact ⟨(add (mul k p0 pp) (mul k q0 qq)), rfl, hmade.mono (by decide)⟩ | exact ⟨(_, _), rfl, (add_b hmade hnear).mono (by decide)⟩ | exact ⟨wz8, rfl, hnear.mono (by decide)⟩ | exact ⟨(1, 0), rfl, b2_s (by decide) (by decide) (by decide)⟩) (by first | exact ⟨(add (mul k p0 pp) (mul k q0 qq)), rfl, hmade.mono (by decide)⟩ | exact ⟨(_, _), rfl, (add_b hmade hnear).mono (by decide)⟩ | exact ⟨wz8, rfl, hnear.mono (by decide)⟩ | exact ⟨(1, 0), rfl, b2_s (by decide) (by decide) (by decide)⟩) hd
            refine (as_ifn (t_not (t_val (c_call c__law_solved_right (hr.mono (by decide)) (ca_cons (nm 1 rfl (ca_cons (nm 2 rfl (ca_cons (nm 3 rfl (ca_cons (nm 15 rfl (ca_nil ⟨_, p0, q0, z, rfl, ⟨hk, hp0, hq0, hz⟩, And.intro rfl (as_end rfl ?h177)⟩)))))))))))))
            case h177 =>
              exact ⟨_, _, _, _, _, _, _, _, _, _, _, rfl, rfl⟩
          case h176 =>
            obtain ⟨o4, o6, o7, o8, o9, o10, o11, o12, o13, o14, o15, rfl, rfl⟩ := hw
            refine (as_ret hQ (c_bl (And.intro rfl ?h178)))
            case h178 =>
              exact ⟨_, rfl, hG _ (by assumption)⟩
        case h179 =>
          first | assumption | exact Nat.le_of_ble_eq_true rfl | omega
    case h180 =>
      first | assumption | exact Nat.le_of_ble_eq_true rfl | omega

/-! ### law -/
abbrev s_law : Stmt := topS 55
theorem sc_law : FnScope ["script", "pot", "turn"] ["script"] (defScope s_law) := ⟨rfl, rfl, rfl, by decide +kernel, rfl, by decide +kernel, by decide +kernel⟩
def F_law : FP := fun ds Q => ∃ ns : List Int, ds = [.lst (ns.map Dat.int)] ∧ ns.length ≤ 63 ∧ Q (.bl true)
theorem ok_law {f : Addr} {fd : FuncData} (Fn : Fun K "law" "law" s_law f fd) (c__law_pair_right : Cl P w K mg base 9 "_law_pair_right" ["pot", "kind"] (spD K F__law_pair_right)) (c__law_take : Cl P w K mg base 1 "_law_take" ["pot", "many"] (spD K F__law_take)) (m_list : mg "list" = none) (m_range : mg "range" = none) : FnOk P w K mg base CX0 10 f fd ["script"] (spP K F_law) := by
  refine fn_P Fn sc_law (fun ds G h => ?_) (fun cdv A outer s H Q E ds G hr hF hQ => ?_)
  · obtain ⟨ns, rfl, hns, hG⟩ := h
    rfl
  · obtain ⟨ns, rfl, hns, hG⟩ := hF
    refine (as_asgN (i := 1) ?h1 (n_cat (c_ofN (n_disp (ca_cons (c_int (ca_cons (c_int (ca_cons (c_int (ca_nil (And.intro (And.intro rfl (Nat.le_of_ble_eq_true rfl)) (c_ofN (n_list m_list (ca_cons (nm 0 rfl (ca_nil (And.intro ?h2 (And.intro ?h3 (And.intro ?h4 (fun _ => (as_forR1 (i := 2) ?h5 rfl PassesOwn.never m_range (ca_cons (c_int (ca_nil ⟨_, (fun j es q => ∃ (v2 : Option Dat) (cq : List Dat), es = [some (.lst (ns.map Dat.int)), some (.cel 0), v2] ∧ q = [cq] ∧ Dk cq), (fun _ _ => False), rfl, ?h12, ⟨_, _, rfl, rfl, pot_dk hns⟩, ⟨fun H10 e10 fr0 j d es q hj hd hw => ?h6, fun es q hw => ?h7, fun _ _ h => h.elim⟩⟩)))))))))))))))))))))))))
    case h1 =>
      exact sc_law.nd
    case h2 =>
      first | exact Nat.le_trans (Nat.le_of_eq (List.length_map ..)) (by omega) | (rw [List.length_map]; show 3 + ns.length ≤ 10000; omega)
    case h3 =>
      first | exact Nat.le_trans (Nat.le_of_eq (List.length_map ..)) (by omega) | (rw [List.length_map]; show 3 + ns.length ≤ 10000; omega)
    case h4 =>
      exact nl_ints ns
    case h5 =>
      exact sc_law.nd
    case h6 =>
      obtain ⟨v2, cq, rfl, rfl, hdq⟩ := hw
      cases hd
      refine (as_ifn (t_not (t_val (c_callD c__law_pair_right (hr.mono (by decide)) (ca_cons (nm 1 rfl (ca_cons (c_ixL (c_ofN (n_disp (ca_cons (c_int (ca_cons (c_int (ca_cons (c_int (ca_nil (And.intro (And.intro rfl (Nat.le_of_ble_eq_true rfl)) (c_callD c__law_take (hr.mono (by decide)) (ca_cons (nm 1 rfl (ca_cons (c_int (ca_nil (And.intro rfl ⟨_, rfl, ⟨?h8, ?h9, (by assumption)⟩, fun v1 c1 hv1 hw1 hd1 => And.intro rfl (at3k hv1 hw1 (fun k hk => (ca_nil (And.intro rfl ⟨_, rfl, ⟨?h10, (by assumption)⟩, fun cr hcr => And.intro rfl (as_end rfl ⟨_, _, rfl, rfl, (by assumption)⟩)⟩))))⟩)))))))))))))))))))))))))
      case h8 =>
        first | decide | omega
      case h9 =>
        first | assumption | exact bd_r (by omega) (by omega) (by decide)
      case h10 =>
        assumption
    case h7 =>
      obtain ⟨v2, cq, rfl, rfl, hdq⟩ := hw
      refine (as_ret hQ (c_bl (And.intro rfl ?h11)))
      case h11 =>
        exact hG
    case h12 =>
      first | omega | decide

end
end Y75

set_option Elab.async false
set_option linter.all false
set_option maxRecDepth 100000
set_option maxHeartbeats 8000000
namespace Y75
open PySem PySem.Spec PyProof.Rows L2 Evl Wz
/-- a def of the module's top -/
structure Top (K : PySem.W.Frag) (mg : Str → Option Value) (x : Str) (st : Stmt) : Prop where
  ex : ∃ (f : Addr) (fd : FuncData), mg x = some (.ref f) ∧ Fun K x x st f fd
/-- a method as the class holds it -/
structure MT (K : PySem.W.Frag) (C : Addr) (m qual : Str) (st : Stmt) : Prop where
  ex : ∃ (f : Addr) (fd : FuncData), Meth K C m f ∧ Fun K m qual st f fd
/-- a class of the module's top -/
structure Kl (K : PySem.W.Frag) (mg : Str → Option Value) (x : Str) (C : Addr) : Prop where
  mg : mg x = some (.ref C)
  mks : PySem.W.makesIn K C = true
  kp : PySem.W.keepIn K (.ref C) = true
theorem mt_mk {K : PySem.W.Frag} {mg : Str → Option Value} {x : Str} {C : Addr} {m qual : Str} {st : Stmt} {f : Addr} {oc : Value} {od an : Option Addr} {osl : Array (Option Value)} {kV doc pm cdv ct : Value}
    (_ : Kl K mg x C) (a : PySem.W.findIn K (.ref C) m = some (some (.ref f))) (i : PySem.W.isFn K (.ref f) = true) (l : K.lookup f = some ⟨oc, od, .func (PySem.W.fnOf m qual (defArgs st) (defBody st) (defScope st) .none kV doc pm an cdv ct), osl⟩) (c : PySem.W.codeIn K cdv qual = true) (k : PySem.W.keepIn K (.ref f) = true) : MT K C m qual st :=
  ⟨_, _, ⟨a, i, k⟩, fun_mk (st := st) l c k⟩
theorem kl_mk {K : PySem.W.Frag} {h : Heap} {mg : Str → Option Value} {x : Str} {C : Addr} (X : K.In h) (G : h.Ns mainGlobals mg) (a : PySem.W.nsIn K mainGlobals x = some (some (.ref C))) (m : PySem.W.makesIn K C = true) (k : PySem.W.keepIn K (.ref C) = true) : Kl K mg x C :=
  ⟨PySem.W.mg_of X G a, m, k⟩
theorem top_mk {K : PySem.W.Frag} {h : Heap} {mg : Str → Option Value} {x : Str} {st : Stmt} {f : Addr} {oc : Value} {od an : Option Addr} {osl : Array (Option Value)} {kV doc pm cdv ct : Value} (X : K.In h) (G : h.Ns mainGlobals mg)
    (a : PySem.W.nsIn K mainGlobals x = some (some (.ref f))) (l : K.lookup f = some ⟨oc, od, .func (PySem.W.fnOf x x (defArgs st) (defBody st) (defScope st) .none kV doc pm an cdv ct), osl⟩) (c : PySem.W.codeIn K cdv x = true) (k : PySem.W.keepIn K (.ref f) = true) : Top K mg x st :=
  ⟨_, _, PySem.W.mg_of X G a, fun_mk (st := st) l c k⟩
section
variable {P : Program} {w : World} {K : PySem.W.Frag} {mg : Str → Option Value} {base : Heap} {x : Str} {st : Stmt} {k : Nat} {ps ks : List Str} {sp : Sp}
theorem Top.cl (T : Top K mg x st) (hb : ∀ (kV doc pm : Value) (an : Option Addr) (cdv ct : Value) (us : List Value), us.length = ps.length → bindArgs (PySem.W.fnOf x x (defArgs st) (defBody st) (defScope st) .none kV doc pm an cdv ct) ⟨us, []⟩ = pure (ps.zip us))
    (h : ∀ f fd, Fun K x x st f fd → FnOk P w K mg base CX0 k f fd ps sp) : Cl P w K mg base k x ps sp := by
  obtain ⟨f, fd, hm, F⟩ := T.ex
  exact ⟨f, fd, hm, F.kp, F.binds hb, h f fd F⟩
theorem Top.clK (T : Top K mg x st) (pi : List Nat) (hp : 0 < ps.length) (hb : ∀ (kV doc pm : Value) (an : Option Addr) (cdv ct : Value) (ws : List Value), ws.length = ks.length → bindArgs (PySem.W.fnOf x x (defArgs st) (defBody st) (defScope st) .none kV doc pm an cdv ct) ⟨[], ks.zip ws⟩ = pure (ps.zip (kperm pi ks.length [] ws)))
    (h : ∀ f fd, Fun K x x st f fd → FnOk P w K mg base CX0 k f fd ps sp) : ClK P w K mg base k x ps ks pi sp := by
  obtain ⟨f, fd, hm, F⟩ := T.ex
  exact ⟨f, fd, hm, F.kp, Wz.Fun.kb F pi ks.length hp hb, h f fd F⟩
end
theorem kt_mk {K : PySem.W.Frag} {h : Heap} {mg : Str → Option Value} {x : Str} {C : Addr} {od : Option Addr} {n : Nat} {sl : Array (Option Value)} {a b c : Tok} (X : K.In h) (G : h.Ns mainGlobals mg) (e : PySem.W.nsIn K mainGlobals x = some (some (.ref C)))
    (l : K.lookup C = some ⟨.type "tuple", od, .seq #[.int 2 a, .int 3 b, .int 5 c] n, sl⟩) : KT K mg x [.int 2, .int 3, .int 5] :=
  ⟨C, [.int 2, .int 3, .int 5], PySem.W.mg_of X G e, fun H => .inr ⟨_, _, _, l, rfl, rfl, by show 3 ≤ sizeLine; decide, .cons ⟨a, rfl⟩ (.cons ⟨b, rfl⟩ (.cons ⟨c, rfl⟩ .nil))⟩, fun o H => DVs.cons (.int 2) (DVs.cons (.int 3) (DVs.cons (.int 5) DVs.nil))⟩
theorem kt_mk2 {K : PySem.W.Frag} {h : Heap} {mg : Str → Option Value} {x : Str} {C : Addr} {od : Option Addr} {n : Nat} {sl : Array (Option Value)} {i j : Int} {a b : Tok} (X : K.In h) (G : h.Ns mainGlobals mg) (e : PySem.W.nsIn K mainGlobals x = some (some (.ref C)))
    (l : K.lookup C = some ⟨.type "tuple", od, .seq #[.int i a, .int j b] n, sl⟩) : KT K mg x [.int i, .int j] :=
  ⟨C, [.int i, .int j], PySem.W.mg_of X G e, fun H => .inr ⟨_, _, _, l, rfl, rfl, by show 2 ≤ sizeLine; decide, .cons ⟨a, rfl⟩ (.cons ⟨b, rfl⟩ .nil)⟩, fun o H => DVs.cons (.int i) (DVs.cons (.int j) DVs.nil)⟩
theorem two_mk {K : PySem.W.Frag} {p : Addr} {a b : Int} {u1 u2 : Tok} {n : Nat} {od : Option Addr} {sl : Array (Option Value)} (l : K.lookup p = some ⟨.type "tuple", od, .seq #[.int a u1, .int b u2] n, sl⟩) : ∀ o H, DV K o H (.ref p) (pD (a, b)) := fun o H =>
  .tup' (show SqT K H p [.int a, .int b] from .inr ⟨_, _, _, l, rfl, rfl, by show 2 ≤ sizeLine; decide, .cons ⟨_, rfl⟩ (.cons ⟨_, rfl⟩ .nil)⟩) (DVs.cons (.int a) (DVs.cons (.int b) DVs.nil))
theorem pp_mk {K : PySem.W.Frag} {p x y : Addr} {a b c d : Int} {u1 u2 v1 v2 : Tok} {n n1 n2 : Nat} {od od1 od2 : Option Addr} {sl sl1 sl2 : Array (Option Value)} (l : K.lookup p = some ⟨.type "tuple", od, .seq #[.ref x, .ref y] n, sl⟩) (lx : K.lookup x = some ⟨.type "tuple", od1, .seq #[.int a u1, .int b u2] n1, sl1⟩) (ly : K.lookup y = some ⟨.type "tuple", od2, .seq #[.int c v1, .int d v2] n2, sl2⟩) : ∀ o H, DV K o H (.ref p) (ppD (a, b) (c, d)) := fun o H =>
  .tup' (show SqT K H p [.ref x, .ref y] from .inr ⟨_, _, _, l, rfl, rfl, by show 2 ≤ sizeLine; decide, .cons rfl (.cons rfl .nil)⟩) (DVs.cons (two_mk lx o H) (DVs.cons (two_mk ly o H) DVs.nil))
theorem kdd_mk {K : PySem.W.Frag} {h : Heap} {mg : Str → Option Value} {x : Str} {f : Int → Dat} {C p2 p3 p5 x2 y2 x3 y3 x5 y5 : Addr} {h2 h3 h5 a2 b2 c2 d2 a3 b3 c3 d3 a5 b5 c5 d5 : Int} {t2 t3 t5 u1 u2 u3 u4 v1 v2 v3 v4 w1 w2 w3 w4 : Tok} {n n2 n3 n5 m2 m3 m5 l2' l3' l5' : Nat} {od2 od3 od5 oe2 oe3 oe5 of2 of3 of5 : Option Addr} {sl2 sl3 sl5 sm2 sm3 sm5 sn2 sn3 sn5 : Array (Option Value)} (X : K.In h) (G : h.Ns mainGlobals mg) (e : PySem.W.nsIn K mainGlobals x = some (some (.ref C)))
    (l : K.lookup C = some ⟨.type "dict", none, .dict #[⟨h2, .int 2 t2, .ref p2⟩, ⟨h3, .int 3 t3, .ref p3⟩, ⟨h5, .int 5 t5, .ref p5⟩] n, #[]⟩)
    (l2 : K.lookup p2 = some ⟨.type "tuple", od2, .seq #[.ref x2, .ref y2] n2, sl2⟩) (l3 : K.lookup p3 = some ⟨.type "tuple", od3, .seq #[.ref x3, .ref y3] n3, sl3⟩) (l5 : K.lookup p5 = some ⟨.type "tuple", od5, .seq #[.ref x5, .ref y5] n5, sl5⟩)
    (k2 : K.lookup x2 = some ⟨.type "tuple", oe2, .seq #[.int a2 u1, .int b2 u2] m2, sm2⟩) (j2 : K.lookup y2 = some ⟨.type "tuple", of2, .seq #[.int c2 u3, .int d2 u4] l2', sn2⟩)
    (k3 : K.lookup x3 = some ⟨.type "tuple", oe3, .seq #[.int a3 v1, .int b3 v2] m3, sm3⟩) (j3 : K.lookup y3 = some ⟨.type "tuple", of3, .seq #[.int c3 v3, .int d3 v4] l3', sn3⟩)
    (k5 : K.lookup x5 = some ⟨.type "tuple", oe5, .seq #[.int a5 w1, .int b5 w2] m5, sm5⟩) (j5 : K.lookup y5 = some ⟨.type "tuple", of5, .seq #[.int c5 w3, .int d5 w4] l5', sn5⟩)
    (hh : h2 = hashInt 2 ∧ h3 = hashInt 3 ∧ h5 = hashInt 5) (hf : f 2 = ppD (a2, b2) (c2, d2) ∧ f 3 = ppD (a3, b3) (c3, d3) ∧ f 5 = ppD (a5, b5) (c5, d5)) : ∀ (P : Program) (w : World), KDD P w K mg x f := fun P w => by
  obtain ⟨rfl, rfl, rfl⟩ := hh
  obtain ⟨f2, f3, f5⟩ := hf
  refine ⟨C, _, _, PySem.W.mg_of X G e, l, fun e he => ?_, fun i hi => ?_⟩
  · have hm : e = ⟨hashInt 2, .int 2 t2, .ref p2⟩ ∨ e = ⟨hashInt 3, .int 3 t3, .ref p3⟩ ∨ e = ⟨hashInt 5, .int 5 t5, .ref p5⟩ := by simpa using he
    rcases hm with rfl | rfl | rfl
    · exact ⟨2, rfl, rfl⟩
    · exact ⟨3, rfl, rfl⟩
    · exact ⟨5, rfl, rfl⟩
  · rcases hi with rfl | rfl | rfl
    · exact ⟨.ref p2, .ref p2, rfl, rfl, fun o H => by rw [f2]; exact pp_mk l2 k2 j2 o H⟩
    · exact ⟨.ref p3, .ref p3, rfl, rfl, fun o H => by rw [f3]; exact pp_mk l3 k3 j3 o H⟩
    · exact ⟨.ref p5, .ref p5, rfl, rfl, fun o H => by rw [f5]; exact pp_mk l5 k5 j5 o H⟩
theorem oc_mk {K : PySem.W.Frag} {mg : Str → Option Value} {x : Str} {C : Addr} (_ : Kl K mg x C) (pg : PySem.W.plainGet K C Str.empty = true) (hd : PySem.W.hasDictIn K C = true) (po : PySem.W.plainOver K C = true) (sa : PySem.W.findIn K (.ref C) "__setattr__" = some (some (.builtin "object.__setattr__")))
    (n0 : PySem.W.findIn K (.ref C) "kind" = some none) (n1 : PySem.W.findIn K (.ref C) "change" = some none) (n2 : PySem.W.findIn K (.ref C) "factors" = some none) (n3 : PySem.W.findIn K (.ref C) "divisor" = some none) : ObC K C ["kind", "change", "factors", "divisor"] :=
  ⟨⟨pg, hd, po, sa⟩, fun f hf => by
    have : f = "kind" ∨ f = "change" ∨ f = "factors" ∨ f = "divisor" := by simpa using hf
    rcases this with rfl | rfl | rfl | rfl
    · exact n0
    · exact n1
    · exact n2
    · exact n3⟩

theorem dvs_ints {K : PySem.W.Frag} {o : Os} {H : Hp} : ∀ ns : List Int, DVs K o H (ns.map V.int) (ns.map Dat.int)
  | [] => DVs.nil
  | i :: ns => DVs.cons (.int i) (dvs_ints ns)

theorem law_all {P : Program} {w : World} {K : PySem.W.Frag} {mg : Str → Option Value} {base : Heap} {C : Addr} (t_is_integer : Top K mg "is_integer" s_is_integer) (t_is_whole : Top K mg "is_whole" s_is_whole) (t_is_kind : Top K mg "is_kind" s_is_kind) (t_check_kind : Top K mg "check_kind" s_check_kind) (t_pair_sum : Top K mg "pair_sum" s_pair_sum) (t_pair_less : Top K mg "pair_less" s_pair_less) (t_pair_times : Top K mg "pair_times" s_pair_times) (t_pair_mate : Top K mg "pair_mate" s_pair_mate) (t_pair_norm : Top K mg "pair_norm" s_pair_norm) (t_quotient_of : Top K mg "quotient_of" s_quotient_of) (t_rest_by : Top K mg "rest_by" s_rest_by) (t_exact_by : Top K mg "exact_by" s_exact_by) (t__crossed : Top K mg "_crossed" s__crossed) (t__squares : Top K mg "_squares" s__squares) (t__smallest : Top K mg "_smallest" s__smallest) (t_check_whole : Top K mg "check_whole" s_check_whole) (t_divided : Top K mg "divided" s_divided) (t_divides : Top K mg "divides" s_divides) (t_common_divisor : Top K mg "common_divisor" s_common_divisor) (t_solved : Top K mg "solved" s_solved) (t__law_take : Top K mg "_law_take" s__law_take) (t__law_common : Top K mg "_law_common" s__law_common) (t__law_form : Top K mg "_law_form" s__law_form) (t__law_times : Top K mg "_law_times" s__law_times) (t__law_mate : Top K mg "_law_mate" s__law_mate) (t__law_by : Top K mg "_law_by" s__law_by) (t__law_same : Top K mg "_law_same" s__law_same) (t__law_whole_times : Top K mg "_law_whole_times" s__law_whole_times) (t__law_whole_by : Top K mg "_law_whole_by" s__law_whole_by) (t__law_norm : Top K mg "_law_norm" s__law_norm) (t__law_divisor : Top K mg "_law_divisor" s__law_divisor) (t__law_divides : Top K mg "_law_divides" s__law_divides) (t__law_whole : Top K mg "_law_whole" s__law_whole) (t__law_some : Top K mg "_law_some" s__law_some) (t__law_is_pair : Top K mg "_law_is_pair" s__law_is_pair) (t__law_sum_of : Top K mg "_law_sum_of" s__law_sum_of) (t__law_divided_right : Top K mg "_law_divided_right" s__law_divided_right) (t__law_divisor_right : Top K mg "_law_divisor_right" s__law_divisor_right) (t__law_solved_right : Top K mg "_law_solved_right" s__law_solved_right) (t__law_pair_right : Top K mg "_law_pair_right" s__law_pair_right) (m_isinstance : mg "isinstance" = none) (m_int : mg "int" = none) (m_bool : mg "bool" = none) (m_tuple : mg "tuple" = none) (m_len : mg "len" = none) (m_abs : mg "abs" = none) (m_range : mg "range" = none) (m_str : mg "str" = none) (m_list : mg "list" = none) (m_all : mg "all" = none) (m_max : mg "max" = none) (t_KINDS : KT K mg "KINDS" [.int 2, .int 3, .int 5]) (t_ZERO : KT K mg "ZERO" [.int 0, .int 0]) (t_ONE : KT K mg "ONE" [.int 1, .int 0]) (t_STEPS : ∀ (P : Program) (w : World), KDD P w K mg "STEPS" stD) (oc_Common : ObC K C ["kind", "change", "factors", "divisor"]) (g_Common : Kl K mg "Common" C) (mt_Common__less : MT K C "_less" "Common._less" s_Common__less) (mt_Common_solution : MT K C "solution" "Common.solution" s_Common_solution) (mt_Common___init__ : MT K C "__init__" "Common.__init__" s_Common___init__)
    {f : Addr} {fd : FuncData} (FL : Fun K "law" "law" s_law f fd) : FnOk P w K mg base CX0 10 f fd ["script"] (spP K F_law) := by
  have c_is_integer : Cl P w K mg base 1 "is_integer" ["told"] (spP K F_is_integer) := t_is_integer.cl (fun _ _ _ _ _ _ us hl => match us, hl with | [_], _ => rfl) (fun f fd F => ok_is_integer F m_isinstance m_int m_bool)
  have c_is_whole : Cl P w K mg base 2 "is_whole" ["told"] (spP K F_is_whole) := t_is_whole.cl (fun _ _ _ _ _ _ us hl => match us, hl with | [_], _ => rfl) (fun f fd F => ok_is_whole F c_is_integer m_isinstance m_tuple m_len)
  have c_is_kind : Cl P w K mg base 2 "is_kind" ["told"] (spP K F_is_kind) := t_is_kind.cl (fun _ _ _ _ _ _ us hl => match us, hl with | [_], _ => rfl) (fun f fd F => ok_is_kind F c_is_integer t_KINDS)
  have c_check_kind : Cl P w K mg base 3 "check_kind" ["kind"] (spP K F_check_kind) := t_check_kind.cl (fun _ _ _ _ _ _ us hl => match us, hl with | [_], _ => rfl) (fun f fd F => ok_check_kind F c_is_kind)
  have c_pair_sum : Cl P w K mg base 1 "pair_sum" ["p", "q"] (spP K F_pair_sum) := t_pair_sum.cl (fun _ _ _ _ _ _ us hl => match us, hl with | [_, _], _ => rfl) (fun f fd F => ok_pair_sum F )
  have c_pair_less : Cl P w K mg base 1 "pair_less" ["p", "q"] (spP K F_pair_less) := t_pair_less.cl (fun _ _ _ _ _ _ us hl => match us, hl with | [_, _], _ => rfl) (fun f fd F => ok_pair_less F )
  have c_pair_times : Cl P w K mg base 1 "pair_times" ["kind", "p", "q"] (spP K F_pair_times) := t_pair_times.cl (fun _ _ _ _ _ _ us hl => match us, hl with | [_, _, _], _ => rfl) (fun f fd F => ok_pair_times F )
  have c_pair_mate : Cl P w K mg base 1 "pair_mate" ["kind", "p"] (spP K F_pair_mate) := t_pair_mate.cl (fun _ _ _ _ _ _ us hl => match us, hl with | [_, _], _ => rfl) (fun f fd F => ok_pair_mate F )
  have c_pair_norm : Cl P w K mg base 1 "pair_norm" ["kind", "p"] (spP K F_pair_norm) := t_pair_norm.cl (fun _ _ _ _ _ _ us hl => match us, hl with | [_, _], _ => rfl) (fun f fd F => ok_pair_norm F )
  have c_quotient_of : Cl P w K mg base 2 "quotient_of" ["kind", "p", "q"] (spP K F_quotient_of) := t_quotient_of.cl (fun _ _ _ _ _ _ us hl => match us, hl with | [_, _, _], _ => rfl) (fun f fd F => ok_quotient_of F c_pair_times c_pair_mate c_pair_norm)
  have c_rest_by : Cl P w K mg base 2 "rest_by" ["kind", "p", "q", "quotient"] (spP K F_rest_by) := t_rest_by.cl (fun _ _ _ _ _ _ us hl => match us, hl with | [_, _, _, _], _ => rfl) (fun f fd F => ok_rest_by F c_pair_less c_pair_times)
  have c_exact_by : Cl P w K mg base 3 "exact_by" ["kind", "p", "q"] (spP K F_exact_by) := t_exact_by.cl (fun _ _ _ _ _ _ us hl => match us, hl with | [_, _, _], _ => rfl) (fun f fd F => ok_exact_by F c_quotient_of c_rest_by t_ZERO)
  have c__crossed : Cl P w K mg base 2 "_crossed" ["kind", "one", "other"] (spP K F__crossed) := t__crossed.cl (fun _ _ _ _ _ _ us hl => match us, hl with | [_, _, _], _ => rfl) (fun f fd F => ok__crossed F c_pair_sum c_pair_times)
  have c__squares : Cl P w K mg base 3 "_squares" ["kind", "both"] (spP K F__squares) := t__squares.cl (fun _ _ _ _ _ _ us hl => match us, hl with | [_, _], _ => rfl) (fun f fd F => ok__squares F c__crossed c_pair_sum c_pair_mate)
  have c__smallest : Cl P w K mg base 4 "_smallest" ["kind", "both"] (spP K F__smallest) := t__smallest.cl (fun _ _ _ _ _ _ us hl => match us, hl with | [_, _], _ => rfl) (fun f fd F => ok__smallest F c__squares c_pair_times (t_STEPS P w))
  have me__less : MeC P w K mg base 3 C "_less" ["self", "both", "other", "quotient"] (spP K (F_Common__less C)) := by
    obtain ⟨f, fd, hM, F⟩ := mt_Common__less.ex
    exact ⟨f, fd, oc_Common.cl, hM, F.binds (fun _ _ _ _ _ _ us hl => match us, hl with | [_, _, _, _], _ => rfl), ok_Common__less F c_rest_by oc_Common⟩
  have me_solution : MeC P w K mg base 4 C "solution" ["self", "c"] (spP K (F_Common_solution C)) := by
    obtain ⟨f, fd, hM, F⟩ := mt_Common_solution.ex
    exact ⟨f, fd, oc_Common.cl, hM, F.binds (fun _ _ _ _ _ _ us hl => match us, hl with | [_, _], _ => rfl), ok_Common_solution F c_exact_by c_pair_times c__crossed c_quotient_of oc_Common me__less⟩
  have mk_Common : MkC P w K mg base 5 "Common" C ["self", "kind", "p", "q"] (spI K C (F_Common___init__ C)) := by
    obtain ⟨f, fd, hM, F⟩ := mt_Common___init__.ex
    exact ⟨f, fd, g_Common.mg, ⟨g_Common.mks, hM.at_, hM.fn, g_Common.kp⟩, F.binds (fun _ _ _ _ _ _ us hl => match us, hl with | [_, _, _, _], _ => rfl), ok_Common___init__ F c_quotient_of c_rest_by c__smallest oc_Common me__less t_ZERO t_ONE⟩
  have c_check_whole : Cl P w K mg base 3 "check_whole" ["told"] (spP K F_check_whole) := t_check_whole.cl (fun _ _ _ _ _ _ us hl => match us, hl with | [_], _ => rfl) (fun f fd F => ok_check_whole F c_is_whole)
  have c_divided : Cl P w K mg base 4 "divided" ["kind", "p", "q"] (spP K F_divided) := t_divided.cl (fun _ _ _ _ _ _ us hl => match us, hl with | [_, _, _], _ => rfl) (fun f fd F => ok_divided F c_check_kind c_check_whole c_quotient_of c_rest_by t_ZERO)
  have ck_divided : ClK P w K mg base 4 "divided" ["kind", "p", "q"] ["q", "p", "kind"] [2, 1, 0] (spP K F_divided) := t_divided.clK [2, 1, 0] (by decide) (fun _ _ _ _ _ _ ws hl => match ws, hl with | [_, _, _], _ => rfl) (fun f fd F => ok_divided F c_check_kind c_check_whole c_quotient_of c_rest_by t_ZERO)
  have c_divides : Cl P w K mg base 4 "divides" ["kind", "q", "p"] (spP K F_divides) := t_divides.cl (fun _ _ _ _ _ _ us hl => match us, hl with | [_, _, _], _ => rfl) (fun f fd F => ok_divides F c_check_kind c_check_whole c_exact_by)
  have ck_divides : ClK P w K mg base 4 "divides" ["kind", "q", "p"] ["p", "q", "kind"] [2, 1, 0] (spP K F_divides) := t_divides.clK [2, 1, 0] (by decide) (fun _ _ _ _ _ _ ws hl => match ws, hl with | [_, _, _], _ => rfl) (fun f fd F => ok_divides F c_check_kind c_check_whole c_exact_by)
  have c_common_divisor : Cl P w K mg base 7 "common_divisor" ["kind", "p", "q"] (spP K F_common_divisor) := t_common_divisor.cl (fun _ _ _ _ _ _ us hl => match us, hl with | [_, _, _], _ => rfl) (fun f fd F => ok_common_divisor F c_check_kind c_check_whole oc_Common me_solution mk_Common)
  have ck_common_divisor : ClK P w K mg base 7 "common_divisor" ["kind", "p", "q"] ["kind", "q", "p"] [0, 2, 1] (spP K F_common_divisor) := t_common_divisor.clK [0, 2, 1] (by decide) (fun _ _ _ _ _ _ ws hl => match ws, hl with | [_, _, _], _ => rfl) (fun f fd F => ok_common_divisor F c_check_kind c_check_whole oc_Common me_solution mk_Common)
  have c_solved : Cl P w K mg base 7 "solved" ["kind", "p", "q", "c"] (spP K F_solved) := t_solved.cl (fun _ _ _ _ _ _ us hl => match us, hl with | [_, _, _, _], _ => rfl) (fun f fd F => ok_solved F c_check_kind c_check_whole me_solution mk_Common)
  have ck_solved : ClK P w K mg base 7 "solved" ["kind", "p", "q", "c"] ["c", "q", "p", "kind"] [3, 2, 1, 0] (spP K F_solved) := t_solved.clK [3, 2, 1, 0] (by decide) (fun _ _ _ _ _ _ ws hl => match ws, hl with | [_, _, _, _], _ => rfl) (fun f fd F => ok_solved F c_check_kind c_check_whole me_solution mk_Common)
  have c__law_take : Cl P w K mg base 1 "_law_take" ["pot", "many"] (spD K F__law_take) := t__law_take.cl (fun _ _ _ _ _ _ us hl => match us, hl with | [_, _], _ => rfl) (fun f fd F => ok__law_take F m_len m_int)
  have c__law_common : Cl P w K mg base 1 "_law_common" ["one", "other"] (spP K F__law_common) := t__law_common.cl (fun _ _ _ _ _ _ us hl => match us, hl with | [_, _], _ => rfl) (fun f fd F => ok__law_common F m_abs m_range m_int)
  have c__law_form : Cl P w K mg base 2 "_law_form" ["a", "b", "n"] (spP K F__law_form) := t__law_form.cl (fun _ _ _ _ _ _ us hl => match us, hl with | [_, _, _], _ => rfl) (fun f fd F => ok__law_form F c__law_common)
  have c__law_times : Cl P w K mg base 3 "_law_times" ["kind", "p", "q"] (spP K F__law_times) := t__law_times.cl (fun _ _ _ _ _ _ us hl => match us, hl with | [_, _, _], _ => rfl) (fun f fd F => ok__law_times F c__law_form)
  have c__law_mate : Cl P w K mg base 1 "_law_mate" ["kind", "p"] (spP K F__law_mate) := t__law_mate.cl (fun _ _ _ _ _ _ us hl => match us, hl with | [_, _], _ => rfl) (fun f fd F => ok__law_mate F )
  have c__law_by : Cl P w K mg base 4 "_law_by" ["kind", "p", "q"] (spP K F__law_by) := t__law_by.cl (fun _ _ _ _ _ _ us hl => match us, hl with | [_, _, _], _ => rfl) (fun f fd F => ok__law_by F c__law_mate c__law_times c__law_form)
  have c__law_same : Cl P w K mg base 2 "_law_same" ["told", "due"] (spP K (F__law_same 1)) := by
    obtain ⟨f, fd, hm, F⟩ := t__law_same.ex
    have hb : Binds K fd ["told", "due"] [] := F.binds (fun _ _ _ _ _ _ us hl => match us, hl with | [_, _], _ => rfl)
    exact ⟨f, fd, hm, F.kp, hb, ok__law_same F hm F.kp hb m_isinstance m_bool m_int m_str m_tuple m_list m_len m_range m_all 1⟩
  have c__law_whole_times : Cl P w K mg base 4 "_law_whole_times" ["kind", "p", "q"] (spP K F__law_whole_times) := t__law_whole_times.cl (fun _ _ _ _ _ _ us hl => match us, hl with | [_, _, _], _ => rfl) (fun f fd F => ok__law_whole_times F c__law_times)
  have c__law_whole_by : Cl P w K mg base 5 "_law_whole_by" ["kind", "p", "q"] (spP K F__law_whole_by) := t__law_whole_by.cl (fun _ _ _ _ _ _ us hl => match us, hl with | [_, _, _], _ => rfl) (fun f fd F => ok__law_whole_by F c__law_by)
  have c__law_norm : Cl P w K mg base 4 "_law_norm" ["kind", "p"] (spP K F__law_norm) := t__law_norm.cl (fun _ _ _ _ _ _ us hl => match us, hl with | [_, _], _ => rfl) (fun f fd F => ok__law_norm F c__law_times c__law_mate)
  have c__law_divisor : Cl P w K mg base 6 "_law_divisor" ["kind", "p", "q"] (spP K F__law_divisor) := t__law_divisor.cl (fun _ _ _ _ _ _ us hl => match us, hl with | [_, _, _], _ => rfl) (fun f fd F => ok__law_divisor F c__law_whole_by c__law_whole_times m_range)
  have c__law_divides : Cl P w K mg base 6 "_law_divides" ["kind", "q", "p"] (spP K F__law_divides) := t__law_divides.cl (fun _ _ _ _ _ _ us hl => match us, hl with | [_, _, _], _ => rfl) (fun f fd F => ok__law_divides F c__law_whole_by)
  have c__law_whole : Cl P w K mg base 2 "_law_whole" ["pot", "great"] (spD K F__law_whole) := t__law_whole.cl (fun _ _ _ _ _ _ us hl => match us, hl with | [_, _], _ => rfl) (fun f fd F => ok__law_whole F c__law_take)
  have c__law_some : Cl P w K mg base 5 "_law_some" ["pot", "kind"] (spE K F__law_some) := t__law_some.cl (fun _ _ _ _ _ _ us hl => match us, hl with | [_, _], _ => rfl) (fun f fd F => ok__law_some F c__law_take c__law_whole c__law_whole_times m_range)
  have c__law_is_pair : Cl P w K mg base 1 "_law_is_pair" ["told", "many"] (spP K F__law_is_pair) := t__law_is_pair.cl (fun _ _ _ _ _ _ us hl => match us, hl with | [_, _], _ => rfl) (fun f fd F => ok__law_is_pair F m_isinstance m_tuple m_len m_bool m_int)
  have c__law_sum_of : Cl P w K mg base 5 "_law_sum_of" ["kind", "p", "x", "q", "y"] (spP K F__law_sum_of) := t__law_sum_of.cl (fun _ _ _ _ _ _ us hl => match us, hl with | [_, _, _, _, _], _ => rfl) (fun f fd F => ok__law_sum_of F c__law_whole_times)
  have c__law_divided_right : Cl P w K mg base 6 "_law_divided_right" ["kind", "p", "q"] (spP K F__law_divided_right) := t__law_divided_right.cl (fun _ _ _ _ _ _ us hl => match us, hl with | [_, _, _], _ => rfl) (fun f fd F => ok__law_divided_right F c_divided c__law_is_pair c__law_sum_of c__law_norm ck_divided m_abs)
  have c__law_divisor_right : Cl P w K mg base 8 "_law_divisor_right" ["kind", "p", "q"] (spP K F__law_divisor_right) := t__law_divisor_right.cl (fun _ _ _ _ _ _ us hl => match us, hl with | [_, _, _], _ => rfl) (fun f fd F => ok__law_divisor_right F c_common_divisor c__law_is_pair c__law_sum_of c__law_divides ck_common_divisor)
  have c__law_solved_right : Cl P w K mg base 8 "_law_solved_right" ["kind", "p", "q", "c"] (spP K F__law_solved_right) := t__law_solved_right.cl (fun _ _ _ _ _ _ us hl => match us, hl with | [_, _, _, _], _ => rfl) (fun f fd F => ok__law_solved_right F c__law_divides c__law_divisor c_solved c__law_is_pair c__law_sum_of ck_solved)
  have c__law_pair_right : Cl P w K mg base 9 "_law_pair_right" ["pot", "kind"] (spD K F__law_pair_right) := t__law_pair_right.cl (fun _ _ _ _ _ _ us hl => match us, hl with | [_, _], _ => rfl) (fun f fd F => ok__law_pair_right F c__law_some c__law_divided_right c__law_whole_times c__law_divides c__law_same c_divides c__law_divisor_right c__law_take c__law_sum_of c__law_whole c__law_solved_right ck_divides m_max m_abs m_range)
  exact ok_law FL c__law_pair_right c__law_take m_list m_range
theorem law_pre {K : PySem.W.Frag} {H : Hp} {a : Addr} {ns : List Int} (hl : ns.length ≤ 63) (hS : SqL K H a (ns.map V.int)) : spP K F_law [.ref a] H (fun v _ => v = .bl true) (fun _ _ _ => False) :=
  ⟨[.lst (ns.map Dat.int)], fun d => d = .bl true, DTs.cons (.v (.lstS (LS.of hS) (dvs_ints ns))) DTs.nil, ⟨ns, rfl, hl, rfl⟩, fun d hd v H' _ h => by cases hd; cases h; rfl⟩
theorem law_done {P : Program} {w : World} {K : PySem.W.Frag} {h : Heap} {mg : Str → Option Value} {fa f C : Addr} (X : K.In h) (G : h.Ns mainGlobals mg) (hfa : mg "law" = some (.ref fa))
    (t_is_integer : Top K mg "is_integer" s_is_integer) (t_is_whole : Top K mg "is_whole" s_is_whole) (t_is_kind : Top K mg "is_kind" s_is_kind) (t_check_kind : Top K mg "check_kind" s_check_kind) (t_pair_sum : Top K mg "pair_sum" s_pair_sum) (t_pair_less : Top K mg "pair_less" s_pair_less) (t_pair_times : Top K mg "pair_times" s_pair_times) (t_pair_mate : Top K mg "pair_mate" s_pair_mate) (t_pair_norm : Top K mg "pair_norm" s_pair_norm) (t_quotient_of : Top K mg "quotient_of" s_quotient_of) (t_rest_by : Top K mg "rest_by" s_rest_by) (t_exact_by : Top K mg "exact_by" s_exact_by) (t__crossed : Top K mg "_crossed" s__crossed) (t__squares : Top K mg "_squares" s__squares) (t__smallest : Top K mg "_smallest" s__smallest) (t_check_whole : Top K mg "check_whole" s_check_whole) (t_divided : Top K mg "divided" s_divided) (t_divides : Top K mg "divides" s_divides) (t_common_divisor : Top K mg "common_divisor" s_common_divisor) (t_solved : Top K mg "solved" s_solved) (t__law_take : Top K mg "_law_take" s__law_take) (t__law_common : Top K mg "_law_common" s__law_common) (t__law_form : Top K mg "_law_form" s__law_form) (t__law_times : Top K mg "_law_times" s__law_times) (t__law_mate : Top K mg "_law_mate" s__law_mate) (t__law_by : Top K mg "_law_by" s__law_by) (t__law_same : Top K mg "_law_same" s__law_same) (t__law_whole_times : Top K mg "_law_whole_times" s__law_whole_times) (t__law_whole_by : Top K mg "_law_whole_by" s__law_whole_by) (t__law_norm : Top K mg "_law_norm" s__law_norm) (t__law_divisor : Top K mg "_law_divisor" s__law_divisor) (t__law_divides : Top K mg "_law_divides" s__law_divides) (t__law_whole : Top K mg "_law_whole" s__law_whole) (t__law_some : Top K mg "_law_some" s__law_some) (t__law_is_pair : Top K mg "_law_is_pair" s__law_is_pair) (t__law_sum_of : Top K mg "_law_sum_of" s__law_sum_of) (t__law_divided_right : Top K mg "_law_divided_right" s__law_divided_right) (t__law_divisor_right : Top K mg "_law_divisor_right" s__law_divisor_right) (t__law_solved_right : Top K mg "_law_solved_right" s__law_solved_right) (t__law_pair_right : Top K mg "_law_pair_right" s__law_pair_right) (m_isinstance : mg "isinstance" = none) (m_int : mg "int" = none) (m_bool : mg "bool" = none) (m_tuple : mg "tuple" = none) (m_len : mg "len" = none) (m_abs : mg "abs" = none) (m_range : mg "range" = none) (m_str : mg "str" = none) (m_list : mg "list" = none) (m_all : mg "all" = none) (m_max : mg "max" = none) (t_KINDS : KT K mg "KINDS" [.int 2, .int 3, .int 5]) (t_ZERO : KT K mg "ZERO" [.int 0, .int 0]) (t_ONE : KT K mg "ONE" [.int 1, .int 0]) (t_STEPS : ∀ (P : Program) (w : World), KDD P w K mg "STEPS" stD) (oc_Common : ObC K C ["kind", "change", "factors", "divisor"]) (g_Common : Kl K mg "Common" C) (mt_Common__less : MT K C "_less" "Common._less" s_Common__less) (mt_Common_solution : MT K C "solution" "Common.solution" s_Common_solution) (mt_Common___init__ : MT K C "__init__" "Common.__init__" s_Common___init__)
    {oc : Value} {od an : Option Addr} {osl : Array (Option Value)} {kV doc pm cdv ct : Value}
    (a : PySem.W.nsIn K mainGlobals "law" = some (some (.ref f))) (l : K.lookup f = some ⟨oc, od, .func (PySem.W.fnOf "law" "law" (defArgs s_law) (defBody s_law) (defScope s_law) .none kV doc pm an cdv ct), osl⟩) (c : PySem.W.codeIn K cdv "law" = true) (k : PySem.W.keepIn K (.ref f) = true) :
    ∃ fd : FuncData, (∀ (s : Shared) (v : Value), BindsTo s fd ⟨[v], []⟩ [("script", v)]) ∧ ∀ base : Heap, K.In base → base.Ns mainGlobals mg → FnOk P w K mg base CX0 10 fa fd ["script"] (spP K F_law) := by
  have e := hfa.symm.trans (PySem.W.mg_of X G a)
  cases e
  exact ⟨_, fun s v => .of_eq rfl, fun base _ _ => law_all t_is_integer t_is_whole t_is_kind t_check_kind t_pair_sum t_pair_less t_pair_times t_pair_mate t_pair_norm t_quotient_of t_rest_by t_exact_by t__crossed t__squares t__smallest t_check_whole t_divided t_divides t_common_divisor t_solved t__law_take t__law_common t__law_form t__law_times t__law_mate t__law_by t__law_same t__law_whole_times t__law_whole_by t__law_norm t__law_divisor t__law_divides t__law_whole t__law_some t__law_is_pair t__law_sum_of t__law_divided_right t__law_divisor_right t__law_solved_right t__law_pair_right m_isinstance m_int m_bool m_tuple m_len m_abs m_range m_str m_list m_all m_max t_KINDS t_ZERO t_ONE t_STEPS oc_Common g_Common mt_Common__less mt_Common_solution mt_Common___init__ (fun_mk (st := s_law) l c k)⟩
end Y75
set_option Elab.async false
set_option linter.all false
open PySem PySem.W PyProof.Rows
set_option maxRecDepth 100000 in
set_option maxHeartbeats 0 in
theorem PySem.Challenge.cw_wholefloors_k75_whole_numbers_divided_holds : PySem.Challenge.rw_wholefloors_k75_whole_numbers_divided.Holds := by
  w_on; o_law; k_head; (case hw => w_witness2)
  k_fill
  refine L2.walk_ofK (l := PySem.Challenge.rw_wholefloors_k75_whole_numbers_divided) (n := 63) (k := 10) (x := "script") (CX := L2.CX0) (sp := fun K => Wz.spP K Y75.F_law) rfl (by decide) rfl ⟨rfl, by decide, by decide⟩ (fun w h Y => PySem.W.kIn_of Y) ?F (fun K H a ns hl _ hS => Y75.law_pre hl hS) (fun _ _ _ _ h => h)
  case F =>
    intro w mg fa h KX G hmg
    have t_is_integer := by
      refine' Y75.top_mk (x := "is_integer") (st := Y75.s_is_integer) KX G ?a ?l ?c ?k
      (case a => k_is); (case l => k_is); (case c => k_is); (case k => k_is)
    have t_is_whole := by
      refine' Y75.top_mk (x := "is_whole") (st := Y75.s_is_whole) KX G ?a ?l ?c ?k
      (case a => k_is); (case l => k_is); (case c => k_is); (case k => k_is)
    have t_is_kind := by
      refine' Y75.top_mk (x := "is_kind") (st := Y75.s_is_kind) KX G ?a ?l ?c ?k
      (case a => k_is); (case l => k_is); (case c => k_is); (case k => k_is)
    have t_check_kind := by
      refine' Y75.top_mk (x := "check_kind") (st := Y75.s_check_kind) KX G ?a ?l ?c ?k
      (case a => k_is); (case l => k_is); (case c => k_is); (case k => k_is)
    have t_pair_sum := by
      refine' Y75.top_mk (x := "pair_sum") (st := Y75.s_pair_sum) KX G ?a ?l ?c ?k
      (case a => k_is); (case l => k_is); (case c => k_is); (case k => k_is)
    have t_pair_less := by
      refine' Y75.top_mk (x := "pair_less") (st := Y75.s_pair_less) KX G ?a ?l ?c ?k
      (case a => k_is); (case l => k_is); (case c => k_is); (case k => k_is)
    have t_pair_times := by
      refine' Y75.top_mk (x := "pair_times") (st := Y75.s_pair_times) KX G ?a ?l ?c ?k
      (case a => k_is); (case l => k_is); (case c => k_is); (case k => k_is)
    have t_pair_mate := by
      refine' Y75.top_mk (x := "pair_mate") (st := Y75.s_pair_mate) KX G ?a ?l ?c ?k
      (case a => k_is); (case l => k_is); (case c => k_is); (case k => k_is)
    have t_pair_norm := by
      refine' Y75.top_mk (x := "pair_norm") (st := Y75.s_pair_norm) KX G ?a ?l ?c ?k
      (case a => k_is); (case l => k_is); (case c => k_is); (case k => k_is)
    have t_quotient_of := by
      refine' Y75.top_mk (x := "quotient_of") (st := Y75.s_quotient_of) KX G ?a ?l ?c ?k
      (case a => k_is); (case l => k_is); (case c => k_is); (case k => k_is)
    have t_rest_by := by
      refine' Y75.top_mk (x := "rest_by") (st := Y75.s_rest_by) KX G ?a ?l ?c ?k
      (case a => k_is); (case l => k_is); (case c => k_is); (case k => k_is)
    have t_exact_by := by
      refine' Y75.top_mk (x := "exact_by") (st := Y75.s_exact_by) KX G ?a ?l ?c ?k
      (case a => k_is); (case l => k_is); (case c => k_is); (case k => k_is)
    have t__crossed := by
      refine' Y75.top_mk (x := "_crossed") (st := Y75.s__crossed) KX G ?a ?l ?c ?k
      (case a => k_is); (case l => k_is); (case c => k_is); (case k => k_is)
    have t__squares := by
      refine' Y75.top_mk (x := "_squares") (st := Y75.s__squares) KX G ?a ?l ?c ?k
      (case a => k_is); (case l => k_is); (case c => k_is); (case k => k_is)
    have t__smallest := by
      refine' Y75.top_mk (x := "_smallest") (st := Y75.s__smallest) KX G ?a ?l ?c ?k
      (case a => k_is); (case l => k_is); (case c => k_is); (case k => k_is)
    have t_check_whole := by
      refine' Y75.top_mk (x := "check_whole") (st := Y75.s_check_whole) KX G ?a ?l ?c ?k
      (case a => k_is); (case l => k_is); (case c => k_is); (case k => k_is)
    have t_divided := by
      refine' Y75.top_mk (x := "divided") (st := Y75.s_divided) KX G ?a ?l ?c ?k
      (case a => k_is); (case l => k_is); (case c => k_is); (case k => k_is)
    have t_divides := by
      refine' Y75.top_mk (x := "divides") (st := Y75.s_divides) KX G ?a ?l ?c ?k
      (case a => k_is); (case l => k_is); (case c => k_is); (case k => k_is)
    have t_common_divisor := by
      refine' Y75.top_mk (x := "common_divisor") (st := Y75.s_common_divisor) KX G ?a ?l ?c ?k
      (case a => k_is); (case l => k_is); (case c => k_is); (case k => k_is)
    have t_solved := by
      refine' Y75.top_mk (x := "solved") (st := Y75.s_solved) KX G ?a ?l ?c ?k
      (case a => k_is); (case l => k_is); (case c => k_is); (case k => k_is)
    have t__law_take := by
      refine' Y75.top_mk (x := "_law_take") (st := Y75.s__law_take) KX G ?a ?l ?c ?k
      (case a => k_is); (case l => k_is); (case c => k_is); (case k => k_is)
    have t__law_common := by
      refine' Y75.top_mk (x := "_law_common") (st := Y75.s__law_common) KX G ?a ?l ?c ?k
      (case a => k_is); (case l => k_is); (case c => k_is); (case k => k_is)
    have t__law_form := by
      refine' Y75.top_mk (x := "_law_form") (st := Y75.s__law_form) KX G ?a ?l ?c ?k
      (case a => k_is); (case l => k_is); (case c => k_is); (case k => k_is)
    have t__law_times := by
      refine' Y75.top_mk (x := "_law_times") (st := Y75.s__law_times) KX G ?a ?l ?c ?k
      (case a => k_is); (case l => k_is); (case c => k_is); (case k => k_is)
    have t__law_mate := by
      refine' Y75.top_mk (x := "_law_mate") (st := Y75.s__law_mate) KX G ?a ?l ?c ?k
      (case a => k_is); (case l => k_is); (case c => k_is); (case k => k_is)
    have t__law_by := by
      refine' Y75.top_mk (x := "_law_by") (st := Y75.s__law_by) KX G ?a ?l ?c ?k
      (case a => k_is); (case l => k_is); (case c => k_is); (case k => k_is)
    have t__law_same := by
      refine' Y75.top_mk (x := "_law_same") (st := Y75.s__law_same) KX G ?a ?l ?c ?k
      (case a => k_is); (case l => k_is); (case c => k_is); (case k => k_is)
    have t__law_whole_times := by
      refine' Y75.top_mk (x := "_law_whole_times") (st := Y75.s__law_whole_times) KX G ?a ?l ?c ?k
      (case a => k_is); (case l => k_is); (case c => k_is); (case k => k_is)
    have t__law_whole_by := by
      refine' Y75.top_mk (x := "_law_whole_by") (st := Y75.s__law_whole_by) KX G ?a ?l ?c ?k
      (case a => k_is); (case l => k_is); (case c => k_is); (case k => k_is)
    have t__law_norm := by
      refine' Y75.top_mk (x := "_law_norm") (st := Y75.s__law_norm) KX G ?a ?l ?c ?k
      (case a => k_is); (case l => k_is); (case c => k_is); (case k => k_is)
    have t__law_divisor := by
      refine' Y75.top_mk (x := "_law_divisor") (st := Y75.s__law_divisor) KX G ?a ?l ?c ?k
      (case a => k_is); (case l => k_is); (case c => k_is); (case k => k_is)
    have t__law_divides := by
      refine' Y75.top_mk (x := "_law_divides") (st := Y75.s__law_divides) KX G ?a ?l ?c ?k
      (case a => k_is); (case l => k_is); (case c => k_is); (case k => k_is)
    have t__law_whole := by
      refine' Y75.top_mk (x := "_law_whole") (st := Y75.s__law_whole) KX G ?a ?l ?c ?k
      (case a => k_is); (case l => k_is); (case c => k_is); (case k => k_is)
    have t__law_some := by
      refine' Y75.top_mk (x := "_law_some") (st := Y75.s__law_some) KX G ?a ?l ?c ?k
      (case a => k_is); (case l => k_is); (case c => k_is); (case k => k_is)
    have t__law_is_pair := by
      refine' Y75.top_mk (x := "_law_is_pair") (st := Y75.s__law_is_pair) KX G ?a ?l ?c ?k
      (case a => k_is); (case l => k_is); (case c => k_is); (case k => k_is)
    have t__law_sum_of := by
      refine' Y75.top_mk (x := "_law_sum_of") (st := Y75.s__law_sum_of) KX G ?a ?l ?c ?k
      (case a => k_is); (case l => k_is); (case c => k_is); (case k => k_is)
    have t__law_divided_right := by
      refine' Y75.top_mk (x := "_law_divided_right") (st := Y75.s__law_divided_right) KX G ?a ?l ?c ?k
      (case a => k_is); (case l => k_is); (case c => k_is); (case k => k_is)
    have t__law_divisor_right := by
      refine' Y75.top_mk (x := "_law_divisor_right") (st := Y75.s__law_divisor_right) KX G ?a ?l ?c ?k
      (case a => k_is); (case l => k_is); (case c => k_is); (case k => k_is)
    have t__law_solved_right := by
      refine' Y75.top_mk (x := "_law_solved_right") (st := Y75.s__law_solved_right) KX G ?a ?l ?c ?k
      (case a => k_is); (case l => k_is); (case c => k_is); (case k => k_is)
    have t__law_pair_right := by
      refine' Y75.top_mk (x := "_law_pair_right") (st := Y75.s__law_pair_right) KX G ?a ?l ?c ?k
      (case a => k_is); (case l => k_is); (case c => k_is); (case k => k_is)
    have m_isinstance := by
      refine' PySem.W.mg_none_of (n := "isinstance") KX G ?a
      (case a => k_is)
    have m_int := by
      refine' PySem.W.mg_none_of (n := "int") KX G ?a
      (case a => k_is)
    have m_bool := by
      refine' PySem.W.mg_none_of (n := "bool") KX G ?a
      (case a => k_is)
    have m_tuple := by
      refine' PySem.W.mg_none_of (n := "tuple") KX G ?a
      (case a => k_is)
    have m_len := by
      refine' PySem.W.mg_none_of (n := "len") KX G ?a
      (case a => k_is)
    have m_abs := by
      refine' PySem.W.mg_none_of (n := "abs") KX G ?a
      (case a => k_is)
    have m_range := by
      refine' PySem.W.mg_none_of (n := "range") KX G ?a
      (case a => k_is)
    have m_str := by
      refine' PySem.W.mg_none_of (n := "str") KX G ?a
      (case a => k_is)
    have m_list := by
      refine' PySem.W.mg_none_of (n := "list") KX G ?a
      (case a => k_is)
    have m_all := by
      refine' PySem.W.mg_none_of (n := "all") KX G ?a
      (case a => k_is)
    have m_max := by
      refine' PySem.W.mg_none_of (n := "max") KX G ?a
      (case a => k_is)
    have t_KINDS := by
      refine' Y75.kt_mk (x := "KINDS") KX G ?a ?l
      (case a => k_is); (case l => k_is)
    have t_ZERO := by
      refine' Y75.kt_mk2 (x := "ZERO") KX G ?a ?l
      (case a => k_is); (case l => k_is)
    have t_ONE := by
      refine' Y75.kt_mk2 (x := "ONE") KX G ?a ?l
      (case a => k_is); (case l => k_is)
    have t_STEPS := by
      refine' Y75.kdd_mk (x := "STEPS") (f := Y75.stD) KX G ?a ?l ?l2 ?l3 ?l5 ?k2 ?j2 ?k3 ?j3 ?k5 ?j5 ?hh ?hf
      (case a => k_is); (case l => k_is); (case l2 => k_is); (case l3 => k_is); (case l5 => k_is); (case k2 => k_is); (case j2 => k_is); (case k3 => k_is); (case j3 => k_is); (case k5 => k_is); (case j5 => k_is); (case hh => exact ⟨rfl, rfl, rfl⟩); (case hf => exact ⟨rfl, rfl, rfl⟩)
    have g_Common := by
      refine' Y75.kl_mk (x := "Common") KX G ?a ?m ?k
      (case a => k_is); (case m => k_is); (case k => k_is)
    have oc_Common := by
      refine' Y75.oc_mk g_Common ?pg ?hd ?po ?sa ?n0 ?n1 ?n2 ?n3
      (case pg => k_is); (case hd => k_is); (case po => k_is); (case sa => k_is); (case n0 => k_is); (case n1 => k_is); (case n2 => k_is); (case n3 => k_is)
    have mt_Common__less := by
      refine' Y75.mt_mk (m := "_less") (qual := "Common._less") (st := Y75.s_Common__less) g_Common ?a ?i ?l ?c ?k
      (case a => k_is); (case i => k_is); (case l => k_is); (case c => k_is); (case k => k_is)
    have mt_Common_solution := by
      refine' Y75.mt_mk (m := "solution") (qual := "Common.solution") (st := Y75.s_Common_solution) g_Common ?a ?i ?l ?c ?k
      (case a => k_is); (case i => k_is); (case l => k_is); (case c => k_is); (case k => k_is)
    have mt_Common___init__ := by
      refine' Y75.mt_mk (m := "__init__") (qual := "Common.__init__") (st := Y75.s_Common___init__) g_Common ?a ?i ?l ?c ?k
      (case a => k_is); (case i => k_is); (case l => k_is); (case c => k_is); (case k => k_is)
    refine' Y75.law_done KX G hmg t_is_integer t_is_whole t_is_kind t_check_kind t_pair_sum t_pair_less t_pair_times t_pair_mate t_pair_norm t_quotient_of t_rest_by t_exact_by t__crossed t__squares t__smallest t_check_whole t_divided t_divides t_common_divisor t_solved t__law_take t__law_common t__law_form t__law_times t__law_mate t__law_by t__law_same t__law_whole_times t__law_whole_by t__law_norm t__law_divisor t__law_divides t__law_whole t__law_some t__law_is_pair t__law_sum_of t__law_divided_right t__law_divisor_right t__law_solved_right t__law_pair_right m_isinstance m_int m_bool m_tuple m_len m_abs m_range m_str m_list m_all m_max t_KINDS t_ZERO t_ONE t_STEPS oc_Common g_Common mt_Common__less mt_Common_solution mt_Common___init__ ?a ?l2 ?c2 ?k2
    (case a => k_is); (case l2 => k_is); (case c2 => k_is); (case k2 => k_is)

