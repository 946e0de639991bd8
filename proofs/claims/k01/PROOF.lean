import PyProof.Rows.All
import Wide.All
import OpenK.AllK
import Wide.FinOn
import PyProof.EqAt
import PyProof.EqKinds
import PyProof.TupleCall
import PyProof.NoPylong
import PyProof.Fits
import HandS.ForMost
import HandS.ForExc
import HandS.Wide
import HandS.Gcd
import HandS.ExcInit
import HandS.ExcField
import HandS.TryMany
import HandS.IsInst
import HandS.Flow
import HandS.Evl
import KE.KMathG
import HandS.Style
import HandS.ExcIs
import PySem.Challenge.RW_wholefloors_k01_whole_numbers
set_option Elab.async false
set_option linter.all false
set_option maxRecDepth 100000
set_option maxHeartbeats 4000000
/-! Ly: what a piece of a def does, by the data that its names hold; one list of two ints (a deck) may be written. -/
namespace Wf
open PySem PySem.Spec PyProof.Rows L2 Evl

/-! ### the least that is asked -/
def WE (X : Cx) (e : Expr) (st : L2.St) (H : Hp) (Q : VK) : Prop :=
  ∀ (pins : List (Addr × Obj)) (s : Shared), Inv X pins st H s → wpAny (model X.prog X.w) X.A (eval e X.env) (EP X pins st Q) X.xe s
def WT (X : Cx) (e : Expr) (st : L2.St) (H : Hp) (Q : Bool → Hp → Prop) : Prop :=
  ∀ (pins : List (Addr × Obj)) (s : Shared), Inv X pins st H s → wpAny (model X.prog X.w) X.A (isTrue e X.env (eval e X.env)) (TP X pins st Q) X.xe s
def WW (X : Cx) (e : Expr) (st : L2.St) (H : Hp) (Q : Bool → Hp → Prop) : Prop :=
  ∀ (wh : Sem Value) (pins : List (Addr × Obj)) (s : Shared), Inv X pins st H s → wpAny (model X.prog X.w) X.A (isTrue e X.env wh) (TP X pins st Q) X.xe s
def WA (X : Cx) (es : List Expr) (st : L2.St) (H : Hp) (Q : List V → Hp → Prop) : Prop :=
  ∀ (pos : Pos) (pins : List (Addr × Obj)) (s : Shared), Inv X pins st H s → wpAny (model X.prog X.w) X.A (spliced (backTo pos (starEach es X.env))) (AP X pins st Q) X.xe s
def WK (X : Cx) (ks : List Keyword) (st : L2.St) (H : Hp) (Q : List V → Hp → Prop) : Prop :=
  ∀ (pos : Pos) (pins : List (Addr × Obj)) (s : Shared), Inv X pins st H s → wpAny (model X.prog X.w) X.A (evalAll ((backToKw pos (keywordEach ks X.env)).map (·.2))) (AP X pins st Q) X.xe s
def WS (X : Cx) (e : Stmt) (D : Ends) (st : L2.St) (H : Hp) : Prop :=
  ∀ (pins : List (Addr × Obj)) (s : Shared), Inv X pins st H s → wpAny (model X.prog X.w) X.A (exec e X.env) (SP X pins D) X.xe s
def WB (X : Cx) (es : List Stmt) (D : Ends) (st : L2.St) (H : Hp) : Prop :=
  ∀ (pins : List (Addr × Obj)) (s : Shared), Inv X pins st H s → wpAny (model X.prog X.w) X.A (execs es X.env) (SP X pins D) X.xe s
section
variable {X : Cx}
theorem pe_w {e : Expr} : PE X e (WE X e) := ⟨fun pins s _ _ _ I h => h pins s I⟩
theorem pt_w {e : Expr} : PT X e (WT X e) := ⟨fun pins s _ _ _ I h => h pins s I⟩
theorem pw_w {e : Expr} : PW X e (WW X e) := ⟨fun wh pins s _ _ _ I h => h wh pins s I⟩
theorem pa_w {es : List Expr} : PA X es (WA X es) := ⟨fun pos pins s _ _ _ I h => h pos pins s I⟩
theorem pk_w {es : List Keyword} : PK X es (WK X es) := ⟨fun pos pins s _ _ _ I h => h pos pins s I⟩
theorem ps_w {e : Stmt} : PS X e (WS X e) := ⟨fun pins s _ _ _ I h => h pins s I⟩
theorem pss_w {es : List Stmt} : PSs X es (WB X es) := ⟨fun pins s _ _ _ I h => h pins s I⟩
theorem we {e : Expr} {t : TE} (h : PE X e t) {st : L2.St} {H : Hp} {Q : VK} (q : t st H Q) : WE X e st H Q := fun pins s I => h.run pins s st H Q I q
theorem wt {e : Expr} {t : TT} (h : PT X e t) {st : L2.St} {H : Hp} {Q : Bool → Hp → Prop} (q : t st H Q) : WT X e st H Q := fun pins s I => h.run pins s st H Q I q
theorem ww {e : Expr} {t : TT} (h : PW X e t) {st : L2.St} {H : Hp} {Q : Bool → Hp → Prop} (q : t st H Q) : WW X e st H Q := fun wh pins s I => h.run wh pins s st H Q I q
theorem wa {es : List Expr} {t : TA} (h : PA X es t) {st : L2.St} {H : Hp} {Q : List V → Hp → Prop} (q : t st H Q) : WA X es st H Q := fun pos pins s I => h.run pos pins s st H Q I q
theorem wk {es : List Keyword} {t : TA} (h : PK X es t) {st : L2.St} {H : Hp} {Q : List V → Hp → Prop} (q : t st H Q) : WK X es st H Q := fun pos pins s I => h.run pos pins s st H Q I q
theorem wss {e : Stmt} {t : TS} (h : PS X e t) {st : L2.St} {H : Hp} {D : Ends} (q : t D st H) : WS X e D st H := fun pins s I => h.run pins s st H D I q
theorem wb {es : List Stmt} {t : TS} (h : PSs X es t) {st : L2.St} {H : Hp} {D : Ends} (q : t D st H) : WB X es D st H := fun pins s I => h.run pins s st H D I q
end

/-! ### data -/
inductive Dat where
  | non | bl (b : Bool) | int (i : Int) | str (x : Str) | tup (xs : List Dat) | lst (xs : List Dat) | trk (xs : List Dat) | raw (v : V)

/-- all but what stands at o is kept -/
def Kp (o : Option Addr) (H H' : Hp) : Prop := ∀ b u, some b ≠ o → H b = some u → H' b = some u
theorem Kp.refl (o : Option Addr) (H : Hp) : Kp o H H := fun _ _ _ h => h
theorem Kp.trans {o : Option Addr} {H H1 H2 : Hp} (a : Kp o H H1) (b : Kp o H1 H2) : Kp o H H2 := fun x u n h => b x u n (a x u n h)
theorem Kp.of_ex {o : Option Addr} {H H1 : Hp} (a : Ex H H1) : Kp o H H1 := fun x u _ h => a x u h
theorem Kp.ex {H H1 : Hp} (a : Kp none H H1) : Ex H H1 := fun x u h => a x u (fun z => by cases z) h
/-- the deck -/
def DK (o : Option Addr) (k : Int × Int) (H : Hp) : Prop := match o with
  | none => True
  | some a => H a = some (.lst [.int k.1, .int k.2])
theorem DK.ex {o : Option Addr} {k : Int × Int} {H H' : Hp} (h : DK o k H) (e : Ex H H') : DK o k H' := by
  cases o with
  | none => trivial
  | some a => exact e a _ h

/-- v is d, of what stands in H; no list of it is the deck -/
inductive DT (K : PySem.W.Frag) (o : Option Addr) (H : Hp) : V → Dat → Prop
  | non : DT K o H .non .non
  | bl (b : Bool) : DT K o H (.bl b) (.bl b)
  | int (i : Int) : DT K o H (.int i) (.int i)
  | str (x : Str) : DT K o H (.str x) (.str x)
  | tup {a : Addr} {xs : List V} {ds : List Dat} : SqT K H a xs → xs.length = ds.length → (∀ (i : Nat) (v : V) (d : Dat), xs[i]? = some v → ds[i]? = some d → DT K o H v d) → DT K o H (.ref a) (.tup ds)
  | lst {a : Addr} {xs : List V} {ds : List Dat} : SqL K H a xs → some a ≠ o → xs.length = ds.length → (∀ (i : Nat) (v : V) (d : Dat), xs[i]? = some v → ds[i]? = some d → DT K o H v d) → DT K o H (.ref a) (.lst ds)
  | trk {a : Addr} {xs : List V} {ds : List Dat} : H a = some (.lst xs) → some a ≠ o → xs.length = ds.length → (∀ (i : Nat) (v : V) (d : Dat), xs[i]? = some v → ds[i]? = some d → DT K o H v d) → DT K o H (.ref a) (.trk ds)
  | raw (v : V) : DT K o H v (.raw v)
def DTs (K : PySem.W.Frag) (o : Option Addr) (H : Hp) (vs : List V) (ds : List Dat) : Prop := vs.length = ds.length ∧ ∀ (i : Nat) (v : V) (d : Dat), vs[i]? = some v → ds[i]? = some d → DT K o H v d
theorem kp_rd {o : Option Addr} {H H' : Hp} {a : Addr} {u : HO} (e : Kp o H H') (n : some a ≠ o) (h : Rd H a u) : Rd H' a u := by
  rcases h with h | ⟨ob, h⟩
  · exact Or.inl (e a _ n h)
  · exact Or.inr ⟨ob, e a _ n h⟩
theorem kp_l {K : PySem.W.Frag} {o : Option Addr} {H H' : Hp} {a : Addr} {xs : List V} (e : Kp o H H') (n : some a ≠ o) (h : SqL K H a xs) : SqL K H' a xs := by
  rcases h with h | h
  · exact Or.inl (kp_rd e n h)
  · exact Or.inr h
/-- what stands at a tuple's address is no deck -/
theorem dk_tup {o : Option Addr} {k : Int × Int} {H : Hp} {a : Addr} {xs : List V} (h : DK o k H) (r : Rd H a (.tup xs)) : some a ≠ o := by
  cases o with
  | none => intro z; cases z
  | some b =>
    intro z
    cases z
    have h' : H a = some (.lst [.int k.1, .int k.2]) := h
    rcases r with r | ⟨ob, r⟩
    · rw [h'] at r
      cases r
    · rw [h'] at r
      cases r
theorem kp_t {K : PySem.W.Frag} {o : Option Addr} {k : Int × Int} {H H' : Hp} {a : Addr} {xs : List V} (e : Kp o H H') (h0 : DK o k H) (h : SqT K H a xs) : SqT K H' a xs := by
  rcases h with h | h
  · exact Or.inl (kp_rd e (dk_tup h0 h) h)
  · exact Or.inr h
theorem DT.kp {K : PySem.W.Frag} {o : Option Addr} {k : Int × Int} {H H' : Hp} (e : Kp o H H') (h0 : DK o k H) {v : V} {d : Dat} (h : DT K o H v d) : DT K o H' v d := by
  induction h with
  | non => exact .non
  | bl b => exact .bl b
  | int i => exact .int i
  | str x => exact .str x
  | tup s l _ ih => exact .tup (kp_t e h0 s) l ih
  | lst s n l _ ih => exact .lst (kp_l e n s) n l ih
  | trk s n l _ ih => exact .trk (e _ _ n s) n l ih
  | raw v => exact .raw v
theorem DTs.kp {K : PySem.W.Frag} {o : Option Addr} {k : Int × Int} {H H' : Hp} (e : Kp o H H') (h0 : DK o k H) {vs : List V} {ds : List Dat} (h : DTs K o H vs ds) : DTs K o H' vs ds :=
  ⟨h.1, fun i v d a b => (h.2 i v d a b).kp e h0⟩
/-- no deck: nothing is asked -/
theorem DT.free {K : PySem.W.Frag} {o : Option Addr} {H : Hp} {v : V} {d : Dat} (h : DT K o H v d) : DT K none H v d := by
  induction h with
  | non => exact .non
  | bl b => exact .bl b
  | int i => exact .int i
  | str x => exact .str x
  | tup s l _ ih => exact .tup s l ih
  | lst s n l _ ih => exact .lst s (fun z => by cases z) l ih
  | trk s n l _ ih => exact .trk s (fun z => by cases z) l ih
  | raw v => exact .raw v
theorem DTs.free {K : PySem.W.Frag} {o : Option Addr} {H : Hp} {vs : List V} {ds : List Dat} (h : DTs K o H vs ds) : DTs K none H vs ds :=
  ⟨h.1, fun i v d a b => (h.2 i v d a b).free⟩
/-- there is no list in it -/
inductive NoL : Dat → Prop
  | non : NoL .non
  | bl (b : Bool) : NoL (.bl b)
  | int (i : Int) : NoL (.int i)
  | str (x : Str) : NoL (.str x)
  | tup {ds : List Dat} : (∀ (i : Nat) (d : Dat), ds[i]? = some d → NoL d) → NoL (.tup ds)
theorem DT.back {K : PySem.W.Frag} {o : Option Addr} {H : Hp} {d : Dat} (n : NoL d) : ∀ {v : V}, DT K none H v d → DT K o H v d := by
  induction n with
  | non => intro v h; cases h; exact .non
  | bl b => intro v h; cases h; exact .bl b
  | int i => intro v h; cases h; exact .int i
  | str x => intro v h; cases h; exact .str x
  | tup _ ih =>
    intro v h
    cases h with
    | tup s l r => exact .tup s l fun i v d a b => ih i d b (r i v d a b)
theorem DTs.length {K : PySem.W.Frag} {o : Option Addr} {H : Hp} {vs : List V} {ds : List Dat} (h : DTs K o H vs ds) : vs.length = ds.length := h.1
theorem DTs.at {K : PySem.W.Frag} {o : Option Addr} {H : Hp} {vs : List V} {ds : List Dat} {i : Nat} {d : Dat} (h : DTs K o H vs ds) (e : ds[i]? = some d) : ∃ v, vs[i]? = some v ∧ DT K o H v d := by
  have hi : i < ds.length := (List.getElem?_eq_some_iff.mp e).1
  have hv : vs[i]? = some (vs[i]'(by rw [h.1]; exact hi)) := List.getElem?_eq_getElem _
  exact ⟨_, hv, h.2 i _ d hv e⟩
theorem DTs.nil {K : PySem.W.Frag} {o : Option Addr} {H : Hp} : DTs K o H [] [] := ⟨rfl, fun i v d a _ => by simp at a⟩
theorem DTs.cons {K : PySem.W.Frag} {o : Option Addr} {H : Hp} {v : V} {d : Dat} {vs : List V} {ds : List Dat} (h : DT K o H v d) (r : DTs K o H vs ds) : DTs K o H (v :: vs) (d :: ds) :=
  ⟨congrArg Nat.succ r.1, fun i => match i with
    | 0 => fun w e a b => by simp at a b; subst a b; exact h
    | i + 1 => fun w e a b => r.2 i w e (by simpa using a) (by simpa using b)⟩
theorem DT.tup' {K : PySem.W.Frag} {o : Option Addr} {H : Hp} {a : Addr} {xs : List V} {ds : List Dat} (s : SqT K H a xs) (r : DTs K o H xs ds) : DT K o H (.ref a) (.tup ds) := .tup s r.1 r.2
theorem DT.lst' {K : PySem.W.Frag} {o : Option Addr} {H : Hp} {a : Addr} {xs : List V} {ds : List Dat} (s : SqL K H a xs) (n : some a ≠ o) (r : DTs K o H xs ds) : DT K o H (.ref a) (.lst ds) := .lst s n r.1 r.2
theorem DT.untrk {K : PySem.W.Frag} {o : Option Addr} {H : Hp} {v : V} {ds : List Dat} (h : DT K o H v (.trk ds)) : ∃ a xs, v = .ref a ∧ H a = some (.lst xs) ∧ some a ≠ o ∧ DTs K o H xs ds := by
  cases h with
  | trk s n l r => exact ⟨_, _, rfl, s, n, l, r⟩
theorem DT.untup {K : PySem.W.Frag} {o : Option Addr} {H : Hp} {v : V} {ds : List Dat} (h : DT K o H v (.tup ds)) : ∃ a xs, v = .ref a ∧ SqT K H a xs ∧ DTs K o H xs ds := by
  cases h with
  | tup s l r => exact ⟨_, _, rfl, s, l, r⟩
theorem DT.unlst {K : PySem.W.Frag} {o : Option Addr} {H : Hp} {v : V} {ds : List Dat} (h : DT K o H v (.lst ds)) : ∃ a xs, v = .ref a ∧ SqL K H a xs ∧ some a ≠ o ∧ DTs K o H xs ds := by
  cases h with
  | lst s n l r => exact ⟨_, _, rfl, s, n, l, r⟩

/-- the names hold ds (none: not told) -/
def Sat (K : PySem.W.Frag) (o : Option Addr) (st : L2.St) (H : Hp) (ds : List (Option Dat)) : Prop :=
  st.length = ds.length ∧ ∀ (i : Nat) (d : Dat), ds[i]? = some (some d) → ∃ v, st[i]? = some (some v) ∧ DT K o H v d
theorem Sat.kp {K : PySem.W.Frag} {o : Option Addr} {k : Int × Int} {H H' : Hp} {st : L2.St} {ds : List (Option Dat)} (h : Sat K o st H ds) (e : Kp o H H') (h0 : DK o k H) : Sat K o st H' ds :=
  ⟨h.1, fun i d hd => let ⟨v, a, b⟩ := h.2 i d hd; ⟨v, a, b.kp e h0⟩⟩
theorem Sat.set {K : PySem.W.Frag} {o : Option Addr} {H : Hp} {st : L2.St} {ds : List (Option Dat)} (h : Sat K o st H ds) {i : Nat} {v : V} {d : Dat} (hv : DT K o H v d) : Sat K o (st.set i (some v)) H (ds.set i (some d)) := by
  refine ⟨by rw [List.length_set, List.length_set]; exact h.1, fun j e he => ?_⟩
  by_cases hj : i = j
  · subst hj
    rw [List.getElem?_set] at he
    rw [if_pos rfl] at he
    by_cases hl : i < ds.length
    · rw [if_pos hl] at he
      cases he
      refine ⟨v, ?_, hv⟩
      rw [List.getElem?_set_self (by rw [h.1]; exact hl)]
    · rw [if_neg hl] at he
      cases he
  · rw [List.getElem?_set_ne hj] at he
    obtain ⟨w, a, b⟩ := h.2 j e he
    exact ⟨w, by rw [List.getElem?_set_ne hj]; exact a, b⟩
/-- knowing less -/
theorem Sat.weak {K : PySem.W.Frag} {o : Option Addr} {H : Hp} {st : L2.St} {ds es : List (Option Dat)} (h : Sat K o st H ds) (hl : es.length = ds.length) (w : ∀ (i : Nat) (d : Dat), es[i]? = some (some d) → ds[i]? = some (some d)) : Sat K o st H es :=
  ⟨h.1.trans hl.symm, fun i d hd => h.2 i d (w i d hd)⟩

/-! ### what an expression gives -/
def Ev (X : Cx) (o : Option Addr) (e : Expr) (ds : List (Option Dat)) (k : Int × Int) (d : Dat) (k' : Int × Int) : Prop :=
  ∀ st H Q, Sat X.K o st H ds → DK o k H → (∀ v H', Kp o H H' → DK o k' H' → DT X.K o H' v d → Q v H') → WE X e st H Q
def EvT (X : Cx) (o : Option Addr) (e : Expr) (ds : List (Option Dat)) (k : Int × Int) (b : Bool) (k' : Int × Int) : Prop :=
  ∀ st H Q, Sat X.K o st H ds → DK o k H → (∀ H', Kp o H H' → DK o k' H' → Q b H') → WT X e st H Q
def EvW (X : Cx) (o : Option Addr) (e : Expr) (ds : List (Option Dat)) (k : Int × Int) (b : Bool) (k' : Int × Int) : Prop :=
  ∀ st H Q, Sat X.K o st H ds → DK o k H → (∀ H', Kp o H H' → DK o k' H' → Q b H') → WW X e st H Q
def EvA (X : Cx) (o : Option Addr) (es : List Expr) (ds : List (Option Dat)) (k : Int × Int) (as : List Dat) (k' : Int × Int) : Prop :=
  ∀ st H Q, Sat X.K o st H ds → DK o k H → (∀ vs H', Kp o H H' → DK o k' H' → DTs X.K o H' vs as → Q vs H') → WA X es st H Q
def EvKw (X : Cx) (o : Option Addr) (es : List Keyword) (ds : List (Option Dat)) (k : Int × Int) (as : List Dat) (k' : Int × Int) : Prop :=
  ∀ st H Q, Sat X.K o st H ds → DK o k H → (∀ vs H', Kp o H H' → DK o k' H' → DTs X.K o H' vs as → Q vs H') → WK X es st H Q
section
variable {X : Cx} {o : Option Addr} {ds : List (Option Dat)} {k k1 k2 k3 : Int × Int} {e a b c : Expr} {es : List Expr} {d d1 d2 : Dat} {as : List Dat} {pos : Pos}
theorem ev_name {i : Nat} {x : Str} (h : ds[i]? = some (some d)) (hN : X.N[i]? = some x) (hv : Vis X.env.scope x) (hd : (x == ("__debug__" : Str)) = false := by decide) (hcd : (x == ("__classdict__" : Str)) = false := by decide) : Ev X o (.Name x pos) ds k d k := by
  intro st H Q S hk q
  obtain ⟨v, h1, h2⟩ := S.2 i d h
  exact we (pe_var hN hv hd hcd) ⟨v, h1, q v H (Kp.refl _ _) hk h2⟩
theorem ev_int {i : Int} {j} : Ev X o (.Constant (.int i) j pos) ds k (.int i) k := fun _ H _ _ hk q => we pe_int (q _ H (Kp.refl _ _) hk (.int _))
theorem ev_bl {i : Bool} {j} : Ev X o (.Constant (.bool i) j pos) ds k (.bl i) k := fun _ H _ _ hk q => we pe_bl (q _ H (Kp.refl _ _) hk (.bl _))
theorem ev_non {j} : Ev X o (.Constant .none j pos) ds k .non k := fun _ H _ _ hk q => we pe_non (q _ H (Kp.refl _ _) hk .non)
theorem ev_str {x : Str} {j} : Ev X o (.Constant (.str x) j pos) ds k (.str x) k := fun _ H _ _ hk q => we pe_str (q _ H (Kp.refl _ _) hk (.str _))
/-- two ints -/
theorem two {Q : V → V → Hp → Prop} {i j : Int} (ha : Ev X o a ds k (.int i) k1) (hb : Ev X o b ds k1 (.int j) k2) {st : L2.St} {H : Hp} (S : Sat X.K o st H ds) (hk : DK o k H)
    (q : ∀ H', Kp o H H' → DK o k2 H' → Q (.int i) (.int j) H') : WE X a st H fun x H1 => WE X b st H1 fun y H2 => Q x y H2 :=
  ha st H _ S hk fun x H1 e1 hk1 h1 => hb st H1 _ (S.kp e1 hk) hk1 fun y H2 e2 hk2 h2 => by
    cases h1
    cases h2
    exact q H2 (e1.trans e2) hk2
theorem ev_opI {op : Operator} {C : Int → Int → Prop} {g : Int → Int → V} {i j : Int} {z : Dat} (ho : OpR X (binaryOp op) (rI C g)) (hc : C i j) (hz : ∀ H, DT X.K o H (g i j) z) (ha : Ev X o a ds k (.int i) k1) (hb : Ev X o b ds k1 (.int j) k2) :
    Ev X o (.BinOp a op b pos) ds k z k2 := fun st H Q S hk q =>
  we (pe_op ho pe_w pe_w) (two ha hb S hk (Q := fun x y H2 => rI C g x y H2 Q) fun H' e' hk' => ⟨i, j, rfl, rfl, hc, q _ H' e' hk' (hz _)⟩)
theorem ev_opI0 {op : Operator} {g : Int → Int → V} {i j : Int} {z : Dat} (ho : OpR X (binaryOp op) (rI0 g)) (hz : ∀ H, DT X.K o H (g i j) z) (ha : Ev X o a ds k (.int i) k1) (hb : Ev X o b ds k1 (.int j) k2) :
    Ev X o (.BinOp a op b pos) ds k z k2 := fun st H Q S hk q =>
  we (pe_op ho pe_w pe_w) (two ha hb S hk (Q := fun x y H2 => rI0 g x y H2 Q) fun H' e' hk' => ⟨i, j, rfl, rfl, q _ H' e' hk' (hz _)⟩)
theorem ev_add {i j : Int} (ha : Ev X o a ds k (.int i) k1) (hb : Ev X o b ds k1 (.int j) k2) : Ev X o (.BinOp a .Add b pos) ds k (.int (i + j)) k2 := ev_opI0 op_add (fun _ => .int _) ha hb
theorem ev_sub {i j : Int} (ha : Ev X o a ds k (.int i) k1) (hb : Ev X o b ds k1 (.int j) k2) : Ev X o (.BinOp a .Sub b pos) ds k (.int (i - j)) k2 := ev_opI0 op_sub (fun _ => .int _) ha hb
theorem ev_mul {i j : Int} (ha : Ev X o a ds k (.int i) k1) (hb : Ev X o b ds k1 (.int j) k2) (hc : CMulW i j) : Ev X o (.BinOp a .Mult b pos) ds k (.int (i * j)) k2 := ev_opI op_mulW hc (fun _ => .int _) ha hb
theorem ev_mod {i j : Int} (ha : Ev X o a ds k (.int i) k1) (hb : Ev X o b ds k1 (.int j) k2) (hc : 0 < j) : Ev X o (.BinOp a .Mod b pos) ds k (.int (i % j)) k2 := ev_opI op_mod hc (fun _ => .int _) ha hb
theorem ev_fdiv {i j : Int} (ha : Ev X o a ds k (.int i) k1) (hb : Ev X o b ds k1 (.int j) k2) (hc : CDivW i j) : Ev X o (.BinOp a .FloorDiv b pos) ds k (.int (i / j)) k2 := ev_opI op_fdivW hc (fun _ => .int _) ha hb
/-- // by any divisor but 0 below 2 ^ 9000 -/
def CDivX (_ j : Int) : Prop := j ≠ 0 ∧ j.natAbs.log2 < 9000
theorem op_fdivX : OpR X (binaryOp .FloorDiv) (rI CDivX fun i j => .int (i.fdiv j)) := opI fun i j _ _ _ _ _ hc q => floordiv_int hc.1 q (.inl (PyProof.noPylong_of_log2 hc.2))
theorem ev_fdivX {i j : Int} (ha : Ev X o a ds k (.int i) k1) (hb : Ev X o b ds k1 (.int j) k2) (hc : CDivX i j) : Ev X o (.BinOp a .FloorDiv b pos) ds k (.int (i.fdiv j)) k2 := ev_opI op_fdivX hc (fun _ => .int _) ha hb
theorem ev_un {op : UnaryOp} {r : V → Hp → VK → Prop} {v : V → Prop} {z : Dat} (ho : UnR X (unaryOp op) r) (ha : Ev X o a ds k d k1) (hr : ∀ x H Q, DT X.K o H x d → (∀ y, DT X.K o H y z → Q y H) → r x H Q) : Ev X o (.UnaryOp op a pos) ds k z k1 := fun st H Q S hk q =>
  we (pe_un ho pe_w) (ha st H _ S hk fun x H1 e1 hk1 h1 => hr x H1 Q h1 fun y hy => q y H1 e1 hk1 hy)
theorem ev_neg {i : Int} (ha : Ev X o a ds k (.int i) k1) : Ev X o (.UnaryOp .USub a pos) ds k (.int (-i)) k1 := fun st H Q S hk q =>
  we (pe_un un_neg pe_w) (ha st H _ S hk fun x H1 e1 hk1 h1 => by
    cases h1
    exact ⟨i, rfl, q _ H1 e1 hk1 (.int _)⟩)
/-- comparisons of ints -/
theorem ev_cmpI {op : CmpOp} {g : Int → Int → Bool} {i j : Int} (ho : OpR X (compareOp op) (rI0 fun i j => .bl (g i j))) (hm : behindInMarks op b = false) (ha : Ev X o a ds k (.int i) k1) (hb : Ev X o b ds k1 (.int j) k2) :
    Ev X o (.Compare a [op] [b] pos) ds k (.bl (g i j)) k2 := fun st H Q S hk q =>
  we (pe_cmpR ho pe_w pe_w hm) (two ha hb S hk (Q := fun x y H2 => rI0 (fun i j => .bl (g i j)) x y H2 Q) fun H' e' hk' => ⟨i, j, rfl, rfl, q _ H' e' hk' (.bl _)⟩)
theorem ev_lt {i j : Int} (ha : Ev X o a ds k (.int i) k1) (hb : Ev X o b ds k1 (.int j) k2) : Ev X o (.Compare a [.Lt] [b] pos) ds k (.bl (decide (i < j))) k2 := ev_cmpI op_lt (nobehind _ (by decide) (by decide)) ha hb
theorem ev_le {i j : Int} (ha : Ev X o a ds k (.int i) k1) (hb : Ev X o b ds k1 (.int j) k2) : Ev X o (.Compare a [.LtE] [b] pos) ds k (.bl (decide (i ≤ j))) k2 := ev_cmpI op_le (nobehind _ (by decide) (by decide)) ha hb
theorem ev_gt {i j : Int} (ha : Ev X o a ds k (.int i) k1) (hb : Ev X o b ds k1 (.int j) k2) : Ev X o (.Compare a [.Gt] [b] pos) ds k (.bl (decide (j < i))) k2 := ev_cmpI op_gt (nobehind _ (by decide) (by decide)) ha hb
theorem ev_ge {i j : Int} (ha : Ev X o a ds k (.int i) k1) (hb : Ev X o b ds k1 (.int j) k2) : Ev X o (.Compare a [.GtE] [b] pos) ds k (.bl (decide (j ≤ i))) k2 := ev_cmpI op_ge (nobehind _ (by decide) (by decide)) ha hb
/-- == and != of plain things -/
inductive Flat : Dat → V → Prop
  | non : Flat .non .non
  | bl (b : Bool) : Flat (.bl b) (.bl b)
  | int (i : Int) : Flat (.int i) (.int i)
  | str (x : Str) : Flat (.str x) (.str x)
theorem Flat.eq {K : PySem.W.Frag} {H : Hp} {d : Dat} {v w : V} (f : Flat d v) (h : DT K o H w d) : w = v := by
  cases f <;> cases h <;> rfl
theorem ev_eqF {x y : V} (ha : Ev X o a ds k d1 k1) (hb : Ev X o b ds k1 d2 k2) (f1 : Flat d1 x) (f2 : Flat d2 y) (hs : scal x y = true) : Ev X o (.Compare a [.Eq] [b] pos) ds k (.bl (decide (x = y))) k2 := fun st H Q S hk q =>
  we (pe_cmpR op_eq pe_w pe_w (nobehind _ (by decide) (by decide))) (ha st H _ S hk fun u H1 e1 hk1 h1 => hb st H1 _ (S.kp e1 hk) hk1 fun w H2 e2 hk2 h2 => by
    have q1 := f1.eq h1
    have q2 := f2.eq h2
    subst q1 q2
    exact ⟨hs, q _ H2 (e1.trans e2) hk2 (.bl _)⟩)
theorem ev_neF {x y : V} (ha : Ev X o a ds k d1 k1) (hb : Ev X o b ds k1 d2 k2) (f1 : Flat d1 x) (f2 : Flat d2 y) (hs : scal x y = true) : Ev X o (.Compare a [.NotEq] [b] pos) ds k (.bl (!decide (x = y))) k2 := fun st H Q S hk q =>
  we (pe_cmpR op_ne pe_w pe_w (nobehind _ (by decide) (by decide))) (ha st H _ S hk fun u H1 e1 hk1 h1 => hb st H1 _ (S.kp e1 hk) hk1 fun w H2 e2 hk2 h2 => by
    have q1 := f1.eq h1
    have q2 := f2.eq h2
    subst q1 q2
    exact ⟨hs, q _ H2 (e1.trans e2) hk2 (.bl _)⟩)
theorem bl_int (i j : Int) : decide (V.int i = V.int j) = decide (i = j) := by
  by_cases h : i = j
  · subst h
    simp
  · rw [decide_eq_false h, decide_eq_false (fun z => h (V.int.inj z))]
theorem ev_eqI {i j : Int} (ha : Ev X o a ds k (.int i) k1) (hb : Ev X o b ds k1 (.int j) k2) : Ev X o (.Compare a [.Eq] [b] pos) ds k (.bl (decide (i = j))) k2 := by
  have h := ev_eqF (pos := pos) ha hb (.int i) (.int j) rfl
  rw [bl_int] at h
  exact h
theorem ev_neI {i j : Int} (ha : Ev X o a ds k (.int i) k1) (hb : Ev X o b ds k1 (.int j) k2) : Ev X o (.Compare a [.NotEq] [b] pos) ds k (.bl (!decide (i = j))) k2 := by
  have h := ev_neF (pos := pos) ha hb (.int i) (.int j) rfl
  rw [bl_int] at h
  exact h
/-- and, or, not of bools, as values -/
theorem ev_one {op : BoolOp} (ha : Ev X o a ds k d k1) : Ev X o (.BoolOp op [a] pos) ds k d k1 := fun st H Q S hk q => we (pe_one pe_w) (ha st H Q S hk q)
theorem ev_and {rest : List Expr} {x y : Bool} (ha : Ev X o a ds k (.bl x) k1) (hb : x = true → Ev X o (.BoolOp .And (b :: rest) pos) ds k1 (.bl y) k2) (hk2 : x = false → k2 = k1) : Ev X o (.BoolOp .And (a :: b :: rest) pos) ds k (.bl (x && y)) k2 := fun st H Q S hk q =>
  we (pe_and pe_w pe_w) (ha st H _ S hk fun u H1 e1 hk1 h1 => by
    cases h1
    refine ⟨x, rfl, ?_⟩
    cases x with
    | true => exact hb rfl st H1 Q (S.kp e1 hk) hk1 fun w H2 e2 hk2 h2 => q w H2 (e1.trans e2) hk2 h2
    | false =>
      have e := hk2 rfl
      subst e
      exact q _ H1 e1 hk1 (.bl _))
theorem ev_or {rest : List Expr} {x y : Bool} (ha : Ev X o a ds k (.bl x) k1) (hb : x = false → Ev X o (.BoolOp .Or (b :: rest) pos) ds k1 (.bl y) k2) (hk2 : x = true → k2 = k1) : Ev X o (.BoolOp .Or (a :: b :: rest) pos) ds k (.bl (x || y)) k2 := fun st H Q S hk q =>
  we (pe_or pe_w pe_w) (ha st H _ S hk fun u H1 e1 hk1 h1 => by
    cases h1
    refine ⟨x, rfl, ?_⟩
    cases x with
    | false => exact hb rfl st H1 Q (S.kp e1 hk) hk1 fun w H2 e2 hk2 h2 => q w H2 (e1.trans e2) hk2 h2
    | true =>
      have e := hk2 rfl
      subst e
      exact q _ H1 e1 hk1 (.bl _))
theorem ev_not {x : Bool} (ha : Ev X o a ds k (.bl x) k1) : Ev X o (.UnaryOp .Not a pos) ds k (.bl (!x)) k1 := fun st H Q S hk q =>
  we (pe_not pe_w) (ha st H _ S hk fun u H1 e1 hk1 h1 => by
    cases h1
    exact ⟨x, rfl, q _ H1 e1 hk1 (.bl _)⟩)
/-! tests -/
theorem et_val {x : Bool} (ha : Ev X o e ds k (.bl x) k1) (he : ∀ whole, isTrue e X.env whole = (do let v ← whole; standAt e.pos; holding [v] (truthy v)) := by intro _; rfl) : EvT X o e ds k x k1 := fun st H Q S hk q =>
  wt (pt_val pe_w he) (ha st H _ S hk fun u H1 e1 hk1 h1 => by
    cases h1
    exact ⟨x, rfl, q H1 e1 hk1⟩)
/-- a comparison as a test: its value as an expression is told -/
theorem et_cmp {op : CmpOp} {x : Bool} {r : R2} {d1 d2 : Dat} (ho : OpR X (compareOp op) r) (hm : behindInMarks op b = false) (ha : Ev X o a ds k d1 k1) (hb : Ev X o b ds k1 d2 k2)
    (hr : ∀ u w H Q, DT X.K o H u d1 → DT X.K o H w d2 → Q (V.bl x) H → r u w H Q) : EvT X o (.Compare a [op] [b] pos) ds k x k2 := fun st H Q S hk q =>
  wt (pt_cmpR ho pe_w pe_w hm) (ha st H _ S hk fun u H1 e1 hk1 h1 => hb st H1 _ (S.kp e1 hk) hk1 fun w H2 e2 hk2 h2 => hr u w H2 _ (h1.kp e2 hk1) h2 ⟨x, rfl, q H2 (e1.trans e2) hk2⟩)
theorem et_cmpI {op : CmpOp} {g : Int → Int → Bool} {i j : Int} (ho : OpR X (compareOp op) (rI0 fun i j => .bl (g i j))) (hm : behindInMarks op b = false) (ha : Ev X o a ds k (.int i) k1) (hb : Ev X o b ds k1 (.int j) k2) : EvT X o (.Compare a [op] [b] pos) ds k (g i j) k2 :=
  et_cmp ho hm ha hb fun u w H Q h1 h2 q => by
    cases h1
    cases h2
    exact ⟨i, j, rfl, rfl, q⟩
theorem et_lt {i j : Int} (ha : Ev X o a ds k (.int i) k1) (hb : Ev X o b ds k1 (.int j) k2) : EvT X o (.Compare a [.Lt] [b] pos) ds k (decide (i < j)) k2 := et_cmpI op_lt (nobehind _ (by decide) (by decide)) ha hb
theorem et_le {i j : Int} (ha : Ev X o a ds k (.int i) k1) (hb : Ev X o b ds k1 (.int j) k2) : EvT X o (.Compare a [.LtE] [b] pos) ds k (decide (i ≤ j)) k2 := et_cmpI op_le (nobehind _ (by decide) (by decide)) ha hb
theorem et_gt {i j : Int} (ha : Ev X o a ds k (.int i) k1) (hb : Ev X o b ds k1 (.int j) k2) : EvT X o (.Compare a [.Gt] [b] pos) ds k (decide (j < i)) k2 := et_cmpI op_gt (nobehind _ (by decide) (by decide)) ha hb
theorem et_ge {i j : Int} (ha : Ev X o a ds k (.int i) k1) (hb : Ev X o b ds k1 (.int j) k2) : EvT X o (.Compare a [.GtE] [b] pos) ds k (decide (j ≤ i)) k2 := et_cmpI op_ge (nobehind _ (by decide) (by decide)) ha hb
theorem et_eqF {x y : V} (ha : Ev X o a ds k d1 k1) (hb : Ev X o b ds k1 d2 k2) (f1 : Flat d1 x) (f2 : Flat d2 y) (hs : scal x y = true) : EvT X o (.Compare a [.Eq] [b] pos) ds k (decide (x = y)) k2 :=
  et_cmp op_eq (nobehind _ (by decide) (by decide)) ha hb fun u w H Q h1 h2 q => by
    have q1 := f1.eq h1
    have q2 := f2.eq h2
    subst q1 q2
    exact ⟨hs, q⟩
theorem et_neF {x y : V} (ha : Ev X o a ds k d1 k1) (hb : Ev X o b ds k1 d2 k2) (f1 : Flat d1 x) (f2 : Flat d2 y) (hs : scal x y = true) : EvT X o (.Compare a [.NotEq] [b] pos) ds k (!decide (x = y)) k2 :=
  et_cmp op_ne (nobehind _ (by decide) (by decide)) ha hb fun u w H Q h1 h2 q => by
    have q1 := f1.eq h1
    have q2 := f2.eq h2
    subst q1 q2
    exact ⟨hs, q⟩
theorem et_eqI {i j : Int} (ha : Ev X o a ds k (.int i) k1) (hb : Ev X o b ds k1 (.int j) k2) : EvT X o (.Compare a [.Eq] [b] pos) ds k (decide (i = j)) k2 := by
  have h := et_eqF (pos := pos) ha hb (.int i) (.int j) rfl
  rw [bl_int] at h
  exact h
theorem et_neI {i j : Int} (ha : Ev X o a ds k (.int i) k1) (hb : Ev X o b ds k1 (.int j) k2) : EvT X o (.Compare a [.NotEq] [b] pos) ds k (!decide (i = j)) k2 := by
  have h := et_neF (pos := pos) ha hb (.int i) (.int j) rfl
  rw [bl_int] at h
  exact h
theorem et_isN {j pos'} (ha : Ev X o a ds k d k1) {x : Bool} (hx : ∀ v H, DT X.K o H v d → decide (v = .non) = x) : EvT X o (.Compare a [.Is] [.Constant .none j pos'] pos) ds k x k1 := fun st H Q S hk q =>
  wt (pt_cmp (pc_isN pe_w)) (ha st H _ S hk fun v H1 e1 hk1 h1 => ⟨_, rfl, by rw [hx v H1 h1]; exact q H1 e1 hk1⟩)
theorem ev_isN {j pos'} (ha : Ev X o a ds k d k1) {x : Bool} (hx : ∀ v H, DT X.K o H v d → decide (v = .non) = x) : Ev X o (.Compare a [.Is] [.Constant .none j pos'] pos) ds k (.bl x) k1 := fun st H Q S hk q =>
  we (pe_cmp (pc_isN pe_w)) (ha st H _ S hk fun v H1 e1 hk1 h1 => by rw [hx v H1 h1]; exact q _ H1 e1 hk1 (.bl _))
theorem et_w {x : Bool} (h : EvW X o e ds k x k1) : EvT X o e ds k x k1 := fun st H Q S hk q => wt pw_w.pt (h st H Q S hk q)
theorem ew_and1 {x : Bool} (h : EvT X o a ds k x k1) : EvW X o (.BoolOp .And [a] pos) ds k x k1 := fun st H Q S hk q => ww (pw_and1 pt_w) (h st H Q S hk q)
theorem ew_or1 {x : Bool} (h : EvT X o a ds k x k1) : EvW X o (.BoolOp .Or [a] pos) ds k x k1 := fun st H Q S hk q => ww (pw_or1 pt_w) (h st H Q S hk q)
theorem ew_and {rest : List Expr} {x y : Bool} (ha : EvT X o a ds k x k1) (hb : x = true → EvW X o (.BoolOp .And (b :: rest) pos) ds k1 y k2) (hk2 : x = false → k2 = k1) : EvW X o (.BoolOp .And (a :: b :: rest) pos) ds k (x && y) k2 := fun st H Q S hk q =>
  ww (pw_and pt_w pw_w) (ha st H _ S hk fun H1 e1 hk1 => by
    cases x with
    | true => exact hb rfl st H1 Q (S.kp e1 hk) hk1 fun H2 e2 hk2 => q H2 (e1.trans e2) hk2
    | false =>
      have e := hk2 rfl
      subst e
      exact q H1 e1 hk1)
theorem ew_or {rest : List Expr} {x y : Bool} (ha : EvT X o a ds k x k1) (hb : x = false → EvW X o (.BoolOp .Or (b :: rest) pos) ds k1 y k2) (hk2 : x = true → k2 = k1) : EvW X o (.BoolOp .Or (a :: b :: rest) pos) ds k (x || y) k2 := fun st H Q S hk q =>
  ww (pw_or pt_w pw_w) (ha st H _ S hk fun H1 e1 hk1 => by
    cases x with
    | false => exact hb rfl st H1 Q (S.kp e1 hk) hk1 fun H2 e2 hk2 => q H2 (e1.trans e2) hk2
    | true =>
      have e := hk2 rfl
      subst e
      exact q H1 e1 hk1)
theorem et_not {x : Bool} (h : EvT X o a ds k x k1) : EvT X o (.UnaryOp .Not a pos) ds k (!x) k1 := fun st H Q S hk q => wt (pt_not pt_w) (h st H _ S hk fun H1 e1 hk1 => q H1 e1 hk1)
theorem ev_if {x : Bool} (h : EvT X o c ds k x k1) (ha : x = true → Ev X o a ds k1 d k2) (hb : x = false → Ev X o b ds k1 d k2) : Ev X o (.IfExp c a b pos) ds k d k2 := fun st H Q S hk q =>
  we (pe_ifExp pt_w pe_w pe_w) (h st H _ S hk fun H1 e1 hk1 => by
    cases x with
    | true => exact ha rfl st H1 Q (S.kp e1 hk) hk1 fun v H2 e2 hk2 h2 => q v H2 (e1.trans e2) hk2 h2
    | false => exact hb rfl st H1 Q (S.kp e1 hk) hk1 fun v H2 e2 hk2 h2 => q v H2 (e1.trans e2) hk2 h2)
/-! arguments, displays -/
theorem ea_nil : EvA X o [] ds k [] k := fun st H Q S hk q => wa pa_nil (q [] H (Kp.refl _ _) hk DTs.nil)
theorem ea_cons (ha : Ev X o e ds k d k1) (hr : EvA X o es ds k1 as k2) (hs : starEach (e :: es) X.env = (false, eval e X.env) :: starEach es X.env := by rfl) : EvA X o (e :: es) ds k (d :: as) k2 := fun st H Q S hk q =>
  wa (pa_cons pe_w pa_w hs) (ha st H _ S hk fun v H1 e1 hk1 h1 => hr st H1 _ (S.kp e1 hk) hk1 fun vs H2 e2 hk2 h2 => q _ H2 (e1.trans e2) hk2 (DTs.cons (h1.kp e2 hk1) h2))
theorem ek_nil : EvKw X o [] ds k [] k := fun st H Q S hk q => wk pk_nil (q [] H (Kp.refl _ _) hk DTs.nil)
theorem ek_cons {nm : Option Str} {kpos : Pos} {ks : List Keyword} (ha : Ev X o e ds k d k1) (hr : EvKw X o ks ds k1 as k2) : EvKw X o (⟨nm, e, kpos⟩ :: ks) ds k (d :: as) k2 := fun st H Q S hk q =>
  wk (pk_cons pe_w pk_w) (ha st H _ S hk fun v H1 e1 hk1 h1 => hr st H1 _ (S.kp e1 hk) hk1 fun vs H2 e2 hk2 h2 => q _ H2 (e1.trans e2) hk2 (DTs.cons (h1.kp e2 hk1) h2))
theorem DK.ne {H : Hp} {p : Addr} (h : DK o k H) (n : H p = none) : some p ≠ o := by
  cases o with
  | none => intro z; cases z
  | some a =>
    intro z
    cases z
    have h' : H p = some (.lst [.int k.1, .int k.2]) := h
    rw [n] at h'
    cases h'
theorem ev_tup {cx : Nat} (ha : EvA X o es ds k as k1) (hl : as.length ≤ 1000) : Ev X o (.Tuple es cx pos) ds k (.tup as) k1 := fun st H Q S hk q =>
  we (pe_tup pa_w) (ha st H _ S hk fun vs H1 e1 hk1 h1 => ⟨by rw [h1.length]; exact Nat.le_trans hl (by decide), fun p np => q _ _ (e1.trans (Kp.of_ex (Ex.new np))) (hk1.ex (Ex.new np)) (.tup' (.inl (.inl upd_same)) (h1.kp (Kp.of_ex (Ex.new np)) hk1))⟩)
theorem ev_lst (ha : EvA X o es ds k as k1) (hl : as.length ≤ 1000) : Ev X o (.List es pos) ds k (.lst as) k1 := fun st H Q S hk q =>
  we (pe_lst pa_w) (ha st H _ S hk fun vs H1 e1 hk1 h1 => ⟨by rw [h1.length]; exact Nat.le_trans hl (by decide), fun p np => q _ _ (e1.trans (Kp.of_ex (Ex.new np))) (hk1.ex (Ex.new np)) (.lst' (.inl (.inl upd_same)) (hk1.ne np) (h1.kp (Kp.of_ex (Ex.new np)) hk1))⟩)
/-- t[i], xs[i] -/
theorem ev_ixT {i : Int} {j : Nat} (ha : Ev X o a ds k (.tup as) k1) (hb : Ev X o b ds k1 (.int i) k2) (hi : i = (j : Int)) (hj : as[j]? = some d) (hp : PlainIx b := by exact fun _ _ => rfl) : Ev X o (.Subscript a b pos) ds k d k2 := fun st H Q S hk q =>
  we (pe_ix ix_tup pe_w pe_w hp) (ha st H _ S hk fun u H1 e1 hk1 h1 => hb st H1 _ (S.kp e1 hk) hk1 fun w H2 e2 hk2 h2 => by
    cases h2
    have h1' := h1.kp e2 hk1
    obtain ⟨p, xs, rfl, hs, hd⟩ := h1'.untup
    obtain ⟨v, g1, g2⟩ := hd.at hj
    exact ⟨_, _, i, v, rfl, rfl, hs, by rw [hi]; exact atI_nat g1, q v H2 (e1.trans e2) hk2 g2⟩)
theorem ev_ixL {i : Int} {j : Nat} (ha : Ev X o a ds k (.lst as) k1) (hb : Ev X o b ds k1 (.int i) k2) (hi : i = (j : Int)) (hj : as[j]? = some d) (hp : PlainIx b := by exact fun _ _ => rfl) : Ev X o (.Subscript a b pos) ds k d k2 := fun st H Q S hk q =>
  we (pe_ix ix_list pe_w pe_w hp) (ha st H _ S hk fun u H1 e1 hk1 h1 => hb st H1 _ (S.kp e1 hk) hk1 fun w H2 e2 hk2 h2 => by
    cases h2
    have h1' := h1.kp e2 hk1
    obtain ⟨p, xs, rfl, hs, _, hd⟩ := h1'.unlst
    obtain ⟨v, g1, g2⟩ := hd.at hj
    exact ⟨_, _, i, v, rfl, rfl, hs, by rw [hi]; exact atI_nat g1, q v H2 (e1.trans e2) hk2 g2⟩)
/-- deck[0], deck[1] -/
theorem ev_dk {p : Addr} (ha : Ev X (some p) a ds k (.raw (.ref p)) k1) {j : Nat} {i : Int} {z : Int} (hb : Ev X (some p) b ds k1 (.int i) k2) (hi : i = (j : Int)) (hj : [V.int k2.1, V.int k2.2][j]? = some (.int z)) (hp : PlainIx b := by exact fun _ _ => rfl) : Ev X (some p) (.Subscript a b pos) ds k (.int z) k2 := fun st H Q S hk q =>
  we (pe_ix ix_list pe_w pe_w hp) (ha st H _ S hk fun u H1 e1 hk1 h1 => hb st H1 _ (S.kp e1 hk) hk1 fun w H2 e2 hk2 h2 => by
    cases h2
    cases h1
    exact ⟨p, _, i, _, rfl, rfl, .inl (.inl hk2), by rw [hi]; exact atI_nat hj, q _ H2 (e1.trans e2) hk2 (.int _)⟩)
theorem ev_lstK (ha : EvA X o es ds k as k1) (hl : as.length ≤ 1000) : Ev X o (.List es pos) ds k (.trk as) k1 := fun st H Q S hk q =>
  we (pe_lst pa_w) (ha st H _ S hk fun vs H1 e1 hk1 h1 => ⟨by rw [h1.length]; exact Nat.le_trans hl (by decide), fun p np => by
    have h2 := h1.kp (Kp.of_ex (o := o) (Ex.new (o := .lst vs) np)) hk1
    exact q _ _ (e1.trans (Kp.of_ex (Ex.new np))) (hk1.ex (Ex.new np)) (.trk upd_same (hk1.ne np) h2.1 h2.2)⟩)
end
end Wf

set_option Elab.async false
set_option linter.all false
set_option maxRecDepth 100000
set_option maxHeartbeats 4000000
namespace Wf
open PySem PySem.Spec PyProof.Rows L2 Evl

/-! ### defs -/
/-- a def without side: S tells what is given for what -/
def spP (K : PySem.W.Frag) (S : List Dat → Dat → Prop) : Sp := fun vs H Q _ => ∃ ds d, DTs K none H vs ds ∧ S ds d ∧ ∀ v H', Ex H H' → DT K none H' v d → Q v H'
/-- a def whose first argument is the deck -/
def spD (K : PySem.W.Frag) (S : List Dat → Int × Int → Dat → Int × Int → Prop) : Sp := fun vs H Q _ => ∃ (a : Addr) (ws : List V) (ds : List Dat) (k : Int × Int) (d : Dat) (k' : Int × Int),
  vs = .ref a :: ws ∧ H a = some (.lst [.int k.1, .int k.2]) ∧ DTs K (some a) H ws ds ∧ S ds k d k' ∧ ∀ v H', Kp (some a) H H' → H' a = some (.lst [.int k'.1, .int k'.2]) → DT K (some a) H' v d → Q v H'
structure Cl (P : Program) (w : World) (K : PySem.W.Frag) (mg : Str → Option Value) (base : Heap) (k : Nat) (x : Str) (ps : List Str) (sp : Sp) : Prop where
  ex : ∃ (f : Addr) (fd : FuncData), mg x = some (.ref f) ∧ PySem.W.keepIn K (.ref f) = true ∧ Binds K fd ps [] ∧ FnOk P w K mg base CX0 k f fd ps sp
theorem Cl.mono {P : Program} {w : World} {K : PySem.W.Frag} {mg : Str → Option Value} {base : Heap} {j k : Nat} {x : Str} {ps : List Str} {sp : Sp} (c : Cl P w K mg base j x ps sp) (h : j ≤ k) : Cl P w K mg base k x ps sp := by
  obtain ⟨f, fd, a, b, c1, F⟩ := c.ex
  exact ⟨f, fd, a, b, c1, F.mono h⟩
section
variable {X : Cx} {o : Option Addr} {ds : List (Option Dat)} {k0 k1 k2 : Int × Int} {e : Expr} {es : List Expr} {d : Dat} {as : List Dat} {p pos : Pos} {k : Nat} {x : Str} {ps : List Str} {S : List Dat → Dat → Prop}
theorem ev_call (c : Cl X.prog X.w X.K X.mg X.base k x ps (spP X.K S)) (hr : Room k X.A) (ha : EvA X o (e :: es) ds k0 as k1) (hs : S as d) (hn : o = none ∨ NoL d) (hg : Gl X x := by rfl) (hdb : (x == ("__debug__" : Str)) = false := by decide)
    (he : starEach (e :: es) X.env = (false, eval e X.env) :: starEach es X.env := by rfl) (hpl : (backTo pos (starEach es X.env)).any (·.1) = false := by rfl) : Ev X o (.Call (.Name x p) (e :: es) [] pos) ds k0 d k1 := fun st H Q St hk q => by
  obtain ⟨f, fd, a, b, c1, F⟩ := c.ex
  refine we (pe_call F hr hg a b c1 .nil pass0 pa_w hdb he hpl) (ha st H _ St hk fun vs H1 e1 hk1 h1 => ?_)
  refine ⟨as, d, by rw [List.append_nil]; exact h1.free, hs, fun v H' ex h' => q v H' (e1.trans (Kp.of_ex ex)) (hk1.ex ex) ?_⟩
  rcases hn with hn | hn
  · subst hn
    exact h'
  · exact h'.back hn
theorem ev_callD {pa : Addr} {S : List Dat → Int × Int → Dat → Int × Int → Prop} (c : Cl X.prog X.w X.K X.mg X.base k x ps (spD X.K S)) (hr : Room k X.A) (ha : EvA X (some pa) (e :: es) ds k0 (.raw (.ref pa) :: as) k1) (hs : S as k1 d k2) (hg : Gl X x := by rfl) (hdb : (x == ("__debug__" : Str)) = false := by decide)
    (he : starEach (e :: es) X.env = (false, eval e X.env) :: starEach es X.env := by rfl) (hpl : (backTo pos (starEach es X.env)).any (·.1) = false := by rfl) : Ev X (some pa) (.Call (.Name x p) (e :: es) [] pos) ds k0 d k2 := fun st H Q St hk q => by
  obtain ⟨f, fd, a, b, c1, F⟩ := c.ex
  refine we (pe_call F hr hg a b c1 .nil pass0 pa_w hdb he hpl) (ha st H _ St hk fun vs H1 e1 hk1 h1 => ?_)
  obtain ⟨v0, ws, rfl⟩ : ∃ v0 ws, vs = v0 :: ws := by
    cases vs with
    | nil => exact absurd h1.1 (by simp)
    | cons v0 ws => exact ⟨v0, ws, rfl⟩
  have h0 := h1.2 0 v0 _ rfl rfl
  cases h0
  refine ⟨pa, ws, as, k1, d, k2, by rw [List.append_nil], hk1, ⟨by simpa using h1.1, fun i v d a b => h1.2 (i + 1) v d (by simpa using a) (by simpa using b)⟩, hs, fun v H' ex hd' h' => q v H' (e1.trans ex) hd' h'⟩
/-- built-ins by value -/
theorem ev_bif {id : String} {r : List V → Hp → VK → Prop} (hc : CallR X (.builtin id) r) (hm : X.mg x = none) (hv : bootBuiltins x = some (.builtin id)) (ha : EvA X o (e :: es) ds k0 as k1) (hs : ∀ vs H Q, DTs X.K o H vs as → DK o k1 H → (∀ v H', Ex H H' → DT X.K o H' v d → Q v H') → r vs H Q)
    (hg : Gl X x := by rfl) (hn : x ≠ "__name__" := by decide) (hdb : (x == ("__debug__" : Str)) = false := by decide) (he : starEach (e :: es) X.env = (false, eval e X.env) :: starEach es X.env := by rfl) (hpl : (backTo pos (starEach es X.env)).any (·.1) = false := by rfl) :
    Ev X o (.Call (.Name x p) (e :: es) [] pos) ds k0 d k1 := fun st H Q St hk q =>
  we (pe_callB hc hg hm hv pa_w hn hdb he hpl) (ha st H _ St hk fun vs H1 e1 hk1 h1 => hs vs H1 Q h1 hk1 fun v H2 ex h2 => q v H2 (e1.trans (Kp.of_ex ex)) (hk1.ex ex) h2)
theorem ev_bty {T : String} {r : List V → Hp → VK → Prop} (hc : CallR X (.type T) r) (hm : X.mg x = none) (hv : bootBuiltins x = some (.type T)) (ha : EvA X o (e :: es) ds k0 as k1) (hs : ∀ vs H Q, DTs X.K o H vs as → DK o k1 H → (∀ v H', Ex H H' → DT X.K o H' v d → Q v H') → r vs H Q)
    (hg : Gl X x := by rfl) (hn : x ≠ "__name__" := by decide) (hdb : (x == ("__debug__" : Str)) = false := by decide) (he : starEach (e :: es) X.env = (false, eval e X.env) :: starEach es X.env := by rfl) (hpl : (backTo pos (starEach es X.env)).any (·.1) = false := by rfl) :
    Ev X o (.Call (.Name x p) (e :: es) [] pos) ds k0 d k1 := fun st H Q St hk q =>
  we (pe_callTy hc hg hm hv pa_w hn hdb he hpl) (ha st H _ St hk fun vs H1 e1 hk1 h1 => hs vs H1 Q h1 hk1 fun v H2 ex h2 => q v H2 (e1.trans (Kp.of_ex ex)) (hk1.ex ex) h2)
theorem dts1 {K : PySem.W.Frag} {H : Hp} {vs : List V} {d1 : Dat} (h : DTs K o H vs [d1]) : ∃ v1, vs = [v1] ∧ DT K o H v1 d1 := by
  match vs, h with
  | [v1], h => exact ⟨v1, rfl, h.2 0 v1 d1 rfl rfl⟩
theorem dts2 {K : PySem.W.Frag} {H : Hp} {vs : List V} {d1 d2 : Dat} (h : DTs K o H vs [d1, d2]) : ∃ v1 v2, vs = [v1, v2] ∧ DT K o H v1 d1 ∧ DT K o H v2 d2 := by
  match vs, h with
  | [v1, v2], h => exact ⟨v1, v2, rfl, h.2 0 v1 d1 rfl rfl, h.2 1 v2 d2 rfl rfl⟩
theorem dts3 {K : PySem.W.Frag} {H : Hp} {vs : List V} {d1 d2 d3 : Dat} (h : DTs K o H vs [d1, d2, d3]) : ∃ v1 v2 v3, vs = [v1, v2, v3] ∧ DT K o H v1 d1 ∧ DT K o H v2 d2 ∧ DT K o H v3 d3 := by
  match vs, h with
  | [v1, v2, v3], h => exact ⟨v1, v2, v3, rfl, h.2 0 v1 d1 rfl rfl, h.2 1 v2 d2 rfl rfl, h.2 2 v3 d3 rfl rfl⟩
theorem ev_abs {i : Int} (hm : X.mg "abs" = none) (ha : EvA X o [e] ds k0 [.int i] k1) (hg : Gl X "abs" := by rfl) (he : starEach [e] X.env = (false, eval e X.env) :: starEach [] X.env := by rfl) : Ev X o (.Call (.Name "abs" p) [e] [] pos) ds k0 (.int (if i < 0 then -i else i)) k1 :=
  ev_bif call_abs hm (by decide +kernel) ha (fun vs H Q h _ q => by
    obtain ⟨v, rfl, h1⟩ := dts1 h
    cases h1
    exact ⟨i, rfl, q _ H (Ex.refl _) (.int _)⟩) hg (by decide) (by decide) he
theorem ev_max {i j : Int} {e2 : Expr} (hc : X.calm = true) (hm : X.mg "max" = none) (ha : EvA X o [e, e2] ds k0 [.int i, .int j] k1) (hg : Gl X "max" := by rfl) (he : starEach [e, e2] X.env = (false, eval e X.env) :: starEach [e2] X.env := by rfl) (hpl : (backTo pos (starEach [e2] X.env)).any (·.1) = false := by rfl) : Ev X o (.Call (.Name "max" p) [e, e2] [] pos) ds k0 (.int (if j > i then j else i)) k1 :=
  ev_bif (call_max2 hc) hm (by decide +kernel) ha (fun vs H Q h _ q => by
    obtain ⟨v, w, rfl, h1, h2⟩ := dts2 h
    cases h1; cases h2
    exact ⟨i, j, rfl, q _ H (Ex.refl _) (.int _)⟩) hg (by decide) (by decide) he hpl
theorem ev_min {i j : Int} {e2 : Expr} (hc : X.calm = true) (hm : X.mg "min" = none) (ha : EvA X o [e, e2] ds k0 [.int i, .int j] k1) (hg : Gl X "min" := by rfl) (he : starEach [e, e2] X.env = (false, eval e X.env) :: starEach [e2] X.env := by rfl) (hpl : (backTo pos (starEach [e2] X.env)).any (·.1) = false := by rfl) : Ev X o (.Call (.Name "min" p) [e, e2] [] pos) ds k0 (.int (if j < i then j else i)) k1 :=
  ev_bif (call_min2 hc) hm (by decide +kernel) ha (fun vs H Q h _ q => by
    obtain ⟨v, w, rfl, h1, h2⟩ := dts2 h
    cases h1; cases h2
    exact ⟨i, j, rfl, q _ H (Ex.refl _) (.int _)⟩) hg (by decide) (by decide) he hpl
theorem ev_lenT (hm : X.mg "len" = none) (ha : EvA X o [e] ds k0 [.tup as] k1) (hg : Gl X "len" := by rfl) (he : starEach [e] X.env = (false, eval e X.env) :: starEach [] X.env := by rfl) : Ev X o (.Call (.Name "len" p) [e] [] pos) ds k0 (.int (as.length : Int)) k1 :=
  ev_bif call_len_seq hm PySem.boot_len ha (fun vs H Q h _ q => by
    obtain ⟨v, rfl, h1⟩ := dts1 h
    obtain ⟨a, xs, rfl, hs, hl⟩ := h1.untup
    exact ⟨a, xs, rfl, .inr hs, by rw [hl.1]; exact q _ H (Ex.refl _) (.int _)⟩) hg (by decide) (by decide) he
theorem ev_lenL (hm : X.mg "len" = none) (ha : EvA X o [e] ds k0 [.lst as] k1) (hg : Gl X "len" := by rfl) (he : starEach [e] X.env = (false, eval e X.env) :: starEach [] X.env := by rfl) : Ev X o (.Call (.Name "len" p) [e] [] pos) ds k0 (.int (as.length : Int)) k1 :=
  ev_bif call_len_seq hm PySem.boot_len ha (fun vs H Q h _ q => by
    obtain ⟨v, rfl, h1⟩ := dts1 h
    obtain ⟨a, xs, rfl, hs, _, hl⟩ := h1.unlst
    exact ⟨a, xs, rfl, .inl hs, by rw [hl.1]; exact q _ H (Ex.refl _) (.int _)⟩) hg (by decide) (by decide) he
end

/-! ### blocks -/
/-- from any heap that keeps H0, where the names hold ds, the block does what D wants -/
def AS (X : Cx) (o : Option Addr) (sts : List Stmt) (D : Ends) (ds : List (Option Dat)) (k : Int × Int) (H0 : Hp) : Prop :=
  ∀ st H, Sat X.K o st H ds → DK o k H → Kp o H0 H → WB X sts D st H
section
variable {X : Cx} {o : Option Addr} {ds : List (Option Dat)} {k k1 k2 : Int × Int} {e c : Expr} {d : Dat} {as : List Dat} {pos pos' : Pos} {rest body orelse : List Stmt} {D : Ends} {H0 : Hp}
theorem as_nil (h : ∀ st H, Sat X.K o st H ds → DK o k H → Kp o H0 H → D.nx st H) : AS X o [] D ds k H0 := fun st H S hk e0 => wb pss_nil (h st H S hk e0)
/-- a statement, what follows it -/
theorem wb_cons {s : Stmt} {st : L2.St} {H : Hp} (h : WS X s { D with nx := fun st' H' => WB X rest D st' H' } st H) : WB X (s :: rest) D st H := wb (pss_cons ps_w pss_w) h
theorem as_asg {i : Nat} {x : Str} (hN : X.N.Nodup) (he : Ev X o e ds k d k1) (hr : AS X o rest D (ds.set i (some d)) k1 H0) (hi : X.N[i]? = some x := by rfl) (hx : Loc X.env.scope x := by exact Or.inl rfl) (hs : swapsWith e (some (.Name x pos')) pos.line X.env = pure false := by rfl)
    (hf : X.fn x = true ∨ X.env.scope.names.lookup x = some .local := by exact .inl rfl) : AS X o (.Assign [.Name x pos'] e pos :: rest) D ds k H0 := fun st H S hk e0 =>
  wb_cons (wss (ps_set hN hi hx pe_w hs hf) (he st H _ S hk fun v H1 e1 hk1 h1 => hr _ H1 ((S.kp e1 hk).set h1) hk1 (e0.trans e1)))
theorem as_drop (he : Ev X o e ds k d k1) (hr : AS X o rest D ds k1 H0) (hs : swapsWith e none pos.line X.env = pure false := by rfl) : AS X o (.Expr e pos :: rest) D ds k H0 := fun st H S hk e0 =>
  wb_cons (wss (ps_expr pe_w hs) (he st H _ S hk fun v H1 e1 hk1 h1 => hr _ H1 (S.kp e1 hk) hk1 (e0.trans e1)))
theorem as_ret (he : Ev X o e ds k d k1) (hq : ∀ v H1, Kp o H0 H1 → DK o k1 H1 → DT X.K o H1 v d → D.rt v H1) : AS X o (.Return (some e) pos :: rest) D ds k H0 := fun st H S hk e0 =>
  wb_cons (wss (ps_ret pe_w) (he st H _ S hk fun v H1 e1 hk1 h1 => hq v H1 (e0.trans e1) hk1 h1))
theorem as_if {b : Bool} (hc : EvT X o c ds k b k1) (h1 : b = true → AS X o body { D with nx := fun st' H' => WB X rest D st' H' } ds k1 H0) (h2 : b = false → AS X o orelse { D with nx := fun st' H' => WB X rest D st' H' } ds k1 H0) : AS X o (.If c body orelse pos :: rest) D ds k H0 := fun st H S hk e0 =>
  wb_cons (wss (ps_if pt_w pss_w pss_w) (hc st H _ S hk fun H1 e1 hk1 => by
    cases b with
    | true => exact h1 rfl st H1 (S.kp e1 hk) hk1 (e0.trans e1)
    | false => exact h2 rfl st H1 (S.kp e1 hk) hk1 (e0.trans e1)))
/-- the end of a branch: what follows the if -/
theorem as_go (h : AS X o rest D ds k H0) : AS X o [] { D with nx := fun st' H' => WB X rest D st' H' } ds k H0 := as_nil h
theorem as_ifn {b : Bool} (hc : EvT X o c ds k b k1) (h1 : b = true → AS X o body { D with nx := fun st' H' => WB X rest D st' H' } ds k1 H0) (h2 : b = false → AS X o rest D ds k1 H0) : AS X o (.If c body [] pos :: rest) D ds k H0 :=
  as_if hc h1 fun hb => as_go (h2 hb)
/-- if c: x = e, as one way -/
theorem as_ifset {b : Bool} {i : Nat} {x : Str} {d0 : Dat} (hN : X.N.Nodup) (hc : EvT X o c ds k b k1) (h0 : ds[i]? = some (some d0)) (he : b = true → Ev X o e ds k1 d k1) (hr : AS X o rest D (ds.set i (some (if b then d else d0))) k1 H0)
    (hi : X.N[i]? = some x := by rfl) (hx : Loc X.env.scope x := by exact Or.inl rfl) {pos2 : Pos} (hs : swapsWith e (some (.Name x pos')) pos.line X.env = pure false := by rfl) (hf : X.fn x = true ∨ X.env.scope.names.lookup x = some .local := by exact .inl rfl) :
    AS X o (.If c [.Assign [.Name x pos'] e pos] [] pos2 :: rest) D ds k H0 :=
  as_ifn hc (fun hb => as_asg hN (he hb) (by subst hb; exact as_go hr) hi hx hs hf) (fun hb => by
    subst hb
    have e : ds.set i (some d0) = ds := by
      have hl : i < ds.length := (List.getElem?_eq_some_iff.mp h0).1
      have h1 : ds[i] = some d0 := by
        have := List.getElem?_eq_getElem hl
        rw [h0] at this
        exact (Option.some.inj this).symm
      rw [← h1, List.set_getElem_self]
    have hr' : AS X o rest D (ds.set i (some d0)) k1 H0 := hr
    rw [e] at hr'
    exact hr')
/-- a, b = t -/
theorem as_unp2 {i j : Nat} {x y : Str} {d1 d2 : Dat} {px py pt : Pos} {kt : Nat} (hN : X.N.Nodup) (hc : X.calm = true) (he : Ev X o e ds k (.tup [d1, d2]) k1) (hr : AS X o rest D ((ds.set i (some d1)).set j (some d2)) k1 H0)
    (hi : X.N[i]? = some x := by rfl) (hj : X.N[j]? = some y := by rfl) (hx : Loc X.env.scope x := by exact Or.inl rfl) (hy : Loc X.env.scope y := by exact Or.inl rfl) (hfx : X.fn x = true ∨ X.env.scope.names.lookup x = some .local := by exact .inl rfl) (hfy : X.fn y = true ∨ X.env.scope.names.lookup y = some .local := by exact .inl rfl)
    (hs : swapsWithSole [.Tuple [.Name x px, .Name y py] kt pt] e pos.line X.env = pure false := by rfl) (hw : swappedStores [.Tuple [.Name x px, .Name y py] kt pt] e X.env = pure none := by rfl) :
    AS X o (.Assign [.Tuple [.Name x px, .Name y py] kt pt] e pos :: rest) D ds k H0 := fun st H S hk e0 =>
  wb_cons (wss (ps_asg pe_w (pg_tup hc (pgs_cons (pg_name hN hi hx hfx) (pgs_cons (pg_name hN hj hy hfy) pgs_nil))) hs hw) (he st H _ S hk fun v H1 e1 hk1 h1 => by
    obtain ⟨a, xs, rfl, hsq, hd⟩ := h1.untup
    obtain ⟨v1, v2, rfl, g1, g2⟩ := dts2 hd
    exact ⟨a, _, rfl, hsq, rfl, v1, _, rfl, v2, _, rfl, rfl, hr _ H1 (((S.kp e1 hk).set g1).set g2) hk1 (e0.trans e1)⟩))
theorem as_unp3 {i j l : Nat} {x y z : Str} {d1 d2 d3 : Dat} {px py pz pt : Pos} {kt : Nat} (hN : X.N.Nodup) (hc : X.calm = true) (he : Ev X o e ds k (.tup [d1, d2, d3]) k1) (hr : AS X o rest D (((ds.set i (some d1)).set j (some d2)).set l (some d3)) k1 H0)
    (hi : X.N[i]? = some x := by rfl) (hj : X.N[j]? = some y := by rfl) (hl : X.N[l]? = some z := by rfl) (hx : Loc X.env.scope x := by exact Or.inl rfl) (hy : Loc X.env.scope y := by exact Or.inl rfl) (hz : Loc X.env.scope z := by exact Or.inl rfl)
    (hfx : X.fn x = true ∨ X.env.scope.names.lookup x = some .local := by exact .inl rfl) (hfy : X.fn y = true ∨ X.env.scope.names.lookup y = some .local := by exact .inl rfl) (hfz : X.fn z = true ∨ X.env.scope.names.lookup z = some .local := by exact .inl rfl)
    (hs : swapsWithSole [.Tuple [.Name x px, .Name y py, .Name z pz] kt pt] e pos.line X.env = pure false := by rfl) (hw : swappedStores [.Tuple [.Name x px, .Name y py, .Name z pz] kt pt] e X.env = pure none := by rfl) :
    AS X o (.Assign [.Tuple [.Name x px, .Name y py, .Name z pz] kt pt] e pos :: rest) D ds k H0 := fun st H S hk e0 =>
  wb_cons (wss (ps_asg pe_w (pg_tup hc (pgs_cons (pg_name hN hi hx hfx) (pgs_cons (pg_name hN hj hy hfy) (pgs_cons (pg_name hN hl hz hfz) pgs_nil)))) hs hw) (he st H _ S hk fun v H1 e1 hk1 h1 => by
    obtain ⟨a, xs, rfl, hsq, hd⟩ := h1.untup
    obtain ⟨v1, v2, v3, rfl, g1, g2, g3⟩ := dts3 hd
    exact ⟨a, _, rfl, hsq, rfl, v1, _, rfl, v2, _, rfl, v3, _, rfl, rfl, hr _ H1 ((((S.kp e1 hk).set g1).set g2).set g3) hk1 (e0.trans e1)⟩))
/-- a, b = e1, e2, both plain names -/
theorem as_par {i j : Nat} {x y : Str} {e1 e2 : Expr} {d1 d2 : Dat} {px py pt pt2 : Pos} {kt kt2 : Nat} (hN : X.N.Nodup) (hc : X.calm = true) (ha : EvA X o [e1, e2] ds k [d1, d2] k1) (hr : AS X o rest D ((ds.set i (some d1)).set j (some d2)) k1 H0)
    (hi : X.N[i]? = some x := by rfl) (hj : X.N[j]? = some y := by rfl) (hij : i ≠ j := by decide) (hx : X.env.scope.names.lookup x = some .local := by rfl) (hy : X.env.scope.names.lookup y = some .local := by rfl)
    (hw : swappedStores [.Tuple [.Name x px, .Name y py] kt pt] (.Tuple [e1, e2] kt2 pt2) X.env = pure (some [x, y]) := by rfl) (hs : swapsWithSole [.Tuple [.Name x px, .Name y py] kt pt] (.Tuple [e1, e2] kt2 pt2) pos.line X.env = pure false := by rfl) :
    AS X o (.Assign [.Tuple [.Name x px, .Name y py] kt pt] (.Tuple [e1, e2] kt2 pt2) pos :: rest) D ds k H0 := fun st H S hk e0 =>
  wb_cons (wss (ps_par hc hN hi hj hij hx hy pa_w hw hs) (ha st H _ S hk fun vs H1 e1 hk1 h1 => by
    obtain ⟨v1, v2, rfl, g1, g2⟩ := dts2 h1
    exact ⟨v1, v2, rfl, hr _ H1 (((S.kp e1 hk).set g1).set g2) hk1 (e0.trans e1)⟩))
/-- deck[i] = e -/
theorem as_dk {pa : Addr} {eo ei : Expr} {z j : Int} {ks : Int × Int} (he : Ev X (some pa) e ds k (.int z) k1) (ho : Ev X (some pa) eo ds k1 (.raw (.ref pa)) k1) (hi : Ev X (some pa) ei ds k1 (.int j) k1) (hj : j = 0 ∧ ks = (z, k1.2) ∨ j = 1 ∧ ks = (k1.1, z)) (hr : AS X (some pa) rest D ds ks H0) {tpos : Pos}
    (hs : swapsWithSole [.Subscript eo ei tpos] e pos.line X.env = pure false := by rfl) (hw : swappedStores [.Subscript eo ei tpos] e X.env = pure none := by rfl)
    (hpg : PG X (.Subscript eo ei tpos) (gSub (WE X eo) (WE X ei) rSetL) := by exact pg_sub pe_w pe_w set_list) :
    AS X (some pa) (.Assign [.Subscript eo ei tpos] e pos :: rest) D ds k H0 := fun st H S hk e0 =>
  wb_cons (wss (ps_asg pe_w hpg hs hw) (he st H _ S hk fun v H1 e1 hk1 h1 => by
    cases h1
    refine ho st H1 _ (S.kp e1 hk) hk1 fun u H2 e2 hk2 h2 => ?_
    refine hi st H2 _ ((S.kp e1 hk).kp e2 hk1) hk2 fun w H3 e3 hk3 h3 => ?_
    cases h2
    cases h3
    have S3 := ((S.kp e1 hk).kp e2 hk1).kp e3 hk2
    have key : ∀ (l : List V), l = [.int ks.1, .int ks.2] → AS X (some pa) rest D ds ks H0 → WB X rest D st (upd H3 pa (.lst l)) := fun l hl hr => by
      have kp : Kp (some pa) H3 (upd H3 pa (.lst l)) := fun b u n hb => by
        rw [upd_ne (fun z => n (by rw [z]))]
        exact hb
      refine hr st _ (S3.kp kp hk3) ?_ ((((e0.trans e1).trans e2).trans e3).trans kp)
      show upd H3 pa (.lst l) pa = _
      rw [upd_same, hl]
    rcases hj with ⟨rfl, rfl⟩ | ⟨rfl, rfl⟩
    · exact ⟨pa, _, 0, 0, rfl, rfl, hk3, rfl, key _ rfl hr⟩
    · exact ⟨pa, _, 1, 1, rfl, rfl, hk3, rfl, key _ rfl hr⟩))
/-- while -/
theorem as_while {W : Nat → List (Option Dat) → Int × Int → Prop} (hp : PassesOwn (model X.prog X.w) X.A X.env X.xe) (m : Nat) (h0 : W m ds k)
    (hs : ∀ m es q, W m es q → ∃ b q1, EvT X o c es q b q1 ∧ (b = true → AS X o body { D with nx := fun st' H' => ∃ m' es' q', m' < m ∧ W m' es' q' ∧ Sat X.K o st' H' es' ∧ DK o q' H' ∧ Kp o H0 H', ct := fun st' H' => ∃ m' es' q', m' < m ∧ W m' es' q' ∧ Sat X.K o st' H' es' ∧ DK o q' H' ∧ Kp o H0 H', bk := fun st' H' => WB X rest D st' H' } es q1 H0) ∧
      (b = false → AS X o rest D es q1 H0)) : AS X o (.While c body [] pos :: rest) D ds k H0 := fun st H S hk e0 =>
  wb_cons (wss (ps_while hp pt_w pss_w) (by
    refine ⟨fun m st H => ∃ es q, W m es q ∧ Sat X.K o st H es ∧ DK o q H ∧ Kp o H0 H, ⟨m, ds, k, h0, S, hk, e0⟩, ?_⟩
    rintro m st H ⟨es, q, w, S, hk, e0⟩
    obtain ⟨b, q1, hb, ht, hf⟩ := hs m es q w
    refine hb st H _ S hk fun H1 e1 hk1 => ?_
    cases b with
    | true =>
      rw [if_pos rfl]
      refine ⟨fun st' H' => ∃ m' es' q', m' < m ∧ W m' es' q' ∧ Sat X.K o st' H' es' ∧ DK o q' H' ∧ Kp o H0 H', ?_, ht rfl st H1 (S.kp e1 hk) hk1 (e0.trans e1)⟩
      rintro st' H' ⟨m', es', q', l, w', S', hk', e'⟩
      exact ⟨m', l, es', q', w', S', hk', e'⟩
    | false =>
      rw [if_neg Bool.false_ne_true]
      exact hf rfl st H1 (S.kp e1 hk) hk1 (e0.trans e1)))
/-- the end of a turn -/
theorem as_turn {W : Nat → List (Option Dat) → Int × Int → Prop} {m m' : Nat} (hm : m' < m) (w : W m' ds k) (hD : D.nx = fun st' H' => ∃ m' es' q', m' < m ∧ W m' es' q' ∧ Sat X.K o st' H' es' ∧ DK o q' H' ∧ Kp o H0 H') : AS X o [] D ds k H0 :=
  as_nil fun st H S hk e0 => by
    rw [hD]
    exact ⟨m', ds, k, hm, w, S, hk, e0⟩
/-- for i in range(n) -/
theorem as_forR1 {i : Nat} {x : Str} {a : Expr} {p pos2 pos3 : Pos} {n : Int} {W : Nat → List (Option Dat) → Int × Int → Prop} (hN : X.N.Nodup) (hcalm : X.calm = true) (hp : PassesOwn (model X.prog X.w) X.A X.env X.xe) (hm : X.mg "range" = none) (ha : EvA X o [a] ds k [.int n] k1) (hn : n < 2 ^ 62) (hn0 : -(2 ^ 62) ≤ n) (h0 : W 0 ds k1)
    (hs : ∀ (j : Nat) es q, (j : Int) < n → W j es q → AS X o body { D with nx := fun st' H' => ∃ es' q', W (j + 1) es' q' ∧ Sat X.K o st' H' es' ∧ DK o q' H' ∧ Kp o H0 H', ct := fun st' H' => ∃ es' q', W (j + 1) es' q' ∧ Sat X.K o st' H' es' ∧ DK o q' H' ∧ Kp o H0 H', bk := fun st' H' => WB X rest D st' H' } (es.set i (some (.int (j : Int)))) q H0)
    (hd : ∀ es q, W n.toNat es q → AS X o rest D es q H0) (hg : Gl X "range" := by rfl) (hi : X.N[i]? = some x := by rfl) (hx : Loc X.env.scope x := by exact Or.inl rfl) (hf : X.fn x = true ∨ X.env.scope.names.lookup x = some .local := by exact .inl rfl)
    (hst : starEach [a] X.env = [(false, eval a X.env)] := by rfl) (hset : ∀ y, foldedSetIterable (.Call (.Name "range" p) [a] [] pos2) X.env y = pure y := by intro _; rfl) :
    AS X o (.For (.Name x pos3) (.Call (.Name "range" p) [a] [] pos2) body [] pos :: rest) D ds k H0 := fun st H S hk e0 =>
  wb_cons (wss (ps_for hp hcalm (pi_range1 hg hm pa_w hst) (pg_name hN hi hx hf) pss_w hset) (ha st H _ S hk fun vs H1 e1 hk1 h1 => by
    obtain ⟨v, rfl, h⟩ := dts1 h1
    cases h
    refine ⟨n, rfl, hn0, hn, for_range (lo := 0) (n := n.toNat) (fun j st H => ∃ es q, W j es q ∧ Sat X.K o st H es ∧ DK o q H ∧ Kp o H0 H) ⟨ds, k1, h0, S.kp e1 hk, hk1, e0.trans e1⟩ ?_ ?_⟩
    · rintro j st' H' hj ⟨es, q, w, S', hk', e'⟩
      have e00 : (0 : Int) + (j : Int) = (j : Int) := Int.zero_add _
      show WB X body _ (st'.set i (some (.int ((0 : Int) + (j : Int))))) H'
      rw [e00]
      exact hs j es q (by omega) w _ H' (S'.set (.int _)) hk' e'
    · rintro st' H' ⟨es, q, w, S', hk', e'⟩
      exact hd es q w st' H' S' hk' e'))
theorem as_turnR {W : Nat → List (Option Dat) → Int × Int → Prop} {j : Nat} (w : W (j + 1) ds k) (hD : D.nx = fun st' H' => ∃ es' q', W (j + 1) es' q' ∧ Sat X.K o st' H' es' ∧ DK o q' H' ∧ Kp o H0 H') : AS X o [] D ds k H0 :=
  as_nil fun st H S hk e0 => by
    rw [hD]
    exact ⟨ds, k, w, S, hk, e0⟩
end
/-! ### a def from its body -/
section
variable {P : Program} {w : World} {K : PySem.W.Frag} {mg : Str → Option Value} {base : Heap} {f : Addr} {fd : FuncData} {N ps : List Str} {k : Nat}
theorem sat_start {H : Hp} {o : Option Addr} {vs : List V} {ds : List Dat} {m : Nat} (h : DTs K o H vs ds) (hm : N.length = ds.length + m) : Sat K o (L2.start N vs) H (ds.map some ++ List.replicate m none) := by
  refine ⟨?_, fun i d e => ?_⟩
  · unfold L2.start
    rw [List.length_append, List.length_map, List.length_replicate, List.length_append, List.length_map, List.length_replicate, h.1]
    omega
  · by_cases hi : i < ds.length
    · rw [List.getElem?_append_left (by rw [List.length_map]; exact hi), List.getElem?_map] at e
      cases q : ds[i]? with
      | none => rw [q] at e; cases e
      | some d' =>
        rw [q] at e
        have e' : d' = d := by simpa using e
        subst e'
        obtain ⟨v, h1, h2⟩ := h.at q
        refine ⟨v, ?_, h2⟩
        unfold L2.start
        rw [List.getElem?_append_left (by rw [List.length_map, h.1]; exact hi), List.getElem?_map, h1]
        rfl
    · rw [List.getElem?_append_right (by rw [List.length_map]; omega), List.getElem?_replicate] at e
      split at e <;> cases e
/-- the wish of a def without side -/
abbrev DP (K : PySem.W.Frag) (o : Option Addr) (k' : Int × Int) (d : Dat) (H0 : Hp) (Q : VK) : Prop := ∀ v H1, Kp o H0 H1 → DK o k' H1 → DT K o H1 v d → Q v H1
theorem fn_pure {x qual : Str} {st : Stmt} {S : List Dat → Dat → Prop} (F : Fun K x qual st f fd) (Sc : FnScope N ps (defScope st)) (len : ∀ ds d, S ds d → ds.length = ps.length)
    (hb : ∀ (cdv : Value) (A : Around) (outer : List Env) (s : Shared) (H : Hp) (Q : VK) (E : XK) (ds : List Dat) (d : Dat), Room k (A.deeper (envOfC qual (defScope st) s.heap.objs.size f cdv)) → S ds d → DP K none (0, 0) d H Q →
      AS (cxOf CX0 P w K mg base N qual (defScope st) f cdv A outer s H E).nox none (defBody st) { nx := fun _ H' => Q .non H', rt := Q } (ds.map some ++ List.replicate (N.length - ds.length) none) (0, 0) H) : FnOk P w K mg base CX0 (k + 1) f fd ps (spP K S) := by
  refine F.ok Sc (fun vs H Q E h => ?_) (fun cdv A outer s H vs Q E hr h => ⟨_, pss_w, ?_⟩)
  · obtain ⟨ds, d, h1, h2, _⟩ := h
    exact h1.1.trans (len ds d h2)
  · obtain ⟨ds, d, h1, h2, q⟩ := h
    have hN : ps.length ≤ N.length := by
      have e := congrArg List.length Sc.pre
      rw [List.length_take] at e
      omega
    refine hb cdv A outer s H Q E ds d hr h2 (fun v H1 e _ hv => q v H1 e.ex hv) _ H (sat_start h1 ?_) trivial (Kp.refl _ _)
    have := len ds d h2
    omega
theorem fn_deck {x qual : Str} {st : Stmt} {S : List Dat → Int × Int → Dat → Int × Int → Prop} (F : Fun K x qual st f fd) (Sc : FnScope N ps (defScope st)) (len : ∀ ds k d k', S ds k d k' → ds.length + 1 = ps.length)
    (hb : ∀ (cdv : Value) (A : Around) (outer : List Env) (s : Shared) (H : Hp) (Q : VK) (E : XK) (a : Addr) (ds : List Dat) (q : Int × Int) (d : Dat) (q' : Int × Int), Room k (A.deeper (envOfC qual (defScope st) s.heap.objs.size f cdv)) → S ds q d q' → DP K (some a) q' d H Q →
      AS (cxOf CX0 P w K mg base N qual (defScope st) f cdv A outer s H E).nox (some a) (defBody st) { nx := fun _ H' => Q .non H', rt := Q } ((Dat.raw (.ref a) :: ds).map some ++ List.replicate (N.length - (ds.length + 1)) none) q H) : FnOk P w K mg base CX0 (k + 1) f fd ps (spD K S) := by
  refine F.ok Sc (fun vs H Q E h => ?_) (fun cdv A outer s H vs Q E hr h => ⟨_, pss_w, ?_⟩)
  · obtain ⟨a, ws, ds, q, d, q', rfl, h0, h1, h2, _⟩ := h
    show ws.length + 1 = ps.length
    rw [h1.1]
    exact len ds q d q' h2
  · obtain ⟨a, ws, ds, q, d, q', rfl, h0, h1, h2, qq⟩ := h
    have hN : ps.length ≤ N.length := by
      have e := congrArg List.length Sc.pre
      rw [List.length_take] at e
      omega
    refine hb cdv A outer s H Q E a ds q d q' hr h2 (fun v H1 e hk hv => qq v H1 e hk hv) _ H (sat_start (DTs.cons (.raw _) h1) ?_) h0 (Kp.refl _ _)
    have := len ds q d q' h2
    show N.length = (ds.length + 1) + _
    omega
end
end Wf

set_option Elab.async false
set_option linter.all false
set_option maxRecDepth 100000
set_option maxHeartbeats 4000000
namespace Wf
open PySem PySem.Spec PyProof.Rows L2 Evl
theorem args_gcd3 (a b c : Value) : argsOk "math.gcd" ⟨[a, b, c], []⟩ := by unfold argsOk; kernel_rfl
theorem run_gcd3 (a : Int) (t : Tok) (b : Int) (u : Tok) (c : Int) (v : Tok) :
    Gives (Builtin.«math.gcd» ⟨[.int a t, .int b u, .int c v], []⟩) (.int (((((Nat.gcd 0 a.natAbs).gcd b.natAbs).gcd c.natAbs : Nat) : Int))) :=
  .of_wp fun M A E s Q h => by obtain ⟨hp, g, d, tk, os⟩ := s; wp_walk; exact ⟨_, rfl, h⟩
/-! ### bounds -/
def Bd (n : Nat) (i : Int) : Prop := i.natAbs < 2 ^ n
theorem Bd.mono {n m : Nat} {i : Int} (h : Bd n i) (l : n ≤ m) : Bd m i := Nat.lt_of_lt_of_le h (Nat.pow_le_pow_right (by decide) l)
theorem Bd.mul {n m : Nat} {i j : Int} (h : Bd n i) (g : Bd m j) : Bd (n + m) (i * j) := wide_lt h g
theorem pow2_le {n m : Nat} (h : n ≤ m) : 2 ^ n ≤ 2 ^ m := Nat.pow_le_pow_right (by decide) h
theorem Bd.add {n m : Nat} {i j : Int} (h : Bd n i) (g : Bd m j) : Bd (n + m + 1) (i + j) := by
  have h1 : i.natAbs < 2 ^ n := h
  have h2 : j.natAbs < 2 ^ m := g
  have h3 : (i + j).natAbs ≤ i.natAbs + j.natAbs := Int.natAbs_add_le _ _
  have h4 : 2 ^ n ≤ 2 ^ (n + m) := pow2_le (by omega)
  have h5 : 2 ^ m ≤ 2 ^ (n + m) := pow2_le (by omega)
  have h6 : 2 ^ (n + m + 1) = 2 ^ (n + m) + 2 ^ (n + m) := by rw [Nat.pow_succ]; omega
  show (i + j).natAbs < _
  omega
theorem Bd.neg {n : Nat} {i : Int} (h : Bd n i) : Bd n (-i) := by
  show (-i).natAbs < _
  rw [Int.natAbs_neg]
  exact h
theorem Bd.sub {n m : Nat} {i j : Int} (h : Bd n i) (g : Bd m j) : Bd (n + m + 1) (i - j) := by
  rw [Int.sub_eq_add_neg]
  exact h.add g.neg
theorem Bd.lit {i : Int} (n : Nat) (h : i.natAbs < 2 ^ n := by decide) : Bd n i := h
/-- a sum of two that are below one power -/
theorem Bd.add1 {n : Nat} {i j : Int} (h : Bd n i) (g : Bd n j) : Bd (n + 1) (i + j) := by
  have h1 : i.natAbs < 2 ^ n := h
  have h2 : j.natAbs < 2 ^ n := g
  have h3 : (i + j).natAbs ≤ i.natAbs + j.natAbs := Int.natAbs_add_le _ _
  have h6 : 2 ^ (n + 1) = 2 ^ n + 2 ^ n := by rw [Nat.pow_succ]; omega
  show (i + j).natAbs < _
  omega
theorem cm {n m : Nat} {i j : Int} (h : Bd n i) (g : Bd m j) (l : n + m + 2 ≤ 1000000) : CMulW i j := wide_mul (h.mono (Nat.le_succ n)) (g.mono (Nat.le_succ m)) (Nat.succ_pos _) (Nat.succ_pos _) (by omega)
theorem cdx {n : Nat} {i j : Int} (h0 : j ≠ 0) (h : Bd n j) (l : n + 1 ≤ 9000) : CDivX i j := ⟨h0, Nat.lt_of_lt_of_le (PySem.Flt.log2_lt_of (Nat.succ_pos n) (h.mono (Nat.le_succ n))) l⟩
theorem cdw {n : Nat} {i j : Int} (h0 : 0 < j) (h : Bd n j) (l : n + 1 ≤ 9000) : CDivW i j := ⟨h0, Nat.lt_of_lt_of_le (PySem.Flt.log2_lt_of (Nat.succ_pos n) (h.mono (Nat.le_succ n))) l⟩
section
variable {X : Cx} {o : Option Addr} {ds : List (Option Dat)} {k k0 k1 k2 : Int × Int} {e e1 e2 e3 : Expr} {es : List Expr} {d d1 d2 d3 : Dat} {as : List Dat} {p pos : Pos} {x : Str}
def rGcd3 : List V → Hp → VK → Prop := fun vs H Q => ∃ a b c : Int, vs = [.int a, .int b, .int c] ∧ Q (.int (((a.natAbs.gcd b.natAbs).gcd c.natAbs : Nat) : Int)) H
theorem cr_gcd3 : CallR X (.builtin "math.gcd") rGcd3 := by
  intro pins s σ H vs us Q I r h
  obtain ⟨a, b, c, rfl, q⟩ := h
  cases r with
  | cons r1 r =>
    cases r with
    | cons r2 r =>
      cases r with
      | cons r3 r =>
        cases r
        obtain ⟨t1, rfl⟩ := r1
        obtain ⟨t2, rfl⟩ := r2
        obtain ⟨t3, rfl⟩ := r3
        have g := run_gcd3 a t1 b t2 c t3
        rw [Nat.gcd_zero_left] at g
        exact call_function_meets PySem.W.MGF.kind_gcd PySem.W.MGF.plain_gcd PySem.W.MGF.entry_gcd (args_gcd3 _ _ _) g.meets ⟨.int _, H, I.tok _, ⟨_, rfl⟩, q⟩
theorem ev_gcd3 {a b c : Int} (hm : X.mg x = some (.builtin "math.gcd")) (ha : EvA X o [e1, e2, e3] ds k0 [.int a, .int b, .int c] k1) (hg : Gl X x := by rfl) (hdb : (x == ("__debug__" : Str)) = false := by decide)
    (he : starEach [e1, e2, e3] X.env = (false, eval e1 X.env) :: starEach [e2, e3] X.env := by rfl) (hpl : (backTo pos (starEach [e2, e3] X.env)).any (·.1) = false := by rfl) : Ev X o (.Call (.Name x p) [e1, e2, e3] [] pos) ds k0 (.int (((a.natAbs.gcd b.natAbs).gcd c.natAbs : Nat) : Int)) k1 := fun st H Q St hk q =>
  we (pe_callBfun cr_gcd3 hg hm pa_w hdb he hpl) (ha st H _ St hk fun vs H1 ex hk1 h1 => by
    obtain ⟨v1, v2, v3, rfl, g1, g2, g3⟩ := dts3 h1
    cases g1; cases g2; cases g3
    exact ⟨a, b, c, rfl, q _ H1 ex hk1 (.int _)⟩)
/-- int(n) -/
theorem ev_intI {i : Int} (hm : X.mg "int" = none) (ha : EvA X o [e] ds k0 [.int i] k1) (hg : Gl X "int" := by rfl) (he : starEach [e] X.env = (false, eval e X.env) :: starEach [] X.env := by rfl) : Ev X o (.Call (.Name "int" p) [e] [] pos) ds k0 (.int i) k1 :=
  ev_bty call_int1 hm (by decide +kernel) ha (fun vs H Q h _ q => by
    obtain ⟨v, rfl, h1⟩ := dts1 h
    cases h1
    exact .inl ⟨i, rfl, q _ H (Ex.refl _) (.int _)⟩) hg (by decide) (by decide) he
theorem ev_intB {b : Bool} (hm : X.mg "int" = none) (ha : EvA X o [e] ds k0 [.bl b] k1) (hg : Gl X "int" := by rfl) (he : starEach [e] X.env = (false, eval e X.env) :: starEach [] X.env := by rfl) : Ev X o (.Call (.Name "int" p) [e] [] pos) ds k0 (.int (if b then 1 else 0)) k1 :=
  ev_bty call_int1 hm (by decide +kernel) ha (fun vs H Q h _ q => by
    obtain ⟨v, rfl, h1⟩ := dts1 h
    cases h1
    exact .inr ⟨b, rfl, q _ H (Ex.refl _) (.int _)⟩) hg (by decide) (by decide) he
/-- a built-in class by its name -/
theorem ev_ty {T : String} (hm : X.mg x = none) (hv : bootBuiltins x = some (.type T)) (hg : Gl X x := by rfl) (hn : x ≠ "__name__" := by decide) (hd : (x == ("__debug__" : Str)) = false := by decide) : Ev X o (.Name x pos) ds k (.raw (.ty T)) k := fun st H Q St hk q =>
  we (pe_bltn hg hm hv (v := .ty T) rfl hn hd) (q _ H (Kp.refl _ _) hk (.raw _))
/-- an own class by its name -/
theorem ev_cls {C : Addr} (hm : X.mg x = some (.ref C)) (hg : Gl X x := by rfl) (hd : (x == ("__debug__" : Str)) = false := by decide) : Ev X o (.Name x pos) ds k (.raw (.ref C)) k := fun st H Q St hk q =>
  we (pe_glob hg hm (v := .ref C) rfl hd) (q _ H (Kp.refl _ _) hk (.raw _))
/-- a module's tuple -/
theorem ev_gtup {C : Addr} {ob : Obj} {its : Array Value} {n : Nat} {xs : List V} (hm : X.mg x = some (.ref C)) (h1 : X.K.lookup C = some ob) (h2 : ob.cls = .type "tuple") (h3 : ob.data = .seq its n) (h4 : its.size ≤ sizeLine) (h5 : Vals xs its.toList) (h6 : ∀ H, DTs X.K o H xs as)
    (hg : Gl X x := by rfl) (hd : (x == ("__debug__" : Str)) = false := by decide) : Ev X o (.Name x pos) ds k (.tup as) k := fun st H Q St hk q =>
  we (pe_glob hg hm (v := .ref C) rfl hd) (q _ H (Kp.refl _ _) hk (.tup' (.inr ⟨ob, its, n, h1, h2, h3, h4, h5⟩) (h6 H)))
/-- the kind of a datum -/
inductive Ty : Dat → String → Prop
  | non : Ty .non "NoneType"
  | bl (b : Bool) : Ty (.bl b) "bool"
  | int (i : Int) : Ty (.int i) "int"
  | str (x : Str) : Ty (.str x) "str"
  | tup (xs : List Dat) : Ty (.tup xs) "tuple"
  | lst (xs : List Dat) : Ty (.lst xs) "list"
theorem ty_x {K : PySem.W.Frag} {H : Hp} {v : V} {T : String} (t : Ty d T) (h : DT K o H v d) : TyX K H v (.type T) := by
  cases t with
  | non => cases h; exact .base .non
  | bl b => cases h; exact .base (.bl b)
  | int i => cases h; exact .base (.int i)
  | str z => cases h; exact .base (.str z)
  | tup xs =>
    obtain ⟨a, ys, rfl, hs, _⟩ := h.untup
    rcases hs with (hs | ⟨ob, hs⟩) | ⟨ob, its, n, h1, h2, _⟩
    · exact .base (.tup hs)
    · exact .fTuple hs
    · exact .kTuple h1 h2
  | lst xs =>
    obtain ⟨a, ys, rfl, hs, _, _⟩ := h.unlst
    rcases hs with (hs | ⟨ob, hs⟩) | ⟨ob, its, n, h1, h2, _⟩
    · exact .base (.lst hs)
    · exact .base (.frz hs)
    · exact .kList h1 h2
theorem ev_isi {T U : String} {b : Bool} (hm : X.mg "isinstance" = none) (t : Ty d T) (ha : EvA X o [e1, e2] ds k0 [d, .raw (.ty U)] k1) (hk : kitB T U = some b := by decide +kernel) (hg : Gl X "isinstance" := by rfl) (he : starEach [e1, e2] X.env = (false, eval e1 X.env) :: starEach [e2] X.env := by rfl)
    (hpl : (backTo pos (starEach [e2] X.env)).any (·.1) = false := by rfl) : Ev X o (.Call (.Name "isinstance" p) [e1, e2] [] pos) ds k0 (.bl b) k1 :=
  ev_bif call_isi hm (by decide +kernel) ha (fun vs H Q h _ q => by
    obtain ⟨v, w, rfl, h1, h2⟩ := dts2 h
    cases h2
    exact ⟨v, .ty U, _, _, b, rfl, .ty U, ty_x t h1, kit_ty hk, q _ H (Ex.refl _) (.bl _)⟩) hg (by decide) (by decide) he hpl
/-- isinstance(e, (T1, T2)) -/
theorem ev_isi2 {T U1 U2 : String} {b : Bool} {n1 n2 : Str} {p1 p2 p3 : Pos} {cx : Nat} (hm : X.mg "isinstance" = none) (t : Ty d T) (ha : Ev X o e1 ds k0 d k1) (hm1 : X.mg n1 = none) (hv1 : bootBuiltins n1 = some (.type U1)) (hm2 : X.mg n2 = none) (hv2 : bootBuiltins n2 = some (.type U2))
    (hb : ∀ K : PySem.W.Frag, PySem.W.kitAny K (.type T) [.type U1, .type U2] = some b) (hg : Gl X "isinstance" := by rfl) (hg1 : Gl X n1 := by rfl) (hg2 : Gl X n2 := by rfl) (hn1 : n1 ≠ "__name__" := by decide) (hn2 : n2 ≠ "__name__" := by decide) (hd1 : (n1 == ("__debug__" : Str)) = false := by decide) (hd2 : (n2 == ("__debug__" : Str)) = false := by decide)
    (he : starEach [e1, .Tuple [.Name n1 p1, .Name n2 p2] cx p3] X.env = (false, eval e1 X.env) :: starEach [.Tuple [.Name n1 p1, .Name n2 p2] cx p3] X.env := by rfl)
    (hpl : (backTo pos (starEach [.Tuple [.Name n1 p1, .Name n2 p2] cx p3] X.env)).any (·.1) = false := by rfl) : Ev X o (.Call (.Name "isinstance" p) [e1, .Tuple [.Name n1 p1, .Name n2 p2] cx p3] [] pos) ds k0 (.bl b) k1 := fun st H Q St hk q =>
  we (pe_callB call_isiT hg hm (by decide +kernel) (pa_cons pe_w (pa_cons (pe_tup (pa_cons (pe_bltn hg1 hm1 hv1 (v := .ty U1) rfl hn1 hd1) (pa_cons (pe_bltn hg2 hm2 hv2 (v := .ty U2) rfl hn2 hd2) pa_nil))) pa_nil) he) (by decide) (by decide) he hpl) (ha st H _ St hk fun v H1 ex hk1 h1 => by
    refine ⟨by show 2 ≤ sizeLine; decide, fun tp np => ?_⟩
    have h2 := h1.kp (Kp.of_ex (Ex.new (o := .tup [.ty U1, .ty U2]) np)) hk1
    exact ⟨v, tp, [.ty U1, .ty U2], _, [.type U1, .type U2], b, rfl, upd_same, .cons (.ty U1) (.cons (.ty U2) .nil), ty_x t h2, hb _, q _ _ (ex.trans (Kp.of_ex (Ex.new np))) (hk1.ex (Ex.new np)) (.bl _)⟩)
theorem kit2 {K : PySem.W.Frag} {T U1 U2 : String} {b1 b2 : Bool} (h1 : kitB T U1 = some b1) (h2 : kitB T U2 = some b2) : PySem.W.kitAny K (.type T) [.type U1, .type U2] = some (b1 || b2) := by
  refine kitAny_cons (kit_ty h1) (fun e => ?_) (fun e => by rw [e]; rfl)
  rw [e, Bool.false_or]
  refine kitAny_cons (kit_ty h2) (fun e => ?_) (fun e => e)
  rw [kitAny_nil, e]
/-- t[:2] of three -/
theorem cut32 (a b c : V) : cutV [a, b, c] none (some 2) = [a, b] := rfl
theorem ev_cut32 {kk : Nat} {p2 p3 : Pos} (ha : Ev X o e ds k (.tup [d1, d2, d3]) k1) : Ev X o (.Subscript e (.Slice none (some (.Constant (.int 2) kk p2)) none p3) pos) ds k (.tup [d1, d2]) k1 := fun st H Q St hk q =>
  we (pe_slice sl_tup pe_w po_none (po_some pe_int)) (ha st H _ St hk fun v H1 ex hk1 h1 => by
    obtain ⟨a, xs, rfl, hs, hd⟩ := h1.untup
    obtain ⟨v1, v2, v3, rfl, g1, g2, g3⟩ := dts3 hd
    refine ⟨2, rfl, a, _, rfl, hs, (by intro z; exact absurd z.2 (show ¬ ((2 : Nat) = 3) by decide)), fun np hn => ?_⟩
    rw [cut32]
    have e1 := Kp.of_ex (o := o) (Ex.new (o := .tup [v1, v2]) hn)
    exact q _ _ (ex.trans e1) (hk1.ex (Ex.new hn)) (.tup' (.inl (.inl upd_same)) (DTs.cons (g1.kp e1 hk1) (DTs.cons (g2.kp e1 hk1) DTs.nil))))
theorem ev_as (h : Ev X o e ds k d k1) (hd : d = d1) : Ev X o e ds k d1 k1 := hd ▸ h
theorem ev_ifD {c a b : Expr} {y : Bool} (h : EvT X o c ds k y k1) (ha : y = true → Ev X o a ds k1 d1 k2) (hb : y = false → Ev X o b ds k1 d2 k2) : Ev X o (.IfExp c a b pos) ds k (if y = true then d1 else d2) k2 :=
  ev_if h (fun q => by subst q; exact ha rfl) (fun q => by subst q; exact hb rfl)
theorem ev_ifI {c a b : Expr} {y : Bool} {i j : Int} (h : EvT X o c ds k y k1) (ha : y = true → Ev X o a ds k1 (.int i) k2) (hb : y = false → Ev X o b ds k1 (.int j) k2) : Ev X o (.IfExp c a b pos) ds k (.int (if y = true then i else j)) k2 :=
  ev_if h (fun q => by subst q; exact ha rfl) (fun q => by subst q; exact hb rfl)
theorem nm (i : Nat) {x : Str} (h : ds[i]? = some (some d)) (hN : X.N[i]? = some x := by rfl) (hv : Vis X.env.scope x := by first | exact Or.inl rfl | exact Or.inr (Or.inl rfl) | exact Or.inr (Or.inr rfl)) (hd : (x == ("__debug__" : Str)) = false := by decide) (hcd : (x == ("__classdict__" : Str)) = false := by decide) : Ev X o (.Name x pos) ds k d k := ev_name h hN hv hd hcd
end
section
variable {X : Cx} {o : Option Addr} {ds : List (Option Dat)} {k k1 k2 : Int × Int} {e c : Expr} {d d' : Dat} {pos pos' : Pos} {rest body : List Stmt} {D : Ends} {H0 : Hp}
theorem as_rt {kf : Int × Int} (he : Ev X o e ds k d' k1) (hd : d' = d) (hk : k1 = kf) (hQ : DP X.K o kf d H0 D.rt) : AS X o (.Return (some e) pos :: rest) D ds k H0 :=
  as_ret he fun v H1 a b c => hQ v H1 a (hk ▸ b) (hd ▸ c)
theorem as_dk0 {pa : Addr} {eo ei : Expr} {z : Int} (he : Ev X (some pa) e ds k (.int z) k1) (ho : Ev X (some pa) eo ds k1 (.raw (.ref pa)) k1) (hi : Ev X (some pa) ei ds k1 (.int 0) k1) (hr : AS X (some pa) rest D ds (z, k1.2) H0) {tpos : Pos}
    (hs : swapsWithSole [.Subscript eo ei tpos] e pos.line X.env = pure false := by rfl) (hw : swappedStores [.Subscript eo ei tpos] e X.env = pure none := by rfl) (hpg : PG X (.Subscript eo ei tpos) (gSub (WE X eo) (WE X ei) rSetL) := by exact pg_sub pe_w pe_w set_list) :
    AS X (some pa) (.Assign [.Subscript eo ei tpos] e pos :: rest) D ds k H0 := as_dk he ho hi (.inl ⟨rfl, rfl⟩) hr hs hw hpg
theorem as_dk1 {pa : Addr} {eo ei : Expr} {z : Int} (he : Ev X (some pa) e ds k (.int z) k1) (ho : Ev X (some pa) eo ds k1 (.raw (.ref pa)) k1) (hi : Ev X (some pa) ei ds k1 (.int 1) k1) (hr : AS X (some pa) rest D ds (k1.1, z) H0) {tpos : Pos}
    (hs : swapsWithSole [.Subscript eo ei tpos] e pos.line X.env = pure false := by rfl) (hw : swappedStores [.Subscript eo ei tpos] e X.env = pure none := by rfl) (hpg : PG X (.Subscript eo ei tpos) (gSub (WE X eo) (WE X ei) rSetL) := by exact pg_sub pe_w pe_w set_list) :
    AS X (some pa) (.Assign [.Subscript eo ei tpos] e pos :: rest) D ds k H0 := as_dk he ho hi (.inr ⟨rfl, rfl⟩) hr hs hw hpg
/-- return [..]: a new list -/
theorem as_rtL {es : List Expr} {as : List Dat} {lp : Pos} (ha : EvA X none es ds k as k1) (hl : as.length ≤ 1000) (hQ : ∀ p H1, H0 p = none → Ex H0 H1 → DT X.K none H1 (.ref p) (.lst as) → (∃ vs, H1 p = some (.lst vs) ∧ DTs X.K none H1 vs as) → D.rt (.ref p) H1) :
    AS X none (.Return (some (.List es lp)) pos :: rest) D ds k H0 := fun st H S hk e0 =>
  wb_cons (wss (ps_ret (pe_lst pa_w)) (ha st H _ S hk fun vs H1 e1 hk1 h1 => ⟨by rw [h1.length]; exact Nat.le_trans hl (by decide), fun p np => by
    have e2 := Ex.new (o := .lst vs) np
    have e3 : Ex H0 H1 := (e0.trans e1).ex
    have h2 := h1.kp (Kp.of_ex e2) hk1
    exact hQ p _ (fresh_back e3 np) (e3.trans e2) (.lst' (.inl (.inl upd_same)) (fun z => by cases z) h2) ⟨vs, upd_same, h2⟩⟩))
theorem as_ifsetI {b : Bool} {i : Nat} {x : Str} {i0 i1 : Int} (hN : X.N.Nodup) (hc : EvT X o c ds k b k1) (h0 : ds[i]? = some (some (.int i0))) (he : b = true → Ev X o e ds k1 (.int i1) k1) (hr : AS X o rest D (ds.set i (some (.int (if b then i1 else i0)))) k1 H0)
    (hi : X.N[i]? = some x := by rfl) (hx : Loc X.env.scope x := by exact Or.inl rfl) {pos2 : Pos} (hs : swapsWith e (some (.Name x pos')) pos.line X.env = pure false := by rfl) (hf : X.fn x = true ∨ X.env.scope.names.lookup x = some .local := by exact .inl rfl) :
    AS X o (.If c [.Assign [.Name x pos'] e pos] [] pos2 :: rest) D ds k H0 :=
  as_ifset hN hc h0 he (by
    have q : (if b = true then Dat.int i1 else Dat.int i0) = Dat.int (if b = true then i1 else i0) := by cases b <;> rfl
    rw [q]
    exact hr) hi hx hs hf
end
end Wf

set_option Elab.async false
set_option linter.all false
set_option maxRecDepth 100000
set_option maxHeartbeats 4000000
namespace Wf
open PySem PySem.Spec PyProof.Rows L2 Evl
/-! ### no lists, nothing raw: by computation -/
mutual
def noL : Dat → Bool
  | .lst _ => false
  | .trk _ => false
  | .raw _ => false
  | .tup xs => noLs xs
  | _ => true
def noLs : List Dat → Bool
  | [] => true
  | d :: ds => noL d && noLs ds
end
mutual
def noR : Dat → Bool
  | .raw _ => false
  | .trk _ => false
  | .lst xs => noRs xs
  | .tup xs => noRs xs
  | _ => true
def noRs : List Dat → Bool
  | [] => true
  | d :: ds => noR d && noRs ds
end
mutual
def pd : Dat → PyData
  | .non => .none
  | .bl b => .bool b
  | .int i => .int i
  | .str x => .str x
  | .tup xs => .tuple (pds xs)
  | .lst xs => .list (pds xs)
  | .trk _ => .none
  | .raw _ => .none
def pds : List Dat → List PyData
  | [] => []
  | d :: ds => pd d :: pds ds
end
theorem noRs_at : ∀ {ds : List Dat} {i : Nat} {d : Dat}, noRs ds = true → ds[i]? = some d → noR d = true
  | [], _, _, _, h => by simp at h
  | d :: ds, 0, e, h, q => by
    simp at q
    subst q
    rw [noRs, Bool.and_eq_true] at h
    exact h.1
  | d :: ds, i + 1, e, h, q => by
    rw [noRs, Bool.and_eq_true] at h
    exact noRs_at (i := i) h.2 (by simpa using q)
theorem noLs_at : ∀ {ds : List Dat} {i : Nat} {d : Dat}, noLs ds = true → ds[i]? = some d → noL d = true
  | [], _, _, _, h => by simp at h
  | d :: ds, 0, e, h, q => by
    simp at q
    subst q
    rw [noLs, Bool.and_eq_true] at h
    exact h.1
  | d :: ds, i + 1, e, h, q => by
    rw [noLs, Bool.and_eq_true] at h
    exact noLs_at (i := i) h.2 (by simpa using q)
theorem dpall {K : PySem.W.Frag} {H : Hp} : ∀ {xs : List V} {ds : List Dat}, xs.length = ds.length → (∀ (i : Nat) (v : V) (d : Dat), xs[i]? = some v → ds[i]? = some d → Dp K H v (pd d)) → DpAll K H xs (pds ds)
  | [], [], _, _ => .nil
  | x :: xs, d :: ds, hl, h => .cons (h 0 x d rfl rfl) (dpall (by simpa using hl) fun i v e a b => h (i + 1) v e (by simpa using a) (by simpa using b))
theorem DT.dp {K : PySem.W.Frag} {o : Option Addr} {H : Hp} {v : V} {d : Dat} (h : DT K o H v d) : noR d = true → Dp K H v (pd d) := by
  induction h with
  | non => intro _; exact .non
  | bl b => intro _; exact .bl b
  | int i => intro _; exact .int i
  | str x => intro _; exact .str x
  | tup s l _ ih => intro n; rw [noR] at n; exact .tup s (dpall l fun i v d a b => ih i v d a b (noRs_at n b))
  | lst s _ l _ ih => intro n; rw [noR] at n; exact .lst s (dpall l fun i v d a b => ih i v d a b (noRs_at n b))
  | trk s _ l _ ih => intro n; cases n
  | raw v => intro n; cases n
/-- data without lists stays where tuples stay -/
theorem DT.tm {K : PySem.W.Frag} {o : Option Addr} {H H' : Hp} (m : ∀ b xs, SqT K H b xs → SqT K H' b xs) {v : V} {d : Dat} (h : DT K o H v d) : noL d = true → DT K o H' v d := by
  induction h with
  | non => intro _; exact .non
  | bl b => intro _; exact .bl b
  | int i => intro _; exact .int i
  | str x => intro _; exact .str x
  | tup s l _ ih => intro n; rw [noL] at n; exact .tup (m _ _ s) l fun i v d a b => ih i v d a b (noLs_at n b)
  | lst s _ l _ ih => intro n; cases n
  | trk s _ l _ ih => intro n; cases n
  | raw v => intro n; cases n
theorem tm_upd {K : PySem.W.Frag} {H : Hp} {p : Addr} {xs ys : List V} (h : H p = some (.lst xs)) : ∀ b zs, SqT K H b zs → SqT K (upd H p (.lst ys)) b zs := fun b zs s => by
  rcases s with (s | ⟨ob, s⟩) | s
  · have n : b ≠ p := fun z => by
      rw [z, h] at s
      cases s
    exact .inl (.inl (by rw [upd_ne n]; exact s))
  · have n : b ≠ p := fun z => by
      rw [z, h] at s
      cases s
    exact .inl (.inr ⟨ob, by rw [upd_ne n]; exact s⟩)
  · exact .inr s
theorem NoL.of : ∀ {d : Dat}, noL d = true → NoL d := by
  intro d
  have key : ∀ (n : Nat) (d : Dat), sizeOf d < n → noL d = true → NoL d := by
    intro n
    induction n with
    | zero => intro d h; omega
    | succ n ih =>
      intro d hn h
      match d, hn, h with
      | .non, _, _ => exact .non
      | .bl b, _, _ => exact .bl b
      | .int i, _, _ => exact .int i
      | .str x, _, _ => exact .str x
      | .tup xs, hn, h =>
        rw [noL] at h
        refine .tup fun i e he => ih e ?_ (noLs_at h he)
        have h1 : e ∈ xs := List.mem_of_getElem? he
        have h2 := List.sizeOf_lt_of_mem h1
        simp at hn
        omega
  exact key _ d (Nat.lt_succ_self _)

section
variable {X : Cx} {o : Option Addr} {ds : List (Option Dat)} {k k0 k1 k2 : Int × Int} {e a b c e1 e2 : Expr} {es : List Expr} {d d1 d2 : Dat} {as : List Dat} {p pos : Pos} {x : Str}
theorem ev_eqD {r : Bool} (hu : X.A.units + 64 < cLine) (ha : Ev X o a ds k d1 k1) (hb : Ev X o b ds k1 d2 k2) (n1 : noR d1 = true) (n2 : noR d2 = true) (s1 : SeqAt.shaped (pd d1) = true) (s2 : SeqAt.shaped (pd d2) = true) (hr : PyData.eqv (pd d1) (pd d2) = r) : Ev X o (.Compare a [.Eq] [b] pos) ds k (.bl r) k2 := fun st H Q S hk q =>
  we (pe_cmpR (op_eqD hu) pe_w pe_w (nobehind _ (by decide) (by decide))) (ha st H _ S hk fun u H1 e1 hk1 h1 => hb st H1 _ (S.kp e1 hk) hk1 fun w H2 e2 hk2 h2 =>
    ⟨_, _, (h1.kp e2 hk1).dp n1, h2.dp n2, s1, s2, by rw [hr]; exact q _ H2 (e1.trans e2) hk2 (.bl _)⟩)
theorem ev_neD {r : Bool} (hu : X.A.units + 64 < cLine) (ha : Ev X o a ds k d1 k1) (hb : Ev X o b ds k1 d2 k2) (n1 : noR d1 = true) (n2 : noR d2 = true) (s1 : SeqAt.shaped (pd d1) = true) (s2 : SeqAt.shaped (pd d2) = true) (hr : (!PyData.eqv (pd d1) (pd d2)) = r) : Ev X o (.Compare a [.NotEq] [b] pos) ds k (.bl r) k2 := fun st H Q S hk q =>
  we (pe_cmpR (op_neD hu) pe_w pe_w (nobehind _ (by decide) (by decide))) (ha st H _ S hk fun u H1 e1 hk1 h1 => hb st H1 _ (S.kp e1 hk) hk1 fun w H2 e2 hk2 h2 =>
    ⟨_, _, (h1.kp e2 hk1).dp n1, h2.dp n2, s1, s2, by rw [hr]; exact q _ H2 (e1.trans e2) hk2 (.bl _)⟩)
theorem et_eqD {r : Bool} (hu : X.A.units + 64 < cLine) (ha : Ev X o a ds k d1 k1) (hb : Ev X o b ds k1 d2 k2) (n1 : noR d1 = true) (n2 : noR d2 = true) (s1 : SeqAt.shaped (pd d1) = true) (s2 : SeqAt.shaped (pd d2) = true) (hr : PyData.eqv (pd d1) (pd d2) = r) : EvT X o (.Compare a [.Eq] [b] pos) ds k r k2 :=
  et_cmp (op_eqD hu) (nobehind _ (by decide) (by decide)) ha hb fun u w H Q h1 h2 q => ⟨_, _, h1.dp n1, h2.dp n2, s1, s2, by rw [hr]; exact q⟩
theorem et_neD {r : Bool} (hu : X.A.units + 64 < cLine) (ha : Ev X o a ds k d1 k1) (hb : Ev X o b ds k1 d2 k2) (n1 : noR d1 = true) (n2 : noR d2 = true) (s1 : SeqAt.shaped (pd d1) = true) (s2 : SeqAt.shaped (pd d2) = true) (hr : (!PyData.eqv (pd d1) (pd d2)) = r) : EvT X o (.Compare a [.NotEq] [b] pos) ds k r k2 :=
  et_cmp (op_neD hu) (nobehind _ (by decide) (by decide)) ha hb fun u w H Q h1 h2 q => ⟨_, _, h1.dp n1, h2.dp n2, s1, s2, by rw [hr]; exact q⟩
/-- an int in a tuple of ints -/
theorem ev_inI {i : Int} {is : List Int} {r : Bool} (ha : Ev X o a ds k (.int i) k1) (hb : Ev X o b ds k1 (.tup (is.map Dat.int)) k2) (hr : inV (.int i) (is.map V.int) = r) (hm : behindInMarks .In b = false := by rfl) : Ev X o (.Compare a [.In] [b] pos) ds k (.bl r) k2 := fun st H Q S hk q =>
  we (pe_cmpR op_in_seq pe_w pe_w hm) (ha st H _ S hk fun u H1 e1 hk1 h1 => hb st H1 _ (S.kp e1 hk) hk1 fun w H2 e2 hk2 h2 => by
    cases h1
    obtain ⟨pp, xs, rfl, hs, hd⟩ := h2.untup
    have ex : xs = is.map V.int := by
      refine List.ext_getElem? fun j => ?_
      by_cases hj : j < xs.length
      · have hj2 : j < is.length := by rw [hd.1, List.length_map] at hj; exact hj
        have q1 : (is.map Dat.int)[j]? = some (.int is[j]) := by rw [List.getElem?_map, List.getElem?_eq_getElem hj2]; rfl
        have q2 := hd.2 j _ _ (List.getElem?_eq_getElem hj) q1
        rw [List.getElem?_eq_getElem hj, List.getElem?_map, List.getElem?_eq_getElem hj2]
        generalize xs[j] = vv at q2
        cases q2
        rfl
      · have hj2 : ¬ j < is.length := by rw [hd.1, List.length_map] at hj; exact hj
        rw [List.getElem?_eq_none (by omega), List.getElem?_eq_none (by rw [List.length_map]; omega)]
    subst ex
    refine ⟨pp, _, rfl, .inr hs, rfl, ?_, ?_⟩
    · rw [List.all_map]
      exact List.all_eq_true.mpr fun _ _ => rfl
    · show Q (.bl (if false = true then !inV (.int i) (is.map V.int) else inV (.int i) (is.map V.int))) H2
      rw [if_neg Bool.false_ne_true, hr]
      exact q _ H2 (e1.trans e2) hk2 (.bl _))
theorem ev_pow {i j : Int} (ha : Ev X o a ds k (.int i) k1) (hb : Ev X o b ds k1 (.int j) k2) (hc : CPow i j) : Ev X o (.BinOp a .Pow b pos) ds k (.int (i ^ j.toNat)) k2 := ev_opI op_pow hc (fun _ => .int _) ha hb
/-- [..] * n -/
theorem ev_rep {n : Nat} {lp : Pos} (ha : EvA X o es ds k as k1) (hb : Ev X o b ds k1 (.int (n : Int)) k2) (hl : as.length ≤ 1000) (hn : n ≤ 1000) : Ev X o (.BinOp (.List es lp) .Mult b pos) ds k (.lst (List.replicate n as).flatten) k2 := fun st H Q S hk q =>
  we (pe_op op_rep (pe_lst pa_w) pe_w) (ha st H _ S hk fun vs H1 e1 hk1 h1 => by
    refine ⟨by rw [h1.length]; exact Nat.le_trans hl (by decide), fun l nl => ?_⟩
    have el := Kp.of_ex (o := o) (Ex.new (o := .lst vs) nl)
    refine hb st _ _ ((S.kp e1 hk).kp el hk1) (hk1.ex (Ex.new nl)) fun w H2 e2 hk2 h2 => ?_
    cases h2
    have hl2 : H2 l = some (.lst vs) := e2 l _ (hk1.ne nl) upd_same
    have hvs : DTs X.K o H2 vs as := (h1.kp el hk1).kp e2 (hk1.ex (Ex.new nl))
    refine ⟨l, n, vs, rfl, rfl, hl2, by omega, by omega, ?_, fun p np => ?_⟩
    · rw [h1.length, Int.toNat_natCast]
      have : as.length * n ≤ 1000 * 1000 := Nat.mul_le_mul hl hn
      exact Nat.le_trans this (by decide)
    · rw [Int.toNat_natCast]
      have e3 := Kp.of_ex (o := o) (Ex.new (o := .lst (List.replicate n vs).flatten) np)
      refine q _ _ (((e1.trans el).trans e2).trans e3) (hk2.ex (Ex.new np)) (.lst' (.inl (.inl upd_same)) (hk2.ne np) ?_)
      have hh := hvs.kp e3 hk2
      have rep : ∀ m : Nat, DTs X.K o (upd H2 p (.lst (List.replicate n vs).flatten)) (List.replicate m vs).flatten (List.replicate m as).flatten := by
        intro m
        induction m with
        | zero => exact DTs.nil
        | succ m ih =>
          rw [List.replicate_succ, List.replicate_succ, List.flatten_cons, List.flatten_cons]
          refine ⟨by rw [List.length_append, List.length_append, hh.1, ih.1], fun i v d ga gb => ?_⟩
          by_cases hi : i < vs.length
          · rw [List.getElem?_append_left hi] at ga
            rw [List.getElem?_append_left (by rw [← hh.1]; exact hi)] at gb
            exact hh.2 i v d ga gb
          · rw [List.getElem?_append_right (by omega)] at ga
            rw [List.getElem?_append_right (by rw [← hh.1]; omega)] at gb
            rw [← hh.1] at gb
            exact ih.2 _ v d ga gb
      exact rep n)
/-! keywords alone -/
def kperm (pi : List Nat) (n : Nat) {α : Type} (us ws : List α) : List α := match us with
  | [] => if ws.length = n then pi.filterMap (fun i => ws[i]?) else []
  | _ :: _ => []
theorem kperm_rel (pi : List Nat) (n : Nat) {vs : List V} {us : List Value} {zs : List V} {ws : List Value} (r : Vals vs us) (r2 : Vals zs ws) : Vals (kperm pi n vs zs) (kperm pi n us ws) := by
  cases r with
  | cons _ _ => exact .nil
  | nil =>
    unfold kperm
    by_cases hn : zs.length = n
    · have e2 : ws.length = n := by rw [← r2.length]; exact hn
      show Vals (if zs.length = n then pi.filterMap (fun i => zs[i]?) else []) (if ws.length = n then pi.filterMap (fun i => ws[i]?) else [])
      rw [if_pos hn, if_pos e2]
      induction pi with
      | nil => exact .nil
      | cons i pi ih =>
        rw [List.filterMap_cons, List.filterMap_cons]
        cases hz : zs[i]? with
        | none =>
          rw [r2.none_of hz]
          exact ih
        | some z =>
          obtain ⟨u, hu, ru⟩ := r2.get hz
          rw [hu]
          exact .cons ru ih
    · have e2 : ¬ ws.length = n := by rw [← r2.length]; exact hn
      show Vals (if zs.length = n then pi.filterMap (fun i => zs[i]?) else []) (if ws.length = n then pi.filterMap (fun i => ws[i]?) else [])
      rw [if_neg hn, if_neg e2]
      exact .nil
theorem Fun.kb {K : PySem.W.Frag} {x qual : Str} {st : Stmt} {f : Addr} {fd : FuncData} {ps ks : List Str} (F : Fun K x qual st f fd) (pi : List Nat) (n : Nat) (hp : 0 < ps.length)
    (h : ∀ (kV doc pm : Value) (an : Option Addr) (cdv ct : Value) (ws : List Value), ws.length = n → bindArgs (PySem.W.fnOf x qual (defArgs st) (defBody st) (defScope st) .none kV doc pm an cdv ct) ⟨[], ks.zip ws⟩ = pure (ps.zip (kperm pi n [] ws))) : KBinds K fd ps ks (kperm pi n) (kperm pi n) := by
  obtain ⟨oc, od, kV, doc, pm, an, cdv, ct, osl, rfl, lk, hcd⟩ := F.ex
  refine ⟨fun s us ws _ hl => ?_, fun r r2 => kperm_rel pi n r r2⟩
  cases us with
  | cons u us =>
    have hl' : (0 : Nat) = ps.length := hl
    omega
  | nil =>
    by_cases hw : ws.length = n
    · exact .of_eq (h kV doc pm an cdv ct ws hw)
    · have e : kperm pi n ([] : List Value) ws = [] := by
        unfold kperm
        rw [if_neg hw]
      rw [e] at hl
      have hl' : (0 : Nat) = ps.length := hl
      omega
def permD (pi : List Nat) (as : List Dat) : List Dat := pi.filterMap (fun i => as[i]?)
theorem DTs.perm {K : PySem.W.Frag} {H : Hp} {vs : List V} (h : DTs K o H vs as) (pi : List Nat) : DTs K o H (pi.filterMap fun i => vs[i]?) (permD pi as) := by
  unfold permD
  induction pi with
  | nil => exact DTs.nil
  | cons i pi ih =>
    rw [List.filterMap_cons, List.filterMap_cons]
    cases ha : as[i]? with
    | none =>
      have : vs[i]? = none := by
        rw [List.getElem?_eq_none_iff] at ha ⊢
        rw [h.1]
        exact ha
      rw [this]
      exact ih
    | some dd =>
      obtain ⟨v, hv, hd⟩ := h.at ha
      rw [hv]
      exact DTs.cons hd ih
structure ClK (P : Program) (w : World) (K : PySem.W.Frag) (mg : Str → Option Value) (base : Heap) (k : Nat) (x : Str) (ps ks : List Str) (pi : List Nat) (sp : Sp) : Prop where
  ex : ∃ (f : Addr) (fd : FuncData), mg x = some (.ref f) ∧ PySem.W.keepIn K (.ref f) = true ∧ KBinds K fd ps ks (kperm pi ks.length) (kperm pi ks.length) ∧ FnOk P w K mg base CX0 k f fd ps sp
theorem ev_callK {k' : Nat} {ps ks : List Str} {pi : List Nat} {S : List Dat → Dat → Prop} {kws : List Keyword} (c : ClK X.prog X.w X.K X.mg X.base k' x ps ks pi (spP X.K S)) (hr : Room k' X.A) (ha : EvKw X o kws ds k0 as k1) (hs : S (permD pi as) d) (hn : o = none ∨ NoL d) (hlen : as.length = ks.length := by rfl) (hg : Gl X x := by rfl)
    (hall : (backToKw pos (keywordEach kws X.env)).all (·.1.isSome) = true := by rfl) (hks : (backToKw pos (keywordEach kws X.env)).filterMap (·.1) = ks := by rfl) (hdb : (x == ("__debug__" : Str)) = false := by decide)
    (hpl : ((backTo pos (starEach [] X.env)).any (·.1) || (backToKw pos (keywordEach kws X.env)).any (·.1.isNone)) = false := by rfl) : Ev X o (.Call (.Name x p) [] kws pos) ds k0 d k1 := fun st H Q St hk q => by
  obtain ⟨f, fd, hm, hkp, hb, F⟩ := c.ex
  intro pins s I
  refine wpAny_Call_Name_kw (ld_glob I hg hm ?_ hdb)
  refine PySem.W.callWith_KW0 (h₀ := X.base) I.ok.mod.kin hkp hall (thn (ha st H (fun zs H2 => spP X.K S (kperm pi ks.length [] zs) H2 Q E0) St hk (fun vs H1 e1 hk1 h1 => ?_) pos pins s I) fun ws s2 ⟨zs, H2, I2, rz, q2⟩ => ⟨I2.kIn, ?_⟩) hpl
  · refine ⟨permD pi as, d, ?_, hs, fun v H' ex h' => q v H' (e1.trans (Kp.of_ex ex)) (hk1.ex ex) ?_⟩
    · unfold kperm
      rw [if_pos (by rw [h1.length]; exact hlen)]
      exact (h1.perm pi).free
    · rcases hn with hn | hn
      · subst hn
        exact h'
      · exact h'.back hn
  · rw [hks]
    exact run_fnk F hr hb pass0 I2 .nil rz q2
/-- by a function of the arguments' data -/
theorem ev_callF (R : List Dat → Dat) {k' : Nat} {ps : List Str} {S : List Dat → Dat → Prop} (c : Cl X.prog X.w X.K X.mg X.base k' x ps (spP X.K S)) (hr : Room k' X.A) (ha : EvA X o (e :: es) ds k0 as k1) (hs : S as (R as)) (hn : o = none ∨ NoL (R as)) (hg : Gl X x := by rfl) (hdb : (x == ("__debug__" : Str)) = false := by decide)
    (he : starEach (e :: es) X.env = (false, eval e X.env) :: starEach es X.env := by rfl) (hpl : (backTo pos (starEach es X.env)).any (·.1) = false := by rfl) : Ev X o (.Call (.Name x p) (e :: es) [] pos) ds k0 (R as) k1 := ev_call c hr ha hs hn hg hdb he hpl
theorem ev_callKF (R : List Dat → Dat) {k' : Nat} {ps ks : List Str} {pi : List Nat} {S : List Dat → Dat → Prop} {kws : List Keyword} (c : ClK X.prog X.w X.K X.mg X.base k' x ps ks pi (spP X.K S)) (hr : Room k' X.A) (ha : EvKw X o kws ds k0 as k1) (hs : S (permD pi as) (R (permD pi as))) (hn : o = none ∨ NoL (R (permD pi as))) (hlen : as.length = ks.length := by rfl) (hg : Gl X x := by rfl)
    (hall : (backToKw pos (keywordEach kws X.env)).all (·.1.isSome) = true := by rfl) (hks : (backToKw pos (keywordEach kws X.env)).filterMap (·.1) = ks := by rfl) (hdb : (x == ("__debug__" : Str)) = false := by decide)
    (hpl : ((backTo pos (starEach [] X.env)).any (·.1) || (backToKw pos (keywordEach kws X.env)).any (·.1.isNone)) = false := by rfl) : Ev X o (.Call (.Name x p) [] kws pos) ds k0 (R (permD pi as)) k1 := ev_callK c hr ha hs hn hlen hg hall hks hdb hpl
theorem ev_callDF (R : List Dat → Int × Int → Dat × (Int × Int)) {pa : Addr} {k' : Nat} {ps : List Str} {S : List Dat → Int × Int → Dat → Int × Int → Prop} (c : Cl X.prog X.w X.K X.mg X.base k' x ps (spD X.K S)) (hr : Room k' X.A) (ha : EvA X (some pa) (e :: es) ds k0 (.raw (.ref pa) :: as) k1) (hs : S as k1 (R as k1).1 (R as k1).2) (hg : Gl X x := by rfl) (hdb : (x == ("__debug__" : Str)) = false := by decide)
    (he : starEach (e :: es) X.env = (false, eval e X.env) :: starEach es X.env := by rfl) (hpl : (backTo pos (starEach es X.env)).any (·.1) = false := by rfl) : Ev X (some pa) (.Call (.Name x p) (e :: es) [] pos) ds k0 (R as k1).1 (R as k1).2 := ev_callD c hr ha hs hg hdb he hpl
end
end Wf

set_option Elab.async false
set_option linter.all false
set_option maxRecDepth 100000
set_option maxHeartbeats 4000000
namespace Wf
open PySem PySem.Spec PyProof.Rows L2 Evl
section
variable {X : Cx} {o : Option Addr} {ds : List (Option Dat)} {k k0 k1 k2 : Int × Int} {e a b c elt : Expr} {es : List Expr} {d d1 d2 : Dat} {as : List Dat} {p pos p1 p2 p3 : Pos} {x : Str} {scope : Scope} {j : Nat}
/-- what a comprehension over n items gives -/
def gv (f : Nat → Bool) (v : Nat → Dat) (n : Nat) : List Dat := ((List.range n).filter f).map v
theorem gv_yes {f : Nat → Bool} {v : Nat → Dat} {n : Nat} (h : f n = true) : gv f v (n + 1) = gv f v n ++ [v n] := by
  unfold gv
  rw [List.range_succ, List.filter_append, List.map_append, List.filter_cons, if_pos h]
  rfl
theorem gv_no {f : Nat → Bool} {v : Nat → Dat} {n : Nat} (h : f n = false) : gv f v (n + 1) = gv f v n := by
  unfold gv
  rw [List.range_succ, List.filter_append, List.map_append, List.filter_cons, if_neg (by rw [h]; decide)]
  show _ ++ [] = _
  rw [List.append_nil]
theorem gv_len (f : Nat → Bool) (v : Nat → Dat) (n : Nat) : (gv f v n).length ≤ n := by
  unfold gv
  rw [List.length_map]
  have h := List.length_filter_le f (List.range n)
  rw [List.length_range] at h
  exact h
theorem gv_none {f : Nat → Bool} {v : Nat → Dat} {n : Nat} (h : ∀ i, i < n → f i = false) : gv f v n = [] := by
  unfold gv
  rw [List.filter_eq_nil_iff.mpr (fun i hi => by rw [h i (List.mem_range.mp hi)]; exact Bool.false_ne_true)]
  rfl
abbrev BX (X : Cx) (scope : Scope) (s : Shared) (H : Hp) (C : Addr) (cl : List (Str × Addr)) (fp : List Addr) : Cx := X.blk s H scope (compEnvC scope cl C X.env) fp
def bT (X : Cx) (scope : Scope) (c : Expr) : TT := fun st H Q => ∀ s0 H0 C cl fp, WT (BX X scope s0 H0 C cl fp) c st H Q
def bE (X : Cx) (scope : Scope) (c : Expr) : TE := fun st H Q => ∀ s0 H0 C cl fp, WE (BX X scope s0 H0 C cl fp) c st H Q
/-- the turn's invariant -/
def CvI (K : PySem.W.Frag) (o : Option Addr) (k : Int × Int) (H1 : Hp) (D : Addr) (f : Nat → Bool) (v : Nat → Dat) (i : Nat) (H' : Hp) : Prop :=
  Kp o H1 H' ∧ DK o k H' ∧ ∃ acc, H' D = some (.lst acc) ∧ DTs K o H' acc (gv f v i)
theorem noL_gv {f : Nat → Bool} {v : Nat → Dat} (hv : ∀ i, noL (v i) = true) {n i : Nat} {d : Dat} (h : (gv f v n)[i]? = some d) : noL d = true := by
  unfold gv at h
  rw [List.getElem?_map] at h
  cases q : ((List.range n).filter f)[i]? with
  | none => rw [q] at h; cases h
  | some m =>
    rw [q] at h
    have e : v m = d := by simpa using h
    rw [← e]
    exact hv m
theorem cv_turn {X : Cx} {H1 : Hp} {D : Addr} {f : Nat → Bool} {v : Nat → Dat} {i : Nat} {st : L2.St} {H' : Hp} {tt : TT} {te : TE} (n1 : H1 D = none) (hk1 : DK o k H1) (hi : i < 1000) (hv : ∀ i, noL (v i) = true) (w : CvI X.K o k H1 D f v i H')
    (ht : ∀ Q : Bool → Hp → Prop, (∀ H2, Kp o H' H2 → DK o k H2 → Q (f i) H2) → tt st H' Q) (he : f i = true → ∀ H2, Kp o H' H2 → DK o k H2 → ∀ Q : VK, (∀ u H3, Kp o H2 H3 → DK o k H3 → DT X.K o H3 u (v i) → Q u H3) → te st H2 Q) :
    tt st H' fun b H3 => if b = true then te st H3 fun y H4 => ∃ acc, H4 D = some (.lst acc) ∧ acc.length < sizeLine ∧ CvI X.K o k H1 D f v (i + 1) (upd H4 D (.lst (acc ++ [y]))) else CvI X.K o k H1 D f v (i + 1) H3 := by
  obtain ⟨w1, w2, acc, w3, w4⟩ := w
  have nD : some D ≠ o := hk1.ne n1
  refine ht _ fun H2 e2 hk2 => ?_
  cases hf : f i with
  | true =>
    rw [if_pos rfl]
    refine he hf H2 e2 hk2 _ fun u H3 e3 hk3 h3 => ?_
    have hD3 : H3 D = some (.lst acc) := e3 D _ nD (e2 D _ nD w3)
    refine ⟨acc, hD3, ?_, ?_⟩
    · rw [w4.1]
      exact Nat.lt_of_le_of_lt (gv_len f v i) (Nat.lt_of_lt_of_le hi (by decide))
    · have m := tm_upd (K := X.K) (ys := acc ++ [u]) hD3
      refine ⟨fun b z nb hb => ?_, ?_, acc ++ [u], upd_same, ?_⟩
      · rw [upd_ne (ne_of_none hb n1)]
        exact e3 b z nb (e2 b z nb (w1 b z nb hb))
      · cases o with
        | none => trivial
        | some aa =>
          show upd H3 D _ aa = _
          rw [upd_ne (fun z => nD (by rw [z]))]
          exact hk3
      · rw [gv_yes hf]
        have w5 := (w4.kp e2 w2).kp e3 hk2
        refine ⟨by rw [List.length_append, List.length_append, w5.1]; rfl, fun l y z ga gb => ?_⟩
        by_cases hl : l < acc.length
        · rw [List.getElem?_append_left hl] at ga
          rw [List.getElem?_append_left (by rw [← w5.1]; exact hl)] at gb
          exact (w5.2 l y z ga gb).tm m (noL_gv hv gb)
        · rw [List.getElem?_append_right (by omega)] at ga
          rw [List.getElem?_append_right (by rw [← w5.1]; omega), ← w5.1] at gb
          cases hz : l - acc.length with
          | zero =>
            rw [hz] at ga gb
            simp at ga gb
            subst ga gb
            exact h3.tm m (hv i)
          | succ q =>
            rw [hz] at ga
            simp at ga
  | false =>
    rw [if_neg Bool.false_ne_true]
    refine ⟨w1.trans e2, hk2, acc, e2 D _ nD w3, ?_⟩
    rw [gv_no hf]
    exact w4.kp e2 w2
theorem set_wipe {st : L2.St} {j : Nat} {v : V} : (wipe st [j]).set j (some v) = st.set j (some v) := by
  show (st.set j none).set j (some v) = _
  rw [List.set_set]
theorem wipe_set {st : L2.St} {j : Nat} {v : V} : wipe (st.set j (some v)) [j] = wipe st [j] := by
  show (st.set j (some v)).set j none = st.set j none
  rw [List.set_set]
/-- [elt for x in range(a) if c] -/
theorem ev_lcR {n : Nat} (f : Nat → Bool) (v : Nat → Dat) (hcalm : X.calm = true) (hN : X.N.Nodup) (hm : X.mg "range" = none) (ha : EvA X o [a] ds k [.int (n : Int)] k) (hn : n ≤ 1000) (hok : BlkOk X.N X.env.scope scope [(x, j)])
    (hgn : ∀ s H C cl fp, PG (BX X scope s H C cl fp) (.Name x p1) (gName j)) (ht : ∀ s H C cl fp (i : Nat), i < n → EvT (BX X scope s H C cl fp) o c (ds.set j (some (.int (i : Int)))) k (f i) k)
    (he : ∀ s H C cl fp (i : Nat), i < n → f i = true → Ev (BX X scope s H C cl fp) o elt (ds.set j (some (.int (i : Int)))) k (v i) k) (hv : ∀ i, noL (v i) = true) (hg : Gl X "range" := by rfl) (hst : starEach [a] X.env = [(false, eval a X.env)] := by rfl)
    (hset : ∀ y, foldedSetIterable (.Call (.Name "range" p2) [a] [] p3) X.env y = pure y := by intro _; rfl) :
    Ev X o (.ListComp elt [⟨.Name x p1, .Call (.Name "range" p2) [a] [] p3, [c], 0⟩] scope pos) ds k (.lst (gv f v n)) k := fun st H Q S hk q =>
  we (pe_lc (own := [(x, j)]) (g := gName j) (tt := bT X scope c) (te := bE X scope elt) hcalm hN (pi_range1 hg hm pa_w hst) hok hgn
    (fun s0 H0 C cl fp => pts_one ⟨fun pins s st H Q I h => h s0 H0 C cl fp pins s I⟩) (fun s0 H0 C cl fp => ⟨fun pins s st H Q I h => h s0 H0 C cl fp pins s I⟩) hset) (ha st H _ S hk fun vs H1 e1 hk1 h1 => by
    obtain ⟨u, rfl, hu⟩ := dts1 h1
    cases hu
    refine ⟨(n : Int), rfl, by omega, by omega, fun D nD => ?_⟩
    have S1 := S.kp e1 hk
    refine lc_range (lo := 0) (n := (n : Int).toNat) (g := gName j) (tt := bT X scope c) (te := bE X scope elt) (vs := [j]) (σ := st) (Qd := fun H' => Q (.ref D) H') (CvI X.K o k H1 D f v) ⟨Kp.of_ex (Ex.new nD), hk1.ex (Ex.new nD), [], upd_same, DTs.nil⟩ (fun i H' hi w => ?_) (fun H' w => ?_)
    · have e0 : (0 : Int) + (i : Int) = (i : Int) := Int.zero_add _
      have hi' : i < n := by omega
      show wipe ((wipe st [j]).set j (some (.int ((0 : Int) + (i : Int))))) [j] = wipe st [j] ∧ _
      rw [e0, set_wipe, wipe_set]
      refine ⟨rfl, ?_⟩
      have w1 := w.1
      have S2 : ∀ H2, Kp o H' H2 → Sat X.K o (st.set j (some (.int (i : Int)))) H2 (ds.set j (some (.int (i : Int)))) := fun H2 e2 => (S1.kp (w1.trans e2) hk1).set (.int _)
      refine cv_turn nD hk1 (by omega) hv w (fun Q hQ => ?_) (fun hf H2 e2 hk2 Q hQ => ?_)
      · exact fun s0 H0 C cl fp => ht s0 H0 C cl fp i hi' _ H' Q (S2 H' (Kp.refl _ _)) w.2.1 hQ
      · exact fun s0 H0 C cl fp => he s0 H0 C cl fp i hi' hf _ H2 Q (S2 H2 e2) hk2 hQ
    · obtain ⟨w1, w2, acc, w3, w4⟩ := w
      rw [Int.toNat_natCast] at w4
      exact q _ H' (e1.trans w1) w2 (.lst' (.inl (.inl w3)) (hk1.ne nD) w4))
/-- [elt for x in t if c], t a tuple -/
theorem ev_lcT (f : Nat → Bool) (v : Nat → Dat) (hcalm : X.calm = true) (hN : X.N.Nodup) (ha : Ev X o a ds k (.tup as) k) (hn : as.length ≤ 1000) (hok : BlkOk X.N X.env.scope scope [(x, j)])
    (hgn : ∀ s H C cl fp, PG (BX X scope s H C cl fp) (.Name x p1) (gName j)) (ht : ∀ s H C cl fp (i : Nat) d, as[i]? = some d → EvT (BX X scope s H C cl fp) o c (ds.set j (some d)) k (f i) k)
    (he : ∀ s H C cl fp (i : Nat) d, as[i]? = some d → f i = true → Ev (BX X scope s H C cl fp) o elt (ds.set j (some d)) k (v i) k) (hv : ∀ i, noL (v i) = true)
    (hset : ∀ y, foldedSetIterable a X.env y = pure y := by intro _; rfl) :
    Ev X o (.ListComp elt [⟨.Name x p1, a, [c], 0⟩] scope pos) ds k (.lst (gv f v as.length)) k := fun st H Q S hk q =>
  we (pe_lc (own := [(x, j)]) (g := gName j) (tt := bT X scope c) (te := bE X scope elt) hcalm hN (pi_tup pe_w) hok hgn
    (fun s0 H0 C cl fp => pts_one ⟨fun pins s st H Q I h => h s0 H0 C cl fp pins s I⟩) (fun s0 H0 C cl fp => ⟨fun pins s st H Q I h => h s0 H0 C cl fp pins s I⟩) hset) (ha st H _ S hk fun u H1 e1 hk1 h1 => by
    obtain ⟨ta, xs, rfl, hs, hd⟩ := h1.untup
    refine ⟨ta, rfl, ⟨xs, hs⟩, fun D nD => ?_⟩
    have S1 := S.kp e1 hk
    refine lc_tup (xs := xs) (g := gName j) (tt := bT X scope c) (te := bE X scope elt) (vs := [j]) (σ := st) (Qd := fun H' => Q (.ref D) H') (CvI X.K o k H1 D f v) ⟨Kp.of_ex (Ex.new nD), hk1.ex (Ex.new nD), [], upd_same, DTs.nil⟩ (fun i H' _ w => kp_t w.1 hk1 hs) (fun i y H' hy w => ?_) (fun H' w => ?_)
    · have hi : i < as.length := by
        rw [← hd.1]
        exact (List.getElem?_eq_some_iff.mp hy).1
      have hda : as[i]? = some as[i] := List.getElem?_eq_getElem hi
      have hyd := hd.2 i y _ hy hda
      show wipe ((wipe st [j]).set j (some y)) [j] = wipe st [j] ∧ _
      rw [set_wipe, wipe_set]
      refine ⟨rfl, ?_⟩
      have w1 := w.1
      have S2 : ∀ H2, Kp o H' H2 → Sat X.K o (st.set j (some y)) H2 (ds.set j (some as[i])) := fun H2 e2 => (S1.kp (w1.trans e2) hk1).set (hyd.kp (w1.trans e2) hk1)
      refine cv_turn nD hk1 (by omega) hv w (fun Q hQ => ?_) (fun hf H2 e2 hk2 Q hQ => ?_)
      · exact fun s0 H0 C cl fp => ht s0 H0 C cl fp i _ hda _ H' Q (S2 H' (Kp.refl _ _)) w.2.1 hQ
      · exact fun s0 H0 C cl fp => he s0 H0 C cl fp i _ hda hf _ H2 Q (S2 H2 e2) hk2 hQ
    · obtain ⟨w1, w2, acc, w3, w4⟩ := w
      rw [hd.1] at w4
      exact q _ H' (e1.trans w1) w2 (.lst' (.inl (.inl w3)) (hk1.ne nD) w4))
end
end Wf

set_option Elab.async false
set_option linter.all false
set_option maxRecDepth 100000
set_option maxHeartbeats 4000000
namespace Wf
open PySem PySem.Spec PyProof.Rows L2 Evl
section
variable {X : Cx} {o : Option Addr} {ds : List (Option Dat)} {k k0 k1 k2 : Int × Int} {e a b c elt : Expr} {es : List Expr} {d d1 d2 d3 : Dat} {as : List Dat} {p pos p1 p2 p3 : Pos} {x : Str} {D : Ends} {H0 : Hp} {rest : List Stmt}
/-- an item of a written list at an open place -/
theorem ev_ixV {α : Type} (f : α → Dat) (is : List α) (d0 : α) {i : Int} (ha : Ev X o a ds k (.lst (is.map f)) k1) (hb : Ev X o b ds k1 (.int i) k2) (hi : 0 ≤ i ∧ i < is.length) (hp : PlainIx b := by exact fun _ _ => rfl) : Ev X o (.Subscript a b pos) ds k (f (is.getD i.toNat d0)) k2 := by
  have hl : i.toNat < is.length := by omega
  refine ev_ixL (j := i.toNat) ha hb (by omega) ?_ hp
  rw [List.getElem?_map, List.getElem?_eq_getElem hl, List.getD_eq_getElem?_getD, List.getElem?_eq_getElem hl]
  rfl
/-- a, b, c = e1, e2, e3, all plain names -/
theorem as_par3 {i j l : Nat} {x y z : Str} {e1 e2 e3 : Expr} {px py pz pt pt2 : Pos} {kt kt2 : Nat} (hN : X.N.Nodup) (hc : X.calm = true) (ha : EvA X o [e1, e2, e3] ds k [d1, d2, d3] k1) (hr : AS X o rest D (((ds.set i (some d1)).set j (some d2)).set l (some d3)) k1 H0)
    (hi : X.N[i]? = some x := by rfl) (hj : X.N[j]? = some y := by rfl) (hl : X.N[l]? = some z := by rfl) (hij : i ≠ j := by decide) (hil : i ≠ l := by decide) (hjl : j ≠ l := by decide) (hx : X.env.scope.names.lookup x = some .local := by rfl) (hy : X.env.scope.names.lookup y = some .local := by rfl) (hz : X.env.scope.names.lookup z = some .local := by rfl)
    (hw : swappedStores [.Tuple [.Name x px, .Name y py, .Name z pz] kt pt] (.Tuple [e1, e2, e3] kt2 pt2) X.env = pure (some [x, y, z]) := by rfl) (hs : swapsWithSole [.Tuple [.Name x px, .Name y py, .Name z pz] kt pt] (.Tuple [e1, e2, e3] kt2 pt2) pos.line X.env = pure false := by rfl) :
    AS X o (.Assign [.Tuple [.Name x px, .Name y py, .Name z pz] kt pt] (.Tuple [e1, e2, e3] kt2 pt2) pos :: rest) D ds k H0 := fun st H S hk e0 =>
  wb_cons (wss (ps_par3 hc hN hi hj hl hij hil hjl hx hy hz pa_w hw hs) (ha st H _ S hk fun vs H1 e1 hk1 h1 => by
    obtain ⟨v1, v2, v3, rfl, g1, g2, g3⟩ := dts3 h1
    exact ⟨v1, v2, v3, rfl, hr _ H1 ((((S.kp e1 hk).set g1).set g2).set g3) hk1 (e0.trans e1)⟩))
/-- x = [..]: a new list, told as what it is -/
theorem as_asgL {i : Nat} {x : Str} {lp pos' : Pos} (hN : X.N.Nodup) (ha : EvA X o es ds k as k1) (hl : as.length ≤ 1000)
    (hr : ∀ st H q vs, Sat X.K o st H (ds.set i (some (.raw (.ref q)))) → DK o k1 H → Kp o H0 H → H0 q = none → some q ≠ o → H q = some (.lst vs) → DTs X.K o H vs as → WB X rest D st H)
    (hi : X.N[i]? = some x := by rfl) (hx : Loc X.env.scope x := by exact Or.inl rfl) (hs : swapsWith (.List es lp) (some (.Name x pos')) pos.line X.env = pure false := by rfl) (hf : X.fn x = true ∨ X.env.scope.names.lookup x = some .local := by exact .inl rfl) :
    AS X o (.Assign [.Name x pos'] (.List es lp) pos :: rest) D ds k H0 := fun st H S hk e0 =>
  wb_cons (wss (ps_set hN hi hx (pe_lst pa_w) hs hf) (ha st H _ S hk fun vs H1 e1 hk1 h1 => ⟨by rw [h1.length]; exact Nat.le_trans hl (by decide), fun q nq => by
    have e2 := Kp.of_ex (o := o) (Ex.new (o := .lst vs) nq)
    have ne := hk1.ne nq
    have h0 : H0 q = none := by
      cases hq : H0 q with
      | none => rfl
      | some u =>
        have := (e0.trans e1) q u ne hq
        rw [nq] at this
        cases this
    exact hr _ _ q vs (((S.kp e1 hk).kp e2 hk1).set (.raw _)) (hk1.ex (Ex.new nq)) ((e0.trans e1).trans e2) h0 ne upd_same (h1.kp e2 hk1)⟩))
theorem ea_go {as : List Dat} {st : L2.St} {H : Hp} {Q : List V → Hp → Prop} (S : Sat X.K o st H ds) (hk : DK o k H) (h : EvA X o es ds k as k1) (q : ∀ vs H', Kp o H H' → DK o k1 H' → DTs X.K o H' vs as → Q vs H') : WA X es st H Q := h st H Q S hk q
theorem ev_go {st : L2.St} {H : Hp} {Q : VK} (S : Sat X.K o st H ds) (hk : DK o k H) (h : Ev X o e ds k d k1) (q : ∀ v H', Kp o H H' → DK o k1 H' → DT X.K o H' v d → Q v H') : WE X e st H Q := h st H Q S hk q
end
end Wf

set_option Elab.async false
set_option linter.all false
set_option maxRecDepth 100000
set_option maxHeartbeats 4000000
namespace Wf
open PySem PySem.Spec PyProof.Rows L2
/-- what the first of some clauses, 'except x as n', wishes of an exception that is its own -/
def wFst (K : PySem.W.Frag) (c : Value) (i : Nat) (ts : Addr → Value → Option Addr → TS) (D : Ends) : WX := fun kl dd st G =>
  PySem.W.exmOne K kl c = some true ∧ ∀ z, G z = none → ts z kl dd { nx := fun st' G' => D.nx (st'.set i none) G', rt := D.rt, bk := fun st' G' => D.bk (st'.set i none) G', ct := fun st' G' => D.ct (st'.set i none) G' } (st.set i (some (.ref z))) G
/-- try: body / except x as n: suite / further clauses, where what is raised is x's -/
theorem ps_try_fst {Y : Cx} {x n : Str} {c : Value} {i : Nat} {bd sui : List Stmt} {first : Stmt} {q1 q2 q3 : Pos} {more : List ExceptHandler} {tb : WX → TS} {ts : Addr → Value → Option Addr → TS}
    (h1 : Y.stack = Y.env :: Y.outer) (h2 : Y.env.frame = some Y.env.locals) (h3 : Y.N.Nodup) (h4 : Y.N[i]? = some n) (h5 : Y.env.kindOf n = some .local) (h6 : Names Y x c)
    (h7 : ∀ (W : WX) (pn : List (Addr × Obj)) (xe : Value → Shared → Prop), Takes (Y.tr pn xe) W → PassesOwn (model Y.prog Y.w) Y.A Y.env xe → PSs (Y.tr pn xe) bd (tb W))
    (h8 : ∀ (z : Addr) (ob : Obj) (kl : Value) (dd : Option Addr) (pn : List (Addr × Obj)), Zc kl dd ob → (∃ fv, ob.data = .fields fv) → PSs (Y.suite z ((z, ob) :: pn)) (first :: sui) (ts z kl dd)) :
    PS Y (.Try bd (.ExceptHandler (some (.Name x q1)) (some n) (first :: sui) q2 :: more) [] [] q3) (fun D st G => tb (wFst Y.K c i ts D) D st G) := by
  constructor
  intro pins s st G D J hw
  have yes := J.ok
  have frs_ : Y.A.frames = some (Y.env :: Y.outer) := yes.frames.trans (congrArg some h1)
  apply wpAny_Try_except
  have main := (h7 (wFst Y.K c i ts D) (Y.pn ++ pins) (fun ev sa => wpAny (model Y.prog Y.w) Y.A (noteFrame ev Y.env) (fun _ sb => wpAny (model Y.prog Y.w) Y.A (setFlight ev none) (fun _ sc =>
    wpAny (model Y.prog Y.w) Y.A (handleBy ev Y.env (.ExceptHandler (some (.Name x q1)) (some n) (first :: sui) q2 :: more)) (SP Y pins D) Y.xe sc) Y.xe sb) Y.xe sa) ?caught PassesOwn.looking).run [] s st G D (J.toTry _) hw
  case caught =>
    rintro ev st1 ⟨z, gr, sI, pins1, σ1, G1, kl, dd, rfl, J1, nb1, up1, sk1, na1, os1, ag1, ex1, go1⟩
    have J2 : Inv Y pins σ1 G1 sI := J1.ofTry yes
    have sk2 : Sky gr (Y.env :: Y.outer) z (Zc kl dd) Y.env.locals st1.heap := h1 ▸ sk1
    show wpAny (model Y.prog Y.w) Y.A (noteFrame (.ref z) Y.env) _ _ _
    apply Sky.land Zc.steady frs_ h2 sk2
    intro hp3 fl3 up3
    have J3 : Inv Y pins σ1 G1 { st1 with heap := hp3 } := J2.landed nb1 fl3.1 (up1.trans up3) os1 ag1
    obtain ⟨ob3, fv3, got3, zc3, dat3⟩ := fl3.there
    have away : z ∉ frs (Y.env :: Y.outer) := by
      intro inn
      obtain ⟨_, ob', got', nf'⟩ := fl3.2.2.1.mem inn
      rw [got3] at got'
      cases got'
      exact nf' _ dat3
    have zL : z ≠ Y.env.locals := by
      intro eqL
      exact away (List.mem_filterMap.mpr ⟨Y.env, List.mem_cons_self, h2.trans (congrArg some eqL.symm)⟩)
    have zF : z ∉ Y.fs := by
      intro inn
      obtain ⟨en, hen, qen⟩ := List.mem_filterMap.mp inn
      exact away (List.mem_filterMap.mpr ⟨en, List.mem_cons_of_mem _ hen, qen⟩)
    have U3 := J3.suite got3 dat3 na1 zL zF
    refine wpAny_handleBy_cons (codeAny_handlers_test ?tested) (by intro bad; cases bad)
    have typ : PySem.W.Looks (model Y.prog Y.w) hp3 (typeOf (.ref z)) kl := fun A' Q' E' sx kx qx => wpAny_typeOf_ref (kx _ _ got3) (by rw [zc3.1]; exact qx)
    have mat := PySem.W.exm_one (M := model Y.prog Y.w) J3.kIn typ ex1
    have named : ∀ {Q' : Value → Shared → Prop} {E' : Value → Shared → Prop}, Q' c { st1 with heap := hp3 } → wpAny (model Y.prog Y.w) (Y.A.mark (some (.ref z))) (eval (.Name x q1) Y.env) Q' E' { st1 with heap := hp3 } := by
      intro Q' E' qc
      obtain ⟨gl, nd, mm | ⟨mm, bb, nn⟩⟩ := h6
      · exact ld_glob (X := Y.suite z ((z, ob3) :: (Y.pn ++ pins))) U3 gl mm qc nd
      · exact ld_blt (X := Y.suite z ((z, ob3) :: (Y.pn ++ pins))) U3 gl mm bb qc nn nd
    apply named
    apply mat.here
    apply codeAny_handlers_suite_as
    apply HandSPX.lands_againZ fl3
    intro hp4 fl4 up4
    have J4 : Inv Y pins σ1 G1 { st1 with heap := hp4 } := J2.landed nb1 fl4.1 ((up1.trans up3).trans up4) os1 ag1
    obtain ⟨ob4, fv4, got4, zc4, dat4⟩ := fl4.there
    have U4 := J4.suite got4 dat4 na1 zL zF
    refine store_ok (X := Y.suite z ((z, ob4) :: (Y.pn ++ pins))) (v := .ref z) U4 h3 h4 (.inl h5) rfl (fun s5 U5 => ?_) (.inr h5)
    have behind : ∀ {σ6 : L2.St} {G6 : Hp} {s6 : Shared} {R : Shared → Prop}, Inv (Y.suite z ((z, ob4) :: (Y.pn ++ pins))) [] σ6 G6 s6 → (∀ s7, Inv Y pins (σ6.set i none) G6 s7 → R s7) →
        wpAny (model Y.prog Y.w) Y.A (do bindName Y.env n .none; unbindBehindTheSuite Y.env n q2) (fun _ s7 => R s7) Y.xe s6 := by
      intro σ6 G6 s6 R U6 hR
      exact gone_ok (U6.unsuite yes) h3 h4 h5 hR
    apply wpAny_mono ((h8 z ob4 kl dd (Y.pn ++ pins) zc4 ⟨_, dat4⟩).run [] s5 _ G1 _ U5 (go1 z na1))
    · intro fl s6 sp6
      cases fl with
      | ret u =>
        obtain ⟨v6, σ6, G6, U6, r6, w6⟩ := sp6
        exact behind U6 (fun s7 J7 => ⟨_, _, _, J7, r6, w6⟩)
      | cont =>
        obtain ⟨σ6, G6, U6, w6⟩ := sp6
        exact behind U6 (fun s7 J7 => ⟨_, _, J7, w6⟩)
      | brk =>
        obtain ⟨σ6, G6, U6, w6⟩ := sp6
        exact behind U6 (fun s7 J7 => ⟨_, _, J7, w6⟩)
      | next =>
        obtain ⟨σ6, G6, U6, w6⟩ := sp6
        exact behind U6 (fun s7 J7 => ⟨_, _, J7, w6⟩)
    · intro _ _ bad
      exact bad.elim
  apply wpAny_mono main
  · intro fl s1 sp1
    cases fl with
    | ret u =>
      obtain ⟨v1, σ1, G1, J1, r1, w1⟩ := sp1
      exact ⟨v1, σ1, G1, J1.ofTry yes, r1, w1⟩
    | cont =>
      obtain ⟨σ1, G1, J1, w1⟩ := sp1
      exact ⟨σ1, G1, J1.ofTry yes, w1⟩
    | brk =>
      obtain ⟨σ1, G1, J1, w1⟩ := sp1
      exact ⟨σ1, G1, J1.ofTry yes, w1⟩
    | next =>
      obtain ⟨σ1, G1, J1, w1⟩ := sp1
      exact wpAny_execs_nil ⟨σ1, G1, J1.ofTry yes, w1⟩
  · intro ev s1 h
    exact h
end Wf

set_option Elab.async false
set_option linter.all false
set_option maxRecDepth 100000
set_option maxHeartbeats 4000000
/-! Ly8: own errors with a value; defs that raise one. -/
namespace Wf
open PySem PySem.Spec PyProof.Rows L2 Evl
/-- what FloorError's __init__ does -/
def spIni (K : PySem.W.Frag) : Sp := fun vs H Q _ => ∃ (a C : Addr) (v : V), vs = [.ref a, v] ∧ OexC K C ∧ PySem.W.findIn K (.ref C) "value" = some none ∧ H a = some (exo a C none) ∧ ∀ dx, H dx = none → dx ≠ a → Q .non (upd (upd H dx (exd dx [("value", v)])) a (exo a C (some dx)))
/-- the class at C, named x, whose __init__ stands at fI -/
structure ExK (P : Program) (w : World) (K : PySem.W.Frag) (mg : Str → Option Value) (base : Heap) (x : Str) (C : Addr) : Prop where
  gC : mg x = some (.ref C)
  oex : OexC K C
  no : PySem.W.findIn K (.ref C) "value" = some none
  xf : XfC K C
  te : PySem.W.exmOne K (.ref C) (.ref C) = some true
  ini : ∃ (fI : Addr) (fdI : FuncData), PySem.W.findIn K (.ref C) "__init__" = some (some (.ref fI)) ∧ PySem.W.typeIn K (.ref fI) = some (.type "function") ∧ Binds K fdI ["self", "value"] [] ∧ FnOk P w K mg base CX0 1 fI fdI ["self", "value"] (spIni K)
/-- a def that raises the class at C with d -/
def spR (K : PySem.W.Frag) (C : Addr) (S : List Dat → Dat → Prop) : Sp := fun vs H Q E => ∃ ds d, DTs K none H vs ds ∧ S ds d ∧ ∀ (dx : Addr) (H' : Hp) (v : V), Ex H H' → H' dx = some (.xd [("value", v)]) → DT K none H' v d → E (.ref C) (some dx) H'
structure ClR (P : Program) (w : World) (K : PySem.W.Frag) (mg : Str → Option Value) (base : Heap) (k : Nat) (x : Str) (ps : List Str) (sp : Sp) : Prop where
  ex : ∃ (f : Addr) (fd : FuncData), mg x = some (.ref f) ∧ PySem.W.keepIn K (.ref f) = true ∧ Binds K fd ps [] ∧ FnOk P w K mg base (L2.CX P w) k f fd ps sp
structure ClRK (P : Program) (w : World) (K : PySem.W.Frag) (mg : Str → Option Value) (base : Heap) (k : Nat) (x : Str) (ps ks : List Str) (pi : List Nat) (sp : Sp) : Prop where
  ex : ∃ (f : Addr) (fd : FuncData), mg x = some (.ref f) ∧ PySem.W.keepIn K (.ref f) = true ∧ KBinds K fd ps ks (kperm pi ks.length) (kperm pi ks.length) ∧ FnOk P w K mg base (L2.CX P w) k f fd ps sp
section
variable {X : Cx} {ds : List (Option Dat)} {k k0 k1 : Int × Int} {e : Expr} {es : List Expr} {d : Dat} {as : List Dat} {p pos pos2 : Pos} {x : Str} {D : Ends} {H0 : Hp} {rest : List Stmt} {C : Addr}
/-- raise X(e) -/
theorem as_raise {E : XK} (hc : X.calm = true) (tk : Takes X (fun cls dd _ H => E cls dd H)) (T : ExK X.prog X.w X.K X.mg X.base x C) (hr : Room 2 X.A) (he : Ev X none e ds k d k1) (hw : ∀ (dx : Addr) (H' : Hp) (v : V), Ex H0 H' → H' dx = some (.xd [("value", v)]) → DT X.K none H' v d → E (.ref C) (some dx) H')
    (hg : Gl X x := by rfl) (hdb : (x == ("__debug__" : Str)) = false := by decide) (hst : starEach [e] X.env = (false, eval e X.env) :: starEach [] X.env := by rfl) :
    AS X none (.Raise (some (.Call (.Name x p) [e] [] pos)) none pos2 :: rest) D ds k H0 := fun st H S hk e0 => by
  obtain ⟨fI, fdI, iC, tI, bI, FI⟩ := T.ini
  refine wb_cons (wss (ps_raise hc tk (pmk_oex T.oex iC tI FI hr bI .nil pass0 hg T.gC pa_w hdb hst)) ?_)
  refine ea_cons he ea_nil hst st H _ S hk fun vs H1 e1 hk1 h1 => ?_
  obtain ⟨v, rfl, hv⟩ := dts1 h1
  refine ⟨by show 1 ≤ 1000; decide, fun a na => ⟨a, C, v, rfl, T.oex, T.no, upd_same, fun dx ndx ne => ⟨rfl, dx, [("value", v)], upd_same, ?_, ?_, ?_⟩⟩⟩
  · rw [upd_ne ne, upd_same]
  · rw [upd_ne ne] at ndx
    exact ndx
  · have n1 : H1 dx = none := by
      rw [upd_ne ne] at ndx
      exact ndx
    have ex : Ex H1 (upd (del (upd (upd (upd H1 a (exo a C none)) dx (exd dx [("value", v)])) a (exo a C (some dx))) a) dx (.xd [("value", v)])) := fun b u hb => by
      have b1 := ne_of_none hb n1
      have b2 := ne_of_none hb na
      rw [upd_ne b1, del_ne b2, upd_ne b2, upd_ne b1, upd_ne b2]
      exact hb
    exact hw dx _ v ((e0.trans e1).ex.trans ex) upd_same (hv.kp (Kp.of_ex ex) hk1)
/-- the call of a def that raises -/
theorem we_callR {k' : Nat} {ps : List Str} {S : List Dat → Dat → Prop} {W : WX} (c : ClR X.prog X.w X.K X.mg X.base k' x ps (spR X.K C S)) (hr : Room k' X.A) (tk : Takes X W) (ha : EvA X none (e :: es) ds k0 as k1) (hs : S as d) {st : L2.St} {H : Hp} {Q : VK} (S0 : Sat X.K none st H ds)
    (hw : ∀ (dx : Addr) (H' : Hp) (v : V), Ex H H' → H' dx = some (.xd [("value", v)]) → DT X.K none H' v d → W (.ref C) (some dx) st H')
    (hg : Gl X x := by rfl) (hdb : (x == ("__debug__" : Str)) = false := by decide) (he : starEach (e :: es) X.env = (false, eval e X.env) :: starEach es X.env := by rfl) (hpl : (backTo pos (starEach es X.env)).any (·.1) = false := by rfl) : WE X (.Call (.Name x p) (e :: es) [] pos) st H Q := by
  obtain ⟨f, fd, hm, hk, hb, F⟩ := c.ex
  exact we (pe_callS F hr hg hm hk hb (fun σ => passAt tk σ) pa_w hdb he hpl) (ha st H _ S0 trivial fun vs H1 e1 hk1 h1 => ⟨as, d, h1, hs, fun dx H' v ex hx hv => hw dx H' v (e1.ex.trans ex) hx hv⟩)
theorem we_callRK {k' : Nat} {ps ks : List Str} {pi : List Nat} {S : List Dat → Dat → Prop} {W : WX} {kws : List Keyword} (c : ClRK X.prog X.w X.K X.mg X.base k' x ps ks pi (spR X.K C S)) (hr : Room k' X.A) (tk : Takes X W) (ha : EvKw X none kws ds k0 as k1) (hs : S (permD pi as) d) {st : L2.St} {H : Hp} {Q : VK} (S0 : Sat X.K none st H ds)
    (hw : ∀ (dx : Addr) (H' : Hp) (v : V), Ex H H' → H' dx = some (.xd [("value", v)]) → DT X.K none H' v d → W (.ref C) (some dx) st H') (hlen : as.length = ks.length := by rfl) (hg : Gl X x := by rfl)
    (hall : (backToKw pos (keywordEach kws X.env)).all (·.1.isSome) = true := by rfl) (hks : (backToKw pos (keywordEach kws X.env)).filterMap (·.1) = ks := by rfl) (hdb : (x == ("__debug__" : Str)) = false := by decide)
    (hpl : ((backTo pos (starEach [] X.env)).any (·.1) || (backToKw pos (keywordEach kws X.env)).any (·.1.isNone)) = false := by rfl) : WE X (.Call (.Name x p) [] kws pos) st H Q := by
  obtain ⟨f, fd, hm, hkp, hb, F⟩ := c.ex
  intro pins s I
  refine wpAny_Call_Name_kw (ld_glob I hg hm ?_ hdb)
  refine PySem.W.callWith_KW0 (h₀ := X.base) I.ok.mod.kin hkp hall (thn (ha st H (fun zs H2 => spR X.K C S (kperm pi ks.length [] zs) H2 Q (L2.WE W st)) S0 trivial (fun vs H1 e1 hk1 h1 => ?_) pos pins s I) fun ws s2 ⟨zs, H2, I2, rz, q2⟩ => ⟨I2.kIn, ?_⟩) hpl
  · refine ⟨permD pi as, d, ?_, hs, fun dx H' v ex hx hv => hw dx H' v (e1.ex.trans ex) hx hv⟩
    unfold kperm
    rw [if_pos (by rw [h1.length]; exact hlen)]
    exact h1.perm pi
  · rw [hks]
    have r2 := hb.rel (.nil : Vals [] []) rz
    have hl : (kperm pi ks.length [] ws).length = ps.length := by rw [← r2.length]; exact F.len _ _ _ _ q2
    refine wpAny_call (codeAny_mono (F.run X.A X.stack s2 H2 ⟨[], ks.zip ws⟩ _ _ Q (L2.WE W st) hr I2.env0 (hb.to s2 [] ws I2.kIn hl) r2 q2) fun r s' hq => ?_)
    cases r with
    | error er => exact passAt tk st pins H2 s2 er s' I2 hq
    | ok fl =>
      cases fl with
      | ret u => exact I2.after hq
      | next => exact False.elim hq
      | brk => exact False.elim hq
      | cont => exact False.elim hq
end
section
variable {P : Program} {w : World} {K : PySem.W.Frag} {mg : Str → Option Value} {base : Heap} {f : Addr} {fd : FuncData} {N ps : List Str} {k : Nat}
theorem fn_raise {x qual : Str} {st : Stmt} {C : Addr} {S : List Dat → Dat → Prop} (F : Fun K x qual st f fd) (Sc : FnScope N ps (defScope st)) (len : ∀ ds d, S ds d → ds.length = ps.length)
    (hb : ∀ (cdv : Value) (A : Around) (outer : List Env) (s : Shared) (H : Hp) (Q : VK) (E : XK) (ds : List Dat) (d : Dat), Room k (A.deeper (envOfC qual (defScope st) s.heap.objs.size f cdv)) → S ds d → (∀ (dx : Addr) (H' : Hp) (v : V), Ex H H' → H' dx = some (.xd [("value", v)]) → DT K none H' v d → E (.ref C) (some dx) H') →
      AS (cxOf (L2.CX P w) P w K mg base N qual (defScope st) f cdv A outer s H E) none (defBody st) { nx := fun _ H' => Q .non H', rt := Q } (ds.map some ++ List.replicate (N.length - ds.length) none) (0, 0) H) : FnOk P w K mg base (L2.CX P w) (k + 1) f fd ps (spR K C S) := by
  refine F.okX Sc (fun vs H Q E h => ?_) (fun cdv A outer s H vs Q E hr h => ⟨_, pss_w, ?_⟩)
  · obtain ⟨ds, d, h1, h2, _⟩ := h
    exact h1.1.trans (len ds d h2)
  · obtain ⟨ds, d, h1, h2, q⟩ := h
    have hN : ps.length ≤ N.length := by
      have e := congrArg List.length Sc.pre
      rw [List.length_take] at e
      omega
    refine hb cdv A outer s H Q E ds d hr h2 q _ H (sat_start h1 ?_) trivial (Kp.refl _ _)
    have := len ds d h2
    omega
end
section
variable {X : Cx}
def tryB (X : Cx) (bd : List Stmt) (W : WX) : TS := fun D st H => ∀ (pn : List (Addr × Obj)) (xe : Value → Shared → Prop), Takes (X.tr pn xe) W → PassesOwn (model X.prog X.w) X.A X.env xe → WB (X.tr pn xe) bd D st H
def tryS (X : Cx) (sui : List Stmt) (z : Addr) (kl : Value) (dd : Option Addr) : TS := fun D st H => ∀ (ob : Obj) (pn : List (Addr × Obj)), Zc kl dd ob → (∃ fv, ob.data = .fields fv) → WB (X.suite z ((z, ob) :: pn)) sui D st H
theorem ws_try_fst {x n : Str} {c : Value} {i : Nat} {bd sui : List Stmt} {first : Stmt} {q1 q2 q3 : Pos} {more : List ExceptHandler} {D : Ends} {st : L2.St} {H : Hp} (h3 : X.N.Nodup) (h6 : Names X x c)
    (h : ∀ (pn : List (Addr × Obj)) (xe : Value → Shared → Prop), Takes (X.tr pn xe) (wFst X.K c i (tryS X (first :: sui)) D) → PassesOwn (model X.prog X.w) X.A X.env xe → WB (X.tr pn xe) bd D st H)
    (h1 : X.stack = X.env :: X.outer := by rfl) (h2 : X.env.frame = some X.env.locals := by rfl) (h4 : X.N[i]? = some n := by rfl) (h5 : X.env.kindOf n = some .local := by rfl) :
    WS X (.Try bd (.ExceptHandler (some (.Name x q1)) (some n) (first :: sui) q2 :: more) [] [] q3) D st H :=
  wss (ps_try_fst (tb := tryB X bd) (ts := tryS X (first :: sui)) h1 h2 h3 h4 h5 h6 (fun _ pn xe tk po => ⟨fun pins s _ _ _ I hh => hh pn xe tk po pins s I⟩) (fun z ob kl dd pn hz hf => ⟨fun pins s _ _ _ I hh => hh ob pn hz hf pins s I⟩)) h
/-- answer = [lit, e.value] in a suite -/
theorem caughtS {C z dx : Addr} {ia i : Nat} {ans n lit : Str} {pa pc pn pv' pl ps : Pos} {j : Nat} {D : Ends} {st : L2.St} {H : Hp} {v : V} (hN : X.N.Nodup) (xf : XfC X.K C) (no : PySem.W.findIn X.K (.ref C) "value" = some none) (hl : st[i]? = some (some (.ref z))) (hx : H dx = some (.xd [("value", v)]))
    (hq : ∀ p, H p = none → D.nx (st.set ia (some (.ref p))) (upd H p (.lst [.str lit, v]))) (hia : X.N[ia]? = some ans := by rfl) (hi : X.N[i]? = some n := by rfl) (loc : Loc X.env.scope ans := by exact .inl rfl) (vis : Vis X.env.scope n := by first | exact .inl rfl | exact .inr (.inl rfl))
    (hd : (n == ("__debug__" : Str)) = false := by decide) (hcd : (n == ("__classdict__" : Str)) = false := by decide) (hf : X.fn ans = true ∨ X.env.scope.names.lookup ans = some .local := by exact .inl rfl)
    (hs : ∀ pn0 ob, swapsWith (.List [.Constant (.str lit) j pc, .Attribute (.Name n pn) "value" pv'] pl) (some (.Name ans pa)) ps.line (X.suite z ((z, ob) :: pn0)).env = pure false := by intro _ _; rfl)
    (hb : ∀ pn0 ob, attributeBase (.Name n pn) "value" (X.suite z ((z, ob) :: pn0)).env (eval (.Name n pn) (X.suite z ((z, ob) :: pn0)).env) = eval (.Name n pn) (X.suite z ((z, ob) :: pn0)).env := by intro _ _; rfl) :
    tryS X [.Assign [.Name ans pa] (.List [.Constant (.str lit) j pc, .Attribute (.Name n pn) "value" pv'] pl) ps] z (.ref C) (some dx) D st H := fun ob pn0 zc hf0 => by
  refine wb (X := X.suite z ((z, ob) :: pn0)) (pss_one (ps_set (X := X.suite z ((z, ob) :: pn0)) (i := ia) hN hia loc (pe_lst (pa_cons pe_str (pa_cons (pe_xf xf no zc hf0 (pe_var hi vis hd hcd) (hb pn0 ob)) pa_nil))) (hs pn0 ob) hf)) ?_
  exact ⟨.ref z, hl, rfl, rfl, dx, _, v, rfl, hx, rfl, (by show 2 ≤ sizeLine; decide), fun p np => hq p np⟩
theorem et_go {o : Option Addr} {ds : List (Option Dat)} {k k1 : Int × Int} {c : Expr} {b : Bool} {st : L2.St} {H : Hp} {Q : Bool → Hp → Prop} (S : Sat X.K o st H ds) (hk : DK o k H) (h : EvT X o c ds k b k1) (q : ∀ H', Kp o H H' → DK o k1 H' → Q b H') : WT X c st H Q := h st H Q S hk q
end
end Wf

set_option Elab.async false
set_option linter.all false
set_option maxRecDepth 100000
set_option maxHeartbeats 4000000
/-! Ly9: new lists handed back; a deck made for one call; lists joined. -/
namespace Wf
open PySem PySem.Spec PyProof.Rows L2 Evl
/-- a def that hands back a new list of as -/
def spN (K : PySem.W.Frag) (S : List Dat → List Dat → Prop) : Sp := fun vs H Q _ => ∃ ds as, DTs K none H vs ds ∧ S ds as ∧ ∀ (p : Addr) (H' : Hp) (us : List V), H p = none → Ex H H' → H' p = some (.lst us) → DTs K none H' us as → Q (.ref p) H'
section
variable {X : Cx} {o : Option Addr} {ds : List (Option Dat)} {k k0 k1 k2 : Int × Int} {e a b c elt : Expr} {es : List Expr} {d d1 d2 : Dat} {as bs : List Dat} {p pos p1 p2 p3 : Pos} {x : Str} {scope : Scope} {j : Nat} {k' : Nat} {ps : List Str}
theorem back_all {K : PySem.W.Frag} {H : Hp} {us : List V} (hn : noLs as = true) (h : DTs K none H us as) : DTs K o H us as := ⟨h.1, fun i v d ga gb => (h.2 i v d ga gb).back (NoL.of (noLs_at hn gb))⟩
theorem ev_callN (R : List Dat → List Dat) {S : List Dat → List Dat → Prop} (c : Cl X.prog X.w X.K X.mg X.base k' x ps (spN X.K S)) (hr : Room k' X.A) (ha : EvA X o (e :: es) ds k0 as k1) (hs : S as (R as)) (hn : noLs (R as) = true) (hg : Gl X x := by rfl) (hdb : (x == ("__debug__" : Str)) = false := by decide)
    (he : starEach (e :: es) X.env = (false, eval e X.env) :: starEach es X.env := by rfl) (hpl : (backTo pos (starEach es X.env)).any (·.1) = false := by rfl) : Ev X o (.Call (.Name x p) (e :: es) [] pos) ds k0 (.lst (R as)) k1 := fun st H Q St hk q => by
  obtain ⟨f, fd, a, b, c1, F⟩ := c.ex
  refine we (pe_call F hr hg a b c1 .nil pass0 pa_w hdb he hpl) (ha st H _ St hk fun vs H1 e1 hk1 h1 => ?_)
  exact ⟨as, R as, by rw [List.append_nil]; exact h1.free, hs, fun p H' us np ex hp hu => q _ H' (e1.trans (Kp.of_ex ex)) (hk1.ex ex) (.lst' (.inl (.inl hp)) (hk1.ne np) (back_all hn hu))⟩
/-- a call whose list is handed on as a deck -/
theorem ev_callND (R : List Dat → List Dat) {S : List Dat → List Dat → Prop} {S2 : List Dat → Int × Int → Dat → Int × Int → Prop} {k2' : Nat} {ps2 : List Str} {y : Str} {q2 pos2 : Pos} {kk kf : Int × Int} (c : Cl X.prog X.w X.K X.mg X.base k' x ps (spN X.K S)) (c2 : Cl X.prog X.w X.K X.mg X.base k2' y ps2 (spD X.K S2)) (hr : Room k' X.A) (hr2 : Room k2' X.A) (ha : EvA X none (e :: es) ds (0, 0) as (0, 0)) (hs : S as [.int kk.1, .int kk.2]) (hs2 : S2 [] kk d kf) (hn : noL d = true) (hg : Gl X x := by rfl) (hg2 : Gl X y := by rfl) (hdb : (x == ("__debug__" : Str)) = false := by decide) (hdb2 : (y == ("__debug__" : Str)) = false := by decide)
    (he : starEach (e :: es) X.env = (false, eval e X.env) :: starEach es X.env := by rfl) (hpl : (backTo pos (starEach es X.env)).any (·.1) = false := by rfl) (he2 : starEach [.Call (.Name x p) (e :: es) [] pos] X.env = (false, eval (.Call (.Name x p) (e :: es) [] pos) X.env) :: starEach [] X.env := by rfl) (hpl2 : (backTo pos2 (starEach [] X.env)).any (·.1) = false := by rfl) :
    Ev X none (.Call (.Name y q2) [.Call (.Name x p) (e :: es) [] pos] [] pos2) ds (0, 0) d (0, 0) := fun st H Q St hk q => by
  obtain ⟨f, fd, a, b, c1, F⟩ := c.ex
  obtain ⟨f2, fd2, a2, b2, c12, F2⟩ := c2.ex
  refine we (pe_call F2 hr2 hg2 a2 b2 c12 .nil pass0 (pa_cons (pe_call F hr hg a b c1 .nil pass0 pa_w hdb he hpl) pa_nil he2) hdb2 he2 hpl2) (ha st H _ St hk fun vs H1 e1 _ h1 => ?_)
  refine ⟨as, _, by rw [List.append_nil]; exact h1, hs, fun pp H' us np ex hp hu => ?_⟩
  obtain ⟨u1, u2, rfl, g1, g2⟩ := dts2 hu
  cases g1
  cases g2
  refine ⟨pp, [], [], kk, d, kf, rfl, hp, DTs.nil, hs2, fun v H2 e2 _ hv => q v H2 ?_ trivial (hv.free)⟩
  intro b u nb hb
  have hb1 := e1 b u nb hb
  exact e2 b u (fun z => (ne_of_none hb1 np) (Option.some.inj z)) (ex b u hb1)
/-- xs + [..], xs a list of one's own -/
theorem ev_cat {lp : Pos} (ha : Ev X o a ds k (.trk as) k1) (hb : EvA X o es ds k1 bs k2) (hl : as.length + bs.length ≤ 1000) : Ev X o (.BinOp a .Add (.List es lp) pos) ds k (.lst (as ++ bs)) k2 := fun st H Q S hk q =>
  we (pe_op op_cat pe_w (pe_lst pa_w)) (ha st H _ S hk fun u H1 e1 hk1 h1 => hb st H1 _ (S.kp e1 hk) hk1 fun vs H2 e2 hk2 h2 => by
    refine ⟨by rw [h2.length]; exact Nat.le_trans (by omega : bs.length ≤ 1000) (by decide), fun l nl => ?_⟩
    have el := Kp.of_ex (o := o) (Ex.new (o := .lst vs) nl)
    have h1' := (h1.kp e2 hk1).kp el hk2
    have h2' := h2.kp el hk2
    obtain ⟨aa, xs, rfl, hx, nx, hd⟩ := h1'.untrk
    refine ⟨aa, l, xs, vs, rfl, rfl, hx, upd_same, ?_, fun p np => ?_⟩
    · rw [hd.1, h2.1]
      exact Nat.le_trans hl (by decide)
    · have e3 := Kp.of_ex (o := o) (Ex.new (o := .lst (xs ++ vs)) np)
      have hk3 := hk2.ex (Ex.new (o := .lst vs) nl)
      have k1' := hd.kp e3 hk3
      have k2' := h2'.kp e3 hk3
      refine q _ _ (((e1.trans e2).trans el).trans e3) (hk3.ex (Ex.new np)) (.lst' (.inl (.inl upd_same)) (hk3.ne np) ⟨by rw [List.length_append, List.length_append, k1'.1, k2'.1], fun i v d ga gb => ?_⟩)
      by_cases hi : i < xs.length
      · rw [List.getElem?_append_left hi] at ga
        rw [List.getElem?_append_left (by rw [← k1'.1]; exact hi)] at gb
        exact k1'.2 i v d ga gb
      · rw [List.getElem?_append_right (by omega)] at ga
        rw [List.getElem?_append_right (by rw [← k1'.1]; omega), ← k1'.1] at gb
        exact k2'.2 _ v d ga gb)
/-- [elt for x in t], t a tuple -/
theorem ev_lcT0 (v : Nat → Dat) (hcalm : X.calm = true) (hN : X.N.Nodup) (ha : Ev X o a ds k (.tup as) k) (hn : as.length ≤ 1000) (hok : BlkOk X.N X.env.scope scope [(x, j)])
    (hgn : ∀ s H C cl fp, PG (BX X scope s H C cl fp) (.Name x p1) (gName j)) (he : ∀ s H C cl fp (i : Nat) d, as[i]? = some d → Ev (BX X scope s H C cl fp) o elt (ds.set j (some d)) k (v i) k) (hv : ∀ i, noL (v i) = true)
    (hset : ∀ y, foldedSetIterable a X.env y = pure y := by intro _; rfl) :
    Ev X o (.ListComp elt [⟨.Name x p1, a, [], 0⟩] scope pos) ds k (.lst (gv (fun _ => true) v as.length)) k := fun st H Q S hk q =>
  we (pe_lc (own := [(x, j)]) (g := gName j) (tt := tYes) (te := bE X scope elt) hcalm hN (pi_tup pe_w) hok hgn (fun s0 H0 C cl fp => pts_nil) (fun s0 H0 C cl fp => ⟨fun pins s st H Q I h => h s0 H0 C cl fp pins s I⟩) hset) (ha st H _ S hk fun u H1 e1 hk1 h1 => by
    obtain ⟨ta, xs, rfl, hs, hd⟩ := h1.untup
    refine ⟨ta, rfl, ⟨xs, hs⟩, fun D nD => ?_⟩
    have S1 := S.kp e1 hk
    refine lc_tup (xs := xs) (g := gName j) (tt := tYes) (te := bE X scope elt) (vs := [j]) (σ := st) (Qd := fun H' => Q (.ref D) H') (CvI X.K o k H1 D (fun _ => true) v) ⟨Kp.of_ex (Ex.new nD), hk1.ex (Ex.new nD), [], upd_same, DTs.nil⟩ (fun i H' _ w => kp_t w.1 hk1 hs) (fun i y H' hy w => ?_) (fun H' w => ?_)
    · have hi : i < as.length := by
        rw [← hd.1]
        exact (List.getElem?_eq_some_iff.mp hy).1
      have hda : as[i]? = some as[i] := List.getElem?_eq_getElem hi
      have hyd := hd.2 i y _ hy hda
      show wipe ((wipe st [j]).set j (some y)) [j] = wipe st [j] ∧ _
      rw [set_wipe, wipe_set]
      refine ⟨rfl, ?_⟩
      have w1 := w.1
      have S2 : ∀ H2, Kp o H' H2 → Sat X.K o (st.set j (some y)) H2 (ds.set j (some as[i])) := fun H2 e2 => (S1.kp (w1.trans e2) hk1).set (hyd.kp (w1.trans e2) hk1)
      refine cv_turn nD hk1 (by omega) hv w (fun Q hQ => hQ H' (Kp.refl _ _) w.2.1) (fun hf H2 e2 hk2 Q hQ => ?_)
      exact fun s0 H0 C cl fp => he s0 H0 C cl fp i _ hda _ H2 Q (S2 H2 e2) hk2 hQ
    · obtain ⟨w1, w2, acc, w3, w4⟩ := w
      rw [hd.1] at w4
      exact q _ H' (e1.trans w1) w2 (.lst' (.inl (.inl w3)) (hk1.ne nD) w4))
end
section
variable {P : Program} {w : World} {K : PySem.W.Frag} {mg : Str → Option Value} {base : Heap} {f : Addr} {fd : FuncData} {N ps : List Str} {k : Nat}
theorem fn_new {x qual : Str} {st : Stmt} {S : List Dat → List Dat → Prop} (F : Fun K x qual st f fd) (Sc : FnScope N ps (defScope st)) (len : ∀ ds d, S ds d → ds.length = ps.length)
    (hb : ∀ (cdv : Value) (A : Around) (outer : List Env) (s : Shared) (H : Hp) (Q : VK) (E : XK) (ds : List Dat) (as : List Dat), Room k (A.deeper (envOfC qual (defScope st) s.heap.objs.size f cdv)) → S ds as → (∀ (p : Addr) (H' : Hp) (us : List V), H p = none → Ex H H' → H' p = some (.lst us) → DTs K none H' us as → Q (.ref p) H') →
      AS (cxOf CX0 P w K mg base N qual (defScope st) f cdv A outer s H E).nox none (defBody st) { nx := fun _ H' => Q .non H', rt := Q } (ds.map some ++ List.replicate (N.length - ds.length) none) (0, 0) H) : FnOk P w K mg base CX0 (k + 1) f fd ps (spN K S) := by
  refine F.ok Sc (fun vs H Q E h => ?_) (fun cdv A outer s H vs Q E hr h => ⟨_, pss_w, ?_⟩)
  · obtain ⟨ds, d, h1, h2, _⟩ := h
    exact h1.1.trans (len ds d h2)
  · obtain ⟨ds, d, h1, h2, q⟩ := h
    have hN : ps.length ≤ N.length := by
      have e := congrArg List.length Sc.pre
      rw [List.length_take] at e
      omega
    refine hb cdv A outer s H Q E ds d hr h2 q _ H (sat_start h1 ?_) trivial (Kp.refl _ _)
    have := len ds d h2
    omega
end
end Wf

set_option Elab.async false
set_option linter.all false
set_option maxRecDepth 100000
set_option maxHeartbeats 4000000
namespace Wk
open PySem PySem.Spec PyProof.Rows L2 Evl Wf
def topS (i : Nat) : Stmt := PySem.Challenge.pw_wholefloors_k01_whole_numbers.main.body.getD i (.Pass ⟨0, 0, 0, 0⟩)
abbrev nD (a b n : Int) : Dat := .tup [.int a, .int b, .int n]
abbrev pD (a b : Int) : Dat := .tup [.int a, .int b]
def g3 (a b n : Int) : Int := (((a.natAbs.gcd b.natAbs).gcd n.natAbs : Nat) : Int)
def sg (a b n : Int) : Int := if decide (n < 0) = true then -(g3 a b n) else g3 a b n
def loA (a b n : Int) : Int := a.fdiv (sg a b n)
def loB (a b n : Int) : Int := b.fdiv (sg a b n)
def loN (a b n : Int) : Int := n.fdiv (sg a b n)
abbrev loD (a b n : Int) : Dat := nD (loA a b n) (loB a b n) (loN a b n)
theorem g3_ne {a b n : Int} (h : n ≠ 0) : g3 a b n ≠ 0 := by
  have : 0 < (a.natAbs.gcd b.natAbs).gcd n.natAbs := Nat.gcd_pos_of_pos_right _ (Int.natAbs_pos.mpr h)
  unfold g3
  omega
theorem g3_bd {a b n : Int} {m : Nat} (h : n ≠ 0) (hb : Bd m n) : Bd m (g3 a b n) := by
  have h1 : (a.natAbs.gcd b.natAbs).gcd n.natAbs ≤ n.natAbs := Nat.gcd_le_right _ (Int.natAbs_pos.mpr h)
  have h2 : n.natAbs < 2 ^ m := hb
  show (g3 a b n).natAbs < 2 ^ m
  unfold g3
  rw [Int.natAbs_natCast]
  omega
theorem sg_ne {a b n : Int} (h : n ≠ 0) : sg a b n ≠ 0 := by
  have := g3_ne (a := a) (b := b) h
  unfold sg
  split <;> omega
theorem sg_bd {a b n : Int} {m : Nat} (h : n ≠ 0) (hb : Bd m n) : Bd m (sg a b n) := by
  have := g3_bd (a := a) (b := b) h hb
  unfold sg
  split
  · exact this.neg
  · exact this
section
variable {P : Program} {w : World} {K : PySem.W.Frag} {mg : Str → Option Value} {base : Heap}
/-! ### lowest -/
def Slowest (ds : List Dat) (d : Dat) : Prop := ∃ a b n : Int, ds = [.int a, .int b, .int n] ∧ n ≠ 0 ∧ Bd 8900 n ∧ d = loD a b n

abbrev s_lowest : Stmt := topS 12
theorem sc_lowest : FnScope ["a", "b", "n", "common"] ["a", "b", "n"] (defScope s_lowest) := ⟨rfl, rfl, rfl, by decide +kernel, rfl, by decide +kernel, by decide +kernel⟩
theorem ok_lowest {f : Addr} {fd : FuncData} (F : Fun K "lowest" "lowest" s_lowest f fd) (m_gcd : mg "gcd" = some (.builtin "math.gcd")) : FnOk P w K mg base CX0 1 f fd ["a", "b", "n"] (spP K Slowest) := by
  refine fn_pure F sc_lowest (fun ds d h => ?_) (fun cdv A outer s H Q E ds d hr hS hQ => ?_)
  · obtain ⟨a, b, n, rfl, h0, hb, rfl⟩ := h
    rfl
  · obtain ⟨a, b, n, rfl, h0, hb, rfl⟩ := hS
    refine
  (as_asg (i := 3) sc_lowest.nd (ev_gcd3 m_gcd (ea_cons (nm 0 rfl) (ea_cons (nm 1 rfl) (ea_cons (nm 2 rfl) ea_nil))))
  (as_ifsetI (i := 3) sc_lowest.nd (et_lt (nm 2 rfl) ev_int) rfl (fun hb => (ev_neg (nm 3 rfl)))
  (as_rt (ev_tup (ea_cons (ev_fdivX (nm 0 rfl) (nm 3 rfl) ?_) (ea_cons (ev_fdivX (nm 1 rfl) (nm 3 rfl) ?_) (ea_cons (ev_fdivX (nm 2 rfl) (nm 3 rfl) ?_) ea_nil))) (Nat.le_of_ble_eq_true rfl)) ?_ rfl hQ)))
    all_goals first | exact cdx (sg_ne h0) (sg_bd h0 hb) (by decide) | rfl

/-! ### pair_times, pair_mate, pair_norm -/
def ptA (k a b c d : Int) : Int := if k = 5 then a * c + b * d else a * c + k * b * d
def ptB (k a b c d : Int) : Int := if k = 5 then a * d + b * c + b * d else a * d + b * c
def pmA (k a b : Int) : Int := if k = 5 then a + b else a
def pmB (_k _a b : Int) : Int := -b
def pnN (k a b : Int) : Int := if k = 5 then a * a + a * b - b * b else a * a - k * b * b
def Kd (k : Int) : Prop := k = 2 ∨ k = 3 ∨ k = 5
theorem Kd.bd {k : Int} (h : Kd k) : Bd 3 k := by
  rcases h with rfl | rfl | rfl <;> exact Bd.lit 3
def Spair_times (ds : List Dat) (d : Dat) : Prop := ∃ k a b c e : Int, ds = [.int k, pD a b, pD c e] ∧ Kd k ∧ Bd 9000 a ∧ Bd 9000 b ∧ Bd 9000 c ∧ Bd 9000 e ∧ d = pD (ptA k a b c e) (ptB k a b c e)

abbrev s_pair_times : Stmt := topS 13
theorem sc_pair_times : FnScope ["kind", "p", "q", "a", "b", "c", "d"] ["kind", "p", "q"] (defScope s_pair_times) := ⟨rfl, rfl, rfl, by decide +kernel, rfl, by decide +kernel, by decide +kernel⟩
theorem ok_pair_times {f : Addr} {fd : FuncData} (F : Fun K "pair_times" "pair_times" s_pair_times f fd)  : FnOk P w K mg base CX0 1 f fd ["kind", "p", "q"] (spP K Spair_times) := by
  refine fn_pure F sc_pair_times (fun ds d h => ?_) (fun cdv A outer s H Q E ds d hr hS hQ => ?_)
  · obtain ⟨k, a, b, c, e, rfl, hk, h1, h2, h3, h4, rfl⟩ := h
    rfl
  · obtain ⟨k, a, b, c, e, rfl, hk, h1, h2, h3, h4, rfl⟩ := hS
    refine
  (as_unp2 (i := 3) (j := 4) sc_pair_times.nd rfl (nm 1 rfl)
  (as_unp2 (i := 5) (j := 6) sc_pair_times.nd rfl (nm 2 rfl)
  (as_ifn (et_eqI (nm 0 rfl) ev_int) (fun hb =>
    (as_rt (ev_tup (ea_cons (ev_add (ev_mul (nm 3 rfl) (nm 5 rfl) ?_) (ev_mul (nm 4 rfl) (nm 6 rfl) ?_)) (ea_cons (ev_add (ev_add (ev_mul (nm 3 rfl) (nm 6 rfl) ?_) (ev_mul (nm 4 rfl) (nm 5 rfl) ?_)) (ev_mul (nm 4 rfl) (nm 6 rfl) ?_)) ea_nil)) (Nat.le_of_ble_eq_true rfl)) ?_ rfl hQ)) (fun hb =>
  (as_rt (ev_tup (ea_cons (ev_add (ev_mul (nm 3 rfl) (nm 5 rfl) ?_) (ev_mul (ev_mul (nm 0 rfl) (nm 4 rfl) ?_) (nm 6 rfl) ?_)) (ea_cons (ev_add (ev_mul (nm 3 rfl) (nm 6 rfl) ?_) (ev_mul (nm 4 rfl) (nm 5 rfl) ?_)) ea_nil)) (Nat.le_of_ble_eq_true rfl)) ?_ rfl hQ)))))
    all_goals first
      | exact cm (by assumption) (by assumption) (by decide)
      | exact cm (hk.bd.mul (by assumption)) (by assumption) (by decide)
      | exact cm hk.bd (by assumption) (by decide)
      | skip
    · have q : k = 5 := of_decide_eq_true hb
      simp only [ptA, ptB, if_pos q]
    · have q : ¬ k = 5 := of_decide_eq_false hb
      simp only [ptA, ptB, if_neg q]

def Spair_mate (ds : List Dat) (d : Dat) : Prop := ∃ k a b : Int, ds = [.int k, pD a b] ∧ d = pD (pmA k a b) (pmB k a b)
abbrev s_pair_mate : Stmt := topS 14
theorem sc_pair_mate : FnScope ["kind", "p", "a", "b"] ["kind", "p"] (defScope s_pair_mate) := ⟨rfl, rfl, rfl, by decide +kernel, rfl, by decide +kernel, by decide +kernel⟩
theorem ok_pair_mate {f : Addr} {fd : FuncData} (F : Fun K "pair_mate" "pair_mate" s_pair_mate f fd)  : FnOk P w K mg base CX0 1 f fd ["kind", "p"] (spP K Spair_mate) := by
  refine fn_pure F sc_pair_mate (fun ds d h => ?_) (fun cdv A outer s H Q E ds d hr hS hQ => ?_)
  · obtain ⟨k, a, b, rfl, rfl⟩ := h
    rfl
  · obtain ⟨k, a, b, rfl, rfl⟩ := hS
    refine
  (as_unp2 (i := 2) (j := 3) sc_pair_mate.nd rfl (nm 1 rfl)
  (as_ifn (et_eqI (nm 0 rfl) ev_int) (fun hb =>
    (as_rt (ev_tup (ea_cons (ev_add (nm 2 rfl) (nm 3 rfl)) (ea_cons (ev_neg (nm 3 rfl)) ea_nil)) (Nat.le_of_ble_eq_true rfl)) ?_ rfl hQ)) (fun hb =>
  (as_rt (ev_tup (ea_cons (nm 2 rfl) (ea_cons (ev_neg (nm 3 rfl)) ea_nil)) (Nat.le_of_ble_eq_true rfl)) ?_ rfl hQ))))
    · have q : k = 5 := of_decide_eq_true hb
      simp only [pmA, pmB, if_pos q]
    · have q : ¬ k = 5 := of_decide_eq_false hb
      simp only [pmA, pmB, if_neg q]

def Spair_norm (ds : List Dat) (d : Dat) : Prop := ∃ k a b : Int, ds = [.int k, pD a b] ∧ Kd k ∧ Bd 9000 a ∧ Bd 9000 b ∧ d = .int (pnN k a b)
abbrev s_pair_norm : Stmt := topS 15
theorem sc_pair_norm : FnScope ["kind", "p", "a", "b"] ["kind", "p"] (defScope s_pair_norm) := ⟨rfl, rfl, rfl, by decide +kernel, rfl, by decide +kernel, by decide +kernel⟩
theorem ok_pair_norm {f : Addr} {fd : FuncData} (F : Fun K "pair_norm" "pair_norm" s_pair_norm f fd)  : FnOk P w K mg base CX0 1 f fd ["kind", "p"] (spP K Spair_norm) := by
  refine fn_pure F sc_pair_norm (fun ds d h => ?_) (fun cdv A outer s H Q E ds d hr hS hQ => ?_)
  · obtain ⟨k, a, b, rfl, hk, h1, h2, rfl⟩ := h
    rfl
  · obtain ⟨k, a, b, rfl, hk, h1, h2, rfl⟩ := hS
    refine
  (as_unp2 (i := 2) (j := 3) sc_pair_norm.nd rfl (nm 1 rfl)
  (as_ifn (et_eqI (nm 0 rfl) ev_int) (fun hb =>
    (as_rt (ev_sub (ev_add (ev_mul (nm 2 rfl) (nm 2 rfl) ?_) (ev_mul (nm 2 rfl) (nm 3 rfl) ?_)) (ev_mul (nm 3 rfl) (nm 3 rfl) ?_)) ?_ rfl hQ)) (fun hb =>
  (as_rt (ev_sub (ev_mul (nm 2 rfl) (nm 2 rfl) ?_) (ev_mul (ev_mul (nm 0 rfl) (nm 3 rfl) ?_) (nm 3 rfl) ?_)) ?_ rfl hQ))))
    all_goals first
      | exact cm (by assumption) (by assumption) (by decide)
      | exact cm (hk.bd.mul (by assumption)) (by assumption) (by decide)
      | exact cm hk.bd (by assumption) (by decide)
      | skip
    · have q : k = 5 := of_decide_eq_true hb
      simp only [pnN, if_pos q]
    · have q : ¬ k = 5 := of_decide_eq_false hb
      simp only [pnN, if_neg q]

end
end Wk
set_option Elab.async false
set_option linter.all false
set_option maxRecDepth 100000
set_option maxHeartbeats 4000000
namespace Wk
open PySem PySem.Spec PyProof.Rows L2 Evl Wf
/-- a tuple of ints that stands in the module -/
structure KT (K : PySem.W.Frag) (mg : Str → Option Value) (x : Str) (is : List Int) : Prop where
  ex : ∃ (C : Addr) (ob : Obj) (its : Array Value) (n : Nat), mg x = some (.ref C) ∧ K.lookup C = some ob ∧ ob.cls = .type "tuple" ∧ ob.data = .seq its n ∧ its.size ≤ sizeLine ∧ Vals (is.map V.int) its.toList
theorem dts_ints {K : PySem.W.Frag} {o : Option Addr} {H : Hp} (is : List Int) : DTs K o H (is.map V.int) (is.map Dat.int) := by
  induction is with
  | nil => exact DTs.nil
  | cons i is ih => exact DTs.cons (.int i) ih
theorem ev_kt {X : Cx} {o : Option Addr} {ds : List (Option Dat)} {k : Int × Int} {x : Str} {is : List Int} {pos : Pos} (t : KT X.K X.mg x is) (hg : Gl X x := by rfl) (hd : (x == ("__debug__" : Str)) = false := by decide) : Ev X o (.Name x pos) ds k (.tup (is.map Dat.int)) k := by
  obtain ⟨C, ob, its, n, hm, h1, h2, h3, h4, h5⟩ := t.ex
  exact ev_gtup hm h1 h2 h3 h4 h5 (fun H => dts_ints is) hg hd
def isN (a b n : Int) : Bool := decide (1 ≤ n) && decide (g3 a b n = 1)
def Nm (a b n : Int) : Prop := isN a b n = true
def N3 (a b n : Int) : Prop := Bd 2900 a ∧ Bd 2900 b ∧ Bd 2900 n ∧ Nm a b n
theorem Nm.pos {a b n : Int} (h : Nm a b n) : 1 ≤ n := by
  have h' : (decide (1 ≤ n) && decide (g3 a b n = 1)) = true := h
  rw [Bool.and_eq_true] at h'
  exact of_decide_eq_true h'.1
theorem Nm.ne {a b n : Int} (h : Nm a b n) : n ≠ 0 := by have := h.pos; omega
theorem mul_ne {a b : Int} (h : a ≠ 0) (g : b ≠ 0) : a * b ≠ 0 := Int.mul_ne_zero h g
def R_lowest : List Dat → Dat
  | [.int a, .int b, .int n] => loD a b n
  | _ => .non
def R_pair_times : List Dat → Dat
  | [.int k, .tup [.int a, .int b], .tup [.int c, .int e]] => pD (ptA k a b c e) (ptB k a b c e)
  | _ => .non
def R_pair_mate : List Dat → Dat
  | [.int k, .tup [.int a, .int b]] => pD (pmA k a b) (pmB k a b)
  | _ => .non
def R_pair_norm : List Dat → Dat
  | [.int k, .tup [.int a, .int b]] => .int (pnN k a b)
  | _ => .non
section
variable {P : Program} {w : World} {K : PySem.W.Frag} {mg : Str → Option Value} {base : Heap}

def R_is_integer : List Dat → Dat
  | [_] => .bl true
  | _ => .non
/-! ### is_integer -/
def Sis_integer (ds : List Dat) (d : Dat) : Prop := ∃ i : Int, ds = [.int i] ∧ d = .bl true
abbrev s_is_integer : Stmt := topS 8
theorem sc_is_integer : FnScope ["told"] ["told"] (defScope s_is_integer) := ⟨rfl, rfl, rfl, by decide +kernel, rfl, by decide +kernel, by decide +kernel⟩
theorem ok_is_integer {f : Addr} {fd : FuncData} (F : Fun K "is_integer" "is_integer" s_is_integer f fd) (m_isinstance : mg "isinstance" = none) (m_int : mg "int" = none) (m_bool : mg "bool" = none) : FnOk P w K mg base CX0 1 f fd ["told"] (spP K Sis_integer) := by
  refine fn_pure F sc_is_integer (fun ds d h => ?_) (fun cdv A outer s H Q E ds d hr hS hQ => ?_)
  · obtain ⟨i, rfl, rfl⟩ := h
    rfl
  · obtain ⟨i, rfl, rfl⟩ := hS
    refine
  (as_rt (ev_and (ev_isi (b := true) m_isinstance (by constructor) (ea_cons (nm 0 rfl) (ea_cons (ev_ty (T := "int") m_int (by decide +kernel)) ea_nil))) (fun _ => (ev_one (ev_not (ev_isi (b := false) m_isinstance (by constructor) (ea_cons (nm 0 rfl) (ea_cons (ev_ty (T := "bool") m_bool (by decide +kernel)) ea_nil)))))) (fun _ => rfl)) ?_ rfl hQ)
    all_goals first | rfl | skip

def R_is_kind : List Dat → Dat
  | [_] => .bl true
  | _ => .non
/-! ### is_kind -/
def Sis_kind (ds : List Dat) (d : Dat) : Prop := ∃ k : Int, ds = [.int k] ∧ Kd k ∧ d = .bl true
abbrev s_is_kind : Stmt := topS 9
theorem sc_is_kind : FnScope ["told"] ["told"] (defScope s_is_kind) := ⟨rfl, rfl, rfl, by decide +kernel, rfl, by decide +kernel, by decide +kernel⟩
theorem ok_is_kind {f : Addr} {fd : FuncData} (F : Fun K "is_kind" "is_kind" s_is_kind f fd) (c_is_integer : Cl P w K mg base 1 "is_integer" ["told"] (spP K Sis_integer)) (t_KINDS : KT K mg "KINDS" [2, 3, 5]) : FnOk P w K mg base CX0 2 f fd ["told"] (spP K Sis_kind) := by
  refine fn_pure F sc_is_kind (fun ds d h => ?_) (fun cdv A outer s H Q E ds d hr hS hQ => ?_)
  · obtain ⟨k, rfl, hk, rfl⟩ := h
    rfl
  · obtain ⟨k, rfl, hk, rfl⟩ := hS
    refine
  (as_rt (ev_and (ev_as (ev_callF R_is_integer c_is_integer (hr.mono (by decide)) (ea_cons (nm 0 rfl) ea_nil) ?_ (.inl rfl)) rfl) (fun _ => (ev_one (ev_inI (r := true) (nm 0 rfl) (ev_kt t_KINDS) ?_))) (fun _ => rfl)) ?_ rfl hQ)
    · exact ⟨k, rfl, rfl⟩
    · rcases hk with rfl | rfl | rfl <;> rfl
    · rfl

def R_check_kind : List Dat → Dat
  | [_] => .non
  | _ => .non
/-! ### check_kind -/
def Scheck_kind (ds : List Dat) (d : Dat) : Prop := ∃ k : Int, ds = [.int k] ∧ Kd k ∧ d = .non
abbrev s_check_kind : Stmt := topS 10
theorem sc_check_kind : FnScope ["kind"] ["kind"] (defScope s_check_kind) := ⟨rfl, rfl, rfl, by decide +kernel, rfl, by decide +kernel, by decide +kernel⟩
theorem ok_check_kind {f : Addr} {fd : FuncData} (F : Fun K "check_kind" "check_kind" s_check_kind f fd) (c_is_kind : Cl P w K mg base 2 "is_kind" ["told"] (spP K Sis_kind)) : FnOk P w K mg base CX0 3 f fd ["kind"] (spP K Scheck_kind) := by
  refine fn_pure F sc_check_kind (fun ds d h => ?_) (fun cdv A outer s H Q E ds d hr hS hQ => ?_)
  · obtain ⟨k, rfl, hk, rfl⟩ := h
    rfl
  · obtain ⟨k, rfl, hk, rfl⟩ := hS
    refine
  (as_ifn (et_not (et_val (ev_as (ev_callF R_is_kind c_is_kind (hr.mono (by decide)) (ea_cons (nm 0 rfl) ea_nil) ?_ (.inl rfl)) rfl))) (fun hb => absurd hb ?_) (fun hb =>
  as_nil (fun _ H1 _ hk0 e0 => hQ _ H1 e0 hk0 .non)))
    · exact ⟨k, rfl, hk, rfl⟩
    · exact Bool.false_ne_true

def R_number_sum : List Dat → Dat
  | [.tup [.int a, .int b, .int n], .tup [.int c, .int e, .int m]] => loD (a * m + c * n) (b * m + e * n) (n * m)
  | _ => .non
/-! ### number_sum -/
def Snumber_sum (ds : List Dat) (d : Dat) : Prop := ∃ a b n c e m : Int, ds = [nD a b n, nD c e m] ∧ N3 a b n ∧ N3 c e m ∧ d = loD (a * m + c * n) (b * m + e * n) (n * m)
abbrev s_number_sum : Stmt := topS 16
theorem sc_number_sum : FnScope ["p", "q", "a", "b", "n", "c", "d", "m"] ["p", "q"] (defScope s_number_sum) := ⟨rfl, rfl, rfl, by decide +kernel, rfl, by decide +kernel, by decide +kernel⟩
theorem ok_number_sum {f : Addr} {fd : FuncData} (F : Fun K "number_sum" "number_sum" s_number_sum f fd) (c_lowest : Cl P w K mg base 1 "lowest" ["a", "b", "n"] (spP K Slowest)) : FnOk P w K mg base CX0 2 f fd ["p", "q"] (spP K Snumber_sum) := by
  refine fn_pure F sc_number_sum (fun ds d h => ?_) (fun cdv A outer s H Q E ds d hr hS hQ => ?_)
  · obtain ⟨a, b, n, c, e, m, rfl, ⟨a1, a2, a3, an⟩, ⟨b1, b2, b3, bn⟩, rfl⟩ := h
    rfl
  · obtain ⟨a, b, n, c, e, m, rfl, ⟨a1, a2, a3, an⟩, ⟨b1, b2, b3, bn⟩, rfl⟩ := hS
    refine
  (as_unp3 (i := 2) (j := 3) (l := 4) sc_number_sum.nd rfl (nm 0 rfl)
  (as_unp3 (i := 5) (j := 6) (l := 7) sc_number_sum.nd rfl (nm 1 rfl)
  (as_rt (ev_as (ev_callF R_lowest c_lowest (hr.mono (by decide)) (ea_cons (ev_add (ev_mul (nm 2 rfl) (nm 7 rfl) ?_) (ev_mul (nm 5 rfl) (nm 4 rfl) ?_)) (ea_cons (ev_add (ev_mul (nm 3 rfl) (nm 7 rfl) ?_) (ev_mul (nm 6 rfl) (nm 4 rfl) ?_)) (ea_cons (ev_mul (nm 4 rfl) (nm 7 rfl) ?_) ea_nil))) ?_ (.inl rfl)) rfl) ?_ rfl hQ)))
    all_goals have n1 := an.ne
    all_goals have n2 := bn.ne
    all_goals first
      | exact cm (by assumption) (by assumption) (by decide)
      | exact cm hk.bd (by assumption) (by decide)
      | exact ⟨_, _, _, rfl, mul_ne (by assumption) (by assumption), Bd.mono (Bd.mul (by assumption) (by assumption)) (by decide), rfl⟩
      | rfl
      | skip

def R_number_less : List Dat → Dat
  | [.tup [.int a, .int b, .int n], .tup [.int c, .int e, .int m]] => loD (a * m - c * n) (b * m - e * n) (n * m)
  | _ => .non
/-! ### number_less -/
def Snumber_less (ds : List Dat) (d : Dat) : Prop := ∃ a b n c e m : Int, ds = [nD a b n, nD c e m] ∧ N3 a b n ∧ N3 c e m ∧ d = loD (a * m - c * n) (b * m - e * n) (n * m)
abbrev s_number_less : Stmt := topS 17
theorem sc_number_less : FnScope ["p", "q", "a", "b", "n", "c", "d", "m"] ["p", "q"] (defScope s_number_less) := ⟨rfl, rfl, rfl, by decide +kernel, rfl, by decide +kernel, by decide +kernel⟩
theorem ok_number_less {f : Addr} {fd : FuncData} (F : Fun K "number_less" "number_less" s_number_less f fd) (c_lowest : Cl P w K mg base 1 "lowest" ["a", "b", "n"] (spP K Slowest)) : FnOk P w K mg base CX0 2 f fd ["p", "q"] (spP K Snumber_less) := by
  refine fn_pure F sc_number_less (fun ds d h => ?_) (fun cdv A outer s H Q E ds d hr hS hQ => ?_)
  · obtain ⟨a, b, n, c, e, m, rfl, ⟨a1, a2, a3, an⟩, ⟨b1, b2, b3, bn⟩, rfl⟩ := h
    rfl
  · obtain ⟨a, b, n, c, e, m, rfl, ⟨a1, a2, a3, an⟩, ⟨b1, b2, b3, bn⟩, rfl⟩ := hS
    refine
  (as_unp3 (i := 2) (j := 3) (l := 4) sc_number_less.nd rfl (nm 0 rfl)
  (as_unp3 (i := 5) (j := 6) (l := 7) sc_number_less.nd rfl (nm 1 rfl)
  (as_rt (ev_as (ev_callF R_lowest c_lowest (hr.mono (by decide)) (ea_cons (ev_sub (ev_mul (nm 2 rfl) (nm 7 rfl) ?_) (ev_mul (nm 5 rfl) (nm 4 rfl) ?_)) (ea_cons (ev_sub (ev_mul (nm 3 rfl) (nm 7 rfl) ?_) (ev_mul (nm 6 rfl) (nm 4 rfl) ?_)) (ea_cons (ev_mul (nm 4 rfl) (nm 7 rfl) ?_) ea_nil))) ?_ (.inl rfl)) rfl) ?_ rfl hQ)))
    all_goals have n1 := an.ne
    all_goals have n2 := bn.ne
    all_goals first
      | exact cm (by assumption) (by assumption) (by decide)
      | exact cm hk.bd (by assumption) (by decide)
      | exact ⟨_, _, _, rfl, mul_ne (by assumption) (by assumption), Bd.mono (Bd.mul (by assumption) (by assumption)) (by decide), rfl⟩
      | rfl
      | skip

def byA (k a b n c e m : Int) : Int := ptA k a b (pmA k c e) (pmB k c e) * m
def byB (k a b n c e m : Int) : Int := ptB k a b (pmA k c e) (pmB k c e) * m
def byN (k a b n c e m : Int) : Int := n * pnN k c e
theorem pm_bd {k c e : Int} (h1 : Bd 2900 c) (h2 : Bd 2900 e) : Bd 5801 (pmA k c e) ∧ Bd 5801 (pmB k c e) := by
  refine ⟨?_, (h2.neg).mono (by decide)⟩
  unfold pmA
  split
  · exact h1.add h2
  · exact h1.mono (by decide)
theorem pm_bd1 {k c e : Int} {m : Nat} (h1 : Bd m c) (h2 : Bd m e) : Bd (m + 1) (pmA k c e) ∧ Bd (m + 1) (pmB k c e) := by
  refine ⟨?_, (h2.neg).mono (by omega)⟩
  unfold pmA
  split
  · exact h1.add1 h2
  · exact h1.mono (by omega)
theorem pn_bd1 {k c e : Int} {m : Nat} (hk : Kd k) (h1 : Bd m c) (h2 : Bd m e) : Bd (2 * m + 4) (pnN k c e) := by
  unfold pnN
  split
  · have q := ((h1.mul h1).add1 (h1.mul h2)).add1 ((h2.mul h2).neg.mono (by omega : m + m ≤ m + m + 1))
    rw [← Int.sub_eq_add_neg] at q
    exact q.mono (by omega)
  · have q := ((h1.mul h1).mono (by omega : m + m ≤ 3 + m + m)).add1 (((hk.bd.mul h2).mul h2).neg)
    rw [← Int.sub_eq_add_neg] at q
    exact q.mono (by omega)
theorem pt_bd1 {k a b c e : Int} {m l : Nat} (hk : Kd k) (h1 : Bd m a) (h2 : Bd m b) (h3 : Bd l c) (h4 : Bd l e) : Bd (m + l + 4) (ptA k a b c e) ∧ Bd (m + l + 4) (ptB k a b c e) := by
  unfold ptA ptB
  refine ⟨?_, ?_⟩
  · split
    · exact ((h1.mul h3).add1 (h2.mul h4)).mono (by omega)
    · exact (((h1.mul h3).mono (by omega : m + l ≤ 3 + m + l)).add1 ((hk.bd.mul h2).mul h4)).mono (by omega)
  · split
    · exact (((h1.mul h4).add1 (h2.mul h3)).add1 ((h2.mul h4).mono (by omega))).mono (by omega)
    · exact ((h1.mul h4).add1 (h2.mul h3)).mono (by omega)

def R_number_by : List Dat → Dat
  | [.int k, .tup [.int a, .int b, .int n], .tup [.int c, .int e, .int m]] => loD (byA k a b n c e m) (byB k a b n c e m) (byN k a b n c e m)
  | _ => .non
/-! ### number_by -/
def Snumber_by (ds : List Dat) (d : Dat) : Prop := ∃ k a b n c e m : Int, ds = [.int k, nD a b n, nD c e m] ∧ Kd k ∧ N3 a b n ∧ N3 c e m ∧ pnN k c e ≠ 0 ∧ d = loD (byA k a b n c e m) (byB k a b n c e m) (byN k a b n c e m)
abbrev s_number_by : Stmt := topS 18
theorem sc_number_by : FnScope ["kind", "p", "q", "a", "b", "n", "c", "d", "m", "e", "f"] ["kind", "p", "q"] (defScope s_number_by) := ⟨rfl, rfl, rfl, by decide +kernel, rfl, by decide +kernel, by decide +kernel⟩
theorem ok_number_by {f : Addr} {fd : FuncData} (F : Fun K "number_by" "number_by" s_number_by f fd) (c_pair_times : Cl P w K mg base 1 "pair_times" ["kind", "p", "q"] (spP K Spair_times)) (c_pair_mate : Cl P w K mg base 1 "pair_mate" ["kind", "p"] (spP K Spair_mate)) (c_lowest : Cl P w K mg base 1 "lowest" ["a", "b", "n"] (spP K Slowest)) (c_pair_norm : Cl P w K mg base 1 "pair_norm" ["kind", "p"] (spP K Spair_norm)) : FnOk P w K mg base CX0 2 f fd ["kind", "p", "q"] (spP K Snumber_by) := by
  refine fn_pure F sc_number_by (fun ds d h => ?_) (fun cdv A outer s H Q E ds d hr hS hQ => ?_)
  · obtain ⟨k, a, b, n, c, e, m, rfl, hk, ⟨a1, a2, a3, an⟩, ⟨b1, b2, b3, bn⟩, hq, rfl⟩ := h
    rfl
  · obtain ⟨k, a, b, n, c, e, m, rfl, hk, ⟨a1, a2, a3, an⟩, ⟨b1, b2, b3, bn⟩, hq, rfl⟩ := hS
    refine
  (as_unp3 (i := 3) (j := 4) (l := 5) sc_number_by.nd rfl (nm 1 rfl)
  (as_unp3 (i := 6) (j := 7) (l := 8) sc_number_by.nd rfl (nm 2 rfl)
  (as_unp2 (i := 9) (j := 10) sc_number_by.nd rfl (ev_as (ev_callF R_pair_times c_pair_times (hr.mono (by decide)) (ea_cons (nm 0 rfl) (ea_cons (ev_tup (ea_cons (nm 3 rfl) (ea_cons (nm 4 rfl) ea_nil)) (Nat.le_of_ble_eq_true rfl)) (ea_cons (ev_as (ev_callF R_pair_mate c_pair_mate (hr.mono (by decide)) (ea_cons (nm 0 rfl) (ea_cons (ev_tup (ea_cons (nm 6 rfl) (ea_cons (nm 7 rfl) ea_nil)) (Nat.le_of_ble_eq_true rfl)) ea_nil)) ?_ (.inl rfl)) rfl) ea_nil))) ?_ (.inl rfl)) rfl)
  (as_rt (ev_as (ev_callF R_lowest c_lowest (hr.mono (by decide)) (ea_cons (ev_mul (nm 9 rfl) (nm 8 rfl) ?_) (ea_cons (ev_mul (nm 10 rfl) (nm 8 rfl) ?_) (ea_cons (ev_mul (nm 5 rfl) (ev_as (ev_callF R_pair_norm c_pair_norm (hr.mono (by decide)) (ea_cons (nm 0 rfl) (ea_cons (ev_tup (ea_cons (nm 6 rfl) (ea_cons (nm 7 rfl) ea_nil)) (Nat.le_of_ble_eq_true rfl)) ea_nil)) ?_ (.inl rfl)) rfl) ?_) ea_nil))) ?_ (.inl rfl)) rfl) ?_ rfl hQ))))
    all_goals have q1 := pm_bd1 (k := k) b1 b2
    all_goals have q2 := pt_bd1 hk a1 a2 q1.1 q1.2
    all_goals have q3 := pn_bd1 hk b1 b2
    · exact ⟨_, _, _, rfl, rfl⟩
    · exact ⟨_, _, _, _, _, rfl, hk, a1.mono (by decide), a2.mono (by decide), q1.1.mono (by decide), q1.2.mono (by decide), rfl⟩
    · exact cm q2.1 b3 (by decide)
    · exact cm q2.2 b3 (by decide)
    · exact ⟨_, _, _, rfl, hk, b1.mono (by decide), b2.mono (by decide), rfl⟩
    · exact cm a3 q3 (by decide)
    · exact ⟨_, _, _, rfl, mul_ne an.ne hq, (a3.mul q3).mono (by decide), rfl⟩
    · rfl

def R_is_number : List Dat → Dat
  | [.tup [.int a, .int b, .int n]] => .bl (isN a b n)
  | _ => .non
/-! ### is_number -/
def Sis_number (ds : List Dat) (d : Dat) : Prop := ∃ a b n : Int, ds = [nD a b n] ∧ d = .bl (isN a b n)
abbrev s_is_number : Stmt := topS 20
theorem sc_is_number : FnScope ["told", "a", "b", "n"] ["told"] (defScope s_is_number) := ⟨rfl, rfl, rfl, by decide +kernel, rfl, by decide +kernel, by decide +kernel⟩
theorem ok_is_number {f : Addr} {fd : FuncData} (F : Fun K "is_number" "is_number" s_is_number f fd) (c_is_integer : Cl P w K mg base 1 "is_integer" ["told"] (spP K Sis_integer)) (m_isinstance : mg "isinstance" = none) (m_tuple : mg "tuple" = none) (m_len : mg "len" = none) (m_gcd : mg "gcd" = some (.builtin "math.gcd")) : FnOk P w K mg base CX0 2 f fd ["told"] (spP K Sis_number) := by
  refine fn_pure F sc_is_number (fun ds d h => ?_) (fun cdv A outer s H Q E ds d hr hS hQ => ?_)
  · obtain ⟨a, b, n, rfl, rfl⟩ := h
    rfl
  · obtain ⟨a, b, n, rfl, rfl⟩ := hS
    refine
  (as_ifn (et_w (ew_or (et_not (et_val (ev_isi (b := true) m_isinstance (by constructor) (ea_cons (nm 0 rfl) (ea_cons (ev_ty (T := "tuple") m_tuple (by decide +kernel)) ea_nil))))) (fun _ => (ew_or1 (et_neI (ev_lenT m_len (ea_cons (nm 0 rfl) ea_nil)) ev_int))) (fun _ => rfl))) (fun hb =>
    (as_rt ev_bl ?_ rfl hQ)) (fun hb =>
  (as_unp3 (i := 1) (j := 2) (l := 3) sc_is_number.nd rfl (nm 0 rfl)
  (as_ifn (et_not (et_w (ew_and (et_val (ev_as (ev_callF R_is_integer c_is_integer (hr.mono (by decide)) (ea_cons (nm 1 rfl) ea_nil) ?_ (.inl rfl)) rfl)) (fun _ => (ew_and (et_val (ev_as (ev_callF R_is_integer c_is_integer (hr.mono (by decide)) (ea_cons (nm 2 rfl) ea_nil) ?_ (.inl rfl)) rfl)) (fun _ => (ew_and1 (et_val (ev_as (ev_callF R_is_integer c_is_integer (hr.mono (by decide)) (ea_cons (nm 3 rfl) ea_nil) ?_ (.inl rfl)) rfl)))) (fun _ => rfl))) (fun _ => rfl)))) (fun hb =>
    (as_rt ev_bl ?_ rfl hQ)) (fun hb =>
  (as_rt (ev_and (ev_ge (nm 3 rfl) ev_int) (fun _ => (ev_one (ev_eqI (ev_gcd3 m_gcd (ea_cons (nm 1 rfl) (ea_cons (nm 2 rfl) (ea_cons (nm 3 rfl) ea_nil)))) ev_int))) (fun _ => rfl)) ?_ rfl hQ))))))
    · exact absurd hb (by simp)
    · exact ⟨_, rfl, rfl⟩
    · exact ⟨_, rfl, rfl⟩
    · exact ⟨_, rfl, rfl⟩
    · exact absurd hb (by simp)
    · rfl

def R_check_number : List Dat → Dat
  | [_] => .non
  | _ => .non
/-! ### check_number -/
def Scheck_number (ds : List Dat) (d : Dat) : Prop := ∃ a b n : Int, ds = [nD a b n] ∧ Nm a b n ∧ d = .non
abbrev s_check_number : Stmt := topS 21
theorem sc_check_number : FnScope ["told"] ["told"] (defScope s_check_number) := ⟨rfl, rfl, rfl, by decide +kernel, rfl, by decide +kernel, by decide +kernel⟩
theorem ok_check_number {f : Addr} {fd : FuncData} (F : Fun K "check_number" "check_number" s_check_number f fd) (c_is_number : Cl P w K mg base 2 "is_number" ["told"] (spP K Sis_number)) : FnOk P w K mg base CX0 3 f fd ["told"] (spP K Scheck_number) := by
  refine fn_pure F sc_check_number (fun ds d h => ?_) (fun cdv A outer s H Q E ds d hr hS hQ => ?_)
  · obtain ⟨a, b, n, rfl, hn, rfl⟩ := h
    rfl
  · obtain ⟨a, b, n, rfl, hn, rfl⟩ := hS
    refine
  (as_ifn (et_not (et_val (ev_as (ev_callF R_is_number c_is_number (hr.mono (by decide)) (ea_cons (nm 0 rfl) ea_nil) ?_ (.inl rfl)) rfl))) (fun hb => absurd hb ?_) (fun hb =>
  as_nil (fun _ H1 _ hk0 e0 => hQ _ H1 e0 hk0 .non)))
    · exact ⟨_, _, _, rfl, rfl⟩
    · rw [hn]; exact Bool.false_ne_true

def R_check_integer : List Dat → Dat
  | [_] => .non
  | _ => .non
/-! ### check_integer -/
def Scheck_integer (ds : List Dat) (d : Dat) : Prop := ∃ i : Int, ds = [.int i] ∧ d = .non
abbrev s_check_integer : Stmt := topS 22
theorem sc_check_integer : FnScope ["told"] ["told"] (defScope s_check_integer) := ⟨rfl, rfl, rfl, by decide +kernel, rfl, by decide +kernel, by decide +kernel⟩
theorem ok_check_integer {f : Addr} {fd : FuncData} (F : Fun K "check_integer" "check_integer" s_check_integer f fd) (c_is_integer : Cl P w K mg base 1 "is_integer" ["told"] (spP K Sis_integer)) : FnOk P w K mg base CX0 2 f fd ["told"] (spP K Scheck_integer) := by
  refine fn_pure F sc_check_integer (fun ds d h => ?_) (fun cdv A outer s H Q E ds d hr hS hQ => ?_)
  · obtain ⟨i, rfl, rfl⟩ := h
    rfl
  · obtain ⟨i, rfl, rfl⟩ := hS
    refine
  (as_ifn (et_not (et_val (ev_as (ev_callF R_is_integer c_is_integer (hr.mono (by decide)) (ea_cons (nm 0 rfl) ea_nil) ?_ (.inl rfl)) rfl))) (fun hb => absurd hb ?_) (fun hb =>
  as_nil (fun _ H1 _ hk0 e0 => hQ _ H1 e0 hk0 .non)))
    · exact ⟨_, rfl, rfl⟩
    · exact Bool.false_ne_true

def R_number : List Dat → Dat
  | [.int a, .int b, .int n] => loD a b n
  | _ => .non
/-! ### number -/
def Snumber (ds : List Dat) (d : Dat) : Prop := ∃ a b n : Int, ds = [.int a, .int b, .int n] ∧ n ≠ 0 ∧ Bd 8900 n ∧ d = loD a b n
abbrev s_number : Stmt := topS 23
theorem sc_number : FnScope ["a", "b", "n"] ["a", "b", "n"] (defScope s_number) := ⟨rfl, rfl, rfl, by decide +kernel, rfl, by decide +kernel, by decide +kernel⟩
theorem ok_number {f : Addr} {fd : FuncData} (F : Fun K "number" "number" s_number f fd) (c_check_integer : Cl P w K mg base 2 "check_integer" ["told"] (spP K Scheck_integer)) (c_lowest : Cl P w K mg base 1 "lowest" ["a", "b", "n"] (spP K Slowest)) : FnOk P w K mg base CX0 3 f fd ["a", "b", "n"] (spP K Snumber) := by
  refine fn_pure F sc_number (fun ds d h => ?_) (fun cdv A outer s H Q E ds d hr hS hQ => ?_)
  · obtain ⟨a, b, n, rfl, h0, hbn, rfl⟩ := h
    rfl
  · obtain ⟨a, b, n, rfl, h0, hbn, rfl⟩ := hS
    refine
  (as_drop (ev_as (ev_callF R_check_integer c_check_integer (hr.mono (by decide)) (ea_cons (nm 0 rfl) ea_nil) ?_ (.inl rfl)) rfl)
  (as_drop (ev_as (ev_callF R_check_integer c_check_integer (hr.mono (by decide)) (ea_cons (nm 1 rfl) ea_nil) ?_ (.inl rfl)) rfl)
  (as_drop (ev_as (ev_callF R_check_integer c_check_integer (hr.mono (by decide)) (ea_cons (nm 2 rfl) ea_nil) ?_ (.inl rfl)) rfl)
  (as_ifn (et_eqI (nm 2 rfl) ev_int) (fun hb => absurd hb ?_) (fun hb =>
  (as_rt (ev_as (ev_callF R_lowest c_lowest (hr.mono (by decide)) (ea_cons (nm 0 rfl) (ea_cons (nm 1 rfl) (ea_cons (nm 2 rfl) ea_nil))) ?_ (.inl rfl)) rfl) ?_ rfl hQ))))))
    · exact ⟨_, rfl, rfl⟩
    · exact ⟨_, rfl, rfl⟩
    · exact ⟨_, rfl, rfl⟩
    · exact fun z => h0 (of_decide_eq_true z)
    · exact ⟨_, _, _, rfl, h0, hbn, rfl⟩
    · rfl

def R_plus : List Dat → Dat
  | [.tup [.int a, .int b, .int n], .tup [.int c, .int e, .int m]] => loD (a * m + c * n) (b * m + e * n) (n * m)
  | _ => .non
/-! ### plus -/
def Splus (ds : List Dat) (d : Dat) : Prop := ∃ a b n c e m : Int, ds = [nD a b n, nD c e m] ∧ N3 a b n ∧ N3 c e m ∧ d = loD (a * m + c * n) (b * m + e * n) (n * m)
abbrev s_plus : Stmt := topS 24
theorem sc_plus : FnScope ["p", "q"] ["p", "q"] (defScope s_plus) := ⟨rfl, rfl, rfl, by decide +kernel, rfl, by decide +kernel, by decide +kernel⟩
theorem ok_plus {f : Addr} {fd : FuncData} (F : Fun K "plus" "plus" s_plus f fd) (c_check_number : Cl P w K mg base 3 "check_number" ["told"] (spP K Scheck_number)) (c_number_sum : Cl P w K mg base 2 "number_sum" ["p", "q"] (spP K Snumber_sum)) : FnOk P w K mg base CX0 4 f fd ["p", "q"] (spP K Splus) := by
  refine fn_pure F sc_plus (fun ds d h => ?_) (fun cdv A outer s H Q E ds d hr hS hQ => ?_)
  · obtain ⟨a, b, n, c, e, m, rfl, ⟨a1, a2, a3, an⟩, ⟨b1, b2, b3, bn⟩, rfl⟩ := h
    rfl
  · obtain ⟨a, b, n, c, e, m, rfl, ⟨a1, a2, a3, an⟩, ⟨b1, b2, b3, bn⟩, rfl⟩ := hS
    refine
  (as_drop (ev_as (ev_callF R_check_number c_check_number (hr.mono (by decide)) (ea_cons (nm 0 rfl) ea_nil) ?_ (.inl rfl)) rfl)
  (as_drop (ev_as (ev_callF R_check_number c_check_number (hr.mono (by decide)) (ea_cons (nm 1 rfl) ea_nil) ?_ (.inl rfl)) rfl)
  (as_rt (ev_as (ev_callF R_number_sum c_number_sum (hr.mono (by decide)) (ea_cons (nm 0 rfl) (ea_cons (nm 1 rfl) ea_nil)) ?_ (.inl rfl)) rfl) ?_ rfl hQ)))
    · exact ⟨_, _, _, rfl, an, rfl⟩
    · exact ⟨_, _, _, rfl, bn, rfl⟩
    · exact ⟨_, _, _, _, _, _, rfl, ⟨a1, a2, a3, an⟩, ⟨b1, b2, b3, bn⟩, rfl⟩
    · rfl

def R_minus : List Dat → Dat
  | [.tup [.int a, .int b, .int n], .tup [.int c, .int e, .int m]] => loD (a * m - c * n) (b * m - e * n) (n * m)
  | _ => .non
/-! ### minus -/
def Sminus (ds : List Dat) (d : Dat) : Prop := ∃ a b n c e m : Int, ds = [nD a b n, nD c e m] ∧ N3 a b n ∧ N3 c e m ∧ d = loD (a * m - c * n) (b * m - e * n) (n * m)
abbrev s_minus : Stmt := topS 25
theorem sc_minus : FnScope ["p", "q"] ["p", "q"] (defScope s_minus) := ⟨rfl, rfl, rfl, by decide +kernel, rfl, by decide +kernel, by decide +kernel⟩
theorem ok_minus {f : Addr} {fd : FuncData} (F : Fun K "minus" "minus" s_minus f fd) (c_check_number : Cl P w K mg base 3 "check_number" ["told"] (spP K Scheck_number)) (c_number_less : Cl P w K mg base 2 "number_less" ["p", "q"] (spP K Snumber_less)) : FnOk P w K mg base CX0 4 f fd ["p", "q"] (spP K Sminus) := by
  refine fn_pure F sc_minus (fun ds d h => ?_) (fun cdv A outer s H Q E ds d hr hS hQ => ?_)
  · obtain ⟨a, b, n, c, e, m, rfl, ⟨a1, a2, a3, an⟩, ⟨b1, b2, b3, bn⟩, rfl⟩ := h
    rfl
  · obtain ⟨a, b, n, c, e, m, rfl, ⟨a1, a2, a3, an⟩, ⟨b1, b2, b3, bn⟩, rfl⟩ := hS
    refine
  (as_drop (ev_as (ev_callF R_check_number c_check_number (hr.mono (by decide)) (ea_cons (nm 0 rfl) ea_nil) ?_ (.inl rfl)) rfl)
  (as_drop (ev_as (ev_callF R_check_number c_check_number (hr.mono (by decide)) (ea_cons (nm 1 rfl) ea_nil) ?_ (.inl rfl)) rfl)
  (as_rt (ev_as (ev_callF R_number_less c_number_less (hr.mono (by decide)) (ea_cons (nm 0 rfl) (ea_cons (nm 1 rfl) ea_nil)) ?_ (.inl rfl)) rfl) ?_ rfl hQ)))
    · exact ⟨_, _, _, rfl, an, rfl⟩
    · exact ⟨_, _, _, rfl, bn, rfl⟩
    · exact ⟨_, _, _, _, _, _, rfl, ⟨a1, a2, a3, an⟩, ⟨b1, b2, b3, bn⟩, rfl⟩
    · rfl

def R_scaled : List Dat → Dat
  | [.tup [.int a, .int b, .int n], .int k] => loD (a * k) (b * k) n
  | _ => .non
/-! ### scaled -/
def Sscaled (ds : List Dat) (d : Dat) : Prop := ∃ a b n k : Int, ds = [nD a b n, .int k] ∧ N3 a b n ∧ Bd 2900 k ∧ d = loD (a * k) (b * k) n
abbrev s_scaled : Stmt := topS 26
theorem sc_scaled : FnScope ["p", "k", "a", "b", "n"] ["p", "k"] (defScope s_scaled) := ⟨rfl, rfl, rfl, by decide +kernel, rfl, by decide +kernel, by decide +kernel⟩
theorem ok_scaled {f : Addr} {fd : FuncData} (F : Fun K "scaled" "scaled" s_scaled f fd) (c_check_number : Cl P w K mg base 3 "check_number" ["told"] (spP K Scheck_number)) (c_check_integer : Cl P w K mg base 2 "check_integer" ["told"] (spP K Scheck_integer)) (c_lowest : Cl P w K mg base 1 "lowest" ["a", "b", "n"] (spP K Slowest)) : FnOk P w K mg base CX0 4 f fd ["p", "k"] (spP K Sscaled) := by
  refine fn_pure F sc_scaled (fun ds d h => ?_) (fun cdv A outer s H Q E ds d hr hS hQ => ?_)
  · obtain ⟨a, b, n, k, rfl, ⟨a1, a2, a3, an⟩, kb, rfl⟩ := h
    rfl
  · obtain ⟨a, b, n, k, rfl, ⟨a1, a2, a3, an⟩, kb, rfl⟩ := hS
    refine
  (as_drop (ev_as (ev_callF R_check_number c_check_number (hr.mono (by decide)) (ea_cons (nm 0 rfl) ea_nil) ?_ (.inl rfl)) rfl)
  (as_drop (ev_as (ev_callF R_check_integer c_check_integer (hr.mono (by decide)) (ea_cons (nm 1 rfl) ea_nil) ?_ (.inl rfl)) rfl)
  (as_unp3 (i := 2) (j := 3) (l := 4) sc_scaled.nd rfl (nm 0 rfl)
  (as_rt (ev_as (ev_callF R_lowest c_lowest (hr.mono (by decide)) (ea_cons (ev_mul (nm 2 rfl) (nm 1 rfl) ?_) (ea_cons (ev_mul (nm 3 rfl) (nm 1 rfl) ?_) (ea_cons (nm 4 rfl) ea_nil))) ?_ (.inl rfl)) rfl) ?_ rfl hQ))))
    · exact ⟨_, _, _, rfl, an, rfl⟩
    · exact ⟨_, rfl, rfl⟩
    · exact cm a1 kb (by decide)
    · exact cm a2 kb (by decide)
    · exact ⟨_, _, _, rfl, an.ne, a3.mono (by decide), rfl⟩
    · rfl

def R_times : List Dat → Dat
  | [.int k, .tup [.int a, .int b, .int n], .tup [.int c, .int e, .int m]] => loD (ptA k a b c e) (ptB k a b c e) (n * m)
  | _ => .non
/-! ### times -/
def Stimes (ds : List Dat) (d : Dat) : Prop := ∃ k a b n c e m : Int, ds = [.int k, nD a b n, nD c e m] ∧ Kd k ∧ N3 a b n ∧ N3 c e m ∧ d = loD (ptA k a b c e) (ptB k a b c e) (n * m)
abbrev s_times : Stmt := topS 27
theorem sc_times : FnScope ["kind", "p", "q", "a", "b"] ["kind", "p", "q"] (defScope s_times) := ⟨rfl, rfl, rfl, by decide +kernel, rfl, by decide +kernel, by decide +kernel⟩
theorem ok_times {f : Addr} {fd : FuncData} (F : Fun K "times" "times" s_times f fd) (c_check_kind : Cl P w K mg base 3 "check_kind" ["kind"] (spP K Scheck_kind)) (c_check_number : Cl P w K mg base 3 "check_number" ["told"] (spP K Scheck_number)) (c_pair_times : Cl P w K mg base 1 "pair_times" ["kind", "p", "q"] (spP K Spair_times)) (c_lowest : Cl P w K mg base 1 "lowest" ["a", "b", "n"] (spP K Slowest)) : FnOk P w K mg base CX0 4 f fd ["kind", "p", "q"] (spP K Stimes) := by
  refine fn_pure F sc_times (fun ds d h => ?_) (fun cdv A outer s H Q E ds d hr hS hQ => ?_)
  · obtain ⟨k, a, b, n, c, e, m, rfl, hk, ⟨a1, a2, a3, an⟩, ⟨b1, b2, b3, bn⟩, rfl⟩ := h
    rfl
  · obtain ⟨k, a, b, n, c, e, m, rfl, hk, ⟨a1, a2, a3, an⟩, ⟨b1, b2, b3, bn⟩, rfl⟩ := hS
    refine
  (as_drop (ev_as (ev_callF R_check_kind c_check_kind (hr.mono (by decide)) (ea_cons (nm 0 rfl) ea_nil) ?_ (.inl rfl)) rfl)
  (as_drop (ev_as (ev_callF R_check_number c_check_number (hr.mono (by decide)) (ea_cons (nm 1 rfl) ea_nil) ?_ (.inl rfl)) rfl)
  (as_drop (ev_as (ev_callF R_check_number c_check_number (hr.mono (by decide)) (ea_cons (nm 2 rfl) ea_nil) ?_ (.inl rfl)) rfl)
  (as_unp2 (i := 3) (j := 4) sc_times.nd rfl (ev_as (ev_callF R_pair_times c_pair_times (hr.mono (by decide)) (ea_cons (nm 0 rfl) (ea_cons (ev_cut32 (nm 1 rfl)) (ea_cons (ev_cut32 (nm 2 rfl)) ea_nil))) ?_ (.inl rfl)) rfl)
  (as_rt (ev_as (ev_callF R_lowest c_lowest (hr.mono (by decide)) (ea_cons (nm 3 rfl) (ea_cons (nm 4 rfl) (ea_cons (ev_mul (ev_ixT (j := 2) (nm 1 rfl) ev_int rfl rfl) (ev_ixT (j := 2) (nm 2 rfl) ev_int rfl rfl) ?_) ea_nil))) ?_ (.inl rfl)) rfl) ?_ rfl hQ)))))
    · exact ⟨_, rfl, hk, rfl⟩
    · exact ⟨_, _, _, rfl, an, rfl⟩
    · exact ⟨_, _, _, rfl, bn, rfl⟩
    · exact ⟨_, _, _, _, _, rfl, hk, a1.mono (by decide), a2.mono (by decide), b1.mono (by decide), b2.mono (by decide), rfl⟩
    · exact cm a3 b3 (by decide)
    · exact ⟨_, _, _, rfl, mul_ne an.ne bn.ne, (a3.mul b3).mono (by decide), rfl⟩
    · rfl

def R_by : List Dat → Dat
  | [.int k, .tup [.int a, .int b, .int n], .tup [.int c, .int e, .int m]] => loD (byA k a b n c e m) (byB k a b n c e m) (byN k a b n c e m)
  | _ => .non
/-! ### by -/
def Sby (ds : List Dat) (d : Dat) : Prop := ∃ k a b n c e m : Int, ds = [.int k, nD a b n, nD c e m] ∧ Kd k ∧ N3 a b n ∧ N3 c e m ∧ pnN k c e ≠ 0 ∧ d = loD (byA k a b n c e m) (byB k a b n c e m) (byN k a b n c e m)
abbrev s_by : Stmt := topS 28
theorem sc_by : FnScope ["kind", "p", "q"] ["kind", "p", "q"] (defScope s_by) := ⟨rfl, rfl, rfl, by decide +kernel, rfl, by decide +kernel, by decide +kernel⟩
theorem ok_by {f : Addr} {fd : FuncData} (F : Fun K "by" "by" s_by f fd) (c_check_kind : Cl P w K mg base 3 "check_kind" ["kind"] (spP K Scheck_kind)) (c_check_number : Cl P w K mg base 3 "check_number" ["told"] (spP K Scheck_number)) (c_number_by : Cl P w K mg base 2 "number_by" ["kind", "p", "q"] (spP K Snumber_by)) : FnOk P w K mg base CX0 4 f fd ["kind", "p", "q"] (spP K Sby) := by
  refine fn_pure F sc_by (fun ds d h => ?_) (fun cdv A outer s H Q E ds d hr hS hQ => ?_)
  · obtain ⟨k, a, b, n, c, e, m, rfl, hk, ⟨a1, a2, a3, an⟩, ⟨b1, b2, b3, bn⟩, hq, rfl⟩ := h
    rfl
  · obtain ⟨k, a, b, n, c, e, m, rfl, hk, ⟨a1, a2, a3, an⟩, ⟨b1, b2, b3, bn⟩, hq, rfl⟩ := hS
    refine
  (as_drop (ev_as (ev_callF R_check_kind c_check_kind (hr.mono (by decide)) (ea_cons (nm 0 rfl) ea_nil) ?_ (.inl rfl)) rfl)
  (as_drop (ev_as (ev_callF R_check_number c_check_number (hr.mono (by decide)) (ea_cons (nm 1 rfl) ea_nil) ?_ (.inl rfl)) rfl)
  (as_drop (ev_as (ev_callF R_check_number c_check_number (hr.mono (by decide)) (ea_cons (nm 2 rfl) ea_nil) ?_ (.inl rfl)) rfl)
  (as_ifn (et_eqD hr.units (nm 2 rfl) (ev_tup (ea_cons ev_int (ea_cons ev_int (ea_cons ev_int ea_nil))) (Nat.le_of_ble_eq_true rfl)) rfl rfl rfl rfl rfl) (fun hb => absurd hb ?_) (fun hb =>
  (as_rt (ev_as (ev_callF R_number_by c_number_by (hr.mono (by decide)) (ea_cons (nm 0 rfl) (ea_cons (nm 1 rfl) (ea_cons (nm 2 rfl) ea_nil))) ?_ (.inl rfl)) rfl) ?_ rfl hQ))))))
    · exact ⟨_, rfl, hk, rfl⟩
    · exact ⟨_, _, _, rfl, an, rfl⟩
    · exact ⟨_, _, _, rfl, bn, rfl⟩
    · intro z
      have z' : ((c == (0 : Int)) && ((e == (0 : Int)) && ((m == (1 : Int)) && true))) = true := by simpa [PyData.eqv, PyData.eqvAll, pd, pds] using z
      simp only [Bool.and_eq_true, beq_iff_eq] at z'
      refine hq ?_
      rw [z'.1, z'.2.1]
      unfold pnN
      split <;> simp
    · exact ⟨_, _, _, _, _, _, _, rfl, hk, ⟨a1, a2, a3, an⟩, ⟨b1, b2, b3, bn⟩, hq, rfl⟩
    · rfl

def R_mate : List Dat → Dat
  | [.int k, .tup [.int a, .int b, .int n]] => nD (pmA k a b) (pmB k a b) n
  | _ => .non
/-! ### mate -/
def Smate (ds : List Dat) (d : Dat) : Prop := ∃ k a b n : Int, ds = [.int k, nD a b n] ∧ Kd k ∧ N3 a b n ∧ d = nD (pmA k a b) (pmB k a b) n
abbrev s_mate : Stmt := topS 29
theorem sc_mate : FnScope ["kind", "p", "a", "b"] ["kind", "p"] (defScope s_mate) := ⟨rfl, rfl, rfl, by decide +kernel, rfl, by decide +kernel, by decide +kernel⟩
theorem ok_mate {f : Addr} {fd : FuncData} (F : Fun K "mate" "mate" s_mate f fd) (c_check_kind : Cl P w K mg base 3 "check_kind" ["kind"] (spP K Scheck_kind)) (c_check_number : Cl P w K mg base 3 "check_number" ["told"] (spP K Scheck_number)) (c_pair_mate : Cl P w K mg base 1 "pair_mate" ["kind", "p"] (spP K Spair_mate)) : FnOk P w K mg base CX0 4 f fd ["kind", "p"] (spP K Smate) := by
  refine fn_pure F sc_mate (fun ds d h => ?_) (fun cdv A outer s H Q E ds d hr hS hQ => ?_)
  · obtain ⟨k, a, b, n, rfl, hk, ⟨a1, a2, a3, an⟩, rfl⟩ := h
    rfl
  · obtain ⟨k, a, b, n, rfl, hk, ⟨a1, a2, a3, an⟩, rfl⟩ := hS
    refine
  (as_drop (ev_as (ev_callF R_check_kind c_check_kind (hr.mono (by decide)) (ea_cons (nm 0 rfl) ea_nil) ?_ (.inl rfl)) rfl)
  (as_drop (ev_as (ev_callF R_check_number c_check_number (hr.mono (by decide)) (ea_cons (nm 1 rfl) ea_nil) ?_ (.inl rfl)) rfl)
  (as_unp2 (i := 2) (j := 3) sc_mate.nd rfl (ev_as (ev_callF R_pair_mate c_pair_mate (hr.mono (by decide)) (ea_cons (nm 0 rfl) (ea_cons (ev_cut32 (nm 1 rfl)) ea_nil)) ?_ (.inl rfl)) rfl)
  (as_rt (ev_tup (ea_cons (nm 2 rfl) (ea_cons (nm 3 rfl) (ea_cons (ev_ixT (j := 2) (nm 1 rfl) ev_int rfl rfl) ea_nil))) (Nat.le_of_ble_eq_true rfl)) ?_ rfl hQ))))
    · exact ⟨_, rfl, hk, rfl⟩
    · exact ⟨_, _, _, rfl, an, rfl⟩
    · exact ⟨_, _, _, rfl, rfl⟩
    · rfl

def R_norm : List Dat → Dat
  | [.int k, .tup [.int a, .int b, .int n]] => loD (pnN k a b) 0 (n * n)
  | _ => .non
/-! ### norm -/
def Snorm (ds : List Dat) (d : Dat) : Prop := ∃ k a b n : Int, ds = [.int k, nD a b n] ∧ Kd k ∧ N3 a b n ∧ d = loD (pnN k a b) 0 (n * n)
abbrev s_norm : Stmt := topS 30
theorem sc_norm : FnScope ["kind", "p"] ["kind", "p"] (defScope s_norm) := ⟨rfl, rfl, rfl, by decide +kernel, rfl, by decide +kernel, by decide +kernel⟩
theorem ok_norm {f : Addr} {fd : FuncData} (F : Fun K "norm" "norm" s_norm f fd) (c_check_kind : Cl P w K mg base 3 "check_kind" ["kind"] (spP K Scheck_kind)) (c_check_number : Cl P w K mg base 3 "check_number" ["told"] (spP K Scheck_number)) (c_lowest : Cl P w K mg base 1 "lowest" ["a", "b", "n"] (spP K Slowest)) (c_pair_norm : Cl P w K mg base 1 "pair_norm" ["kind", "p"] (spP K Spair_norm)) : FnOk P w K mg base CX0 4 f fd ["kind", "p"] (spP K Snorm) := by
  refine fn_pure F sc_norm (fun ds d h => ?_) (fun cdv A outer s H Q E ds d hr hS hQ => ?_)
  · obtain ⟨k, a, b, n, rfl, hk, ⟨a1, a2, a3, an⟩, rfl⟩ := h
    rfl
  · obtain ⟨k, a, b, n, rfl, hk, ⟨a1, a2, a3, an⟩, rfl⟩ := hS
    refine
  (as_drop (ev_as (ev_callF R_check_kind c_check_kind (hr.mono (by decide)) (ea_cons (nm 0 rfl) ea_nil) ?_ (.inl rfl)) rfl)
  (as_drop (ev_as (ev_callF R_check_number c_check_number (hr.mono (by decide)) (ea_cons (nm 1 rfl) ea_nil) ?_ (.inl rfl)) rfl)
  (as_rt (ev_as (ev_callF R_lowest c_lowest (hr.mono (by decide)) (ea_cons (ev_as (ev_callF R_pair_norm c_pair_norm (hr.mono (by decide)) (ea_cons (nm 0 rfl) (ea_cons (ev_cut32 (nm 1 rfl)) ea_nil)) ?_ (.inl rfl)) rfl) (ea_cons ev_int (ea_cons (ev_mul (ev_ixT (j := 2) (nm 1 rfl) ev_int rfl rfl) (ev_ixT (j := 2) (nm 1 rfl) ev_int rfl rfl) ?_) ea_nil))) ?_ (.inl rfl)) rfl) ?_ rfl hQ)))
    · exact ⟨_, rfl, hk, rfl⟩
    · exact ⟨_, _, _, rfl, an, rfl⟩
    · exact ⟨_, _, _, rfl, hk, a1.mono (by decide), a2.mono (by decide), rfl⟩
    · exact cm a3 a3 (by decide)
    · exact ⟨_, _, _, rfl, mul_ne an.ne an.ne, (a3.mul a3).mono (by decide), rfl⟩
    · rfl

end
end Wk
set_option Elab.async false
set_option linter.all false
set_option maxRecDepth 100000
set_option maxHeartbeats 4000000
namespace Wk
open Wf
theorem g3_mul (a b n t : Int) : g3 (a * t) (b * t) (n * t) = g3 a b n * (t.natAbs : Int) := by
  unfold g3
  rw [Int.natAbs_mul, Int.natAbs_mul, Int.natAbs_mul, Nat.gcd_mul_right, Nat.gcd_mul_right, Int.natCast_mul]
theorem g3_dvd (a b n : Int) : g3 a b n ∣ a ∧ g3 a b n ∣ b ∧ g3 a b n ∣ n := by
  unfold g3
  have h1 := Nat.gcd_dvd_left (a.natAbs.gcd b.natAbs) n.natAbs
  have h2 := Nat.gcd_dvd_right (a.natAbs.gcd b.natAbs) n.natAbs
  have h3 := Nat.gcd_dvd_left a.natAbs b.natAbs
  have h4 := Nat.gcd_dvd_right a.natAbs b.natAbs
  refine ⟨Int.natAbs_dvd_natAbs.mp ?_, Int.natAbs_dvd_natAbs.mp ?_, Int.natAbs_dvd_natAbs.mp ?_⟩
  · rw [Int.natAbs_natCast]; exact Nat.dvd_trans h1 h3
  · rw [Int.natAbs_natCast]; exact Nat.dvd_trans h1 h4
  · rw [Int.natAbs_natCast]; exact h2
theorem sg_dvd (a b n : Int) : sg a b n ∣ a ∧ sg a b n ∣ b ∧ sg a b n ∣ n := by
  obtain ⟨h1, h2, h3⟩ := g3_dvd a b n
  unfold sg
  split
  · exact ⟨Int.neg_dvd.mpr h1, Int.neg_dvd.mpr h2, Int.neg_dvd.mpr h3⟩
  · exact ⟨h1, h2, h3⟩
theorem fdiv_mul {a g : Int} (h : g ≠ 0) (d : g ∣ a) : a.fdiv g * g = a := by
  obtain ⟨c, rfl⟩ := d
  rw [Int.mul_fdiv_cancel_left _ h, Int.mul_comm]
theorem lo_mul {a b n : Int} (h : n ≠ 0) : loA a b n * sg a b n = a ∧ loB a b n * sg a b n = b ∧ loN a b n * sg a b n = n := by
  obtain ⟨h1, h2, h3⟩ := sg_dvd a b n
  have g := sg_ne (a := a) (b := b) h
  exact ⟨fdiv_mul g h1, fdiv_mul g h2, fdiv_mul g h3⟩
theorem g3_pos {a b n : Int} (h : n ≠ 0) : 0 < g3 a b n := by
  have h1 := g3_ne (a := a) (b := b) h
  have h2 : 0 ≤ g3 a b n := Int.natCast_nonneg _
  omega
theorem sg_abs (a b n : Int) : ((sg a b n).natAbs : Int) = g3 a b n := by
  have h2 : 0 ≤ g3 a b n := Int.natCast_nonneg _
  unfold sg
  split <;> omega
/-- what lowest gives is a number -/
theorem lo_nm {a b n : Int} (h : n ≠ 0) : Nm (loA a b n) (loB a b n) (loN a b n) := by
  obtain ⟨e1, e2, e3⟩ := lo_mul (a := a) (b := b) h
  have gp := g3_pos (a := a) (b := b) h
  have hm := g3_mul (loA a b n) (loB a b n) (loN a b n) (sg a b n)
  rw [e1, e2, e3, sg_abs] at hm
  have h1 : g3 (loA a b n) (loB a b n) (loN a b n) = 1 := by
    have : 1 * g3 a b n = g3 (loA a b n) (loB a b n) (loN a b n) * g3 a b n := by rw [Int.one_mul]; exact hm
    exact (Int.eq_of_mul_eq_mul_right (by omega) this).symm
  have h2 : 1 ≤ loN a b n := by
    have hs : sg a b n = if decide (n < 0) = true then -(g3 a b n) else g3 a b n := rfl
    by_cases hn : n < 0
    · rw [decide_eq_true hn, if_pos rfl] at hs
      rw [hs] at e3
      by_cases hl : 1 ≤ loN a b n
      · exact hl
      · have : 0 ≤ loN a b n * -(g3 a b n) := Int.mul_nonneg_of_nonpos_of_nonpos (by omega) (by omega)
        omega
    · rw [decide_eq_false hn, if_neg Bool.false_ne_true] at hs
      rw [hs] at e3
      by_cases hl : 1 ≤ loN a b n
      · exact hl
      · have : loN a b n * (g3 a b n) ≤ 0 := Int.mul_nonpos_of_nonpos_of_nonneg (by omega) (by omega)
        omega
  show isN _ _ _ = true
  unfold isN
  rw [decide_eq_true h1, decide_eq_true h2]
  rfl
theorem Nm.g {a b n : Int} (h : Nm a b n) : g3 a b n = 1 := by
  have h' : (decide (1 ≤ n) && decide (g3 a b n = 1)) = true := h
  rw [Bool.and_eq_true] at h'
  exact of_decide_eq_true h'.2
/-- two numbers in their form are the same if they are the same crosswise -/
theorem nm_one {a b n c e m : Int} (h : Nm a b n) (g : Nm c e m) (h1 : a * m = c * n) (h2 : b * m = e * n) : a = c ∧ b = e ∧ n = m := by
  have p1 := h.pos
  have p2 := g.pos
  have q1 := g3_mul a b n m
  have q2 := g3_mul c e m n
  rw [h.g, Int.one_mul] at q1
  rw [g.g, Int.one_mul] at q2
  rw [h1, h2, Int.mul_comm n m] at q1
  rw [q1] at q2
  have en : n = m := by omega
  subst en
  exact ⟨Int.eq_of_mul_eq_mul_right (by omega) h1, Int.eq_of_mul_eq_mul_right (by omega) h2, rfl⟩
/-- lowest crosswise -/
theorem lo_cross {a b n : Int} (h : n ≠ 0) : loA a b n * n = a * loN a b n ∧ loB a b n * n = b * loN a b n := by
  obtain ⟨e1, e2, e3⟩ := lo_mul (a := a) (b := b) h
  have gn := sg_ne (a := a) (b := b) h
  refine ⟨?_, ?_⟩
  · refine Int.eq_of_mul_eq_mul_right gn ?_
    calc loA a b n * n * sg a b n = (loA a b n * sg a b n) * n := by rw [Int.mul_assoc, Int.mul_comm n, ← Int.mul_assoc]
      _ = a * n := by rw [e1]
      _ = a * (loN a b n * sg a b n) := by rw [e3]
      _ = a * loN a b n * sg a b n := by rw [Int.mul_assoc]
  · refine Int.eq_of_mul_eq_mul_right gn ?_
    calc loB a b n * n * sg a b n = (loB a b n * sg a b n) * n := by rw [Int.mul_assoc, Int.mul_comm n, ← Int.mul_assoc]
      _ = b * n := by rw [e2]
      _ = b * (loN a b n * sg a b n) := by rw [e3]
      _ = b * loN a b n * sg a b n := by rw [Int.mul_assoc]
/-- lowest is the one number that is so crosswise -/
theorem lo_is {a b n c e m : Int} (h : n ≠ 0) (g : Nm c e m) (h1 : a * m = c * n) (h2 : b * m = e * n) : loA a b n = c ∧ loB a b n = e ∧ loN a b n = m := by
  obtain ⟨x1, x2⟩ := lo_cross (a := a) (b := b) h
  have ln := (lo_nm (a := a) (b := b) h).ne
  refine nm_one (lo_nm h) g ?_ ?_
  · refine Int.eq_of_mul_eq_mul_right h ?_
    calc loA a b n * m * n = (loA a b n * n) * m := by rw [Int.mul_assoc, Int.mul_comm m, ← Int.mul_assoc]
      _ = a * loN a b n * m := by rw [x1]
      _ = a * m * loN a b n := by rw [Int.mul_assoc, Int.mul_comm (loN a b n), ← Int.mul_assoc]
      _ = c * n * loN a b n := by rw [h1]
      _ = c * loN a b n * n := by rw [Int.mul_assoc, Int.mul_comm n, ← Int.mul_assoc]
  · refine Int.eq_of_mul_eq_mul_right h ?_
    calc loB a b n * m * n = (loB a b n * n) * m := by rw [Int.mul_assoc, Int.mul_comm m, ← Int.mul_assoc]
      _ = b * loN a b n * m := by rw [x2]
      _ = b * m * loN a b n := by rw [Int.mul_assoc, Int.mul_comm (loN a b n), ← Int.mul_assoc]
      _ = e * n * loN a b n := by rw [h2]
      _ = e * loN a b n * n := by rw [Int.mul_assoc, Int.mul_comm n, ← Int.mul_assoc]
theorem lo_self {a b n : Int} (h : Nm a b n) : loA a b n = a ∧ loB a b n = b ∧ loN a b n = n := lo_is h.ne h rfl rfl
theorem lo_bd1 {x g : Int} {m : Nat} (hg : g ≠ 0) (d : g ∣ x) (h : Bd m x) : Bd m (x.fdiv g) := by
  have e := fdiv_mul hg d
  show (x.fdiv g).natAbs < 2 ^ m
  have h1 : x.natAbs < 2 ^ m := h
  rw [← e, Int.natAbs_mul] at h1
  have h2 : 1 ≤ g.natAbs := Int.natAbs_pos.mpr hg
  have h3 : (x.fdiv g).natAbs * 1 ≤ (x.fdiv g).natAbs * g.natAbs := Nat.mul_le_mul_left _ h2
  omega
theorem lo_bd {a b n : Int} {m : Nat} (h : n ≠ 0) (h1 : Bd m a) (h2 : Bd m b) (h3 : Bd m n) : Bd m (loA a b n) ∧ Bd m (loB a b n) ∧ Bd m (loN a b n) := by
  obtain ⟨d1, d2, d3⟩ := sg_dvd a b n
  have g := sg_ne (a := a) (b := b) h
  exact ⟨lo_bd1 g d1 h1, lo_bd1 g d2 h2, lo_bd1 g d3 h3⟩
/-! no norm of a number other than 0 is 0 -/
theorem mod_sq (p : Int) (hp : p = 2 ∨ p = 3 ∨ p = 5) (x : Int) (h : (x * x) % p = 0) : x % p = 0 := by
  rw [Int.mul_emod] at h
  rcases hp with rfl | rfl | rfl
  · have : x % 2 = 0 ∨ x % 2 = 1 := by omega
    rcases this with e | e <;> rw [e] at h ⊢ <;> simp at h ⊢
  · have : x % 3 = 0 ∨ x % 3 = 1 ∨ x % 3 = 2 := by omega
    rcases this with e | e | e <;> rw [e] at h ⊢ <;> simp at h ⊢
  · have : x % 5 = 0 ∨ x % 5 = 1 ∨ x % 5 = 2 ∨ x % 5 = 3 ∨ x % 5 = 4 := by omega
    rcases this with e | e | e | e | e <;> rw [e] at h ⊢ <;> simp at h ⊢
theorem sq_irr (p : Int) (hp : p = 2 ∨ p = 3 ∨ p = 5) : ∀ (k : Nat) (x y : Int), y.natAbs < k → x * x = p * (y * y) → x = 0 ∧ y = 0 := by
  have pp : 1 < p := by rcases hp with rfl | rfl | rfl <;> decide
  intro k
  induction k with
  | zero => intro x y h; omega
  | succ k ih =>
    intro x y hk h
    have h1 : x % p = 0 := mod_sq p hp x (by rw [h]; exact Int.mul_emod_right _ _)
    obtain ⟨u, hu⟩ := Int.dvd_of_emod_eq_zero h1
    have h2 : y * y = p * (u * u) := by
      have e : p * (y * y) = p * (p * (u * u)) := by
        rw [← h, hu]
        simp only [Int.mul_assoc, Int.mul_left_comm]
      exact Int.eq_of_mul_eq_mul_left (by omega) e
    have h3 : y % p = 0 := mod_sq p hp y (by rw [h2]; exact Int.mul_emod_right _ _)
    obtain ⟨v, hv⟩ := Int.dvd_of_emod_eq_zero h3
    have h4 : u * u = p * (v * v) := by
      have e : p * (u * u) = p * (p * (v * v)) := by
        rw [← h2, hv]
        simp only [Int.mul_assoc, Int.mul_left_comm]
      exact Int.eq_of_mul_eq_mul_left (by omega) e
    by_cases y0 : y = 0
    · subst y0
      have : x * x = 0 := by rw [h]; simp
      have : x = 0 := by
        rcases Int.mul_eq_zero.mp this with z | z <;> exact z
      exact ⟨this, rfl⟩
    · have hv2 : v.natAbs < k := by
        have e : y.natAbs = p.natAbs * v.natAbs := by rw [hv, Int.natAbs_mul]
        have hp2 : 2 ≤ p.natAbs := by omega
        have hvp : 1 ≤ v.natAbs := by
          by_cases hz : v.natAbs = 0
          · rw [hz] at e
            omega
          · omega
        have : 2 * v.natAbs ≤ p.natAbs * v.natAbs := Nat.mul_le_mul_right _ hp2
        omega
      obtain ⟨z1, z2⟩ := ih u v hv2 h4
      rw [z2, Int.mul_zero] at hv
      exact absurd hv y0
theorem pn_ne {k c e : Int} (hk : Kd k) (h : ¬ (c = 0 ∧ e = 0)) : pnN k c e ≠ 0 := by
  intro z
  unfold pnN at z
  by_cases h5 : k = 5
  · subst h5
    rw [if_pos rfl] at z
    have q : (2 * c + e) * (2 * c + e) = 5 * (e * e) := by
      have e1 : (2 * c + e) * (2 * c + e) = 4 * (c * c) + 4 * (c * e) + e * e := by
        rw [Int.add_mul, Int.mul_add, Int.mul_add]
        have : e * (2 * c) = 2 * (c * e) := by rw [Int.mul_comm e, Int.mul_assoc]
        have h2 : 2 * c * (2 * c) = 4 * (c * c) := by
          rw [Int.mul_assoc, Int.mul_left_comm c 2 c, ← Int.mul_assoc]
          rfl
        have h3 : 2 * c * e = 2 * (c * e) := Int.mul_assoc _ _ _
        omega
      omega
    obtain ⟨z1, z2⟩ := sq_irr 5 (.inr (.inr rfl)) _ (2 * c + e) e (Nat.lt_succ_self _) q
    exact h ⟨by omega, z2⟩
  · rw [if_neg h5] at z
    have hk2 : k = 2 ∨ k = 3 ∨ k = 5 := hk
    have q : c * c = k * (e * e) := by
      rw [Int.mul_assoc] at z
      omega
    obtain ⟨z1, z2⟩ := sq_irr k hk2 _ c e (Nat.lt_succ_self _) q
    exact h ⟨z1, z2⟩
end Wk

set_option Elab.async false
set_option linter.all false
set_option maxRecDepth 100000
set_option maxHeartbeats 4000000
namespace Wk
open PySem PySem.Spec PyProof.Rows L2 Evl Wf
section
variable {P : Program} {w : World} {K : PySem.W.Frag} {mg : Str → Option Value} {base : Heap}

def MUL : Int := 6364136223846793005
def nxY (y : Int) : Int := (y * 6364136223846793005 + 1442695040888963407) % (2 ^ (64 : Int).toNat)
def tkV (k : Int × Int) (m : Int) : Int := if 0 < k.1 then k.1 % m else nxY k.2 / (2 ^ (33 : Int).toNat) % m
def tkK (k : Int × Int) (m : Int) : Int × Int := if 0 < k.1 then (k.1 / m, k.2) else (k.1, nxY k.2)
/-- the second number of a deck is small -/
def Dk (k : Int × Int) : Prop := 0 ≤ k.2 ∧ k.2 < 18446744073709551616
theorem nxY_ok (y : Int) : 0 ≤ nxY y ∧ nxY y < 18446744073709551616 := by
  unfold nxY
  have e : ((2 : Int) ^ (64 : Int).toNat) = 18446744073709551616 := by decide
  rw [e]
  omega
theorem tkK_ok {k : Int × Int} {m : Int} (h : Dk k) : Dk (tkK k m) := by
  unfold tkK
  split
  · exact h
  · exact nxY_ok k.2
theorem tkV_ok {k : Int × Int} {m : Int} (h : 0 < m) : 0 ≤ tkV k m ∧ tkV k m < m := by
  unfold tkV
  split
  · exact ⟨Int.emod_nonneg _ (by omega), Int.emod_lt_of_pos _ h⟩
  · exact ⟨Int.emod_nonneg _ (by omega), Int.emod_lt_of_pos _ h⟩
theorem Dk.bd {k : Int × Int} (h : Dk k) : Bd 64 k.2 := by
  have := h.1
  have := h.2
  show k.2.natAbs < 2 ^ 64
  omega
def R__law_take : List Dat → Int × Int → Dat × (Int × Int)
  | [.int m], k => (.int (tkV k m), tkK k m)
  | _, k => (.non, k)

/-! ### _law_take -/
def S_law_take (ds : List Dat) (k : Int × Int) (d : Dat) (k' : Int × Int) : Prop := ∃ m : Int, ds = [.int m] ∧ 0 < m ∧ Bd 900 m ∧ Dk k ∧ d = .int (tkV k m) ∧ k' = tkK k m
abbrev s__law_take : Stmt := topS 33
theorem sc__law_take : FnScope ["deck", "many", "taken"] ["deck", "many"] (defScope s__law_take) := ⟨rfl, rfl, rfl, by decide +kernel, rfl, by decide +kernel, by decide +kernel⟩
theorem ok__law_take {f : Addr} {fd : FuncData} (F : Fun K "_law_take" "_law_take" s__law_take f fd) (m_int : mg "int" = none) : FnOk P w K mg base CX0 1 f fd ["deck", "many"] (spD K S_law_take) := by
  refine fn_deck F sc__law_take (fun ds k d k' h => ?_) (fun cdv A outer s H Q E pa ds k d k' hr hS hQ => ?_)
  · obtain ⟨m, rfl, hm, hb9, hd, rfl, rfl⟩ := h
    rfl
  · obtain ⟨m, rfl, hm, hb9, hd, rfl, rfl⟩ := hS
    refine
  (as_ifn (et_gt (ev_dk (nm 0 rfl) (j := 0) ev_int rfl rfl) ev_int) (fun hb =>
    (as_asg (i := 2) sc__law_take.nd (ev_mod (ev_intI m_int (ea_cons (ev_dk (nm 0 rfl) (j := 0) ev_int rfl rfl) ea_nil)) (nm 1 rfl) ?_)
    (as_dk0 (ev_fdiv (ev_dk (nm 0 rfl) (j := 0) ev_int rfl rfl) (nm 1 rfl) ?_) (nm 0 rfl) ev_int
    (as_rt (nm 2 rfl) ?_ ?_ hQ)))) (fun hb =>
  (as_dk1 (ev_mod (ev_intI m_int (ea_cons (ev_add (ev_mul (ev_dk (nm 0 rfl) (j := 1) ev_int rfl rfl) ev_int ?_) ev_int) ea_nil)) (ev_pow ev_int ev_int ?_) ?_) (nm 0 rfl) ev_int
  (as_rt (ev_mod (ev_fdiv (ev_dk (nm 0 rfl) (j := 1) ev_int rfl rfl) (ev_pow ev_int ev_int ?_) ?_) (nm 1 rfl) ?_) ?_ ?_ hQ))))
    · exact hm
    · exact cdw hm hb9 (by decide)
    · have q : 0 < k.1 := of_decide_eq_true hb
      show Dat.int (k.1 % m) = _
      unfold tkV
      rw [if_pos q]
    · have q : 0 < k.1 := of_decide_eq_true hb
      unfold tkK
      rw [if_pos q]
    · exact cm hd.bd (Bd.lit 64) (by decide)
    · exact ⟨by decide, by decide, by decide⟩
    · decide
    · exact ⟨by decide, by decide, by decide⟩
    · exact cdw (by decide) (Bd.lit 34) (by decide)
    · exact hm
    · have q : ¬ 0 < k.1 := of_decide_eq_false hb
      show Dat.int (nxY k.2 / (2 ^ (33 : Int).toNat) % m) = _
      unfold tkV
      rw [if_neg q]
    · have q : ¬ 0 < k.1 := of_decide_eq_false hb
      show (k.1, nxY k.2) = _
      unfold tkK
      rw [if_neg q]

abbrev s__law_gcd : Stmt := topS 34
theorem sc__law_gcd : FnScope ["u", "v"] ["u", "v"] (defScope s__law_gcd) := ⟨rfl, rfl, rfl, by decide +kernel, rfl, by decide +kernel, by decide +kernel⟩
/-! ### _law_gcd -/
def gcdI (a b : Int) : Int := ((a.natAbs.gcd b.natAbs : Nat) : Int)
def S_law_gcd (ds : List Dat) (d : Dat) : Prop := ∃ a b : Int, ds = [.int a, .int b] ∧ 0 ≤ a ∧ 0 ≤ b ∧ d = .int (gcdI a b)
def R__law_gcd : List Dat → Dat
  | [.int a, .int b] => .int (gcdI a b)
  | _ => .non
theorem gcd_step {a b : Int} (ha : 0 ≤ a) (hb : 0 < b) : gcdI b (a % b) = gcdI a b := by
  unfold gcdI
  have e : (a % b).natAbs = a.natAbs % b.natAbs := by
    have h1 := Int.emod_nonneg a (show b ≠ 0 by omega)
    have : ((a % b).natAbs : Int) = ((a.natAbs % b.natAbs : Nat) : Int) := by
      rw [Int.natAbs_of_nonneg h1, Int.natCast_emod, Int.natAbs_of_nonneg ha, Int.natAbs_of_nonneg (by omega)]
    omega
  rw [e, Nat.gcd_comm b.natAbs, ← Nat.gcd_rec, Nat.gcd_comm]
theorem ok__law_gcd {f : Addr} {fd : FuncData} (F : Fun K "_law_gcd" "_law_gcd" s__law_gcd f fd) (m_int : mg "int" = none) : FnOk P w K mg base CX0 1 f fd ["u", "v"] (spP K S_law_gcd) := by
  refine fn_pure F sc__law_gcd (fun ds d h => ?_) (fun cdv A outer s H Q E ds d hr hS hQ => ?_)
  · obtain ⟨a, b, rfl, _⟩ := h
    rfl
  · obtain ⟨a, b, rfl, ha, hb, rfl⟩ := hS
    refine as_while (W := fun m es q => ∃ u v : Int, es = [some (.int u), some (.int v)] ∧ q = (0, 0) ∧ 0 ≤ u ∧ 0 ≤ v ∧ gcdI u v = gcdI a b ∧ m = v.toNat) PassesOwn.never b.toNat ⟨a, b, rfl, rfl, ha, hb, rfl, rfl⟩ ?_
    rintro m es q ⟨u, v, rfl, rfl, hu, hv, hg, rfl⟩
    refine ⟨_, _, et_neI (nm 1 rfl) ev_int, fun ht => ?_, fun hf => ?_⟩
    · have nz : v ≠ 0 := fun z => by rw [z] at ht; cases ht
      have pv' : 0 < v := by omega
      refine as_par (i := 0) (j := 1) sc__law_gcd.nd rfl (ea_cons (nm 1 rfl) (ea_cons (ev_mod (ev_intI m_int (ea_cons (nm 0 rfl) ea_nil)) (nm 1 rfl) pv') ea_nil)) (as_nil fun st H1 S hk e0 => ?_)
      have l1 := Int.emod_nonneg u nz
      have l2 := Int.emod_lt_of_pos u pv'
      exact ⟨(u % v).toNat, _, (0, 0), by omega, ⟨v, u % v, rfl, rfl, hv, l1, (gcd_step hu pv').trans hg, rfl⟩, S, hk, e0⟩
    · have z : v = 0 := by
        by_cases h : v = 0
        · exact h
        · rw [decide_eq_false h] at hf
          cases hf
      subst z
      refine as_rt (nm 0 rfl) ?_ rfl hQ
      rw [← hg]
      unfold gcdI
      rw [Int.natAbs_zero, Nat.gcd_zero_right, Int.natAbs_of_nonneg hu]
/-! ### the law's numbers -/
theorem g3_gcd (a b n : Int) : gcdI (gcdI (if a < 0 then -a else a) (if b < 0 then -b else b)) (if n < 0 then -n else n) = g3 a b n := by
  have ab : ∀ x : Int, (if x < 0 then -x else x).natAbs = x.natAbs := fun x => by split <;> omega
  unfold gcdI g3
  rw [ab, ab, ab, Int.natAbs_natCast]

def R__law_num : List Dat → Dat
  | [.int a, .int b, .int n] => loD a b n
  | _ => .non
/-! ### _law_num -/
def S_law_num (ds : List Dat) (d : Dat) : Prop := ∃ a b n : Int, ds = [.int a, .int b, .int n] ∧ n ≠ 0 ∧ Bd 8900 n ∧ d = loD a b n
abbrev s__law_num : Stmt := topS 35
theorem sc__law_num : FnScope ["x", "y", "m", "common"] ["x", "y", "m"] (defScope s__law_num) := ⟨rfl, rfl, rfl, by decide +kernel, rfl, by decide +kernel, by decide +kernel⟩
theorem ok__law_num {f : Addr} {fd : FuncData} (F : Fun K "_law_num" "_law_num" s__law_num f fd) (c__law_gcd : Cl P w K mg base 1 "_law_gcd" ["u", "v"] (spP K S_law_gcd)) (m_abs : mg "abs" = none) : FnOk P w K mg base CX0 2 f fd ["x", "y", "m"] (spP K S_law_num) := by
  refine fn_pure F sc__law_num (fun ds d h => ?_) (fun cdv A outer s H Q E ds d hr hS hQ => ?_)
  · obtain ⟨a, b, n, rfl, h0, hbn, rfl⟩ := h
    rfl
  · obtain ⟨a, b, n, rfl, h0, hbn, rfl⟩ := hS
    refine
  (as_asg (i := 3) sc__law_num.nd (ev_as (ev_callF R__law_gcd c__law_gcd (hr.mono (by decide)) (ea_cons (ev_as (ev_callF R__law_gcd c__law_gcd (hr.mono (by decide)) (ea_cons (ev_abs m_abs (ea_cons (nm 0 rfl) ea_nil)) (ea_cons (ev_abs m_abs (ea_cons (nm 1 rfl) ea_nil)) ea_nil)) ?_ (.inl rfl)) rfl) (ea_cons (ev_abs m_abs (ea_cons (nm 2 rfl) ea_nil)) ea_nil)) ?_ (.inl rfl)) rfl)
  (as_ifsetI (i := 3) sc__law_num.nd (et_lt (nm 2 rfl) ev_int) rfl (fun hb => (ev_neg (nm 3 rfl)))
  (as_rt (ev_tup (ea_cons (ev_fdivX (nm 0 rfl) (nm 3 rfl) ?_) (ea_cons (ev_fdivX (nm 1 rfl) (nm 3 rfl) ?_) (ea_cons (ev_fdivX (nm 2 rfl) (nm 3 rfl) ?_) ea_nil))) (Nat.le_of_ble_eq_true rfl)) ?_ rfl hQ)))
    · exact ⟨_, _, rfl, by split <;> omega, by split <;> omega, rfl⟩
    · exact ⟨_, _, rfl, Int.natCast_nonneg _, by split <;> omega, rfl⟩
    all_goals rw [show gcdI (gcdI (if a < 0 then -a else a) (if b < 0 then -b else b)) (if n < 0 then -n else n) = g3 a b n from g3_gcd a b n]
    all_goals first
      | exact cdx (sg_ne h0) (sg_bd h0 hbn) (by decide)
      | rfl

def L3 (a b n : Int) : Prop := Bd 2900 a ∧ Bd 2900 b ∧ Bd 2900 n ∧ n ≠ 0
theorem N3.l {a b n : Int} (h : N3 a b n) : L3 a b n := ⟨h.1, h.2.1, h.2.2.1, h.2.2.2.ne⟩
def R__law_plus : List Dat → Dat
  | [.tup [.int a, .int b, .int n], .tup [.int c, .int e, .int m]] => loD (a * m + c * n) (b * m + e * n) (n * m)
  | _ => .non
/-! ### _law_plus -/
def S_law_plus (ds : List Dat) (d : Dat) : Prop := ∃ a b n c e m : Int, ds = [nD a b n, nD c e m] ∧ L3 a b n ∧ L3 c e m ∧ d = loD (a * m + c * n) (b * m + e * n) (n * m)
abbrev s__law_plus : Stmt := topS 36
theorem sc__law_plus : FnScope ["u", "v"] ["u", "v"] (defScope s__law_plus) := ⟨rfl, rfl, rfl, by decide +kernel, rfl, by decide +kernel, by decide +kernel⟩
theorem ok__law_plus {f : Addr} {fd : FuncData} (F : Fun K "_law_plus" "_law_plus" s__law_plus f fd) (c__law_num : Cl P w K mg base 2 "_law_num" ["x", "y", "m"] (spP K S_law_num)) : FnOk P w K mg base CX0 3 f fd ["u", "v"] (spP K S_law_plus) := by
  refine fn_pure F sc__law_plus (fun ds d h => ?_) (fun cdv A outer s H Q E ds d hr hS hQ => ?_)
  · obtain ⟨a, b, n, c, e, m, rfl, ⟨a1, a2, a3, an⟩, ⟨b1, b2, b3, bn⟩, rfl⟩ := h
    rfl
  · obtain ⟨a, b, n, c, e, m, rfl, ⟨a1, a2, a3, an⟩, ⟨b1, b2, b3, bn⟩, rfl⟩ := hS
    refine
  (as_rt (ev_as (ev_callF R__law_num c__law_num (hr.mono (by decide)) (ea_cons (ev_add (ev_mul (ev_ixT (j := 0) (nm 0 rfl) ev_int rfl rfl) (ev_ixT (j := 2) (nm 1 rfl) ev_int rfl rfl) ?_) (ev_mul (ev_ixT (j := 0) (nm 1 rfl) ev_int rfl rfl) (ev_ixT (j := 2) (nm 0 rfl) ev_int rfl rfl) ?_)) (ea_cons (ev_add (ev_mul (ev_ixT (j := 1) (nm 0 rfl) ev_int rfl rfl) (ev_ixT (j := 2) (nm 1 rfl) ev_int rfl rfl) ?_) (ev_mul (ev_ixT (j := 1) (nm 1 rfl) ev_int rfl rfl) (ev_ixT (j := 2) (nm 0 rfl) ev_int rfl rfl) ?_)) (ea_cons (ev_mul (ev_ixT (j := 2) (nm 0 rfl) ev_int rfl rfl) (ev_ixT (j := 2) (nm 1 rfl) ev_int rfl rfl) ?_) ea_nil))) ?_ (.inl rfl)) rfl) ?_ rfl hQ)
    all_goals first
      | exact cm (by assumption) (by assumption) (by decide)
      | exact ⟨_, _, _, rfl, mul_ne (by assumption) (by assumption), Bd.mono (Bd.mul (by assumption) (by assumption)) (by decide), rfl⟩
      | rfl
      | skip

def R__law_minus : List Dat → Dat
  | [.tup [.int a, .int b, .int n], .tup [.int c, .int e, .int m]] => loD (a * m - c * n) (b * m - e * n) (n * m)
  | _ => .non
/-! ### _law_minus -/
def S_law_minus (ds : List Dat) (d : Dat) : Prop := ∃ a b n c e m : Int, ds = [nD a b n, nD c e m] ∧ L3 a b n ∧ L3 c e m ∧ d = loD (a * m - c * n) (b * m - e * n) (n * m)
abbrev s__law_minus : Stmt := topS 37
theorem sc__law_minus : FnScope ["u", "v"] ["u", "v"] (defScope s__law_minus) := ⟨rfl, rfl, rfl, by decide +kernel, rfl, by decide +kernel, by decide +kernel⟩
theorem ok__law_minus {f : Addr} {fd : FuncData} (F : Fun K "_law_minus" "_law_minus" s__law_minus f fd) (c__law_num : Cl P w K mg base 2 "_law_num" ["x", "y", "m"] (spP K S_law_num)) : FnOk P w K mg base CX0 3 f fd ["u", "v"] (spP K S_law_minus) := by
  refine fn_pure F sc__law_minus (fun ds d h => ?_) (fun cdv A outer s H Q E ds d hr hS hQ => ?_)
  · obtain ⟨a, b, n, c, e, m, rfl, ⟨a1, a2, a3, an⟩, ⟨b1, b2, b3, bn⟩, rfl⟩ := h
    rfl
  · obtain ⟨a, b, n, c, e, m, rfl, ⟨a1, a2, a3, an⟩, ⟨b1, b2, b3, bn⟩, rfl⟩ := hS
    refine
  (as_rt (ev_as (ev_callF R__law_num c__law_num (hr.mono (by decide)) (ea_cons (ev_sub (ev_mul (ev_ixT (j := 0) (nm 0 rfl) ev_int rfl rfl) (ev_ixT (j := 2) (nm 1 rfl) ev_int rfl rfl) ?_) (ev_mul (ev_ixT (j := 0) (nm 1 rfl) ev_int rfl rfl) (ev_ixT (j := 2) (nm 0 rfl) ev_int rfl rfl) ?_)) (ea_cons (ev_sub (ev_mul (ev_ixT (j := 1) (nm 0 rfl) ev_int rfl rfl) (ev_ixT (j := 2) (nm 1 rfl) ev_int rfl rfl) ?_) (ev_mul (ev_ixT (j := 1) (nm 1 rfl) ev_int rfl rfl) (ev_ixT (j := 2) (nm 0 rfl) ev_int rfl rfl) ?_)) (ea_cons (ev_mul (ev_ixT (j := 2) (nm 0 rfl) ev_int rfl rfl) (ev_ixT (j := 2) (nm 1 rfl) ev_int rfl rfl) ?_) ea_nil))) ?_ (.inl rfl)) rfl) ?_ rfl hQ)
    all_goals first
      | exact cm (by assumption) (by assumption) (by decide)
      | exact ⟨_, _, _, rfl, mul_ne (by assumption) (by assumption), Bd.mono (Bd.mul (by assumption) (by assumption)) (by decide), rfl⟩
      | rfl
      | skip

def R__law_times : List Dat → Dat
  | [.int k, .tup [.int a, .int b, .int n], .tup [.int c, .int e, .int m]] => loD (ptA k a b c e) (ptB k a b c e) (n * m)
  | _ => .non
/-! ### _law_times -/
def S_law_times (ds : List Dat) (d : Dat) : Prop := ∃ k a b n c e m : Int, ds = [.int k, nD a b n, nD c e m] ∧ Kd k ∧ L3 a b n ∧ L3 c e m ∧ d = loD (ptA k a b c e) (ptB k a b c e) (n * m)
abbrev s__law_times : Stmt := topS 38
theorem sc__law_times : FnScope ["field", "u", "v", "ends", "both", "cross", "bottom"] ["field", "u", "v"] (defScope s__law_times) := ⟨rfl, rfl, rfl, by decide +kernel, rfl, by decide +kernel, by decide +kernel⟩
theorem ok__law_times {f : Addr} {fd : FuncData} (F : Fun K "_law_times" "_law_times" s__law_times f fd) (c__law_num : Cl P w K mg base 2 "_law_num" ["x", "y", "m"] (spP K S_law_num)) : FnOk P w K mg base CX0 3 f fd ["field", "u", "v"] (spP K S_law_times) := by
  refine fn_pure F sc__law_times (fun ds d h => ?_) (fun cdv A outer s H Q E ds d hr hS hQ => ?_)
  · obtain ⟨k, a, b, n, c, e, m, rfl, hk, ⟨a1, a2, a3, an⟩, ⟨b1, b2, b3, bn⟩, rfl⟩ := h
    rfl
  · obtain ⟨k, a, b, n, c, e, m, rfl, hk, ⟨a1, a2, a3, an⟩, ⟨b1, b2, b3, bn⟩, rfl⟩ := hS
    refine
  (as_par (i := 3) (j := 4) sc__law_times.nd rfl (ea_cons (ev_mul (ev_ixT (j := 0) (nm 1 rfl) ev_int rfl rfl) (ev_ixT (j := 0) (nm 2 rfl) ev_int rfl rfl) ?_) (ea_cons (ev_mul (ev_ixT (j := 1) (nm 1 rfl) ev_int rfl rfl) (ev_ixT (j := 1) (nm 2 rfl) ev_int rfl rfl) ?_) ea_nil))
  (as_par (i := 5) (j := 6) sc__law_times.nd rfl (ea_cons (ev_add (ev_mul (ev_ixT (j := 0) (nm 1 rfl) ev_int rfl rfl) (ev_ixT (j := 1) (nm 2 rfl) ev_int rfl rfl) ?_) (ev_mul (ev_ixT (j := 1) (nm 1 rfl) ev_int rfl rfl) (ev_ixT (j := 0) (nm 2 rfl) ev_int rfl rfl) ?_)) (ea_cons (ev_mul (ev_ixT (j := 2) (nm 1 rfl) ev_int rfl rfl) (ev_ixT (j := 2) (nm 2 rfl) ev_int rfl rfl) ?_) ea_nil))
  (as_ifn (et_eqI (nm 0 rfl) ev_int) (fun hb =>
    (as_rt (ev_as (ev_callF R__law_num c__law_num (hr.mono (by decide)) (ea_cons (ev_add (nm 3 rfl) (nm 4 rfl)) (ea_cons (ev_add (nm 5 rfl) (nm 4 rfl)) (ea_cons (nm 6 rfl) ea_nil))) ?_ (.inl rfl)) rfl) ?_ rfl hQ)) (fun hb =>
  (as_rt (ev_as (ev_callF R__law_num c__law_num (hr.mono (by decide)) (ea_cons (ev_add (nm 3 rfl) (ev_mul (nm 0 rfl) (nm 4 rfl) ?_)) (ea_cons (nm 5 rfl) (ea_cons (nm 6 rfl) ea_nil))) ?_ (.inl rfl)) rfl) ?_ rfl hQ)))))
    all_goals have q9 := Bd.mul a2 b2
    all_goals first
      | exact cm (by assumption) (by assumption) (by decide)
      | exact ⟨_, _, _, rfl, mul_ne (by assumption) (by assumption), Bd.mono (Bd.mul (by assumption) (by assumption)) (by decide), rfl⟩
      | rfl
      | skip
    · have z : k = 5 := of_decide_eq_true hb
      simp only [R__law_num, ptA, ptB, if_pos z]
    · exact cm hk.bd q9 (by decide)
    · have z : ¬ k = 5 := of_decide_eq_false hb
      simp only [R__law_num, ptA, ptB, if_neg z, Int.mul_assoc]

def R__law_is : List Dat → Dat
  | [.tup [.int a, .int b, .int n]] => .bl (isN a b n)
  | _ => .non
/-! ### _law_is -/
def S_law_is (ds : List Dat) (d : Dat) : Prop := ∃ a b n : Int, ds = [nD a b n] ∧ d = .bl (isN a b n)
abbrev s__law_is : Stmt := topS 44
theorem sc__law_is : FnScope ["triple"] ["triple"] (defScope s__law_is) := ⟨rfl, rfl, rfl, by decide +kernel, rfl, by decide +kernel, by decide +kernel⟩
theorem ok__law_is {f : Addr} {fd : FuncData} (F : Fun K "_law_is" "_law_is" s__law_is f fd) (c__law_gcd : Cl P w K mg base 1 "_law_gcd" ["u", "v"] (spP K S_law_gcd)) (m_abs : mg "abs" = none) : FnOk P w K mg base CX0 2 f fd ["triple"] (spP K S_law_is) := by
  refine fn_pure F sc__law_is (fun ds d h => ?_) (fun cdv A outer s H Q E ds d hr hS hQ => ?_)
  · obtain ⟨a, b, n, rfl, rfl⟩ := h
    rfl
  · obtain ⟨a, b, n, rfl, rfl⟩ := hS
    refine
  (as_rt (ev_and (ev_gt (ev_ixT (j := 2) (nm 0 rfl) ev_int rfl rfl) ev_int) (fun _ => (ev_one (ev_eqI (ev_as (ev_callF R__law_gcd c__law_gcd (hr.mono (by decide)) (ea_cons (ev_as (ev_callF R__law_gcd c__law_gcd (hr.mono (by decide)) (ea_cons (ev_abs m_abs (ea_cons (ev_ixT (j := 0) (nm 0 rfl) ev_int rfl rfl) ea_nil)) (ea_cons (ev_abs m_abs (ea_cons (ev_ixT (j := 1) (nm 0 rfl) ev_int rfl rfl) ea_nil)) ea_nil)) ?_ (.inl rfl)) rfl) (ea_cons (ev_ixT (j := 2) (nm 0 rfl) ev_int rfl rfl) ea_nil)) ?_ (.inl rfl)) rfl) ev_int))) (fun _ => rfl)) ?_ rfl hQ)
    · exact ⟨_, _, rfl, by split <;> omega, by split <;> omega, rfl⟩
    · rename_i hp
      have hp' : 0 < n := of_decide_eq_true hp
      exact ⟨_, n, rfl, Int.natCast_nonneg _, by omega, rfl⟩
    · refine congrArg Dat.bl ?_
      unfold isN
      by_cases hp : 0 < n
      · have e := g3_gcd a b n
        rw [if_neg (show ¬ n < 0 by omega)] at e
        rw [e, decide_eq_true hp, decide_eq_true (show 1 ≤ n by omega)]
      · rw [decide_eq_false hp, decide_eq_false (show ¬ 1 ≤ n by omega)]
        rfl

def R__law_mate : List Dat → Dat
  | [.int k, .tup [.int a, .int b, .int n]] => loD (pmA k a b) (pmB k a b) n
  | _ => .non
/-! ### _law_mate -/
def S_law_mate (ds : List Dat) (d : Dat) : Prop := ∃ k a b n : Int, ds = [.int k, nD a b n] ∧ Kd k ∧ L3 a b n ∧ d = loD (pmA k a b) (pmB k a b) n
abbrev s__law_mate : Stmt := topS 46
theorem sc__law_mate : FnScope ["field", "u"] ["field", "u"] (defScope s__law_mate) := ⟨rfl, rfl, rfl, by decide +kernel, rfl, by decide +kernel, by decide +kernel⟩
theorem ok__law_mate {f : Addr} {fd : FuncData} (F : Fun K "_law_mate" "_law_mate" s__law_mate f fd) (c__law_num : Cl P w K mg base 2 "_law_num" ["x", "y", "m"] (spP K S_law_num)) : FnOk P w K mg base CX0 3 f fd ["field", "u"] (spP K S_law_mate) := by
  refine fn_pure F sc__law_mate (fun ds d h => ?_) (fun cdv A outer s H Q E ds d hr hS hQ => ?_)
  · obtain ⟨k, a, b, n, rfl, hk, ⟨a1, a2, a3, an⟩, rfl⟩ := h
    rfl
  · obtain ⟨k, a, b, n, rfl, hk, ⟨a1, a2, a3, an⟩, rfl⟩ := hS
    refine
  (as_rt (ev_ifD (et_eqI (nm 0 rfl) ev_int) (fun hc => (ev_as (ev_callF R__law_num c__law_num (hr.mono (by decide)) (ea_cons (ev_add (ev_ixT (j := 0) (nm 1 rfl) ev_int rfl rfl) (ev_ixT (j := 1) (nm 1 rfl) ev_int rfl rfl)) (ea_cons (ev_neg (ev_ixT (j := 1) (nm 1 rfl) ev_int rfl rfl)) (ea_cons (ev_ixT (j := 2) (nm 1 rfl) ev_int rfl rfl) ea_nil))) ?_ (.inl rfl)) rfl)) (fun hc => (ev_as (ev_callF R__law_num c__law_num (hr.mono (by decide)) (ea_cons (ev_ixT (j := 0) (nm 1 rfl) ev_int rfl rfl) (ea_cons (ev_neg (ev_ixT (j := 1) (nm 1 rfl) ev_int rfl rfl)) (ea_cons (ev_ixT (j := 2) (nm 1 rfl) ev_int rfl rfl) ea_nil))) ?_ (.inl rfl)) rfl))) ?_ rfl hQ)
    · exact ⟨_, _, _, rfl, an, a3.mono (by decide), rfl⟩
    · exact ⟨_, _, _, rfl, an, a3.mono (by decide), rfl⟩
    · by_cases z : k = 5
      · rw [decide_eq_true z]
        simp only [R__law_num, pmA, pmB, if_pos z, if_true]
      · rw [decide_eq_false z]
        simp only [R__law_num, pmA, pmB, if_neg z]
        rfl

end
end Wk
set_option Elab.async false
set_option linter.all false
set_option maxRecDepth 100000
set_option maxHeartbeats 4000000
namespace Wk
open PySem PySem.Spec PyProof.Rows L2 Evl Wf
/-! ### _law_same -/
def flatD : Dat → Bool
  | .non => true
  | .bl _ => true
  | .int _ => true
  | .str _ => true
  | _ => false
/-- of a depth of at most n -/
def Sh : Nat → Dat → Prop
  | 0, d => flatD d = true
  | n + 1, d => flatD d = true ∨ ∃ xs : List Dat, (d = .tup xs ∨ d = .lst xs) ∧ xs.length ≤ 1000 ∧ ∀ (i : Nat) (e : Dat), xs[i]? = some e → Sh n e
theorem Sh.up : ∀ {n : Nat} {d : Dat}, Sh n d → Sh (n + 1) d
  | 0, d, h => .inl h
  | n + 1, d, h => by
    rcases h with h | ⟨xs, h1, h2, h3⟩
    · exact .inl h
    · exact .inr ⟨xs, h1, h2, fun i e he => (h3 i e he).up⟩
def Ssame (n : Nat) (ds : List Dat) (d : Dat) : Prop := ∃ f : Dat, ds = [f, f] ∧ Sh n f ∧ d = .bl true
def R__law_same : List Dat → Dat
  | _ => .bl true
section
variable {P : Program} {w : World} {K : PySem.W.Frag} {mg : Str → Option Value} {base : Heap}
abbrev s__law_same : Stmt := topS 40
theorem sc__law_same : FnScope ["found", "due", "at"] ["found", "due"] (defScope s__law_same) := ⟨rfl, rfl, rfl, by decide +kernel, rfl, by decide +kernel, by decide +kernel⟩
theorem same_non {f : Addr} {cdv : Value} {A : Around} {outer : List Env} {s : Shared} {H : Hp} {Q : VK} {E : XK} (m_isinstance : mg "isinstance" = none) (m_tuple : mg "tuple" = none) (m_list : mg "list" = none) (m_str : mg "str" = none) (m_bool : mg "bool" = none) (m_int : mg "int" = none) (m_len : mg "len" = none) (m_range : mg "range" = none) (hQ : DP K none (0, 0) (.bl true) H Q) :
    AS (cxOf CX0 P w K mg base ["found", "due", "at"] "_law_same" (defScope s__law_same) f cdv A outer s H E).nox none (defBody s__law_same) { nx := fun _ H' => Q .non H', rt := Q } [some .non, some .non, none] (0, 0) H := by
  refine as_ifn (et_val (ev_isi2 (U1 := "tuple") (U2 := "list") (b := (false || false)) m_isinstance (by constructor) (nm 1 rfl) m_tuple (by decide +kernel) m_list (by decide +kernel) (fun K => kit2 (by decide +kernel) (by decide +kernel)))) (fun hb => absurd hb (by decide)) (fun _ =>
    as_ifn (et_isN (x := true) (nm 1 rfl) (fun v H h => by cases h; rfl)) (fun _ => as_rt (ev_isN (x := true) (nm 0 rfl) (fun v H h => by cases h; rfl)) rfl rfl hQ) (fun hb => by cases hb))

theorem same_bl {f : Addr} {cdv : Value} {A : Around} {outer : List Env} {s : Shared} {H : Hp} {Q : VK} {E : XK} {x : Bool} (m_isinstance : mg "isinstance" = none) (m_tuple : mg "tuple" = none) (m_list : mg "list" = none) (m_str : mg "str" = none) (m_bool : mg "bool" = none) (m_int : mg "int" = none) (m_len : mg "len" = none) (m_range : mg "range" = none) (hQ : DP K none (0, 0) (.bl true) H Q) :
    AS (cxOf CX0 P w K mg base ["found", "due", "at"] "_law_same" (defScope s__law_same) f cdv A outer s H E).nox none (defBody s__law_same) { nx := fun _ H' => Q .non H', rt := Q } [some (.bl x), some (.bl x), none] (0, 0) H := by
  refine as_ifn (et_val (ev_isi2 (U1 := "tuple") (U2 := "list") (b := (false || false)) m_isinstance (by constructor) (nm 1 rfl) m_tuple (by decide +kernel) m_list (by decide +kernel) (fun K => kit2 (by decide +kernel) (by decide +kernel)))) (fun hb => absurd hb (by decide)) (fun _ =>
    as_ifn (et_isN (x := false) (nm 1 rfl) (fun v H h => by cases h; rfl)) (fun hb => by cases hb) (fun _ =>
    as_ifn (et_val (ev_isi (b := false) m_isinstance (by constructor) (ea_cons (nm 1 rfl) (ea_cons (ev_ty (T := "str") m_str (by decide +kernel)) ea_nil)))) (fun hb => by cases hb) (fun _ =>
    as_ifn (et_w (ew_or (et_val (ev_isi (b := true) m_isinstance (by constructor) (ea_cons (nm 1 rfl) (ea_cons (ev_ty (T := "bool") m_bool (by decide +kernel)) ea_nil)))) (fun _ => ew_or1 (et_val (ev_isi (b := true) m_isinstance (by constructor) (ea_cons (nm 0 rfl) (ea_cons (ev_ty (T := "bool") m_bool (by decide +kernel)) ea_nil))))) (fun _ => rfl))) (fun _ => as_rt (ev_and (ev_isi (b := true) m_isinstance (by constructor) (ea_cons (nm 1 rfl) (ea_cons (ev_ty (T := "bool") m_bool (by decide +kernel)) ea_nil))) (fun _ => ev_and (ev_isi (b := true) m_isinstance (by constructor) (ea_cons (nm 0 rfl) (ea_cons (ev_ty (T := "bool") m_bool (by decide +kernel)) ea_nil))) (fun _ => ev_one (ev_eqF (nm 0 rfl) (nm 1 rfl) (.bl _) (.bl _) rfl)) (fun _ => rfl)) (fun _ => rfl)) ?_ rfl hQ) (fun hb => by cases hb))))
  all_goals simp
theorem same_int {f : Addr} {cdv : Value} {A : Around} {outer : List Env} {s : Shared} {H : Hp} {Q : VK} {E : XK} {x : Int} (m_isinstance : mg "isinstance" = none) (m_tuple : mg "tuple" = none) (m_list : mg "list" = none) (m_str : mg "str" = none) (m_bool : mg "bool" = none) (m_int : mg "int" = none) (m_len : mg "len" = none) (m_range : mg "range" = none) (hQ : DP K none (0, 0) (.bl true) H Q) :
    AS (cxOf CX0 P w K mg base ["found", "due", "at"] "_law_same" (defScope s__law_same) f cdv A outer s H E).nox none (defBody s__law_same) { nx := fun _ H' => Q .non H', rt := Q } [some (.int x), some (.int x), none] (0, 0) H := by
  refine as_ifn (et_val (ev_isi2 (U1 := "tuple") (U2 := "list") (b := (false || false)) m_isinstance (by constructor) (nm 1 rfl) m_tuple (by decide +kernel) m_list (by decide +kernel) (fun K => kit2 (by decide +kernel) (by decide +kernel)))) (fun hb => absurd hb (by decide)) (fun _ =>
    as_ifn (et_isN (x := false) (nm 1 rfl) (fun v H h => by cases h; rfl)) (fun hb => by cases hb) (fun _ =>
    as_ifn (et_val (ev_isi (b := false) m_isinstance (by constructor) (ea_cons (nm 1 rfl) (ea_cons (ev_ty (T := "str") m_str (by decide +kernel)) ea_nil)))) (fun hb => by cases hb) (fun _ =>
    as_ifn (et_w (ew_or (et_val (ev_isi (b := false) m_isinstance (by constructor) (ea_cons (nm 1 rfl) (ea_cons (ev_ty (T := "bool") m_bool (by decide +kernel)) ea_nil)))) (fun _ => ew_or1 (et_val (ev_isi (b := false) m_isinstance (by constructor) (ea_cons (nm 0 rfl) (ea_cons (ev_ty (T := "bool") m_bool (by decide +kernel)) ea_nil))))) (fun _ => rfl))) (fun hb => by cases hb) (fun _ => as_rt (ev_and (ev_isi (b := true) m_isinstance (by constructor) (ea_cons (nm 0 rfl) (ea_cons (ev_ty (T := "int") m_int (by decide +kernel)) ea_nil))) (fun _ => ev_one (ev_eqI (nm 0 rfl) (nm 1 rfl))) (fun _ => rfl)) ?_ rfl hQ))))
  all_goals simp
theorem same_str {f : Addr} {cdv : Value} {A : Around} {outer : List Env} {s : Shared} {H : Hp} {Q : VK} {E : XK} {x : Str} (m_isinstance : mg "isinstance" = none) (m_tuple : mg "tuple" = none) (m_list : mg "list" = none) (m_str : mg "str" = none) (m_bool : mg "bool" = none) (m_int : mg "int" = none) (m_len : mg "len" = none) (m_range : mg "range" = none) (hQ : DP K none (0, 0) (.bl true) H Q) :
    AS (cxOf CX0 P w K mg base ["found", "due", "at"] "_law_same" (defScope s__law_same) f cdv A outer s H E).nox none (defBody s__law_same) { nx := fun _ H' => Q .non H', rt := Q } [some (.str x), some (.str x), none] (0, 0) H := by
  refine as_ifn (et_val (ev_isi2 (U1 := "tuple") (U2 := "list") (b := (false || false)) m_isinstance (by constructor) (nm 1 rfl) m_tuple (by decide +kernel) m_list (by decide +kernel) (fun K => kit2 (by decide +kernel) (by decide +kernel)))) (fun hb => absurd hb (by decide)) (fun _ =>
    as_ifn (et_isN (x := false) (nm 1 rfl) (fun v H h => by cases h; rfl)) (fun hb => by cases hb) (fun _ =>
    as_ifn (et_val (ev_isi (b := true) m_isinstance (by constructor) (ea_cons (nm 1 rfl) (ea_cons (ev_ty (T := "str") m_str (by decide +kernel)) ea_nil)))) (fun _ => as_rt (ev_and (ev_isi (b := true) m_isinstance (by constructor) (ea_cons (nm 0 rfl) (ea_cons (ev_ty (T := "str") m_str (by decide +kernel)) ea_nil))) (fun _ => ev_one (ev_eqF (nm 0 rfl) (nm 1 rfl) (.str _) (.str _) rfl)) (fun _ => rfl)) ?_ rfl hQ) (fun hb => by cases hb)))
  all_goals simp
theorem same_tup {f : Addr} {cdv : Value} {A : Around} {outer : List Env} {s : Shared} {H : Hp} {Q : VK} {E : XK} {xs : List Dat} {n : Nat} (c_same : Cl P w K mg base (n + 1) "_law_same" ["found", "due"] (spP K (Ssame n))) (m_isinstance : mg "isinstance" = none) (m_tuple : mg "tuple" = none) (m_list : mg "list" = none) (m_str : mg "str" = none) (m_bool : mg "bool" = none) (m_int : mg "int" = none) (m_len : mg "len" = none) (m_range : mg "range" = none)
    (hr : Room (n + 1) (A.deeper (envOfC "_law_same" (defScope s__law_same) s.heap.objs.size f cdv))) (hl : xs.length ≤ 1000) (hs : ∀ (i : Nat) (e : Dat), xs[i]? = some e → Sh n e) (hQ : DP K none (0, 0) (.bl true) H Q) :
    AS (cxOf CX0 P w K mg base ["found", "due", "at"] "_law_same" (defScope s__law_same) f cdv A outer s H E).nox none (defBody s__law_same) { nx := fun _ H' => Q .non H', rt := Q } [some (.tup xs), some (.tup xs), none] (0, 0) H := by
  exact as_ifn (et_val (ev_isi2 (U1 := "tuple") (U2 := "list") (b := (true || false)) m_isinstance (by constructor) (nm 1 rfl) m_tuple (by decide +kernel) m_list (by decide +kernel) (fun K => kit2 (by decide +kernel) (by decide +kernel)))) (fun _ =>
    as_ifn (et_w (ew_or (et_neF (ev_isi (b := true) m_isinstance (by constructor) (ea_cons (nm 0 rfl) (ea_cons (ev_ty (T := "tuple") m_tuple (by decide +kernel)) ea_nil))) (ev_isi (b := true) m_isinstance (by constructor) (ea_cons (nm 1 rfl) (ea_cons (ev_ty (T := "tuple") m_tuple (by decide +kernel)) ea_nil))) (.bl _) (.bl _) rfl) (fun _ => ew_or1 (et_neF (ev_isi (b := false) m_isinstance (by constructor) (ea_cons (nm 0 rfl) (ea_cons (ev_ty (T := "list") m_list (by decide +kernel)) ea_nil))) (ev_isi (b := false) m_isinstance (by constructor) (ea_cons (nm 1 rfl) (ea_cons (ev_ty (T := "list") m_list (by decide +kernel)) ea_nil))) (.bl _) (.bl _) rfl)) (fun _ => rfl))) (fun hb => absurd hb (by decide)) (fun _ =>
    as_ifn (et_neI (ev_lenT m_len (ea_cons (nm 0 rfl) ea_nil)) (ev_lenT m_len (ea_cons (nm 1 rfl) ea_nil))) (fun hb => absurd hb (by simp)) (fun _ =>
    as_rt (ev_eqD hr.units (ev_as (ev_lcR (j := 2) (n := xs.length) (fun _ => false) (fun _ => .non) rfl sc__law_same.nd m_range (ea_cons (ev_lenT m_len (ea_cons (nm 1 rfl) ea_nil)) ea_nil) hl (blkOk_by (N := ["found", "due", "at"]) (sc := defScope s__law_same) (by decide +kernel)) (fun _ _ _ _ _ => pg_name sc__law_same.nd rfl (Or.inl rfl))
      (fun _ _ _ _ _ i hi => et_not (x := true) (et_val (ev_callF R__law_same c_same (hr.mono (Nat.le_refl _)) (ea_cons (ev_ixT (j := i) (nm 0 rfl) (nm 2 rfl) rfl (List.getElem?_eq_getElem hi)) (ea_cons (ev_ixT (j := i) (nm 1 rfl) (nm 2 rfl) rfl (List.getElem?_eq_getElem hi)) ea_nil)) ⟨_, rfl, hs i _ (List.getElem?_eq_getElem hi), rfl⟩ (.inl rfl))))
      (fun _ _ _ _ _ i hi hf => by cases hf) (fun _ => rfl)) (d1 := .lst []) (by rw [gv_none (fun _ _ => rfl)])) (ev_lst ea_nil (Nat.zero_le _)) rfl rfl rfl rfl rfl) rfl rfl hQ))) (fun hb => absurd hb (by decide))
theorem same_lst {f : Addr} {cdv : Value} {A : Around} {outer : List Env} {s : Shared} {H : Hp} {Q : VK} {E : XK} {xs : List Dat} {n : Nat} (c_same : Cl P w K mg base (n + 1) "_law_same" ["found", "due"] (spP K (Ssame n))) (m_isinstance : mg "isinstance" = none) (m_tuple : mg "tuple" = none) (m_list : mg "list" = none) (m_str : mg "str" = none) (m_bool : mg "bool" = none) (m_int : mg "int" = none) (m_len : mg "len" = none) (m_range : mg "range" = none)
    (hr : Room (n + 1) (A.deeper (envOfC "_law_same" (defScope s__law_same) s.heap.objs.size f cdv))) (hl : xs.length ≤ 1000) (hs : ∀ (i : Nat) (e : Dat), xs[i]? = some e → Sh n e) (hQ : DP K none (0, 0) (.bl true) H Q) :
    AS (cxOf CX0 P w K mg base ["found", "due", "at"] "_law_same" (defScope s__law_same) f cdv A outer s H E).nox none (defBody s__law_same) { nx := fun _ H' => Q .non H', rt := Q } [some (.lst xs), some (.lst xs), none] (0, 0) H := by
  exact as_ifn (et_val (ev_isi2 (U1 := "tuple") (U2 := "list") (b := (false || true)) m_isinstance (by constructor) (nm 1 rfl) m_tuple (by decide +kernel) m_list (by decide +kernel) (fun K => kit2 (by decide +kernel) (by decide +kernel)))) (fun _ =>
    as_ifn (et_w (ew_or (et_neF (ev_isi (b := false) m_isinstance (by constructor) (ea_cons (nm 0 rfl) (ea_cons (ev_ty (T := "tuple") m_tuple (by decide +kernel)) ea_nil))) (ev_isi (b := false) m_isinstance (by constructor) (ea_cons (nm 1 rfl) (ea_cons (ev_ty (T := "tuple") m_tuple (by decide +kernel)) ea_nil))) (.bl _) (.bl _) rfl) (fun _ => ew_or1 (et_neF (ev_isi (b := true) m_isinstance (by constructor) (ea_cons (nm 0 rfl) (ea_cons (ev_ty (T := "list") m_list (by decide +kernel)) ea_nil))) (ev_isi (b := true) m_isinstance (by constructor) (ea_cons (nm 1 rfl) (ea_cons (ev_ty (T := "list") m_list (by decide +kernel)) ea_nil))) (.bl _) (.bl _) rfl)) (fun _ => rfl))) (fun hb => absurd hb (by decide)) (fun _ =>
    as_ifn (et_neI (ev_lenL m_len (ea_cons (nm 0 rfl) ea_nil)) (ev_lenL m_len (ea_cons (nm 1 rfl) ea_nil))) (fun hb => absurd hb (by simp)) (fun _ =>
    as_rt (ev_eqD hr.units (ev_as (ev_lcR (j := 2) (n := xs.length) (fun _ => false) (fun _ => .non) rfl sc__law_same.nd m_range (ea_cons (ev_lenL m_len (ea_cons (nm 1 rfl) ea_nil)) ea_nil) hl (blkOk_by (N := ["found", "due", "at"]) (sc := defScope s__law_same) (by decide +kernel)) (fun _ _ _ _ _ => pg_name sc__law_same.nd rfl (Or.inl rfl))
      (fun _ _ _ _ _ i hi => et_not (x := true) (et_val (ev_callF R__law_same c_same (hr.mono (Nat.le_refl _)) (ea_cons (ev_ixL (j := i) (nm 0 rfl) (nm 2 rfl) rfl (List.getElem?_eq_getElem hi)) (ea_cons (ev_ixL (j := i) (nm 1 rfl) (nm 2 rfl) rfl (List.getElem?_eq_getElem hi)) ea_nil)) ⟨_, rfl, hs i _ (List.getElem?_eq_getElem hi), rfl⟩ (.inl rfl))))
      (fun _ _ _ _ _ i hi hf => by cases hf) (fun _ => rfl)) (d1 := .lst []) (by rw [gv_none (fun _ _ => rfl)])) (ev_lst ea_nil (Nat.zero_le _)) rfl rfl rfl rfl rfl) rfl rfl hQ))) (fun hb => absurd hb (by decide))
theorem flat_cases {d : Dat} (h : flatD d = true) : d = .non ∨ (∃ x, d = .bl x) ∨ (∃ x, d = .int x) ∨ ∃ x, d = .str x := by
  cases d with
  | non => exact .inl rfl
  | bl x => exact .inr (.inl ⟨x, rfl⟩)
  | int x => exact .inr (.inr (.inl ⟨x, rfl⟩))
  | str x => exact .inr (.inr (.inr ⟨x, rfl⟩))
  | tup xs => cases h
  | lst xs => cases h
  | trk xs => cases h
  | raw v => cases h
theorem ok__law_same {f : Addr} {fd : FuncData} (F : Fun K "_law_same" "_law_same" s__law_same f fd) (hm : mg "_law_same" = some (.ref f)) (hb : Binds K fd ["found", "due"] []) (m_isinstance : mg "isinstance" = none) (m_tuple : mg "tuple" = none) (m_list : mg "list" = none) (m_str : mg "str" = none) (m_bool : mg "bool" = none) (m_int : mg "int" = none) (m_len : mg "len" = none) (m_range : mg "range" = none) : ∀ n : Nat, FnOk P w K mg base CX0 (n + 1) f fd ["found", "due"] (spP K (Ssame n)) := by
  have fl : ∀ {f : Addr} {cdv : Value} {A : Around} {outer : List Env} {s : Shared} {H : Hp} {Q : VK} {E : XK} {x : Dat}, flatD x = true → DP K none (0, 0) (.bl true) H Q →
      AS (cxOf CX0 P w K mg base ["found", "due", "at"] "_law_same" (defScope s__law_same) f cdv A outer s H E).nox none (defBody s__law_same) { nx := fun _ H' => Q .non H', rt := Q } [some x, some x, none] (0, 0) H := by
    intro f cdv A outer s H Q E x hx hQ
    rcases flat_cases hx with rfl | ⟨x, rfl⟩ | ⟨x, rfl⟩ | ⟨x, rfl⟩
    · exact same_non m_isinstance m_tuple m_list m_str m_bool m_int m_len m_range hQ
    · exact same_bl m_isinstance m_tuple m_list m_str m_bool m_int m_len m_range hQ
    · exact same_int m_isinstance m_tuple m_list m_str m_bool m_int m_len m_range hQ
    · exact same_str m_isinstance m_tuple m_list m_str m_bool m_int m_len m_range hQ
  intro n
  induction n with
  | zero =>
    refine fn_pure F sc__law_same (fun ds d h => ?_) (fun cdv A outer s H Q E ds d hr hS hQ => ?_)
    · obtain ⟨x, rfl, _⟩ := h
      rfl
    · obtain ⟨x, rfl, hx, rfl⟩ := hS
      exact fl hx hQ
  | succ n ih =>
    refine fn_pure F sc__law_same (fun ds d h => ?_) (fun cdv A outer s H Q E ds d hr hS hQ => ?_)
    · obtain ⟨x, rfl, _⟩ := h
      rfl
    · obtain ⟨x, rfl, hx, rfl⟩ := hS
      rcases hx with hx | ⟨xs, hx, hl, hs⟩
      · exact fl hx hQ
      · have c : Cl P w K mg base (n + 1) "_law_same" ["found", "due"] (spP K (Ssame n)) := ⟨f, fd, hm, F.kp, hb, ih⟩
        rcases hx with rfl | rfl
        · exact same_tup c m_isinstance m_tuple m_list m_str m_bool m_int m_len m_range hr hl hs hQ
        · exact same_lst c m_isinstance m_tuple m_list m_str m_bool m_int m_len m_range hr hl hs hQ
end
end Wk
set_option Elab.async false
set_option linter.all false
set_option maxRecDepth 100000
set_option maxHeartbeats 4000000
namespace Wk
open Wf
theorem by_A (k a b c e : Int) : ptA k (ptA k a b (pmA k c e) (pmB k c e)) (ptB k a b (pmA k c e) (pmB k c e)) c e = a * pnN k c e := by
  unfold ptA ptB pmA pmB pnN
  by_cases h : k = 5
  · simp only [if_pos h]
    grind
  · simp only [if_neg h]
    grind
theorem by_B (k a b c e : Int) : ptB k (ptA k a b (pmA k c e) (pmB k c e)) (ptB k a b (pmA k c e) (pmB k c e)) c e = b * pnN k c e := by
  unfold ptA ptB pmA pmB pnN
  by_cases h : k = 5
  · simp only [if_pos h]
    grind
  · simp only [if_neg h]
    grind
theorem pt_lin (k x y t c e : Int) : ptA k (x * t) (y * t) c e = ptA k x y c e * t ∧ ptB k (x * t) (y * t) c e = ptB k x y c e * t := by
  unfold ptA ptB
  by_cases h : k = 5
  · simp only [if_pos h]
    constructor <;> grind
  · simp only [if_neg h]
    constructor <;> grind
/-- a number by another one, times this, is the number again -/
theorem by_times {k a b n c e m : Int} (hk : Kd k) (hp : Nm a b n) (hq : Nm c e m) (h0 : pnN k c e ≠ 0) :
    let A := byA k a b n c e m; let B := byB k a b n c e m; let N := byN k a b n c e m
    loA (ptA k (loA A B N) (loB A B N) c e) (ptB k (loA A B N) (loB A B N) c e) (loN A B N * m) = a ∧ loB (ptA k (loA A B N) (loB A B N) c e) (ptB k (loA A B N) (loB A B N) c e) (loN A B N * m) = b ∧ loN (ptA k (loA A B N) (loB A B N) c e) (ptB k (loA A B N) (loB A B N) c e) (loN A B N * m) = n := by
  intro A B N
  have hN : N ≠ 0 := mul_ne hp.ne h0
  obtain ⟨x1, x2⟩ := lo_cross (a := A) (b := B) hN
  have ln := (lo_nm (a := A) (b := B) hN).ne
  obtain ⟨y1, y2⟩ := pt_lin k (loA A B N) (loB A B N) N c e
  rw [x1, x2] at y1 y2
  obtain ⟨z1, z2⟩ := pt_lin k A B (loN A B N) c e
  rw [z1] at y1
  rw [z2] at y2
  have hA : A = ptA k a b (pmA k c e) (pmB k c e) * m := rfl
  have hB : B = ptB k a b (pmA k c e) (pmB k c e) * m := rfl
  have hNn : N = n * pnN k c e := rfl
  obtain ⟨w1, w2⟩ := pt_lin k (ptA k a b (pmA k c e) (pmB k c e)) (ptB k a b (pmA k c e) (pmB k c e)) m c e
  rw [← hA, ← hB, by_A] at w1
  rw [← hA, ← hB, by_B] at w2
  rw [w1] at y1
  rw [w2] at y2
  refine lo_is (mul_ne ln hq.ne) hp ?_ ?_
  · refine Int.eq_of_mul_eq_mul_right h0 ?_
    generalize ptA k (loA A B N) (loB A B N) c e = T at *
    generalize loN A B N = L at *
    rw [hNn] at y1
    grind
  · refine Int.eq_of_mul_eq_mul_right h0 ?_
    generalize ptB k (loA A B N) (loB A B N) c e = T at *
    generalize loN A B N = L at *
    rw [hNn] at y2
    grind
/-- a number times its mate has no w -/
theorem norm_is (k a b : Int) : ptA k a b (pmA k a b) (pmB k a b) = pnN k a b ∧ ptB k a b (pmA k a b) (pmB k a b) = 0 := by
  unfold ptA ptB pmA pmB pnN
  by_cases h : k = 5
  · simp only [if_pos h]
    constructor <;> grind
  · simp only [if_neg h]
    constructor <;> grind
/-- the mate of a number is one -/
theorem mate_nm {k a b n : Int} (h : Nm a b n) : Nm (pmA k a b) (pmB k a b) n := by
  have h1 := h.pos
  have h2 := h.g
  show isN _ _ _ = true
  unfold isN
  rw [decide_eq_true h1]
  have e : g3 (pmA k a b) (pmB k a b) n = 1 := by
    have key : ∀ x y z : Int, ((x + y).natAbs.gcd y.natAbs).gcd z.natAbs = (x.natAbs.gcd y.natAbs).gcd z.natAbs := by
      intro x y z
      have d : ∀ (u v : Int), u.natAbs.gcd v.natAbs ∣ (u + v).natAbs := by
        intro u v
        have p1 : ((u.natAbs.gcd v.natAbs : Nat) : Int) ∣ u := Int.natAbs_dvd_natAbs.mp (by rw [Int.natAbs_natCast]; exact Nat.gcd_dvd_left _ _)
        have p2 : ((u.natAbs.gcd v.natAbs : Nat) : Int) ∣ v := Int.natAbs_dvd_natAbs.mp (by rw [Int.natAbs_natCast]; exact Nat.gcd_dvd_right _ _)
        have p3 := Int.natAbs_dvd_natAbs.mpr (Int.dvd_add p1 p2)
        rw [Int.natAbs_natCast] at p3
        exact p3
      have e1 : (x + y).natAbs.gcd y.natAbs = x.natAbs.gcd y.natAbs := by
        refine Nat.dvd_antisymm (Nat.dvd_gcd ?_ (Nat.gcd_dvd_right _ _)) (Nat.dvd_gcd (d x y) (Nat.gcd_dvd_right _ _))
        have q := d (x + y) (-y)
        rw [Int.natAbs_neg, Int.add_neg_cancel_right] at q
        exact q
      rw [e1]
    unfold pmA pmB
    unfold g3 at h2 ⊢
    rw [Int.natAbs_neg]
    split
    · rw [key]
      exact h2
    · exact h2
  rw [decide_eq_true e]
  rfl
end Wk

set_option Elab.async false
set_option linter.all false
set_option maxRecDepth 100000
set_option maxHeartbeats 4000000
namespace Wk
open PySem PySem.Spec PyProof.Rows L2 Evl Wf
abbrev T3 := Int × Int × Int
abbrev tD (t : T3) : Dat := nD t.1 t.2.1 t.2.2
def loT (a b n : Int) : T3 := (loA a b n, loB a b n, loN a b n)
/-! ### _law_number -/
def nuM (w : Int) : Int := [1, 3, 12].getD (w - 1).toNat 0
def numF (k : Int × Int) : T3 × (Int × Int) :=
  if tkV k 5 = 0 then ((tkV (tkK k 5) 9 - 4, 0, 1), tkK (tkK k 5) 9)
  else if tkV k 5 < 4 then (loT (tkV (tkK k 5) 9 - 4) (tkV (tkK (tkK k 5) 9) 5 - 2) (1 + tkV (tkK (tkK (tkK k 5) 9) 5) (nuM (tkV k 5))), tkK (tkK (tkK (tkK k 5) 9) 5) (nuM (tkV k 5)))
  else (loT (tkV (tkK k 5) 1999 - 999) (tkV (tkK (tkK k 5) 1999) 1999 - 999) (1 + tkV (tkK (tkK (tkK k 5) 1999) 1999) 12), tkK (tkK (tkK (tkK k 5) 1999) 1999) 12)
theorem nuM_ok {w : Int} (h1 : 0 ≤ w) (h2 : w < 4) (h3 : w ≠ 0) : 0 < nuM w ∧ nuM w ≤ 12 := by
  have : w = 1 ∨ w = 2 ∨ w = 3 := by omega
  rcases this with rfl | rfl | rfl <;> decide
theorem small_bd {i : Int} {m : Nat} (h1 : -(2 ^ m : Int) < i) (h2 : i < 2 ^ m) : Bd m i := by
  show i.natAbs < 2 ^ m
  have e : ((2 ^ m : Nat) : Int) = (2 : Int) ^ m := by simp
  omega
theorem nm_one1 {a : Int} : Nm a 0 1 := by
  show isN a 0 1 = true
  unfold isN g3
  simp
/-- what is drawn is a number of few digits -/
def NS (m : Nat) (t : T3) : Prop := Nm t.1 t.2.1 t.2.2 ∧ Bd m t.1 ∧ Bd m t.2.1 ∧ Bd m t.2.2
theorem lo_ns {a b n : Int} {m : Nat} (h : n ≠ 0) (h1 : Bd m a) (h2 : Bd m b) (h3 : Bd m n) : NS m (loT a b n) := by
  obtain ⟨x, y, z⟩ := lo_bd h h1 h2 h3
  exact ⟨lo_nm h, x, y, z⟩
theorem numF_ok {k : Int × Int} (h : Dk k) : NS 11 (numF k).1 ∧ Dk (numF k).2 := by
  unfold numF
  have w := tkV_ok (k := k) (m := 5) (by decide)
  split
  · have v := tkV_ok (k := tkK k 5) (m := 9) (by decide)
    exact ⟨⟨nm_one1, small_bd (m := 11) (by show _ < tkV (tkK k 5) 9 - 4; omega) (by show tkV (tkK k 5) 9 - 4 < _; omega), Bd.lit (i := 0) 11, Bd.lit (i := 1) 11⟩, tkK_ok (tkK_ok h)⟩
  · split
    · have q := nuM_ok (w := tkV k 5) w.1 (by assumption) (by assumption)
      have v1 := tkV_ok (k := tkK k 5) (m := 9) (by decide)
      have v2 := tkV_ok (k := tkK (tkK k 5) 9) (m := 5) (by decide)
      have v3 := tkV_ok (k := tkK (tkK (tkK k 5) 9) 5) (m := nuM (tkV k 5)) q.1
      exact ⟨lo_ns (by omega) (small_bd (m := 11) (by omega) (by omega)) (small_bd (m := 11) (by omega) (by omega)) (small_bd (m := 11) (by omega) (by omega)), tkK_ok (tkK_ok (tkK_ok (tkK_ok h)))⟩
    · have v1 := tkV_ok (k := tkK k 5) (m := 1999) (by decide)
      have v2 := tkV_ok (k := tkK (tkK k 5) 1999) (m := 1999) (by decide)
      have v3 := tkV_ok (k := tkK (tkK (tkK k 5) 1999) 1999) (m := 12) (by decide)
      exact ⟨lo_ns (by omega) (small_bd (m := 11) (by omega) (by omega)) (small_bd (m := 11) (by omega) (by omega)) (small_bd (m := 11) (by omega) (by omega)), tkK_ok (tkK_ok (tkK_ok (tkK_ok h)))⟩
def R__law_number : List Dat → Int × Int → Dat × (Int × Int)
  | _, k => (tD (numF k).1, (numF k).2)
theorem tk {m : Int} {k : Int × Int} (h : 0 < m) (hb : Bd 900 m) (hd : Dk k) : S_law_take [.int m] k (.int (tkV k m)) (tkK k m) := ⟨m, rfl, h, hb, hd, rfl, rfl⟩
theorem tk0 {m : Int} {k : Int × Int} (hm : m.natAbs < 2 ^ 900 := by decide) (h : 0 < m := by decide) (hd : Dk k) : S_law_take [.int m] k (.int (tkV k m)) (tkK k m) := tk h hm hd
local macro_rules | `(tactic| walk_at "dk") => `(tactic| (repeat (first | assumption | apply tkK_ok)))
section
variable {P : Program} {w : World} {K : PySem.W.Frag} {mg : Str → Option Value} {base : Heap}

/-! ### _law_number -/
def S_law_number (ds : List Dat) (k : Int × Int) (d : Dat) (k' : Int × Int) : Prop := ds = [] ∧ Dk k ∧ d = tD (numF k).1 ∧ k' = (numF k).2
abbrev s__law_number : Stmt := topS 41
theorem sc__law_number : FnScope ["deck", "way"] ["deck"] (defScope s__law_number) := ⟨rfl, rfl, rfl, by decide +kernel, rfl, by decide +kernel, by decide +kernel⟩
theorem ok__law_number {f : Addr} {fd : FuncData} (F : Fun K "_law_number" "_law_number" s__law_number f fd) (c__law_take : Cl P w K mg base 1 "_law_take" ["deck", "many"] (spD K S_law_take)) (c__law_num : Cl P w K mg base 2 "_law_num" ["x", "y", "m"] (spP K S_law_num)) : FnOk P w K mg base CX0 3 f fd ["deck"] (spD K S_law_number) := by
  refine fn_deck F sc__law_number (fun ds k d k' h => ?_) (fun cdv A outer s H Q E pa ds k d k' hr hS hQ => ?_)
  · obtain ⟨rfl, hd, rfl, rfl⟩ := h
    rfl
  · obtain ⟨rfl, hd, rfl, rfl⟩ := hS
    refine
  (as_asg (i := 1) sc__law_number.nd (ev_as (ev_callDF R__law_take c__law_take (hr.mono (by decide)) (ea_cons (nm 0 rfl) (ea_cons ev_int ea_nil)) ?_) rfl)
  (as_ifn (et_eqI (nm 1 rfl) ev_int) (fun hb1 =>
    (as_rt (ev_tup (ea_cons (ev_sub (ev_as (ev_callDF R__law_take c__law_take (hr.mono (by decide)) (ea_cons (nm 0 rfl) (ea_cons ev_int ea_nil)) ?_) rfl) ev_int) (ea_cons ev_int (ea_cons ev_int ea_nil))) (Nat.le_of_ble_eq_true rfl)) ?_ ?_ hQ)) (fun hb1 =>
  (as_ifn (et_lt (nm 1 rfl) ev_int) (fun hb2 =>
    (as_rt (ev_as (ev_callF R__law_num c__law_num (hr.mono (by decide)) (ea_cons (ev_sub (ev_as (ev_callDF R__law_take c__law_take (hr.mono (by decide)) (ea_cons (nm 0 rfl) (ea_cons ev_int ea_nil)) ?_) rfl) ev_int) (ea_cons (ev_sub (ev_as (ev_callDF R__law_take c__law_take (hr.mono (by decide)) (ea_cons (nm 0 rfl) (ea_cons ev_int ea_nil)) ?_) rfl) ev_int) (ea_cons (ev_add ev_int (ev_as (ev_callDF R__law_take c__law_take (hr.mono (by decide)) (ea_cons (nm 0 rfl) (ea_cons (ev_ixV Dat.int [1, 3, 12] 0 (ev_lst (ea_cons ev_int (ea_cons ev_int (ea_cons ev_int ea_nil))) (Nat.le_of_ble_eq_true rfl)) (ev_sub (nm 1 rfl) ev_int) ?_) ea_nil)) ?_) rfl)) ea_nil))) ?_ (.inr (NoL.of rfl))) rfl) ?_ ?_ hQ)) (fun hb2 =>
  (as_rt (ev_as (ev_callF R__law_num c__law_num (hr.mono (by decide)) (ea_cons (ev_sub (ev_as (ev_callDF R__law_take c__law_take (hr.mono (by decide)) (ea_cons (nm 0 rfl) (ea_cons ev_int ea_nil)) ?_) rfl) ev_int) (ea_cons (ev_sub (ev_as (ev_callDF R__law_take c__law_take (hr.mono (by decide)) (ea_cons (nm 0 rfl) (ea_cons ev_int ea_nil)) ?_) rfl) ev_int) (ea_cons (ev_add ev_int (ev_as (ev_callDF R__law_take c__law_take (hr.mono (by decide)) (ea_cons (nm 0 rfl) (ea_cons ev_int ea_nil)) ?_) rfl)) ea_nil))) ?_ (.inr (NoL.of rfl))) rfl) ?_ ?_ hQ))))))
    all_goals try (exact tk (by decide) (Bd.lit 900 (by decide)) (by walk_at "dk"))
    · have q := of_decide_eq_true hb1
      show tD (tkV (tkK k 5) 9 - 4, 0, 1) = _
      unfold numF
      rw [if_pos q]
    · have q := of_decide_eq_true hb1
      show tkK (tkK k 5) 9 = _
      unfold numF
      rw [if_pos q]
    · have w := tkV_ok (k := k) (m := 5) (by decide)
      have q1 := of_decide_eq_false hb1
      have q2 := of_decide_eq_true hb2
      show 0 ≤ tkV k 5 - 1 ∧ tkV k 5 - 1 < 3
      omega
    · have w := tkV_ok (k := k) (m := 5) (by decide)
      have q := nuM_ok w.1 (of_decide_eq_true hb2) (of_decide_eq_false hb1)
      exact tk q.1 (small_bd (m := 900) (by have := q.1; have e : (0 : Int) < 2 ^ 900 := by decide
                                            have : (0:Int) < nuM (tkV k 5) := q.1
                                            show -(2 ^ 900 : Int) < nuM (tkV k 5)
                                            omega) (by have e : (12 : Int) < 2 ^ 900 := by decide
                                                       have : nuM (tkV k 5) ≤ 12 := q.2
                                                       show nuM (tkV k 5) < _
                                                       omega)) (by walk_at "dk")
    · have w := tkV_ok (k := k) (m := 5) (by decide)
      have q := nuM_ok w.1 (of_decide_eq_true hb2) (of_decide_eq_false hb1)
      have v3 := tkV_ok (k := tkK (tkK (tkK k 5) 9) 5) (m := nuM (tkV k 5)) q.1
      exact ⟨_, _, _, rfl, (by show 1 + tkV (tkK (tkK (tkK k 5) 9) 5) (nuM (tkV k 5)) ≠ 0; omega), (small_bd (m := 11) (by show _ < 1 + tkV (tkK (tkK (tkK k 5) 9) 5) (nuM (tkV k 5)); omega) (by show 1 + tkV (tkK (tkK (tkK k 5) 9) 5) (nuM (tkV k 5)) < _; omega)).mono (by decide), rfl⟩
    · have q1 := of_decide_eq_false hb1
      have q2 := of_decide_eq_true hb2
      show tD (loT (tkV (tkK k 5) 9 - 4) (tkV (tkK (tkK k 5) 9) 5 - 2) (1 + tkV (tkK (tkK (tkK k 5) 9) 5) (nuM (tkV k 5)))) = _
      unfold numF
      rw [if_neg q1, if_pos q2]
    · have q1 := of_decide_eq_false hb1
      have q2 := of_decide_eq_true hb2
      show tkK (tkK (tkK (tkK k 5) 9) 5) (nuM (tkV k 5)) = _
      unfold numF
      rw [if_neg q1, if_pos q2]
    · have v3 := tkV_ok (k := tkK (tkK (tkK k 5) 1999) 1999) (m := 12) (by decide)
      exact ⟨_, _, _, rfl, (by show 1 + tkV (tkK (tkK (tkK k 5) 1999) 1999) 12 ≠ 0; omega), (small_bd (m := 11) (by show _ < 1 + tkV (tkK (tkK (tkK k 5) 1999) 1999) 12; omega) (by show 1 + tkV (tkK (tkK (tkK k 5) 1999) 1999) 12 < _; omega)).mono (by decide), rfl⟩
    · have q1 := of_decide_eq_false hb1
      have q2 := of_decide_eq_false hb2
      show tD (loT (tkV (tkK k 5) 1999 - 999) (tkV (tkK (tkK k 5) 1999) 1999 - 999) (1 + tkV (tkK (tkK (tkK k 5) 1999) 1999) 12)) = _
      unfold numF
      rw [if_neg q1, if_neg q2]
    · have q1 := of_decide_eq_false hb1
      have q2 := of_decide_eq_false hb2
      show tkK (tkK (tkK (tkK k 5) 1999) 1999) 12 = _
      unfold numF
      rw [if_neg q1, if_neg q2]

/-! ### _law_wide -/
def tm5 (u v : T3) : T3 := loT (ptA 5 u.1 u.2.1 v.1 v.2.1) (ptB 5 u.1 u.2.1 v.1 v.2.1) (u.2.2 * v.2.2)
def itr (v u : T3) : Nat → T3
  | 0 => u
  | n + 1 => tm5 (itr v u n) v
def wiN (t : Int) : Int := [0, 0, 3, 9].getD t.toNat 0
def wideF (k : Int × Int) : T3 × (Int × Int) :=
  (itr (numF (numF k).2).1 (numF k).1 (wiN (tkV (numF (numF k).2).2 4)).toNat, tkK (numF (numF k).2).2 4)
theorem wiN_ok {t : Int} (h1 : 0 ≤ t) (h2 : t < 4) : 0 ≤ wiN t ∧ wiN t ≤ 9 := by
  have : t = 0 ∨ t = 1 ∨ t = 2 ∨ t = 3 := by omega
  rcases this with rfl | rfl | rfl | rfl <;> decide
theorem tm5_ns {m : Nat} {u v : T3} (h : NS m u) (g : NS 11 v) : NS (m + 15) (tm5 u v) := by
  obtain ⟨q1, q2⟩ := pt_bd1 (k := 5) (.inr (.inr rfl)) h.2.1 h.2.2.1 g.2.1 g.2.2.1
  exact lo_ns (mul_ne h.1.ne g.1.ne) q1 q2 ((h.2.2.2.mul g.2.2.2).mono (by omega))
theorem itr_ns {u v : T3} (h : NS 11 u) (g : NS 11 v) : ∀ n : Nat, NS (11 + 15 * n) (itr v u n)
  | 0 => h
  | n + 1 => tm5_ns (itr_ns h g n) g
theorem NS.mono {m l : Nat} {u : T3} (h : NS m u) (hl : m ≤ l) : NS l u := ⟨h.1, h.2.1.mono hl, h.2.2.1.mono hl, h.2.2.2.mono hl⟩
theorem NS.n3 {m : Nat} {u : T3} (h : NS m u) (hl : m ≤ 2900) : N3 u.1 u.2.1 u.2.2 := ⟨h.2.1.mono hl, h.2.2.1.mono hl, h.2.2.2.mono hl, h.1⟩
theorem wideF_ok {k : Int × Int} (h : Dk k) : NS 200 (wideF k).1 ∧ Dk (wideF k).2 := by
  have a := numF_ok h
  have b := numF_ok a.2
  have t := tkV_ok (k := (numF (numF k).2).2) (m := 4) (by decide)
  have q := wiN_ok t.1 t.2
  exact ⟨(itr_ns a.1 b.1 _).mono (by omega), tkK_ok b.2⟩
def R__law_wide : List Dat → Int × Int → Dat × (Int × Int)
  | _, k => (tD (wideF k).1, (wideF k).2)
def S_law_wide (ds : List Dat) (k : Int × Int) (d : Dat) (k' : Int × Int) : Prop := ds = [] ∧ Dk k ∧ d = tD (wideF k).1 ∧ k' = (wideF k).2
abbrev s__law_wide : Stmt := topS 42
theorem sc__law_wide : FnScope ["deck", "some", "turn"] ["deck"] (defScope s__law_wide) := ⟨rfl, rfl, rfl, by decide +kernel, rfl, by decide +kernel, by decide +kernel⟩
theorem ok__law_wide {f : Addr} {fd : FuncData} (F : Fun K "_law_wide" "_law_wide" s__law_wide f fd) (c__law_number : Cl P w K mg base 3 "_law_number" ["deck"] (spD K S_law_number)) (c__law_take : Cl P w K mg base 1 "_law_take" ["deck", "many"] (spD K S_law_take)) (c__law_times : Cl P w K mg base 3 "_law_times" ["field", "u", "v"] (spP K S_law_times)) (m_range : mg "range" = none) : FnOk P w K mg base CX0 4 f fd ["deck"] (spD K S_law_wide) := by
  refine fn_deck F sc__law_wide (fun ds k d k' h => ?_) (fun cdv A outer s H Q E pa ds k d k' hr hS hQ => ?_)
  · obtain ⟨rfl, _⟩ := h
    rfl
  · obtain ⟨rfl, hd, rfl, rfl⟩ := hS
    have ha := numF_ok hd
    have hb := numF_ok ha.2
    have ht := tkV_ok (k := (numF (numF k).2).2) (m := 4) (by decide)
    have hw := wiN_ok ht.1 ht.2
    have hka := itr_ns ha.1 hb.1
    unfold wideF at hQ
    generalize hA : (numF k).1 = a at *
    generalize hB : (numF (numF k).2).1 = b at *
    generalize hK : (numF (numF k).2).2 = k2 at *
    refine as_asgL (i := 1) (as := [tD a, tD b]) sc__law_wide.nd (ea_cons (ev_as (ev_callDF R__law_number c__law_number (hr.mono (by decide)) (ea_cons (nm 0 rfl) ea_nil) ⟨rfl, hd, rfl, rfl⟩) (congrArg tD hA)) (ea_cons (ev_as (ev_callDF R__law_number c__law_number (hr.mono (by decide)) (ea_cons (nm 0 rfl) ea_nil) ⟨rfl, ha.2, rfl, rfl⟩) (congrArg tD hB)) ea_nil)) (by show 2 ≤ 1000; decide) (fun st H1 q vs S hk e0 h0 ne hq hvs => ?_)
    obtain ⟨v0, v1, rfl, g0, g1⟩ := dts2 hvs
    have hk2 : DK (some pa) k2 H1 := by rw [← hK]; exact hk
    refine wb_cons (wss (ps_for PassesOwn.never rfl (pi_range1 (by rfl) m_range pa_w) (pg_name (i := 2) sc__law_wide.nd rfl (Or.inl rfl)) pss_w) (ea_go S hk2 (ea_cons (ev_ixV Dat.int [0, 0, 3, 9] 0 (ev_lst (ea_cons ev_int (ea_cons ev_int (ea_cons ev_int (ea_cons ev_int ea_nil)))) (by decide)) (ev_as (ev_callDF R__law_take c__law_take (hr.mono (by decide)) (ea_cons (nm 0 rfl) (ea_cons ev_int ea_nil)) (tk (m := 4) (k := k2) (by decide) (Bd.lit 900 (by decide)) hb.2)) rfl) ⟨ht.1, ht.2⟩) ea_nil) fun ws H2 e2 hk3 h2 => ?_))
    obtain ⟨w1, rfl, hw1⟩ := dts1 h2
    cases hw1
    have hq2 : H2 q = some (.lst [v0, v1]) := e2 q _ ne hq
    have S2 := S.kp e2 hk2
    refine ⟨wiN (tkV k2 4), rfl, by omega, by omega, for_range (lo := 0) (n := (wiN (tkV k2 4)).toNat) (fun j st' H' => st'.length = 3 ∧ st'[1]? = some (some (.ref q)) ∧ ∃ u0 u1, H' q = some (.lst [u0, u1]) ∧ DT K none H' u0 (tD (itr b a j)) ∧ DT K none H' u1 (tD b) ∧ Kp (some pa) H H' ∧ DK (some pa) (tkK k2 4) H')
      ⟨S2.1, ?_, v0, v1, hq2, (g0.kp e2 hk2).free, (g1.kp e2 hk2).free, e0.trans e2, hk3⟩ ?_ ?_⟩
    · obtain ⟨vv, x1, x2⟩ := S2.2 1 (.raw (.ref q)) rfl
      cases x2
      exact x1
    · rintro j st' H' hj ⟨l3, s1, u0, u1, hq', d0, d1, e', dk'⟩
      have hj9 : j < 10 := by omega
      have nj := hka j
      have S3 : Sat K none (st'.set 2 (some (.int ((0 : Int) + (j : Int))))) H' [none, some (.lst [tD (itr b a j), tD b]), none] := by
        refine ⟨by rw [List.length_set, l3]; rfl, fun i d he => ?_⟩
        match i, he with
        | 0, he => cases he
        | 1, he =>
          cases he
          exact ⟨.ref q, by rw [List.getElem?_set_ne (by decide)]; exact s1, .lst' (.inl (.inl hq')) (fun z => by cases z) (DTs.cons d0 (DTs.cons d1 DTs.nil))⟩
        | 2, he => cases he
      refine wb_cons (wss (ps_asg pe_w (pg_sub pe_w pe_w set_list)) (ev_go (o := none) (k := (0, 0)) (k1 := (0, 0)) (d := tD (itr b a (j + 1))) S3 trivial (ev_as (ev_callF R__law_times c__law_times (hr.mono (by decide)) (ea_cons ev_int (ea_cons (ev_ixL (j := 0) (nm 1 rfl) ev_int rfl rfl) (ea_cons (ev_ixL (j := 1) (nm 1 rfl) ev_int rfl rfl) ea_nil))) ⟨5, _, _, _, _, _, _, rfl, .inr (.inr rfl), (nj.n3 (by omega)).l, (hb.1.n3 (by decide)).l, rfl⟩ (.inl rfl)) rfl) fun u H3 e3 _ h3 => ?_))
      refine we (pe_var (i := 1) rfl (by first | exact .inl rfl | exact .inr (.inl rfl))) ⟨.ref q, by rw [List.getElem?_set_ne (by decide)]; exact s1, we pe_int ?_⟩
      have hq3 : H3 q = some (.lst [u0, u1]) := e3 q _ (fun z => by cases z) hq'
      refine ⟨q, [u0, u1], 0, 0, rfl, rfl, hq3, rfl, wb pss_nil ⟨?_, ?_, u, u1, upd_same, ?_, ?_, ?_, ?_⟩⟩
      · rw [List.length_set]; exact l3
      · rw [List.getElem?_set_ne (by decide)]; exact s1
      · exact h3.tm (tm_upd hq3) rfl
      · exact (d1.kp e3 (k := (0, 0)) trivial).tm (tm_upd hq3) rfl
      · intro bb z nb hbb
        rw [upd_ne (ne_of_none hbb h0)]
        exact e3 bb z (fun z => by cases z) (e' bb z nb hbb)
      · show upd H3 q _ pa = _
        rw [upd_ne (fun z => ne (by rw [z]))]
        exact e3 pa _ (fun z => by cases z) dk'
    · rintro st' H' ⟨l3, s1, u0, u1, hq', d0, d1, e', dk'⟩
      have S3 : Sat K none st' H' [none, some (.lst [tD (itr b a (wiN (tkV k2 4)).toNat), tD b]), none] := by
        refine ⟨by rw [l3]; rfl, fun i d he => ?_⟩
        match i, he with
        | 0, he => cases he
        | 1, he =>
          cases he
          exact ⟨.ref q, s1, .lst' (.inl (.inl hq')) (fun z => by cases z) (DTs.cons d0 (DTs.cons d1 DTs.nil))⟩
        | 2, he => cases he
      exact (as_ret (o := none) (k := (0, 0)) (H0 := H') (ev_ixL (j := 0) (nm 1 rfl) ev_int rfl rfl) (fun v H3 e3 _ hv => hQ v H3 (e'.trans (Kp.of_ex e3.ex)) (dk'.ex e3.ex) (hv.back (NoL.of rfl)))) st' H' S3 trivial (Kp.refl _ _)

/-! ### _law_triple -/
def abI (m : Int) : Int := if m < 0 then -m else m
def trF (k : Int × Int) : Int := [3, 30, 999].getD (tkV k 3).toNat 0
def trE (k : Int × Int) : Int := 2 * trF k + 1
def trX (k : Int × Int) : Int := tkV (tkK k 3) (trE k) - trF k
def trY (k : Int × Int) : Int := tkV (tkK (tkK k 3) (trE k)) (trE k) - trF k
def tr3 (k : Int × Int) : Int × Int := tkK (tkK (tkK k 3) (trE k)) (trE k)
def trM (k : Int × Int) : Int := tkV (tr3 k) 25 - 12
def tr4 (k : Int × Int) : Int × Int := tkK (tr3 k) 25
def trS (k : Int × Int) : List T3 := [(trX k, trY k, trM k), (trX k, trY k, abI (trM k)), (2 * trX k, 2 * trY k, 2 * abI (trM k)), (0, 0, trM k), (trX k, 0, abI (trM k))]
def trT (k : Int × Int) : T3 := (trS k).getD (tkV (tr4 k) 5).toNat (0, 0, 0)
def tr5 (k : Int × Int) : Int × Int := tkK (tr4 k) 5
def TG : Int := 10 ^ (9 : Int).toNat
def tr8 (k : Int × Int) : Int × Int := tkK (tkK (tkK (tr5 k) 90) TG) 99
def trC (k : Int × Int) : List Int := [1, 1, 13, 17 + tkV (tr5 k) 90, 1 + tkV (tkK (tr5 k) 90) TG, -1 - tkV (tkK (tkK (tr5 k) 90) TG) 99]
def trG (k : Int × Int) : Int := (trC k).getD (tkV (tr8 k) 6).toNat 0
def tr9 (k : Int × Int) : Int × Int := tkK (tr8 k) 6
def sc3 (t : T3) (g : Int) : T3 := (t.1 * g, t.2.1 * g, t.2.2 * g)
def triF (k : Int × Int) : T3 × (Int × Int) :=
  if tkV (tr9 k) 4 = 0 then (sc3 (wideF (tkK (tr9 k) 4)).1 (trG k), (wideF (tkK (tr9 k) 4)).2) else (sc3 (trT k) (trG k), tkK (tr9 k) 4)
theorem getD_all {α : Type} {p : α → Prop} {l : List α} {d : α} (h : ∀ x ∈ l, p x) (hd : p d) (i : Nat) : p (l.getD i d) := by
  rw [List.getD_eq_getElem?_getD]
  cases q : l[i]? with
  | none => exact hd
  | some x => exact h x (List.mem_of_getElem? q)
theorem trF_ok (k : Int × Int) : 0 ≤ trF k ∧ trF k ≤ 999 := by
  unfold trF
  refine getD_all (p := fun x => 0 ≤ x ∧ x ≤ (999 : Int)) (fun x hx => ?_) (by decide) _
  simp at hx
  omega
theorem TG_is : TG = 1000000000 := by decide
def B40 (i : Int) : Prop := -1099511627776 < i ∧ i < 1099511627776
theorem B40.bd {i : Int} (h : B40 i) : Bd 40 i := by
  show i.natAbs < 2 ^ 40
  unfold B40 at h
  omega
theorem trG_ok (k : Int × Int) : B40 (trG k) := by
  have a := tkV_ok (k := tr5 k) (m := 90) (by decide)
  have b := tkV_ok (k := tkK (tr5 k) 90) (m := TG) (by decide)
  have c := tkV_ok (k := tkK (tkK (tr5 k) 90) TG) (m := 99) (by decide)
  have e := TG_is
  unfold trG
  refine getD_all (p := B40) (fun x hx => ?_) (by unfold B40; decide) _
  unfold trC at hx
  simp only [List.mem_cons, List.not_mem_nil, or_false] at hx
  unfold B40
  rcases hx with rfl | rfl | rfl | rfl | rfl | rfl <;> omega
theorem trT_ok (k : Int × Int) : B40 (trT k).1 ∧ B40 (trT k).2.1 ∧ B40 (trT k).2.2 := by
  have f := trF_ok k
  have e1 : 0 < trE k := by unfold trE; omega
  have x := tkV_ok (k := tkK k 3) (m := trE k) e1
  have y := tkV_ok (k := tkK (tkK k 3) (trE k)) (m := trE k) e1
  have m := tkV_ok (k := tr3 k) (m := 25) (by decide)
  unfold trT
  refine getD_all (p := fun t : T3 => B40 t.1 ∧ B40 t.2.1 ∧ B40 t.2.2) (fun t ht => ?_) (by unfold B40; decide) _
  unfold trS at ht
  simp only [List.mem_cons, List.not_mem_nil, or_false] at ht
  unfold B40
  have ha : -12 ≤ abI (trM k) ∧ abI (trM k) ≤ 12 := by unfold abI trM; split <;> omega
  have hm : -12 ≤ trM k ∧ trM k ≤ 12 := by unfold trM; omega
  have hx : -1999 ≤ trX k ∧ trX k ≤ 1999 := by unfold trX trE at *; omega
  have hy : -1999 ≤ trY k ∧ trY k ≤ 1999 := by unfold trY trE at *; omega
  rcases ht with rfl | rfl | rfl | rfl | rfl <;> dsimp only <;> omega
theorem tr9_ok {k : Int × Int} (h : Dk k) : Dk (tr9 k) := tkK_ok (tkK_ok (tkK_ok (tkK_ok (tkK_ok (tkK_ok (tkK_ok (tkK_ok (tkK_ok h))))))))
theorem triF_ok {k : Int × Int} (h : Dk k) : Bd 2900 (triF k).1.1 ∧ Bd 2900 (triF k).1.2.1 ∧ Bd 2900 (triF k).1.2.2 ∧ Dk (triF k).2 := by
  have g := (trG_ok k).bd
  unfold triF
  split
  · have w := wideF_ok (tkK_ok (m := 4) (tr9_ok h))
    exact ⟨(w.1.2.1.mul g).mono (by decide), (w.1.2.2.1.mul g).mono (by decide), (w.1.2.2.2.mul g).mono (by decide), w.2⟩
  · have t := trT_ok k
    exact ⟨(t.1.bd.mul g).mono (by decide), (t.2.1.bd.mul g).mono (by decide), (t.2.2.bd.mul g).mono (by decide), tkK_ok (tr9_ok h)⟩
def R__law_triple : List Dat → Int × Int → Dat × (Int × Int)
  | _, k => (tD (triF k).1, (triF k).2)
/-! ### _law_triple -/
def S_law_triple (ds : List Dat) (k : Int × Int) (d : Dat) (k' : Int × Int) : Prop := ds = [] ∧ Dk k ∧ d = tD (triF k).1 ∧ k' = (triF k).2
abbrev s__law_triple : Stmt := topS 43
theorem sc__law_triple : FnScope ["deck", "far", "x", "y", "m", "some", "factor"] ["deck"] (defScope s__law_triple) := ⟨rfl, rfl, rfl, by decide +kernel, rfl, by decide +kernel, by decide +kernel⟩
theorem ok__law_triple {f : Addr} {fd : FuncData} (F : Fun K "_law_triple" "_law_triple" s__law_triple f fd) (c__law_take : Cl P w K mg base 1 "_law_take" ["deck", "many"] (spD K S_law_take)) (c__law_wide : Cl P w K mg base 4 "_law_wide" ["deck"] (spD K S_law_wide)) (m_abs : mg "abs" = none) : FnOk P w K mg base CX0 5 f fd ["deck"] (spD K S_law_triple) := by
  refine fn_deck F sc__law_triple (fun ds k d k' h => ?_) (fun cdv A outer s H Q E pa ds k d k' hr hS hQ => ?_)
  · obtain ⟨rfl, hd, rfl, rfl⟩ := h
    rfl
  · obtain ⟨rfl, hd, rfl, rfl⟩ := hS
    refine
  (as_asg (i := 1) sc__law_triple.nd (ev_ixV Dat.int [3, 30, 999] 0 (ev_lst (ea_cons ev_int (ea_cons ev_int (ea_cons ev_int ea_nil))) (Nat.le_of_ble_eq_true rfl)) (ev_as (ev_callDF R__law_take c__law_take (hr.mono (by decide)) (ea_cons (nm 0 rfl) (ea_cons ev_int ea_nil)) ?_) rfl) ?_)
  (as_par3 (i := 2) (j := 3) (l := 4) sc__law_triple.nd rfl (ea_cons (ev_sub (ev_as (ev_callDF R__law_take c__law_take (hr.mono (by decide)) (ea_cons (nm 0 rfl) (ea_cons (ev_add (ev_mul ev_int (nm 1 rfl) ?_) ev_int) ea_nil)) ?_) rfl) (nm 1 rfl)) (ea_cons (ev_sub (ev_as (ev_callDF R__law_take c__law_take (hr.mono (by decide)) (ea_cons (nm 0 rfl) (ea_cons (ev_add (ev_mul ev_int (nm 1 rfl) ?_) ev_int) ea_nil)) ?_) rfl) (nm 1 rfl)) (ea_cons (ev_sub (ev_as (ev_callDF R__law_take c__law_take (hr.mono (by decide)) (ea_cons (nm 0 rfl) (ea_cons ev_int ea_nil)) ?_) rfl) ev_int) ea_nil)))
  (as_asg (i := 5) sc__law_triple.nd (ev_ixV tD (trS k) (0, 0, 0) (ev_lst (ea_cons (ev_tup (ea_cons (nm 2 rfl) (ea_cons (nm 3 rfl) (ea_cons (nm 4 rfl) ea_nil))) (Nat.le_of_ble_eq_true rfl)) (ea_cons (ev_tup (ea_cons (nm 2 rfl) (ea_cons (nm 3 rfl) (ea_cons (ev_abs m_abs (ea_cons (nm 4 rfl) ea_nil)) ea_nil))) (Nat.le_of_ble_eq_true rfl)) (ea_cons (ev_tup (ea_cons (ev_mul ev_int (nm 2 rfl) ?_) (ea_cons (ev_mul ev_int (nm 3 rfl) ?_) (ea_cons (ev_mul ev_int (ev_abs m_abs (ea_cons (nm 4 rfl) ea_nil)) ?_) ea_nil))) (Nat.le_of_ble_eq_true rfl)) (ea_cons (ev_tup (ea_cons ev_int (ea_cons ev_int (ea_cons (nm 4 rfl) ea_nil))) (Nat.le_of_ble_eq_true rfl)) (ea_cons (ev_tup (ea_cons (nm 2 rfl) (ea_cons ev_int (ea_cons (ev_abs m_abs (ea_cons (nm 4 rfl) ea_nil)) ea_nil))) (Nat.le_of_ble_eq_true rfl)) ea_nil))))) (Nat.le_of_ble_eq_true rfl)) (ev_as (ev_callDF R__law_take c__law_take (hr.mono (by decide)) (ea_cons (nm 0 rfl) (ea_cons ev_int ea_nil)) ?_) rfl) ?_)
  (as_asg (i := 6) sc__law_triple.nd (ev_ixV Dat.int (trC k) 0 (ev_lst (ea_cons ev_int (ea_cons ev_int (ea_cons ev_int (ea_cons (ev_add ev_int (ev_as (ev_callDF R__law_take c__law_take (hr.mono (by decide)) (ea_cons (nm 0 rfl) (ea_cons ev_int ea_nil)) ?_) rfl)) (ea_cons (ev_add ev_int (ev_as (ev_callDF R__law_take c__law_take (hr.mono (by decide)) (ea_cons (nm 0 rfl) (ea_cons (ev_pow ev_int ev_int ?_) ea_nil)) ?_) rfl)) (ea_cons (ev_sub (ev_neg ev_int) (ev_as (ev_callDF R__law_take c__law_take (hr.mono (by decide)) (ea_cons (nm 0 rfl) (ea_cons ev_int ea_nil)) ?_) rfl)) ea_nil)))))) (Nat.le_of_ble_eq_true rfl)) (ev_as (ev_callDF R__law_take c__law_take (hr.mono (by decide)) (ea_cons (nm 0 rfl) (ea_cons ev_int ea_nil)) ?_) rfl) ?_)
  (as_ifn (et_eqI (ev_as (ev_callDF R__law_take c__law_take (hr.mono (by decide)) (ea_cons (nm 0 rfl) (ea_cons ev_int ea_nil)) ?_) rfl) ev_int) (fun hb1 =>
    (as_asg (i := 5) sc__law_triple.nd (ev_as (ev_callDF R__law_wide c__law_wide (hr.mono (by decide)) (ea_cons (nm 0 rfl) ea_nil) ?_) rfl)
    (as_go ((as_rt (ev_tup (ea_cons (ev_mul (ev_ixT (j := 0) (nm 5 rfl) ev_int rfl rfl) (nm 6 rfl) ?_) (ea_cons (ev_mul (ev_ixT (j := 1) (nm 5 rfl) ev_int rfl rfl) (nm 6 rfl) ?_) (ea_cons (ev_mul (ev_ixT (j := 2) (nm 5 rfl) ev_int rfl rfl) (nm 6 rfl) ?_) ea_nil))) (Nat.le_of_ble_eq_true rfl)) ?_ ?_ hQ))))) (fun hb1 =>
  (as_rt (ev_tup (ea_cons (ev_mul (ev_ixT (j := 0) (nm 5 rfl) ev_int rfl rfl) (nm 6 rfl) ?_) (ea_cons (ev_mul (ev_ixT (j := 1) (nm 5 rfl) ev_int rfl rfl) (nm 6 rfl) ?_) (ea_cons (ev_mul (ev_ixT (j := 2) (nm 5 rfl) ev_int rfl rfl) (nm 6 rfl) ?_) ea_nil))) (Nat.le_of_ble_eq_true rfl)) ?_ ?_ hQ)))))))
    all_goals try (exact tk (by decide) (Bd.lit 900 (by decide)) (by walk_at "dk"))
    all_goals have hf := trF_ok k
    all_goals have he : 0 < trE k ∧ trE k < 2000 := by unfold trE; omega
    all_goals have heb : Bd 900 (trE k) := (small_bd (m := 11) (by omega) (by omega)).mono (by decide)
    all_goals have h3 := tkV_ok (k := k) (m := 3) (by decide)
    all_goals have vx := tkV_ok (k := tkK k 3) (m := trE k) he.1
    all_goals have vy := tkV_ok (k := tkK (tkK k 3) (trE k)) (m := trE k) he.1
    all_goals have vm := tkV_ok (k := tr3 k) (m := 25) (by decide)
    all_goals have v5 := tkV_ok (k := tr4 k) (m := 5) (by decide)
    all_goals have v6 := tkV_ok (k := tr8 k) (m := 6) (by decide)
    all_goals have hfb : Bd 11 (trF k) := small_bd (m := 11) (by omega) (by omega)
    all_goals have hg := (trG_ok k).bd
    all_goals have ht := trT_ok k
    all_goals have hw := wideF_ok (tkK_ok (m := 4) (tr9_ok hd))
    · exact ⟨h3.1, h3.2⟩
    · exact cm (Bd.lit 2) hfb (by decide)
    · exact tk (m := trE k) he.1 heb (by walk_at "dk")
    · exact cm (Bd.lit 2) hfb (by decide)
    · exact tk (m := trE k) he.1 heb (by walk_at "dk")
    · exact cm (Bd.lit 2) (small_bd (m := 12) (i := trX k) (by unfold trX; omega) (by unfold trX; omega)) (by decide)
    · exact cm (Bd.lit 2) (small_bd (m := 12) (i := trY k) (by unfold trY; omega) (by unfold trY; omega)) (by decide)
    · exact cm (Bd.lit 2) (small_bd (m := 12) (i := abI (trM k)) (by unfold abI trM; split <;> omega) (by unfold abI trM; split <;> omega)) (by decide)
    · exact ⟨v5.1, v5.2⟩
    · exact ⟨by decide, by decide, by decide⟩
    · exact ⟨v6.1, v6.2⟩
    · exact ⟨rfl, (tkK_ok (m := 4) (tr9_ok hd)), rfl, rfl⟩
    · exact cm hw.1.2.1 hg (by decide)
    · exact cm hw.1.2.2.1 hg (by decide)
    · exact cm hw.1.2.2.2 hg (by decide)
    · have q : tkV (tr9 k) 4 = 0 := of_decide_eq_true hb1
      show tD (sc3 (wideF (tkK (tr9 k) 4)).1 (trG k)) = _
      unfold triF
      rw [if_pos q]
    · have q : tkV (tr9 k) 4 = 0 := of_decide_eq_true hb1
      show (wideF (tkK (tr9 k) 4)).2 = _
      unfold triF
      rw [if_pos q]
    · exact cm ht.1.bd hg (by decide)
    · exact cm ht.2.1.bd hg (by decide)
    · exact cm ht.2.2.bd hg (by decide)
    · have q : ¬ tkV (tr9 k) 4 = 0 := of_decide_eq_false hb1
      show tD (sc3 (trT k) (trG k)) = _
      unfold triF
      rw [if_neg q]
    · have q : ¬ tkV (tr9 k) 4 = 0 := of_decide_eq_false hb1
      show tkK (tr9 k) 4 = _
      unfold triF
      rw [if_neg q]

end
end Wk
set_option Elab.async false
set_option linter.all false
set_option maxRecDepth 100000
set_option maxHeartbeats 4000000
namespace Wk
open PySem PySem.Spec PyProof.Rows L2 Evl Wf
section
variable {P : Program} {w : World} {K : PySem.W.Frag} {mg : Str → Option Value} {base : Heap}
/-! ### FloorError's __init__ -/
abbrev s_init : Stmt := inClass (topS 2) 0
theorem sc_init : FnScope ["self", "value"] ["self", "value"] (defScope s_init) := ⟨rfl, rfl, rfl, by decide +kernel, rfl, by decide +kernel, by decide +kernel⟩
theorem ok_init {f : Addr} {fd : FuncData} (F : Fun K "__init__" "FloorError.__init__" s_init f fd) (mV : mg "ValueError" = none) (vV : PySem.W.findCls K (.type "ValueError") (.type "type") "__init__" = some (.val (.builtin "ValueError.__init__"))) : FnOk P w K mg base CX0 1 f fd ["self", "value"] (spIni K) := by
  refine F.ok sc_init (fun vs H Q E h => ?_) (fun cdv A outer s H vs Q E hr h => ?_)
  · obtain ⟨a, C, v, rfl, _⟩ := h
    rfl
  · obtain ⟨a, C, v, rfl, ox, no, hx, q⟩ := h
    refine ⟨_, pss_cons (ps_expr (pe_veinit (by rfl) mV vV (pa_cons (pv 0) (pa_cons (pv 1) pa_nil)))) (pss_one (ps_ost (pv 0) (pv 1))), ?_⟩
    refine ⟨.ref a, rfl, v, rfl, a, C, [v], rfl, by show 1 ≤ 1000; decide, ox, hx, ?_⟩
    exact ⟨v, rfl, .ref a, rfl, a, C, rfl, ox, no, .inl ⟨hx, q⟩⟩
/-! ### number and by, where they raise -/
def Sx_number (ds : List Dat) (d : Dat) : Prop := ∃ a b : Int, ds = [.int a, .int b, .int 0] ∧ d = pD a b
theorem okx_number {f : Addr} {fd : FuncData} {C : Addr} (F : Fun K "number" "number" s_number f fd) (c_check_integer : Cl P w K mg base 2 "check_integer" ["told"] (spP K Scheck_integer)) (T : ExK P w K mg base "DividedByZero" C) : FnOk P w K mg base (L2.CX P w) 3 f fd ["a", "b", "n"] (spR K C Sx_number) := by
  refine fn_raise F sc_number (fun ds d h => ?_) (fun cdv A outer s H Q E ds d hr hS hQ => ?_)
  · obtain ⟨a, b, rfl, _⟩ := h
    rfl
  · obtain ⟨a, b, rfl, rfl⟩ := hS
    refine (as_drop (ev_as (ev_callF R_check_integer c_check_integer (hr.mono (by decide)) (ea_cons (nm 0 rfl) ea_nil) ⟨_, rfl, rfl⟩ (.inl rfl)) rfl)
      (as_drop (ev_as (ev_callF R_check_integer c_check_integer (hr.mono (by decide)) (ea_cons (nm 1 rfl) ea_nil) ⟨_, rfl, rfl⟩ (.inl rfl)) rfl)
      (as_drop (ev_as (ev_callF R_check_integer c_check_integer (hr.mono (by decide)) (ea_cons (nm 2 rfl) ea_nil) ⟨_, rfl, rfl⟩ (.inl rfl)) rfl)
      (as_ifn (et_eqI (nm 2 rfl) ev_int) (fun _ => as_raise rfl (takes_of rfl rfl rfl rfl) T (hr.mono (by decide)) (ev_tup (ea_cons (nm 0 rfl) (ea_cons (nm 1 rfl) ea_nil)) (Nat.le_of_ble_eq_true rfl)) hQ) (fun hb => absurd hb (by decide))))))
def Sx_by (ds : List Dat) (d : Dat) : Prop := ∃ k a b n : Int, ds = [.int k, nD a b n, nD 0 0 1] ∧ Kd k ∧ Nm a b n ∧ d = nD a b n
theorem okx_by {f : Addr} {fd : FuncData} {C : Addr} (F : Fun K "by" "by" s_by f fd) (c_check_kind : Cl P w K mg base 3 "check_kind" ["kind"] (spP K Scheck_kind)) (c_check_number : Cl P w K mg base 3 "check_number" ["told"] (spP K Scheck_number)) (T : ExK P w K mg base "DividedByZero" C) : FnOk P w K mg base (L2.CX P w) 4 f fd ["kind", "p", "q"] (spR K C Sx_by) := by
  refine fn_raise F sc_by (fun ds d h => ?_) (fun cdv A outer s H Q E ds d hr hS hQ => ?_)
  · obtain ⟨k, a, b, n, rfl, _⟩ := h
    rfl
  · obtain ⟨k, a, b, n, rfl, hk, hn, rfl⟩ := hS
    refine (as_drop (ev_as (ev_callF R_check_kind c_check_kind (hr.mono (by decide)) (ea_cons (nm 0 rfl) ea_nil) ⟨_, rfl, hk, rfl⟩ (.inl rfl)) rfl)
      (as_drop (ev_as (ev_callF R_check_number c_check_number (hr.mono (by decide)) (ea_cons (nm 1 rfl) ea_nil) ⟨_, _, _, rfl, hn, rfl⟩ (.inl rfl)) rfl)
      (as_drop (ev_as (ev_callF R_check_number c_check_number (hr.mono (by decide)) (ea_cons (nm 2 rfl) ea_nil) ⟨0, 0, 1, rfl, nm_one1, rfl⟩ (.inl rfl)) rfl)
      (as_ifn (et_eqD hr.units (nm 2 rfl) (ev_tup (ea_cons ev_int (ea_cons ev_int (ea_cons ev_int ea_nil))) (Nat.le_of_ble_eq_true rfl)) rfl rfl rfl rfl rfl) (fun _ => as_raise rfl (takes_of rfl rfl rfl rfl) T (hr.mono (by decide)) (nm 1 rfl) hQ) (fun hb => absurd hb (by decide))))))
/-! ### _law_divided -/
abbrev s__law_divided : Stmt := topS 45
theorem sc__law_divided : FnScope ["field", "door", "u", "named", "answer", "e"] ["field", "door", "u", "named"] (defScope s__law_divided) := ⟨rfl, rfl, rfl, by decide +kernel, rfl, by decide +kernel, by decide +kernel⟩
def dvD (door a b n : Int) : Dat := if door = 0 then pD a b else nD a b n
def S_law_divided (ds as : List Dat) : Prop := ∃ (k door a b n : Int) (nmd : Bool), ds = [.int k, .int door, nD a b n, .bl nmd] ∧ Kd k ∧ Nm a b n ∧ as = [.str "zero", dvD door a b n]
def R__law_divided : List Dat → List Dat
  | [_, .int door, .tup [.int a, .int b, .int n], _] => [.str "zero", dvD door a b n]
  | _ => []
theorem ok__law_divided {f : Addr} {fd : FuncData} {C : Addr} (F : Fun K "_law_divided" "_law_divided" s__law_divided f fd) (T : ExK P w K mg base "DividedByZero" C)
    (r_number : ClR P w K mg base 3 "number" ["a", "b", "n"] (spR K C Sx_number)) (r_by : ClR P w K mg base 4 "by" ["kind", "p", "q"] (spR K C Sx_by))
    (rk_number : ClRK P w K mg base 3 "number" ["a", "b", "n"] ["n", "b", "a"] [2, 1, 0] (spR K C Sx_number)) (rk_by : ClRK P w K mg base 4 "by" ["kind", "p", "q"] ["q", "p", "kind"] [2, 1, 0] (spR K C Sx_by)) : FnOk P w K mg base CX0 5 f fd ["field", "door", "u", "named"] (spN K S_law_divided) := by
  refine fn_new F sc__law_divided (fun ds d h => ?_) (fun cdv A outer s H Q E ds d hr hS hQ => ?_)
  · obtain ⟨k, door, a, b, n, nmd, rfl, _⟩ := h
    rfl
  · obtain ⟨k, door, a, b, n, nmd, rfl, hk, hn, rfl⟩ := hS
    refine as_asg (i := 4) sc__law_divided.nd (ev_lst (ea_cons ev_str (ea_cons ev_non ea_nil)) (Nat.le_of_ble_eq_true rfl)) (fun st H1 S _ e0 => ?_)
    refine wb_cons (ws_try_fst (i := 5) sc__law_divided.nd ⟨rfl, by decide, .inl T.gC⟩ (fun pn xe tk po => ?_))
    have l6 : st.length = 6 := S.1
    -- behind the suite
    have fin : ∀ (H' : Hp) (v : V) (z : Addr), Ex H1 H' → DT K none H' v (dvD door a b n) → ∀ p, H' p = none →
        WB (cxOf CX0 P w K mg base ["field", "door", "u", "named", "answer", "e"] "_law_divided" (defScope s__law_divided) f cdv A outer s H E).nox [(defBody s__law_divided).getD 2 (.Pass ⟨0, 0, 0, 0⟩)] { nx := fun _ H' => Q .non H', rt := Q }
          (((st.set 5 (some (.ref z))).set 4 (some (.ref p))).set 5 none) (upd H' p (.lst [.str "zero", v])) := by
      intro H' v z ex hv p np
      have ex2 : Ex H (upd H' p (.lst [.str "zero", v])) := (e0.ex.trans ex).trans (Ex.new np)
      have hp0 : H p = none := by
        cases hq : H p with
        | none => rfl
        | some u =>
          have := (e0.ex.trans ex) p u hq
          rw [np] at this
          cases this
      have dt : DTs K none (upd H' p (.lst [.str "zero", v])) [.str "zero", v] [.str "zero", dvD door a b n] := DTs.cons (.str _) (DTs.cons (DT.kp (o := none) (k := (0, 0)) (Kp.of_ex (Ex.new np)) trivial hv) DTs.nil)
      refine (as_ret (o := none) (k := (0, 0)) (H0 := upd H' p (.lst [.str "zero", v])) (ds := [none, none, none, none, some (.raw (.ref p)), none]) (nm 4 rfl) (fun v' H2 e2 _ hv' => ?_)) _ _ ⟨by rw [List.length_set, List.length_set, List.length_set, l6]; rfl, fun i d he => ?_⟩ trivial (Kp.refl _ _)
      · cases hv'
        exact hQ p H2 [.str "zero", v] hp0 (ex2.trans e2.ex) (e2.ex p _ upd_same) (dt.kp (k := (0, 0)) e2 trivial)
      · match i, he with
        | 0, he => cases he
        | 1, he => cases he
        | 2, he => cases he
        | 3, he => cases he
        | 4, he =>
          cases he
          refine ⟨.ref p, ?_, .raw _⟩
          rw [List.getElem?_set_ne (by decide), List.getElem?_set_self (by rw [List.length_set, l6]; decide)]
        | 5, he => cases he
    have hu : ∀ {H2 : Hp}, Ex H1 H2 → Sat K none st H2 [some (.int k), some (.int door), some (nD a b n), some (.bl nmd), some (.lst [.str "", .non]), none] := fun e2 => S.kp (k := (0, 0)) (Kp.of_ex e2) trivial
    refine wb_cons (wss (ps_if pt_w pss_w pss_w) ?_)
    refine et_eqI (X := (cxOf CX0 P w K mg base ["field", "door", "u", "named", "answer", "e"] "_law_divided" (defScope s__law_divided) f cdv A outer s H E).nox.tr pn xe) (o := none) (k := (0, 0)) (nm 1 rfl) ev_int st H1 _ (hu (Ex.refl _)) trivial (fun H2 e2 _ => ?_)
    by_cases h0 : door = 0
    · rw [decide_eq_true h0, if_pos rfl]
      have dv : dvD door a b n = pD a b := if_pos h0
      refine wb_cons (wss (ps_set (i := 4) sc__law_divided.nd rfl (.inl rfl) (pe_lst (pa_cons pe_str (pa_cons (pe_ifExp pt_w pe_w pe_w) pa_nil)))) ?_)
      refine et_go (o := none) (k := (0, 0)) (k1 := (0, 0)) (hu e2.ex) trivial (et_val (nm 3 rfl)) (fun H3 e3 _ => ?_)
      cases nmd with
      | true =>
        rw [if_pos rfl]
        exact we_callRK (k0 := (0, 0)) rk_number (hr.mono (by decide)) tk (ek_cons ev_int (ek_cons (ev_ixT (j := 1) (nm 2 rfl) ev_int rfl rfl) (ek_cons (ev_ixT (j := 0) (nm 2 rfl) ev_int rfl rfl) ek_nil))) ⟨a, b, rfl, rfl⟩ (hu (e2.ex.trans e3.ex)) (fun dx H' v ex hx hv => ⟨T.te, fun z hz => caughtS (ia := 4) (i := 5) sc__law_divided.nd T.xf T.no (by rw [List.getElem?_set_self (by rw [l6]; decide)]) hx (fun p np => by
          exact fin H' v z ((e2.ex.trans e3.ex).trans ex) (by rw [dv]; exact hv) p np)⟩)
      | false =>
        rw [if_neg Bool.false_ne_true]
        exact we_callR (k0 := (0, 0)) r_number (hr.mono (by decide)) tk (ea_cons (ev_ixT (j := 0) (nm 2 rfl) ev_int rfl rfl) (ea_cons (ev_ixT (j := 1) (nm 2 rfl) ev_int rfl rfl) (ea_cons ev_int ea_nil))) ⟨a, b, rfl, rfl⟩ (hu (e2.ex.trans e3.ex)) (fun dx H' v ex hx hv => ⟨T.te, fun z hz => caughtS (ia := 4) (i := 5) sc__law_divided.nd T.xf T.no (by rw [List.getElem?_set_self (by rw [l6]; decide)]) hx (fun p np => by
          exact fin H' v z ((e2.ex.trans e3.ex).trans ex) (by rw [dv]; exact hv) p np)⟩)
    · rw [decide_eq_false h0, if_neg Bool.false_ne_true]
      have dv : dvD door a b n = nD a b n := if_neg h0
      refine wb_cons (wss (ps_set (i := 4) sc__law_divided.nd rfl (.inl rfl) (pe_lst (pa_cons pe_str (pa_cons (pe_ifExp pt_w pe_w pe_w) pa_nil)))) ?_)
      refine et_go (o := none) (k := (0, 0)) (k1 := (0, 0)) (hu e2.ex) trivial (et_val (nm 3 rfl)) (fun H3 e3 _ => ?_)
      cases nmd with
      | true =>
        rw [if_pos rfl]
        exact we_callRK (k0 := (0, 0)) rk_by (hr.mono (by decide)) tk (ek_cons (ev_tup (ea_cons ev_int (ea_cons ev_int (ea_cons ev_int ea_nil))) (Nat.le_of_ble_eq_true rfl)) (ek_cons (nm 2 rfl) (ek_cons (nm 0 rfl) ek_nil))) ⟨k, a, b, n, rfl, hk, hn, rfl⟩ (hu (e2.ex.trans e3.ex)) (fun dx H' v ex hx hv => ⟨T.te, fun z hz => caughtS (ia := 4) (i := 5) sc__law_divided.nd T.xf T.no (by rw [List.getElem?_set_self (by rw [l6]; decide)]) hx (fun p np => by
          exact fin H' v z ((e2.ex.trans e3.ex).trans ex) (by rw [dv]; exact hv) p np)⟩)
      | false =>
        rw [if_neg Bool.false_ne_true]
        exact we_callR (k0 := (0, 0)) r_by (hr.mono (by decide)) tk (ea_cons (nm 0 rfl) (ea_cons (nm 2 rfl) (ea_cons (ev_tup (ea_cons ev_int (ea_cons ev_int (ea_cons ev_int ea_nil))) (Nat.le_of_ble_eq_true rfl)) ea_nil))) ⟨k, a, b, n, rfl, hk, hn, rfl⟩ (hu (e2.ex.trans e3.ex)) (fun dx H' v ex hx hv => ⟨T.te, fun z hz => caughtS (ia := 4) (i := 5) sc__law_divided.nd T.xf T.no (by rw [List.getElem?_set_self (by rw [l6]; decide)]) hx (fun p np => by
          exact fin H' v z ((e2.ex.trans e3.ex).trans ex) (by rw [dv]; exact hv) p np)⟩)
end
end Wk
set_option Elab.async false
set_option linter.all false
set_option maxRecDepth 100000
set_option maxHeartbeats 4000000
namespace Wk
open PySem PySem.Spec PyProof.Rows L2 Evl Wf
def shB : Nat → Dat → Bool
  | 0, d => flatD d
  | n + 1, .tup xs => Nat.ble xs.length 1000 && xs.all (shB n)
  | n + 1, .lst xs => Nat.ble xs.length 1000 && xs.all (shB n)
  | _ + 1, d => flatD d
theorem sh_of : ∀ {n : Nat} {d : Dat}, shB n d = true → Sh n d
  | 0, d, h => h
  | n + 1, d, h => by
    have key : ∀ xs : List Dat, (Nat.ble xs.length 1000 && xs.all (shB n)) = true → xs.length ≤ 1000 ∧ ∀ (i : Nat) (e : Dat), xs[i]? = some e → Sh n e := by
      intro xs h
      rw [Bool.and_eq_true] at h
      exact ⟨Nat.le_of_ble_eq_true h.1, fun i e he => sh_of (List.all_eq_true.mp h.2 e (List.mem_of_getElem? he))⟩
    cases d with
    | tup xs => exact .inr ⟨xs, .inl rfl, key xs h⟩
    | lst xs => exact .inr ⟨xs, .inr rfl, key xs h⟩
    | non => exact .inl h
    | bl x => exact .inl h
    | int x => exact .inl h
    | str x => exact .inl h
    | trk xs => exact .inl h
    | raw v => exact .inl h
theorem same_of {f : Dat} (h : shB 3 f = true) : Ssame 3 [f, f] (R__law_same [f, f]) := ⟨f, rfl, sh_of h, rfl⟩
theorem nm_00 {m : Int} (h : Nm 0 0 m) : m = 1 := by
  have h1 := h.pos
  have h2 := h.g
  unfold g3 at h2
  have e : (((0 : Int).natAbs.gcd (0 : Int).natAbs).gcd m.natAbs : Nat) = m.natAbs := by simp
  rw [e] at h2
  omega
theorem not001 {c e m : Int} (h : Nm c e m) (hb : PyData.eqv (pd (nD c e m)) (pd (nD 0 0 1)) = false) : ¬ (c = 0 ∧ e = 0) := by
  rintro ⟨rfl, rfl⟩
  have := nm_00 h
  subst this
  exact absurd hb (by decide)
theorem NS.n {m : Nat} {a b n : Int} (h : NS m (a, b, n)) (hl : m ≤ 2900) : N3 a b n := ⟨h.2.1.mono hl, h.2.2.1.mono hl, h.2.2.2.mono hl, h.1⟩
theorem two_no {r x : Bool} (h : x = true) (hr : r = false) : ¬ ((r || !x) = true) := by
  subst h hr
  decide
theorem by_l3 {k a b n c e m : Int} (hk : Kd k) (hu : NS 200 (a, b, n)) (hv : NS 200 (c, e, m)) (h0 : pnN k c e ≠ 0) :
    L3 (loA (byA k a b n c e m) (byB k a b n c e m) (byN k a b n c e m)) (loB (byA k a b n c e m) (byB k a b n c e m) (byN k a b n c e m)) (loN (byA k a b n c e m) (byB k a b n c e m) (byN k a b n c e m)) := by
  have hN : byN k a b n c e m ≠ 0 := mul_ne hu.1.ne h0
  have pm := pm_bd1 (k := k) hv.2.1 hv.2.2.1
  have pt := pt_bd1 hk hu.2.1 hu.2.2.1 pm.1 pm.2
  have pn := pn_bd1 hk hv.2.1 hv.2.2.1
  have q := lo_bd (m := 2900) hN ((pt.1.mul hv.2.2.2).mono (by decide)) ((pt.2.mul hv.2.2.2).mono (by decide)) ((hu.2.2.2.mul pn).mono (by decide))
  exact ⟨q.1, q.2.1, q.2.2, (lo_nm hN).ne⟩
section
variable {P : Program} {w : World} {K : PySem.W.Frag} {mg : Str → Option Value} {base : Heap}

theorem two_el {a b n : Int} {i : Nat} {d : Dat} (h : ([.int a, .int b, .int n] : List Dat)[i]? = some d) : ∃ z : Int, d = .int z := by
  match i, h with
  | 0, h => cases h; exact ⟨_, rfl⟩
  | 1, h => cases h; exact ⟨_, rfl⟩
  | 2, h => cases h; exact ⟨_, rfl⟩
/-! ### _law_two_right -/
abbrev s__law_two_right : Stmt := topS 47
theorem sc__law_two_right : FnScope ["field", "u", "v", "due", "share", "x"] ["field", "u", "v"] (defScope s__law_two_right) := ⟨rfl, rfl, rfl, by decide +kernel, rfl, by decide +kernel, by decide +kernel⟩
def R_law_two_right : List Dat → Dat
  | _ => .bl true
def S_law_two_right (ds : List Dat) (d : Dat) : Prop := ∃ k a b n c e m : Int, ds = [.int k, nD a b n, nD c e m] ∧ Kd k ∧ NS 200 (a, b, n) ∧ NS 200 (c, e, m) ∧ d = .bl true
theorem ok__law_two_right {f : Addr} {fd : FuncData} (F : Fun K "_law_two_right" "_law_two_right" s__law_two_right f fd) (c__law_same : Cl P w K mg base 4 "_law_same" ["found", "due"] (spP K (Ssame 3))) (c__law_plus : Cl P w K mg base 3 "_law_plus" ["u", "v"] (spP K S_law_plus)) (c_plus : Cl P w K mg base 4 "plus" ["p", "q"] (spP K Splus)) (c__law_minus : Cl P w K mg base 3 "_law_minus" ["u", "v"] (spP K S_law_minus)) (c_minus : Cl P w K mg base 4 "minus" ["p", "q"] (spP K Sminus)) (c__law_times : Cl P w K mg base 3 "_law_times" ["field", "u", "v"] (spP K S_law_times)) (c_times : Cl P w K mg base 4 "times" ["kind", "p", "q"] (spP K Stimes)) (c_by : Cl P w K mg base 4 "by" ["kind", "p", "q"] (spP K Sby)) (c__law_is : Cl P w K mg base 2 "_law_is" ["triple"] (spP K S_law_is)) (ck_plus : ClK P w K mg base 4 "plus" ["p", "q"] ["q", "p"] [1, 0] (spP K Splus)) (ck_minus : ClK P w K mg base 4 "minus" ["p", "q"] ["q", "p"] [1, 0] (spP K Sminus)) (ck_times : ClK P w K mg base 4 "times" ["kind", "p", "q"] ["q", "p", "kind"] [2, 1, 0] (spP K Stimes)) (ck_by : ClK P w K mg base 4 "by" ["kind", "p", "q"] ["q", "p", "kind"] [2, 1, 0] (spP K Sby)) (m_isinstance : mg "isinstance" = none) (m_int : mg "int" = none) (m_bool : mg "bool" = none) (m_tuple : mg "tuple" = none) (m_len : mg "len" = none) : FnOk P w K mg base CX0 5 f fd ["field", "u", "v"] (spP K S_law_two_right) := by
  refine fn_pure F sc__law_two_right (fun ds d h => ?_) (fun cdv A outer s H Q E ds d hr hS hQ => ?_)
  · obtain ⟨k, a, b, n, c, e, m, rfl, hk, hu, hv, rfl⟩ := h
    rfl
  · obtain ⟨k, a, b, n, c, e, m, rfl, hk, hu, hv, rfl⟩ := hS
    have nu := hu.n (by decide)
    have nv := hv.n (by decide)
    refine
  (as_ifn (et_not (x := true) (et_val (ev_as (ev_callF R__law_same c__law_same (hr.mono (by decide)) (ea_cons (ev_lst (ea_cons (ev_as (ev_callF R_plus c_plus (hr.mono (by decide)) (ea_cons (nm 1 rfl) (ea_cons (nm 2 rfl) ea_nil)) ?_ (.inl rfl)) rfl) (ea_cons (ev_as (ev_callKF R_plus ck_plus (hr.mono (by decide)) (ek_cons (nm 2 rfl) (ek_cons (nm 1 rfl) ek_nil)) ?_ (.inl rfl)) rfl) ea_nil)) (Nat.le_of_ble_eq_true rfl)) (ea_cons (ev_rep (n := 2) (ea_cons (ev_as (ev_callF R__law_plus c__law_plus (hr.mono (by decide)) (ea_cons (nm 1 rfl) (ea_cons (nm 2 rfl) ea_nil)) ?_ (.inl rfl)) rfl) ea_nil) ev_int (Nat.le_of_ble_eq_true rfl) (Nat.le_of_ble_eq_true rfl)) ea_nil)) (same_of rfl) (.inl rfl)) rfl))) (fun hb1 => absurd hb1 Bool.false_ne_true) (fun hb1 =>
  (as_ifn (et_not (x := true) (et_val (ev_as (ev_callF R__law_same c__law_same (hr.mono (by decide)) (ea_cons (ev_lst (ea_cons (ev_as (ev_callF R_minus c_minus (hr.mono (by decide)) (ea_cons (nm 1 rfl) (ea_cons (nm 2 rfl) ea_nil)) ?_ (.inl rfl)) rfl) (ea_cons (ev_as (ev_callKF R_minus ck_minus (hr.mono (by decide)) (ek_cons (nm 2 rfl) (ek_cons (nm 1 rfl) ek_nil)) ?_ (.inl rfl)) rfl) ea_nil)) (Nat.le_of_ble_eq_true rfl)) (ea_cons (ev_rep (n := 2) (ea_cons (ev_as (ev_callF R__law_minus c__law_minus (hr.mono (by decide)) (ea_cons (nm 1 rfl) (ea_cons (nm 2 rfl) ea_nil)) ?_ (.inl rfl)) rfl) ea_nil) ev_int (Nat.le_of_ble_eq_true rfl) (Nat.le_of_ble_eq_true rfl)) ea_nil)) (same_of rfl) (.inl rfl)) rfl))) (fun hb2 => absurd hb2 Bool.false_ne_true) (fun hb2 =>
  (as_asg (i := 3) sc__law_two_right.nd (ev_as (ev_callF R__law_times c__law_times (hr.mono (by decide)) (ea_cons (nm 0 rfl) (ea_cons (nm 1 rfl) (ea_cons (nm 2 rfl) ea_nil))) ?_ (.inl rfl)) rfl)
  (as_ifn (et_not (x := true) (et_val (ev_as (ev_callF R__law_same c__law_same (hr.mono (by decide)) (ea_cons (ev_lst (ea_cons (ev_as (ev_callF R_times c_times (hr.mono (by decide)) (ea_cons (nm 0 rfl) (ea_cons (nm 1 rfl) (ea_cons (nm 2 rfl) ea_nil))) ?_ (.inl rfl)) rfl) (ea_cons (ev_as (ev_callKF R_times ck_times (hr.mono (by decide)) (ek_cons (nm 2 rfl) (ek_cons (nm 1 rfl) (ek_cons (nm 0 rfl) ek_nil))) ?_ (.inl rfl)) rfl) ea_nil)) (Nat.le_of_ble_eq_true rfl)) (ea_cons (ev_lst (ea_cons (nm 3 rfl) (ea_cons (nm 3 rfl) ea_nil)) (Nat.le_of_ble_eq_true rfl)) ea_nil)) (same_of rfl) (.inl rfl)) rfl))) (fun hb3 => absurd hb3 Bool.false_ne_true) (fun hb3 =>
  (as_ifn (et_eqD hr.units (nm 2 rfl) (ev_tup (ea_cons ev_int (ea_cons ev_int (ea_cons ev_int ea_nil))) (Nat.le_of_ble_eq_true rfl)) rfl rfl rfl rfl rfl) (fun hb4 =>
    (as_rt ev_bl rfl rfl hQ)) (fun hb4 =>
  (as_asg (i := 4) sc__law_two_right.nd (ev_as (ev_callF R_by c_by (hr.mono (by decide)) (ea_cons (nm 0 rfl) (ea_cons (nm 1 rfl) (ea_cons (nm 2 rfl) ea_nil))) ?_ (.inl rfl)) rfl)
  (as_ifn (et_w (ew_or (et_not (x := true) (et_val (ev_as (ev_callF R__law_same c__law_same (hr.mono (by decide)) (ea_cons (ev_as (ev_callKF R_by ck_by (hr.mono (by decide)) (ek_cons (nm 2 rfl) (ek_cons (nm 1 rfl) (ek_cons (nm 0 rfl) ek_nil))) ?_ (.inl rfl)) rfl) (ea_cons (nm 4 rfl) ea_nil)) (same_of rfl) (.inl rfl)) rfl))) (fun _ => (ew_or (et_not (et_val (ev_isi (b := true) m_isinstance (by constructor) (ea_cons (nm 4 rfl) (ea_cons (ev_ty (T := "tuple") m_tuple (by decide +kernel)) ea_nil))))) (fun _ => (ew_or1 (et_neI (ev_lenT m_len (ea_cons (nm 4 rfl) ea_nil)) ev_int))) (fun _ => rfl))) (fun _ => rfl))) (fun hb5 => absurd hb5 Bool.false_ne_true) (fun hb5 =>
  (as_ifn (et_w (ew_or (et_neD hr.units (ev_as (ev_lcT (j := 5) (fun _ => false) (fun _ => .non) rfl sc__law_two_right.nd (nm 4 rfl) (Nat.le_of_ble_eq_true rfl) (blkOk_by (N := ["field", "u", "v", "due", "share", "x"]) (sc := defScope s__law_two_right) (by decide +kernel)) (fun _ _ _ _ _ => pg_name sc__law_two_right.nd rfl (Or.inl rfl))
      (fun _ _ _ _ _ i d hi => by obtain ⟨z, rfl⟩ := two_el hi; exact et_w (ew_or (et_not (x := true) (et_val (ev_isi (b := true) m_isinstance (by constructor) (ea_cons (nm 5 rfl) (ea_cons (ev_ty (T := "int") m_int (by decide +kernel)) ea_nil))))) (fun _ => ew_or1 (et_val (ev_isi (b := false) m_isinstance (by constructor) (ea_cons (nm 5 rfl) (ea_cons (ev_ty (T := "bool") m_bool (by decide +kernel)) ea_nil))))) (fun _ => rfl)))
      (fun _ _ _ _ _ i d hi hf => by cases hf) (fun _ => rfl)) (d1 := .lst []) (by rw [gv_none (fun _ _ => rfl)])) (ev_lst ea_nil (Nat.zero_le _)) rfl rfl rfl rfl rfl) (fun _ => (ew_or1 (et_not (et_val (ev_as (ev_callF R__law_is c__law_is (hr.mono (by decide)) (ea_cons (nm 4 rfl) ea_nil) ?_ (.inl rfl)) rfl))))) (fun _ => rfl))) (fun hb6 => absurd hb6 ?_) (fun hb6 =>
  (as_rt (ev_as (ev_callF R__law_same c__law_same (hr.mono (by decide)) (ea_cons (ev_as (ev_callF R__law_times c__law_times (hr.mono (by decide)) (ea_cons (nm 0 rfl) (ea_cons (nm 4 rfl) (ea_cons (nm 2 rfl) ea_nil))) ?_ (.inl rfl)) (d1 := nD a b n) ?_) (ea_cons (nm 1 rfl) ea_nil)) (same_of rfl) (.inl rfl)) rfl) ?_ rfl hQ)))))))))))))))
    all_goals try have h0 := pn_ne hk (not001 hv.1 hb4)
    all_goals first | exact ⟨_, _, _, _, _, _, rfl, nu, nv, rfl⟩ | exact ⟨_, _, _, _, _, _, _, rfl, hk, nu, nv, h0, rfl⟩ | exact ⟨_, _, _, _, _, _, rfl, nu.l, nv.l, rfl⟩ | exact ⟨_, _, _, _, _, _, _, rfl, hk, nu, nv, rfl⟩ | exact ⟨_, _, _, _, _, _, _, rfl, hk, nu.l, nv.l, rfl⟩ | rfl | skip
    · exact ⟨_, _, _, rfl, rfl⟩
    · exact two_no (lo_nm (mul_ne nu.2.2.2.ne h0)) rfl
    · exact ⟨_, _, _, _, _, _, _, rfl, hk, by_l3 hk hu hv h0, nv.l, rfl⟩
    · have q := by_times hk hu.1 hv.1 h0
      show nD _ _ _ = nD _ _ _
      rw [q.1, q.2.1, q.2.2]

end
end Wk
set_option Elab.async false
set_option linter.all false
set_option maxRecDepth 100000
set_option maxHeartbeats 4000000
namespace Wk
open PySem PySem.Spec PyProof.Rows L2 Evl Wf
def oneL (k : Int × Int) : List Int := [tkV k 9 - 4, tkV (tkK k 9) TG - 10 ^ (8 : Int).toNat]
def oneM (k : Int × Int) : Int := (oneL k).getD (tkV (tkK (tkK k 9) TG) 2).toNat 0
def oneK (k : Int × Int) : Int × Int := tkK (tkK (tkK k 9) TG) 2
def rT (k : Int × Int) : T3 := (triF (tkK k 3)).1
def rK2 (k : Int × Int) : Int × Int := (triF (tkK k 3)).2
def rK3 (k : Int × Int) : Int × Int := tkK (rK2 k) 2
def rU (k : Int × Int) : T3 := (wideF (rK3 k)).1
def rK4 (k : Int × Int) : Int × Int := (wideF (rK3 k)).2
def rV (k : Int × Int) : T3 := (wideF (rK4 k)).1
def rK5 (k : Int × Int) : Int × Int := (wideF (rK4 k)).2
def rKd (k : Int × Int) : Int := [2, 3, 5].getD (tkV k 3).toNat 0
theorem rKd_ok (k : Int × Int) : Kd (rKd k) := by
  have h := tkV_ok (k := k) (m := 3) (by decide)
  unfold rKd Kd
  have : tkV k 3 = 0 ∨ tkV k 3 = 1 ∨ tkV k 3 = 2 := by omega
  rcases this with e | e | e <;> rw [e] <;> simp
theorem oneM_ok (k : Int × Int) : B40 (oneM k) := by
  have a := tkV_ok (k := k) (m := 9) (by decide)
  have b := tkV_ok (k := tkK k 9) (m := TG) (by decide)
  have e := TG_is
  unfold oneM
  refine getD_all (p := B40) (fun x hx => ?_) (by unfold B40; decide) _
  unfold oneL at hx
  simp only [List.mem_cons, List.not_mem_nil, or_false] at hx
  have e8 : (10 : Int) ^ (8 : Int).toNat = 100000000 := by decide
  rw [e8] at hx
  unfold B40
  rcases hx with rfl | rfl <;> omega
theorem loB_0 (a n : Int) : loB a 0 n = 0 := by unfold loB; exact Int.zero_fdiv _
section
variable {P : Program} {w : World} {K : PySem.W.Frag} {mg : Str → Option Value} {base : Heap}
local macro_rules | `(tactic| walk_at "dk") => `(tactic| (repeat (first | assumption | apply tkK_ok)))

/-! ### _law_one_right -/
abbrev s__law_one_right : Stmt := topS 48
theorem sc__law_one_right : FnScope ["deck", "field", "u", "due", "many"] ["deck", "field", "u"] (defScope s__law_one_right) := ⟨rfl, rfl, rfl, by decide +kernel, rfl, by decide +kernel, by decide +kernel⟩
def S_law_one_right (ds : List Dat) (k : Int × Int) (d : Dat) (k' : Int × Int) : Prop := ∃ kk a b n : Int, ds = [.int kk, nD a b n] ∧ Kd kk ∧ NS 200 (a, b, n) ∧ Dk k ∧ d = .bl true ∧ k' = oneK k
theorem ok__law_one_right {f : Addr} {fd : FuncData} (F : Fun K "_law_one_right" "_law_one_right" s__law_one_right f fd) (c__law_mate : Cl P w K mg base 3 "_law_mate" ["field", "u"] (spP K S_law_mate)) (c__law_same : Cl P w K mg base 4 "_law_same" ["found", "due"] (spP K (Ssame 3))) (c_mate : Cl P w K mg base 4 "mate" ["kind", "p"] (spP K Smate)) (c__law_times : Cl P w K mg base 3 "_law_times" ["field", "u", "v"] (spP K S_law_times)) (c_norm : Cl P w K mg base 4 "norm" ["kind", "p"] (spP K Snorm)) (c__law_take : Cl P w K mg base 1 "_law_take" ["deck", "many"] (spD K S_law_take)) (c__law_num : Cl P w K mg base 2 "_law_num" ["x", "y", "m"] (spP K S_law_num)) (c_scaled : Cl P w K mg base 4 "scaled" ["p", "k"] (spP K Sscaled)) (ck_mate : ClK P w K mg base 4 "mate" ["kind", "p"] ["p", "kind"] [1, 0] (spP K Smate)) (ck_norm : ClK P w K mg base 4 "norm" ["kind", "p"] ["p", "kind"] [1, 0] (spP K Snorm)) (ck_scaled : ClK P w K mg base 4 "scaled" ["p", "k"] ["k", "p"] [1, 0] (spP K Sscaled)) : FnOk P w K mg base CX0 5 f fd ["deck", "field", "u"] (spD K S_law_one_right) := by
  refine fn_deck F sc__law_one_right (fun ds k d k' h => ?_) (fun cdv A outer s H Q E pa ds k d k' hr hS hQ => ?_)
  · obtain ⟨kk, a, b, n, rfl, hk, hu, hd, rfl, rfl⟩ := h
    rfl
  · obtain ⟨kk, a, b, n, rfl, hk, hu, hd, rfl, rfl⟩ := hS
    have nu := hu.n (by decide)
    have hm := mate_nm (k := kk) hu.1
    have pm := pm_bd1 (k := kk) hu.2.1 hu.2.2.1
    have bm : L3 (pmA kk a b) (pmB kk a b) n := ⟨pm.1.mono (by decide), pm.2.mono (by decide), nu.2.2.1, nu.2.2.2.ne⟩
    have ob := (oneM_ok k).bd
    refine
  (as_asg (i := 3) sc__law_one_right.nd (ev_as (ev_callF R__law_mate c__law_mate (hr.mono (by decide)) (ea_cons (nm 1 rfl) (ea_cons (nm 2 rfl) ea_nil)) ?_ (.inr (NoL.of rfl))) (d1 := nD (pmA kk a b) (pmB kk a b) n) ?_)
  (as_ifn (et_not (x := true) (et_val (ev_as (ev_callF R__law_same c__law_same (hr.mono (by decide)) (ea_cons (ev_lst (ea_cons (ev_as (ev_callF R_mate c_mate (hr.mono (by decide)) (ea_cons (nm 1 rfl) (ea_cons (nm 2 rfl) ea_nil)) ?_ (.inr (NoL.of rfl))) rfl) (ea_cons (ev_as (ev_callKF R_mate ck_mate (hr.mono (by decide)) (ek_cons (nm 2 rfl) (ek_cons (nm 1 rfl) ek_nil)) ?_ (.inr (NoL.of rfl))) rfl) ea_nil)) (Nat.le_of_ble_eq_true rfl)) (ea_cons (ev_lst (ea_cons (nm 3 rfl) (ea_cons (nm 3 rfl) ea_nil)) (Nat.le_of_ble_eq_true rfl)) ea_nil)) (same_of rfl) (.inr (NoL.of rfl))) rfl))) (fun hb1 => absurd hb1 Bool.false_ne_true) (fun hb1 =>
  (as_asg (i := 3) sc__law_one_right.nd (ev_as (ev_callF R__law_times c__law_times (hr.mono (by decide)) (ea_cons (nm 1 rfl) (ea_cons (nm 2 rfl) (ea_cons (nm 3 rfl) ea_nil))) ?_ (.inr (NoL.of rfl))) (d1 := loD (pnN kk a b) 0 (n * n)) ?_)
  (as_ifn (et_w (ew_or (et_neI (ev_as (ev_ixT (j := 1) (nm 3 rfl) ev_int rfl rfl) (d1 := .int 0) ?_) ev_int) (fun _ => (ew_or1 (et_not (x := true) (et_val (ev_as (ev_callF R__law_same c__law_same (hr.mono (by decide)) (ea_cons (ev_lst (ea_cons (ev_as (ev_callF R_norm c_norm (hr.mono (by decide)) (ea_cons (nm 1 rfl) (ea_cons (nm 2 rfl) ea_nil)) ?_ (.inr (NoL.of rfl))) rfl) (ea_cons (ev_as (ev_callKF R_norm ck_norm (hr.mono (by decide)) (ek_cons (nm 2 rfl) (ek_cons (nm 1 rfl) ek_nil)) ?_ (.inr (NoL.of rfl))) rfl) ea_nil)) (Nat.le_of_ble_eq_true rfl)) (ea_cons (ev_lst (ea_cons (nm 3 rfl) (ea_cons (nm 3 rfl) ea_nil)) (Nat.le_of_ble_eq_true rfl)) ea_nil)) (same_of rfl) (.inr (NoL.of rfl))) rfl))))) (fun _ => rfl))) (fun hb2 => absurd hb2 Bool.false_ne_true) (fun hb2 =>
  (as_asg (i := 4) sc__law_one_right.nd (ev_ixV Dat.int (oneL k) 0 (ev_lst (ea_cons (ev_sub (ev_as (ev_callDF R__law_take c__law_take (hr.mono (by decide)) (ea_cons (nm 0 rfl) (ea_cons ev_int ea_nil)) ?_) rfl) ev_int) (ea_cons (ev_sub (ev_as (ev_callDF R__law_take c__law_take (hr.mono (by decide)) (ea_cons (nm 0 rfl) (ea_cons (ev_pow ev_int ev_int ?_) ea_nil)) ?_) rfl) (ev_pow ev_int ev_int ?_)) ea_nil)) (Nat.le_of_ble_eq_true rfl)) (ev_as (ev_callDF R__law_take c__law_take (hr.mono (by decide)) (ea_cons (nm 0 rfl) (ea_cons ev_int ea_nil)) ?_) rfl) ?_)
  (as_asg (i := 3) sc__law_one_right.nd (ev_as (ev_callF R__law_num c__law_num (hr.mono (by decide)) (ea_cons (ev_mul (ev_ixT (j := 0) (nm 2 rfl) ev_int rfl rfl) (nm 4 rfl) ?_) (ea_cons (ev_mul (ev_ixT (j := 1) (nm 2 rfl) ev_int rfl rfl) (nm 4 rfl) ?_) (ea_cons (ev_ixT (j := 2) (nm 2 rfl) ev_int rfl rfl) ea_nil))) ?_ (.inr (NoL.of rfl))) rfl)
  (as_rt (ev_as (ev_callF R__law_same c__law_same (hr.mono (by decide)) (ea_cons (ev_lst (ea_cons (ev_as (ev_callF R_scaled c_scaled (hr.mono (by decide)) (ea_cons (nm 2 rfl) (ea_cons (nm 4 rfl) ea_nil)) ?_ (.inr (NoL.of rfl))) rfl) (ea_cons (ev_as (ev_callKF R_scaled ck_scaled (hr.mono (by decide)) (ek_cons (nm 4 rfl) (ek_cons (nm 2 rfl) ek_nil)) ?_ (.inr (NoL.of rfl))) rfl) ea_nil)) (Nat.le_of_ble_eq_true rfl)) (ea_cons (ev_lst (ea_cons (nm 3 rfl) (ea_cons (nm 3 rfl) ea_nil)) (Nat.le_of_ble_eq_true rfl)) ea_nil)) (same_of rfl) (.inr (NoL.of rfl))) rfl) rfl rfl hQ)))))))))
    all_goals first | exact tk (by decide) (Bd.lit 900 (by decide)) (by walk_at "dk") | exact ⟨_, _, _, _, rfl, hk, nu, rfl⟩ | exact ⟨_, _, _, _, rfl, hk, nu.l, rfl⟩ | exact ⟨_, _, _, _, rfl, nu, ob.mono (by decide), rfl⟩ | exact ⟨_, _, _, _, _, _, _, rfl, hk, nu.l, bm, rfl⟩ | exact ⟨by decide, by decide, by decide⟩ | skip
    · show nD _ _ _ = nD _ _ _
      rw [(lo_self hm).1, (lo_self hm).2.1, (lo_self hm).2.2]
    · show nD _ _ _ = nD _ _ _
      rw [(norm_is kk a b).1, (norm_is kk a b).2]
    · show Dat.int _ = _
      rw [loB_0]
    · have := tkV_ok (k := tkK (tkK k 9) TG) (m := 2) (by decide)
      exact ⟨this.1, this.2⟩
    · exact cm hu.2.1 ob (by decide)
    · exact cm hu.2.2.1 ob (by decide)
    · exact ⟨_, _, _, rfl, nu.2.2.2.ne, hu.2.2.2.mono (by decide), rfl⟩

end
end Wk
set_option Elab.async false
set_option linter.all false
set_option maxRecDepth 100000
set_option maxHeartbeats 8000000
namespace Wk
open PySem PySem.Spec PyProof.Rows L2 Evl Wf
def R__law_two_right : List Dat → Dat
  | _ => .bl true
def R__law_one_right : List Dat → Int × Int → Dat × (Int × Int)
  | _, k => (.bl true, oneK k)
def R__law_right : List Dat → Int × Int → Dat × (Int × Int)
  | _, k => (.bl true, oneK (rK5 k))
theorem ne_of_b {x : Int} (h : (!decide (x = 0)) = true) : x ≠ 0 := fun z => by
  rw [decide_eq_true z] at h
  cases h
section
variable {P : Program} {w : World} {K : PySem.W.Frag} {mg : Str → Option Value} {base : Heap}
local macro_rules | `(tactic| walk_at "dk") => `(tactic| (repeat (first | assumption | apply tkK_ok)))

/-! ### _law_right -/
abbrev s__law_right : Stmt := topS 49
theorem sc__law_right : FnScope ["deck", "field", "triple", "named", "due", "found", "u", "v"] ["deck"] (defScope s__law_right) := ⟨rfl, rfl, rfl, by decide +kernel, rfl, by decide +kernel, by decide +kernel⟩
def S_law_right (ds : List Dat) (k : Int × Int) (d : Dat) (k' : Int × Int) : Prop := ds = [] ∧ Dk k ∧ d = .bl true ∧ k' = oneK (rK5 k)
theorem ok__law_right {f : Addr} {fd : FuncData} (F : Fun K "_law_right" "_law_right" s__law_right f fd) (c__law_take : Cl P w K mg base 1 "_law_take" ["deck", "many"] (spD K S_law_take)) (c__law_triple : Cl P w K mg base 5 "_law_triple" ["deck"] (spD K S_law_triple)) (c__law_same : Cl P w K mg base 4 "_law_same" ["found", "due"] (spP K (Ssame 3))) (c__law_is : Cl P w K mg base 2 "_law_is" ["triple"] (spP K S_law_is)) (c_is_number : Cl P w K mg base 2 "is_number" ["told"] (spP K Sis_number)) (c__law_wide : Cl P w K mg base 4 "_law_wide" ["deck"] (spD K S_law_wide)) (c__law_divided : Cl P w K mg base 5 "_law_divided" ["field", "door", "u", "named"] (spN K S_law_divided)) (c__law_two_right : Cl P w K mg base 5 "_law_two_right" ["field", "u", "v"] (spP K S_law_two_right)) (c__law_one_right : Cl P w K mg base 5 "_law_one_right" ["deck", "field", "u"] (spD K S_law_one_right)) (c__law_num : Cl P w K mg base 2 "_law_num" ["x", "y", "m"] (spP K S_law_num)) (c_number : Cl P w K mg base 3 "number" ["a", "b", "n"] (spP K Snumber)) (ck_is_number : ClK P w K mg base 2 "is_number" ["told"] ["told"] [0] (spP K Sis_number)) (ck_number : ClK P w K mg base 3 "number" ["a", "b", "n"] ["n", "b", "a"] [2, 1, 0] (spP K Snumber)) : FnOk P w K mg base CX0 6 f fd ["deck"] (spD K S_law_right) := by
  refine fn_deck F sc__law_right (fun ds k d k' h => ?_) (fun cdv A outer s H Q E pa ds k d k' hr hS hQ => ?_)
  · obtain ⟨rfl, hd, rfl, rfl⟩ := h
    rfl
  · obtain ⟨rfl, hd, rfl, rfl⟩ := hS
    have hk := rKd_ok k
    have hd1 : Dk (tkK k 3) := tkK_ok hd
    obtain ⟨t1, t2, t3, hd2⟩ := triF_ok hd1
    have hd3 : Dk (rK3 k) := tkK_ok hd2
    obtain ⟨hu, hd4⟩ := wideF_ok hd3
    obtain ⟨hv, hd5⟩ := wideF_ok hd4
    have tail : ∀ d4 d5 : Option Dat, AS (cxOf CX0 P w K mg base ["deck", "field", "triple", "named", "due", "found", "u", "v"] "_law_right" (defScope s__law_right) f cdv A outer s H E).nox (some pa) ((defBody s__law_right).drop 3) { nx := fun _ H' => Q .non H', rt := Q }
        [some (.raw (.ref pa)), some (.int (rKd k)), some (tD (rT k)), some (.bl (decide (tkV (rK2 k) 2 = 1))), d4, d5, none, none] (rK3 k) H := by
      intro d4 d5
      refine
  (as_par (i := 6) (j := 7) sc__law_right.nd rfl (ea_cons (ev_as (ev_callDF R__law_wide c__law_wide (hr.mono (by decide)) (ea_cons (nm 0 rfl) ea_nil) ?_) rfl) (ea_cons (ev_as (ev_callDF R__law_wide c__law_wide (hr.mono (by decide)) (ea_cons (nm 0 rfl) ea_nil) ?_) rfl) ea_nil))
  (as_ifn (et_not (x := true) (et_val (ev_as (ev_callF R__law_same c__law_same (hr.mono (by decide)) (ea_cons (ev_callN R__law_divided c__law_divided (hr.mono (by decide)) (ea_cons (nm 1 rfl) (ea_cons ev_int (ea_cons (nm 6 rfl) (ea_cons (nm 3 rfl) ea_nil)))) ?_ rfl) (ea_cons (ev_lst (ea_cons ev_str (ea_cons (ev_tup (ea_cons (ev_ixT (j := 0) (nm 6 rfl) ev_int rfl rfl) (ea_cons (ev_ixT (j := 1) (nm 6 rfl) ev_int rfl rfl) ea_nil)) (Nat.le_of_ble_eq_true rfl)) ea_nil)) (Nat.le_of_ble_eq_true rfl)) ea_nil)) (same_of rfl) (.inr (NoL.of rfl))) rfl))) (fun hb6 => absurd hb6 Bool.false_ne_true) (fun hb6 =>
  (as_ifn (et_not (x := true) (et_val (ev_as (ev_callF R__law_same c__law_same (hr.mono (by decide)) (ea_cons (ev_callN R__law_divided c__law_divided (hr.mono (by decide)) (ea_cons (nm 1 rfl) (ea_cons ev_int (ea_cons (nm 6 rfl) (ea_cons (nm 3 rfl) ea_nil)))) ?_ rfl) (ea_cons (ev_lst (ea_cons ev_str (ea_cons (nm 6 rfl) ea_nil)) (Nat.le_of_ble_eq_true rfl)) ea_nil)) (same_of rfl) (.inr (NoL.of rfl))) rfl))) (fun hb7 => absurd hb7 Bool.false_ne_true) (fun hb7 =>
  (as_rt (ev_and (ev_as (ev_callF R__law_two_right c__law_two_right (hr.mono (by decide)) (ea_cons (nm 1 rfl) (ea_cons (nm 6 rfl) (ea_cons (nm 7 rfl) ea_nil))) ?_ (.inr (NoL.of rfl))) rfl) (fun _ => (ev_and (ev_as (ev_callF R__law_two_right c__law_two_right (hr.mono (by decide)) (ea_cons (nm 1 rfl) (ea_cons (nm 7 rfl) (ea_cons (nm 6 rfl) ea_nil))) ?_ (.inr (NoL.of rfl))) rfl) (fun _ => (ev_one (ev_as (ev_callDF R__law_one_right c__law_one_right (hr.mono (by decide)) (ea_cons (nm 0 rfl) (ea_cons (nm 1 rfl) (ea_cons (nm 6 rfl) ea_nil))) ?_) rfl))) (fun hx => Bool.noConfusion hx))) (fun hx => Bool.noConfusion hx)) rfl rfl hQ))))))
      · exact ⟨rfl, hd3, rfl, rfl⟩
      · exact ⟨rfl, hd4, rfl, rfl⟩
      · exact ⟨_, _, _, _, _, _, rfl, hk, hu.1, rfl⟩
      · exact ⟨_, _, _, _, _, _, rfl, hk, hu.1, rfl⟩
      · exact ⟨_, _, _, _, _, _, _, rfl, hk, hu, hv, rfl⟩
      · exact ⟨_, _, _, _, _, _, _, rfl, hk, hv, hu, rfl⟩
      · exact ⟨_, _, _, _, rfl, hk, hu, hd5, rfl, rfl⟩
    refine
  (as_par3 (i := 1) (j := 2) (l := 3) sc__law_right.nd rfl (ea_cons (ev_ixV Dat.int [2, 3, 5] 0 (ev_lst (ea_cons ev_int (ea_cons ev_int (ea_cons ev_int ea_nil))) (Nat.le_of_ble_eq_true rfl)) (ev_as (ev_callDF R__law_take c__law_take (hr.mono (by decide)) (ea_cons (nm 0 rfl) (ea_cons ev_int ea_nil)) ?_) rfl) ?_) (ea_cons (ev_as (ev_callDF R__law_triple c__law_triple (hr.mono (by decide)) (ea_cons (nm 0 rfl) ea_nil) ?_) rfl) (ea_cons (ev_eqI (ev_as (ev_callDF R__law_take c__law_take (hr.mono (by decide)) (ea_cons (nm 0 rfl) (ea_cons ev_int ea_nil)) ?_) rfl) ev_int) ea_nil)))
  (as_ifn (et_not (x := true) (et_val (ev_as (ev_callF R__law_same c__law_same (hr.mono (by decide)) (ea_cons (ev_lst (ea_cons (ev_as (ev_callF R_is_number c_is_number (hr.mono (by decide)) (ea_cons (nm 2 rfl) ea_nil) ?_ (.inr (NoL.of rfl))) rfl) (ea_cons (ev_as (ev_callKF R_is_number ck_is_number (hr.mono (by decide)) (ek_cons (nm 2 rfl) ek_nil) ?_ (.inr (NoL.of rfl))) rfl) ea_nil)) (Nat.le_of_ble_eq_true rfl)) (ea_cons (ev_rep (n := 2) (ea_cons (ev_as (ev_callF R__law_is c__law_is (hr.mono (by decide)) (ea_cons (nm 2 rfl) ea_nil) ?_ (.inr (NoL.of rfl))) rfl) ea_nil) ev_int (Nat.le_of_ble_eq_true rfl) (Nat.le_of_ble_eq_true rfl)) ea_nil)) (same_of rfl) (.inr (NoL.of rfl))) rfl))) (fun hb1 => absurd hb1 Bool.false_ne_true) (fun hb1 =>
  (as_ifn (et_neI (ev_ixT (j := 2) (nm 2 rfl) ev_int rfl rfl) ev_int) (fun hb2 =>
    (as_asg (i := 4) sc__law_right.nd (ev_as (ev_callF R__law_num c__law_num (hr.mono (by decide)) (ea_cons (ev_ixT (j := 0) (nm 2 rfl) ev_int rfl rfl) (ea_cons (ev_ixT (j := 1) (nm 2 rfl) ev_int rfl rfl) (ea_cons (ev_ixT (j := 2) (nm 2 rfl) ev_int rfl rfl) ea_nil))) ?_ (.inr (NoL.of rfl))) rfl)
    (as_asg (i := 5) sc__law_right.nd (ev_lstK (ea_cons (ev_as (ev_callF R_number c_number (hr.mono (by decide)) (ea_cons (ev_ixT (j := 0) (nm 2 rfl) ev_int rfl rfl) (ea_cons (ev_ixT (j := 1) (nm 2 rfl) ev_int rfl rfl) (ea_cons (ev_ixT (j := 2) (nm 2 rfl) ev_int rfl rfl) ea_nil))) ?_ (.inr (NoL.of rfl))) rfl) (ea_cons (ev_as (ev_callKF R_number ck_number (hr.mono (by decide)) (ek_cons (ev_ixT (j := 2) (nm 2 rfl) ev_int rfl rfl) (ek_cons (ev_ixT (j := 1) (nm 2 rfl) ev_int rfl rfl) (ek_cons (ev_ixT (j := 0) (nm 2 rfl) ev_int rfl rfl) ek_nil))) ?_ (.inr (NoL.of rfl))) rfl) ea_nil)) (Nat.le_of_ble_eq_true rfl))
    (as_ifn (et_not (x := true) (et_val (ev_as (ev_callF R__law_same c__law_same (hr.mono (by decide)) (ea_cons (ev_cat (nm 5 rfl) (ea_cons (ev_as (ev_callF R_is_number c_is_number (hr.mono (by decide)) (ea_cons (nm 4 rfl) ea_nil) ?_ (.inr (NoL.of rfl))) (d1 := .bl true) ?_) ea_nil) (Nat.le_of_ble_eq_true rfl)) (ea_cons (ev_lst (ea_cons (nm 4 rfl) (ea_cons (nm 4 rfl) (ea_cons ev_bl ea_nil))) (Nat.le_of_ble_eq_true rfl)) ea_nil)) (same_of rfl) (.inr (NoL.of rfl))) rfl))) (fun hb5 => absurd hb5 Bool.false_ne_true) (fun hb5 =>
    (as_go (tail _ _))))))) (fun hb2 => tail _ _)))))
    all_goals try have ht : (rT k).2.2 ≠ 0 := ne_of_b hb2
    all_goals first | exact tk (by decide) (Bd.lit 900 (by decide)) (by walk_at "dk") | exact ⟨_, _, _, rfl, rfl⟩ | exact ⟨_, _, _, rfl, ht, t3.mono (by decide), rfl⟩ | exact ⟨rfl, hd1, rfl, rfl⟩ | skip
    · have := tkV_ok (k := k) (m := 3) (by decide)
      exact ⟨this.1, this.2⟩
    · exact congrArg Dat.bl (show isN (loA (rT k).1 (rT k).2.1 (rT k).2.2) (loB (rT k).1 (rT k).2.1 (rT k).2.2) (loN (rT k).1 (rT k).2.1 (rT k).2.2) = true from lo_nm ht)

end
end Wk
set_option Elab.async false
set_option linter.all false
set_option maxRecDepth 100000
set_option maxHeartbeats 8000000
namespace Wk
open PySem PySem.Spec PyProof.Rows L2 Evl Wf
section
variable {P : Program} {w : World} {K : PySem.W.Frag} {mg : Str → Option Value} {base : Heap}
/-! ### is_number, of what is no number -/
def Sisn0 (ds : List Dat) (d : Dat) : Prop := (ds = [.non] ∨ ds = [.str "1"] ∨ ds = [.int 7] ∨ ds = [.lst [.int 1, .int 0, .int 1]] ∨ ds = [.tup []]) ∧ d = .bl false
def R0 : List Dat → Dat
  | _ => .bl false
theorem okn_is_number {f : Addr} {fd : FuncData} (F : Fun K "is_number" "is_number" s_is_number f fd) (m_isinstance : mg "isinstance" = none) (m_tuple : mg "tuple" = none) (m_len : mg "len" = none) : FnOk P w K mg base CX0 1 f fd ["told"] (spP K Sisn0) := by
  refine fn_pure F sc_is_number (fun ds d h => ?_) (fun cdv A outer s H Q E ds d hr hS hQ => ?_)
  · obtain ⟨h, _⟩ := h
    rcases h with rfl | rfl | rfl | rfl | rfl <;> rfl
  · obtain ⟨h, rfl⟩ := hS
    have go : ∀ (x : Dat) (T : String), Ty x T → kitB T "tuple" = some false → AS (cxOf CX0 P w K mg base ["told", "a", "b", "n"] "is_number" (defScope s_is_number) f cdv A outer s H E).nox none (defBody s_is_number) { nx := fun _ H' => Q .non H', rt := Q } [some x, none, none, none] (0, 0) H := by
      intro x T t hk
      exact as_ifn (et_w (ew_or (x := true) (y := false) (et_not (x := false) (et_val (ev_isi (b := false) m_isinstance t (ea_cons (nm 0 rfl) (ea_cons (ev_ty (T := "tuple") m_tuple (by decide +kernel)) ea_nil)) hk))) (fun hx => Bool.noConfusion hx) (fun _ => rfl))) (fun _ => as_rt ev_bl rfl rfl hQ) (fun hb => absurd hb (by decide))
    rcases h with rfl | rfl | rfl | rfl | rfl
    · exact go _ _ .non (by decide +kernel)
    · exact go _ _ (.str _) (by decide +kernel)
    · exact go _ _ (.int _) (by decide +kernel)
    · exact go _ _ (.lst _) (by decide +kernel)
    · exact as_ifn (et_w (ew_or (et_not (x := true) (et_val (ev_isi (b := true) m_isinstance (.tup _) (ea_cons (nm 0 rfl) (ea_cons (ev_ty (T := "tuple") m_tuple (by decide +kernel)) ea_nil)) (by decide +kernel)))) (fun _ => ew_or1 (et_neI (ev_lenT m_len (ea_cons (nm 0 rfl) ea_nil)) ev_int)) (fun _ => rfl))) (fun _ => as_rt ev_bl rfl rfl hQ) (fun hb => absurd hb (by decide))
/-! ### _law_deck -/
def MM : Int := 2305843009213693951
def BIG : Int := 10 ^ (18 : Int).toNat
def dkC (ns : List Int) (t : Nat) : Int := if decide ((t : Int) < ((ns.map Dat.int).length : Int)) = true then ns.getD (t : Int).toNat 0 else 0
def dkS (ns : List Int) (t : Nat) : Int := (dkC ns t + 7919 * (t : Int) + 104729) % MM
def dkT (ns : List Int) (t : Nat) : Int := (dkS ns t * dkS ns t * dkS ns t + 31 * (t : Int) + 7) % MM
def dkF (ns : List Int) (t : Nat) : Int × Int := (if dkC ns t < BIG then 0 else dkC ns t - BIG, dkT ns t)
def S_law_deck (ds as : List Dat) : Prop := ∃ (ns : List Int) (t : Nat), ds = [.lst (ns.map Dat.int), .int (t : Int)] ∧ t < 64 ∧ as = [.int (dkF ns t).1, .int (dkF ns t).2]
theorem dkS_ok (ns : List Int) (t : Nat) : 0 ≤ dkS ns t ∧ dkS ns t < MM := ⟨Int.emod_nonneg _ (by decide), Int.emod_lt_of_pos _ (by decide)⟩
theorem dkF_ok (ns : List Int) (t : Nat) : Dk (dkF ns t) := by
  have h1 : 0 ≤ dkT ns t := Int.emod_nonneg _ (by decide)
  have h2 : dkT ns t < MM := Int.emod_lt_of_pos _ (by decide)
  have e : MM = 2305843009213693951 := rfl
  show 0 ≤ dkT ns t ∧ dkT ns t < 18446744073709551616
  omega

abbrev s__law_deck : Stmt := topS 32
theorem sc__law_deck : FnScope ["script", "at", "cell", "stir"] ["script", "at"] (defScope s__law_deck) := ⟨rfl, rfl, rfl, by decide +kernel, rfl, by decide +kernel, by decide +kernel⟩
theorem ok__law_deck {f : Addr} {fd : FuncData} (F : Fun K "_law_deck" "_law_deck" s__law_deck f fd) (m_len : mg "len" = none) (m_int : mg "int" = none) : FnOk P w K mg base CX0 1 f fd ["script", "at"] (spN K S_law_deck) := by
  refine fn_new F sc__law_deck (fun ds d h => ?_) (fun cdv A outer s H Q E ds d hr hS hQ => ?_)
  · obtain ⟨ns, t, rfl, _⟩ := h
    rfl
  · obtain ⟨ns, t, rfl, ht, rfl⟩ := hS
    have hs := dkS_ok ns t
    have eM : MM = 2305843009213693951 := rfl
    have bs : Bd 61 (dkS ns t) := small_bd (by omega) (by omega)
    have bt : Bd 7 (t : Int) := small_bd (by omega) (by omega)
    refine
  (as_asg (i := 2) sc__law_deck.nd ev_int
  (as_ifsetI (i := 2) sc__law_deck.nd (et_lt (nm 1 rfl) (ev_lenL m_len (ea_cons (nm 0 rfl) ea_nil))) rfl (fun hb1 => (ev_ixV Dat.int ns 0 (nm 0 rfl) (nm 1 rfl) ?_))
  (as_asg (i := 3) sc__law_deck.nd (ev_mod (ev_intI m_int (ea_cons (ev_add (ev_add (nm 2 rfl) (ev_mul ev_int (nm 1 rfl) ?_)) ev_int) ea_nil)) ev_int ?_)
  (as_asg (i := 3) sc__law_deck.nd (ev_mod (ev_intI m_int (ea_cons (ev_add (ev_add (ev_mul (ev_mul (nm 3 rfl) (nm 3 rfl) ?_) (nm 3 rfl) ?_) (ev_mul ev_int (nm 1 rfl) ?_)) ev_int) ea_nil)) ev_int ?_)
  (as_ifn (et_lt (nm 2 rfl) (ev_pow ev_int ev_int ?_)) (fun hb2 =>
    (as_rtL (ea_cons ev_int (ea_cons (nm 3 rfl) ea_nil)) (Nat.le_of_ble_eq_true rfl) ?_)) (fun hb2 =>
  (as_rtL (ea_cons (ev_sub (nm 2 rfl) (ev_pow ev_int ev_int ?_)) (ea_cons (nm 3 rfl) ea_nil)) (Nat.le_of_ble_eq_true rfl) ?_)))))))
    · have h := of_decide_eq_true hb1
      rw [List.length_map] at h
      exact ⟨by omega, h⟩
    · exact cm (Bd.lit 13) bt (by decide)
    · exact (by decide : (0 : Int) < 2305843009213693951)
    · exact cm bs bs (by decide)
    · exact cm (bs.mul bs) bs (by decide)
    · exact cm (Bd.lit 5) bt (by decide)
    · exact (by decide : (0 : Int) < 2305843009213693951)
    · exact ⟨by decide, by decide, by decide⟩
    · intro p H1 np ex _ hv
      obtain ⟨vs, hp, hd⟩ := hv
      refine hQ p H1 vs np ex hp ?_
      rw [show (dkF ns t).1 = 0 from if_pos (of_decide_eq_true hb2)]
      exact hd
    · exact ⟨by decide, by decide, by decide⟩
    · intro p H1 np ex _ hv
      obtain ⟨vs, hp, hd⟩ := hv
      refine hQ p H1 vs np ex hp ?_
      rw [show (dkF ns t).1 = dkC ns t - BIG from if_neg (of_decide_eq_false hb2)]
      exact hd

/-! ### the law -/
abbrev s_law : Stmt := topS 50
theorem sc_law : FnScope ["script", "at", "odd"] ["script"] (defScope s_law) := ⟨rfl, rfl, rfl, by decide +kernel, rfl, by decide +kernel, by decide +kernel⟩
def S_law (ds : List Dat) (d : Dat) : Prop := ∃ ns : List Int, ds = [.lst (ns.map Dat.int)] ∧ ns.length ≤ 63 ∧ d = .bl true
theorem el5 {i : Nat} {d : Dat} (h : ([.non, .str "1", .int 7, .lst [.int 1, .int 0, .int 1], .tup []] : List Dat)[i]? = some d) : [d] = [.non] ∨ [d] = [.str "1"] ∨ [d] = [.int 7] ∨ [d] = [.lst [.int 1, .int 0, .int 1]] ∨ [d] = [.tup []] := by
  match i, h with
  | 0, h => cases h; exact .inl rfl
  | 1, h => cases h; exact .inr (.inl rfl)
  | 2, h => cases h; exact .inr (.inr (.inl rfl))
  | 3, h => cases h; exact .inr (.inr (.inr (.inl rfl)))
  | 4, h => cases h; exact .inr (.inr (.inr (.inr rfl)))
def runs (ns : List Int) : Int := if (if (30 : Int) < ((ns.map Dat.int).length : Int) then (30 : Int) else ((ns.map Dat.int).length : Int)) > 3 then (if (30 : Int) < ((ns.map Dat.int).length : Int) then (30 : Int) else ((ns.map Dat.int).length : Int)) else 3
theorem runs_le (ns : List Int) : 3 ≤ runs ns ∧ runs ns ≤ 30 := by
  unfold runs
  split <;> split <;> omega
theorem ok_law {f : Addr} {fd : FuncData} (F : Fun K "law" "law" s_law f fd) (c__law_deck : Cl P w K mg base 1 "_law_deck" ["script", "at"] (spN K S_law_deck)) (c__law_right : Cl P w K mg base 6 "_law_right" ["deck"] (spD K S_law_right)) (c__law_same : Cl P w K mg base 4 "_law_same" ["found", "due"] (spP K (Ssame 3))) (cn_is_number : Cl P w K mg base 1 "is_number" ["told"] (spP K Sisn0)) (m_len : mg "len" = none) (m_max : mg "max" = none) (m_min : mg "min" = none) (m_range : mg "range" = none) : FnOk P w K mg base CX0 7 f fd ["script"] (spP K S_law) := by
  refine fn_pure F sc_law (fun ds d h => ?_) (fun cdv A outer s H Q E ds d hr hS hQ => ?_)
  · obtain ⟨ns, rfl, _⟩ := h
    rfl
  · obtain ⟨ns, rfl, hl, rfl⟩ := hS
    have rl := runs_le ns
    refine as_forR1 (i := 1) (n := runs ns) (W := fun _ es q => ∃ x, es = [some (.lst (ns.map Dat.int)), x, none] ∧ q = (0, 0)) sc_law.nd rfl PassesOwn.never m_range (ea_cons (ev_max rfl m_max (ea_cons ev_int (ea_cons (ev_min rfl m_min (ea_cons (ev_lenL m_len (ea_cons (nm 0 rfl) ea_nil)) (ea_cons ev_int ea_nil))) ea_nil))) ea_nil) (by omega) (by omega) ⟨none, rfl, rfl⟩ ?_ ?_
    · rintro j es q hj ⟨x, rfl, rfl⟩
      exact as_ifn (et_not (x := true) (et_val (ev_callND (fun x => x) (kk := dkF ns j) (kf := oneK (rK5 (dkF ns j))) c__law_deck c__law_right (hr.mono (by decide)) (hr.mono (by decide)) (ea_cons (nm 0 rfl) (ea_cons (nm 1 rfl) ea_nil)) ⟨ns, j, rfl, by omega, rfl⟩ (show S_law_right [] (dkF ns j) (.bl true) (oneK (rK5 (dkF ns j))) from ⟨rfl, dkF_ok ns j, rfl, rfl⟩) rfl))) (fun hb => absurd hb Bool.false_ne_true) (fun _ => as_turnR (W := fun (_ : Nat) (es : List (Option Dat)) (q : Int × Int) => ∃ x, es = [some (.lst (ns.map Dat.int)), x, none] ∧ q = (0, 0)) (j := j) ⟨_, rfl, rfl⟩ rfl)
    · rintro es q ⟨x, rfl, rfl⟩
      exact as_rt (ev_as (ev_callF R__law_same c__law_same (hr.mono (by decide)) (ea_cons (ev_as (ev_lcT0 (j := 2) (fun _ => .bl false) rfl sc_law.nd (ev_tup (ea_cons ev_non (ea_cons ev_str (ea_cons ev_int (ea_cons (ev_lst (ea_cons ev_int (ea_cons ev_int (ea_cons ev_int ea_nil))) (Nat.le_of_ble_eq_true rfl)) (ea_cons (ev_tup ea_nil (Nat.le_of_ble_eq_true rfl)) ea_nil))))) (Nat.le_of_ble_eq_true rfl)) (Nat.le_of_ble_eq_true rfl) (blkOk_by (N := ["script", "at", "odd"]) (sc := defScope s_law) (by decide +kernel)) (fun _ _ _ _ _ => pg_name sc_law.nd rfl (Or.inl rfl))
        (fun _ _ _ _ _ i d hi => ev_callF R0 cn_is_number (hr.mono (by decide)) (ea_cons (nm 2 rfl) ea_nil) ⟨el5 hi, rfl⟩ (.inl rfl)) (fun _ => rfl)) (d1 := .lst [.bl false, .bl false, .bl false, .bl false, .bl false]) rfl) (ea_cons (ev_rep (n := 5) (ea_cons ev_bl ea_nil) ev_int (Nat.le_of_ble_eq_true rfl) (Nat.le_of_ble_eq_true rfl)) ea_nil)) (same_of rfl) (.inl rfl)) rfl) rfl rfl hQ

end
end Wk
set_option Elab.async false
set_option linter.all false
set_option maxRecDepth 100000
set_option maxHeartbeats 8000000
namespace Wk
open PySem PySem.Spec PyProof.Rows L2 Evl Wf
/-- a def of the module's top -/
structure Top (K : PySem.W.Frag) (mg : Str → Option Value) (x : Str) (st : Stmt) : Prop where
  ex : ∃ (f : Addr) (fd : FuncData), mg x = some (.ref f) ∧ Fun K x x st f fd
theorem top_mk {K : PySem.W.Frag} {h : Heap} {mg : Str → Option Value} {x : Str} {st : Stmt} {f : Addr} {oc : Value} {od an : Option Addr} {osl : Array (Option Value)} {kV doc pm cdv ct : Value} (X : K.In h) (G : h.Ns mainGlobals mg)
    (a : PySem.W.nsIn K mainGlobals x = some (some (.ref f))) (l : K.lookup f = some ⟨oc, od, .func (PySem.W.fnOf x x (defArgs st) (defBody st) (defScope st) .none kV doc pm an cdv ct), osl⟩) (c : PySem.W.codeIn K cdv x = true) (k : PySem.W.keepIn K (.ref f) = true) : Top K mg x st :=
  ⟨_, _, PySem.W.mg_of X G a, fun_mk (st := st) l c k⟩
section
variable {P : Program} {w : World} {K : PySem.W.Frag} {mg : Str → Option Value} {base : Heap} {x : Str} {st : Stmt} {k : Nat} {ps ks : List Str} {sp : Sp} {CX : CXT}
theorem Top.cl (T : Top K mg x st) (hb : ∀ (kV doc pm : Value) (an : Option Addr) (cdv ct : Value) (us : List Value), us.length = ps.length → bindArgs (PySem.W.fnOf x x (defArgs st) (defBody st) (defScope st) .none kV doc pm an cdv ct) ⟨us, []⟩ = pure (ps.zip us))
    (h : ∀ f fd, Fun K x x st f fd → FnOk P w K mg base CX0 k f fd ps sp) : Cl P w K mg base k x ps sp := by
  obtain ⟨f, fd, hm, F⟩ := T.ex
  exact ⟨f, fd, hm, F.kp, F.binds hb, h f fd F⟩
theorem Top.clR (T : Top K mg x st) (hb : ∀ (kV doc pm : Value) (an : Option Addr) (cdv ct : Value) (us : List Value), us.length = ps.length → bindArgs (PySem.W.fnOf x x (defArgs st) (defBody st) (defScope st) .none kV doc pm an cdv ct) ⟨us, []⟩ = pure (ps.zip us))
    (h : ∀ f fd, Fun K x x st f fd → FnOk P w K mg base (L2.CX P w) k f fd ps sp) : ClR P w K mg base k x ps sp := by
  obtain ⟨f, fd, hm, F⟩ := T.ex
  exact ⟨f, fd, hm, F.kp, F.binds hb, h f fd F⟩
theorem Top.clK (T : Top K mg x st) (pi : List Nat) (hp : 0 < ps.length) (hb : ∀ (kV doc pm : Value) (an : Option Addr) (cdv ct : Value) (ws : List Value), ws.length = ks.length → bindArgs (PySem.W.fnOf x x (defArgs st) (defBody st) (defScope st) .none kV doc pm an cdv ct) ⟨[], ks.zip ws⟩ = pure (ps.zip (kperm pi ks.length [] ws)))
    (h : ∀ f fd, Fun K x x st f fd → FnOk P w K mg base CX0 k f fd ps sp) : ClK P w K mg base k x ps ks pi sp := by
  obtain ⟨f, fd, hm, F⟩ := T.ex
  exact ⟨f, fd, hm, F.kp, Wf.Fun.kb F pi ks.length hp hb, h f fd F⟩
theorem Top.clRK (T : Top K mg x st) (pi : List Nat) (hp : 0 < ps.length) (hb : ∀ (kV doc pm : Value) (an : Option Addr) (cdv ct : Value) (ws : List Value), ws.length = ks.length → bindArgs (PySem.W.fnOf x x (defArgs st) (defBody st) (defScope st) .none kV doc pm an cdv ct) ⟨[], ks.zip ws⟩ = pure (ps.zip (kperm pi ks.length [] ws)))
    (h : ∀ f fd, Fun K x x st f fd → FnOk P w K mg base (L2.CX P w) k f fd ps sp) : ClRK P w K mg base k x ps ks pi sp := by
  obtain ⟨f, fd, hm, F⟩ := T.ex
  exact ⟨f, fd, hm, F.kp, Wf.Fun.kb F pi ks.length hp hb, h f fd F⟩
end
theorem kt_mk {K : PySem.W.Frag} {h : Heap} {mg : Str → Option Value} {x : Str} {C : Addr} {od : Option Addr} {n : Nat} {sl : Array (Option Value)} {a b c : Tok} (X : K.In h) (G : h.Ns mainGlobals mg) (e : PySem.W.nsIn K mainGlobals x = some (some (.ref C)))
    (l : K.lookup C = some ⟨.type "tuple", od, .seq #[.int 2 a, .int 3 b, .int 5 c] n, sl⟩) : KT K mg x [2, 3, 5] :=
  ⟨_, _, _, _, PySem.W.mg_of X G e, l, rfl, rfl, by show 3 ≤ sizeLine; decide, .cons ⟨a, rfl⟩ (.cons ⟨b, rfl⟩ (.cons ⟨c, rfl⟩ .nil))⟩

theorem law_all {P : Program} {w : World} {K : PySem.W.Frag} {mg : Str → Option Value} {base : Heap} (t_lowest : Top K mg "lowest" s_lowest) (t_pair_times : Top K mg "pair_times" s_pair_times) (t_pair_mate : Top K mg "pair_mate" s_pair_mate) (t_pair_norm : Top K mg "pair_norm" s_pair_norm) (t_is_integer : Top K mg "is_integer" s_is_integer) (t_is_kind : Top K mg "is_kind" s_is_kind) (t_check_kind : Top K mg "check_kind" s_check_kind) (t_number_sum : Top K mg "number_sum" s_number_sum) (t_number_less : Top K mg "number_less" s_number_less) (t_number_by : Top K mg "number_by" s_number_by) (t_is_number : Top K mg "is_number" s_is_number) (t_check_number : Top K mg "check_number" s_check_number) (t_check_integer : Top K mg "check_integer" s_check_integer) (t_number : Top K mg "number" s_number) (t_plus : Top K mg "plus" s_plus) (t_minus : Top K mg "minus" s_minus) (t_scaled : Top K mg "scaled" s_scaled) (t_times : Top K mg "times" s_times) (t_by : Top K mg "by" s_by) (t_mate : Top K mg "mate" s_mate) (t_norm : Top K mg "norm" s_norm) (t__law_take : Top K mg "_law_take" s__law_take) (t__law_gcd : Top K mg "_law_gcd" s__law_gcd) (t__law_num : Top K mg "_law_num" s__law_num) (t__law_plus : Top K mg "_law_plus" s__law_plus) (t__law_minus : Top K mg "_law_minus" s__law_minus) (t__law_times : Top K mg "_law_times" s__law_times) (t__law_is : Top K mg "_law_is" s__law_is) (t__law_mate : Top K mg "_law_mate" s__law_mate) (t__law_same : Top K mg "_law_same" s__law_same) (t__law_number : Top K mg "_law_number" s__law_number) (t__law_wide : Top K mg "_law_wide" s__law_wide) (t__law_triple : Top K mg "_law_triple" s__law_triple) (t__law_divided : Top K mg "_law_divided" s__law_divided) (t__law_two_right : Top K mg "_law_two_right" s__law_two_right) (t__law_one_right : Top K mg "_law_one_right" s__law_one_right) (t__law_right : Top K mg "_law_right" s__law_right) (t__law_deck : Top K mg "_law_deck" s__law_deck) (m_isinstance : mg "isinstance" = none) (m_int : mg "int" = none) (m_bool : mg "bool" = none) (m_tuple : mg "tuple" = none) (m_list : mg "list" = none) (m_str : mg "str" = none) (m_len : mg "len" = none) (m_range : mg "range" = none) (m_abs : mg "abs" = none) (m_max : mg "max" = none) (m_min : mg "min" = none) (m_ValueError : mg "ValueError" = none) (m_gcd : mg "gcd" = some (.builtin "math.gcd")) (t_KINDS : KT K mg "KINDS" [2, 3, 5]) {C fI : Addr} {fdI : FuncData} (gC : mg "DividedByZero" = some (.ref C)) (oex : OexC K C) (no : PySem.W.findIn K (.ref C) "value" = some none) (xf : XfC K C) (te : PySem.W.exmOne K (.ref C) (.ref C) = some true) (iC : PySem.W.findIn K (.ref C) "__init__" = some (some (.ref fI))) (tI : PySem.W.typeIn K (.ref fI) = some (.type "function")) (FI : Fun K "__init__" "FloorError.__init__" s_init fI fdI)
    (vV : PySem.W.findCls K (.type "ValueError") (.type "type") "__init__" = some (.val (.builtin "ValueError.__init__")))
    {f : Addr} {fd : FuncData} (FL : Fun K "law" "law" s_law f fd) : FnOk P w K mg base CX0 7 f fd ["script"] (spP K S_law) := by
  have c_lowest : Cl P w K mg base 1 "lowest" ["a", "b", "n"] (spP K Slowest) := t_lowest.cl (fun _ _ _ _ _ _ us hl => match us, hl with | [_, _, _], _ => rfl) (fun f fd F => ok_lowest F m_gcd)
  have c_pair_times : Cl P w K mg base 1 "pair_times" ["kind", "p", "q"] (spP K Spair_times) := t_pair_times.cl (fun _ _ _ _ _ _ us hl => match us, hl with | [_, _, _], _ => rfl) (fun f fd F => ok_pair_times F )
  have c_pair_mate : Cl P w K mg base 1 "pair_mate" ["kind", "p"] (spP K Spair_mate) := t_pair_mate.cl (fun _ _ _ _ _ _ us hl => match us, hl with | [_, _], _ => rfl) (fun f fd F => ok_pair_mate F )
  have c_pair_norm : Cl P w K mg base 1 "pair_norm" ["kind", "p"] (spP K Spair_norm) := t_pair_norm.cl (fun _ _ _ _ _ _ us hl => match us, hl with | [_, _], _ => rfl) (fun f fd F => ok_pair_norm F )
  have c_is_integer : Cl P w K mg base 1 "is_integer" ["told"] (spP K Sis_integer) := t_is_integer.cl (fun _ _ _ _ _ _ us hl => match us, hl with | [_], _ => rfl) (fun f fd F => ok_is_integer F m_isinstance m_int m_bool)
  have c_is_kind : Cl P w K mg base 2 "is_kind" ["told"] (spP K Sis_kind) := t_is_kind.cl (fun _ _ _ _ _ _ us hl => match us, hl with | [_], _ => rfl) (fun f fd F => ok_is_kind F c_is_integer t_KINDS)
  have c_check_kind : Cl P w K mg base 3 "check_kind" ["kind"] (spP K Scheck_kind) := t_check_kind.cl (fun _ _ _ _ _ _ us hl => match us, hl with | [_], _ => rfl) (fun f fd F => ok_check_kind F c_is_kind)
  have c_number_sum : Cl P w K mg base 2 "number_sum" ["p", "q"] (spP K Snumber_sum) := t_number_sum.cl (fun _ _ _ _ _ _ us hl => match us, hl with | [_, _], _ => rfl) (fun f fd F => ok_number_sum F c_lowest)
  have c_number_less : Cl P w K mg base 2 "number_less" ["p", "q"] (spP K Snumber_less) := t_number_less.cl (fun _ _ _ _ _ _ us hl => match us, hl with | [_, _], _ => rfl) (fun f fd F => ok_number_less F c_lowest)
  have c_number_by : Cl P w K mg base 2 "number_by" ["kind", "p", "q"] (spP K Snumber_by) := t_number_by.cl (fun _ _ _ _ _ _ us hl => match us, hl with | [_, _, _], _ => rfl) (fun f fd F => ok_number_by F c_pair_times c_pair_mate c_lowest c_pair_norm)
  have c_is_number : Cl P w K mg base 2 "is_number" ["told"] (spP K Sis_number) := t_is_number.cl (fun _ _ _ _ _ _ us hl => match us, hl with | [_], _ => rfl) (fun f fd F => ok_is_number F c_is_integer m_isinstance m_tuple m_len m_gcd)
  have ck_is_number : ClK P w K mg base 2 "is_number" ["told"] ["told"] [0] (spP K Sis_number) := t_is_number.clK [0] (by decide) (fun _ _ _ _ _ _ ws hl => match ws, hl with | [_], _ => rfl) (fun f fd F => ok_is_number F c_is_integer m_isinstance m_tuple m_len m_gcd)
  have c_check_number : Cl P w K mg base 3 "check_number" ["told"] (spP K Scheck_number) := t_check_number.cl (fun _ _ _ _ _ _ us hl => match us, hl with | [_], _ => rfl) (fun f fd F => ok_check_number F c_is_number)
  have c_check_integer : Cl P w K mg base 2 "check_integer" ["told"] (spP K Scheck_integer) := t_check_integer.cl (fun _ _ _ _ _ _ us hl => match us, hl with | [_], _ => rfl) (fun f fd F => ok_check_integer F c_is_integer)
  have c_number : Cl P w K mg base 3 "number" ["a", "b", "n"] (spP K Snumber) := t_number.cl (fun _ _ _ _ _ _ us hl => match us, hl with | [_, _, _], _ => rfl) (fun f fd F => ok_number F c_check_integer c_lowest)
  have ck_number : ClK P w K mg base 3 "number" ["a", "b", "n"] ["n", "b", "a"] [2, 1, 0] (spP K Snumber) := t_number.clK [2, 1, 0] (by decide) (fun _ _ _ _ _ _ ws hl => match ws, hl with | [_, _, _], _ => rfl) (fun f fd F => ok_number F c_check_integer c_lowest)
  have c_plus : Cl P w K mg base 4 "plus" ["p", "q"] (spP K Splus) := t_plus.cl (fun _ _ _ _ _ _ us hl => match us, hl with | [_, _], _ => rfl) (fun f fd F => ok_plus F c_check_number c_number_sum)
  have ck_plus : ClK P w K mg base 4 "plus" ["p", "q"] ["q", "p"] [1, 0] (spP K Splus) := t_plus.clK [1, 0] (by decide) (fun _ _ _ _ _ _ ws hl => match ws, hl with | [_, _], _ => rfl) (fun f fd F => ok_plus F c_check_number c_number_sum)
  have c_minus : Cl P w K mg base 4 "minus" ["p", "q"] (spP K Sminus) := t_minus.cl (fun _ _ _ _ _ _ us hl => match us, hl with | [_, _], _ => rfl) (fun f fd F => ok_minus F c_check_number c_number_less)
  have ck_minus : ClK P w K mg base 4 "minus" ["p", "q"] ["q", "p"] [1, 0] (spP K Sminus) := t_minus.clK [1, 0] (by decide) (fun _ _ _ _ _ _ ws hl => match ws, hl with | [_, _], _ => rfl) (fun f fd F => ok_minus F c_check_number c_number_less)
  have c_scaled : Cl P w K mg base 4 "scaled" ["p", "k"] (spP K Sscaled) := t_scaled.cl (fun _ _ _ _ _ _ us hl => match us, hl with | [_, _], _ => rfl) (fun f fd F => ok_scaled F c_check_number c_check_integer c_lowest)
  have ck_scaled : ClK P w K mg base 4 "scaled" ["p", "k"] ["k", "p"] [1, 0] (spP K Sscaled) := t_scaled.clK [1, 0] (by decide) (fun _ _ _ _ _ _ ws hl => match ws, hl with | [_, _], _ => rfl) (fun f fd F => ok_scaled F c_check_number c_check_integer c_lowest)
  have c_times : Cl P w K mg base 4 "times" ["kind", "p", "q"] (spP K Stimes) := t_times.cl (fun _ _ _ _ _ _ us hl => match us, hl with | [_, _, _], _ => rfl) (fun f fd F => ok_times F c_check_kind c_check_number c_pair_times c_lowest)
  have ck_times : ClK P w K mg base 4 "times" ["kind", "p", "q"] ["q", "p", "kind"] [2, 1, 0] (spP K Stimes) := t_times.clK [2, 1, 0] (by decide) (fun _ _ _ _ _ _ ws hl => match ws, hl with | [_, _, _], _ => rfl) (fun f fd F => ok_times F c_check_kind c_check_number c_pair_times c_lowest)
  have c_by : Cl P w K mg base 4 "by" ["kind", "p", "q"] (spP K Sby) := t_by.cl (fun _ _ _ _ _ _ us hl => match us, hl with | [_, _, _], _ => rfl) (fun f fd F => ok_by F c_check_kind c_check_number c_number_by)
  have ck_by : ClK P w K mg base 4 "by" ["kind", "p", "q"] ["q", "p", "kind"] [2, 1, 0] (spP K Sby) := t_by.clK [2, 1, 0] (by decide) (fun _ _ _ _ _ _ ws hl => match ws, hl with | [_, _, _], _ => rfl) (fun f fd F => ok_by F c_check_kind c_check_number c_number_by)
  have c_mate : Cl P w K mg base 4 "mate" ["kind", "p"] (spP K Smate) := t_mate.cl (fun _ _ _ _ _ _ us hl => match us, hl with | [_, _], _ => rfl) (fun f fd F => ok_mate F c_check_kind c_check_number c_pair_mate)
  have ck_mate : ClK P w K mg base 4 "mate" ["kind", "p"] ["p", "kind"] [1, 0] (spP K Smate) := t_mate.clK [1, 0] (by decide) (fun _ _ _ _ _ _ ws hl => match ws, hl with | [_, _], _ => rfl) (fun f fd F => ok_mate F c_check_kind c_check_number c_pair_mate)
  have c_norm : Cl P w K mg base 4 "norm" ["kind", "p"] (spP K Snorm) := t_norm.cl (fun _ _ _ _ _ _ us hl => match us, hl with | [_, _], _ => rfl) (fun f fd F => ok_norm F c_check_kind c_check_number c_lowest c_pair_norm)
  have ck_norm : ClK P w K mg base 4 "norm" ["kind", "p"] ["p", "kind"] [1, 0] (spP K Snorm) := t_norm.clK [1, 0] (by decide) (fun _ _ _ _ _ _ ws hl => match ws, hl with | [_, _], _ => rfl) (fun f fd F => ok_norm F c_check_kind c_check_number c_lowest c_pair_norm)
  have c__law_take : Cl P w K mg base 1 "_law_take" ["deck", "many"] (spD K S_law_take) := t__law_take.cl (fun _ _ _ _ _ _ us hl => match us, hl with | [_, _], _ => rfl) (fun f fd F => ok__law_take F m_int)
  have c__law_gcd : Cl P w K mg base 1 "_law_gcd" ["u", "v"] (spP K S_law_gcd) := t__law_gcd.cl (fun _ _ _ _ _ _ us hl => match us, hl with | [_, _], _ => rfl) (fun f fd F => ok__law_gcd F m_int)
  have c__law_num : Cl P w K mg base 2 "_law_num" ["x", "y", "m"] (spP K S_law_num) := t__law_num.cl (fun _ _ _ _ _ _ us hl => match us, hl with | [_, _, _], _ => rfl) (fun f fd F => ok__law_num F c__law_gcd m_abs)
  have c__law_plus : Cl P w K mg base 3 "_law_plus" ["u", "v"] (spP K S_law_plus) := t__law_plus.cl (fun _ _ _ _ _ _ us hl => match us, hl with | [_, _], _ => rfl) (fun f fd F => ok__law_plus F c__law_num)
  have c__law_minus : Cl P w K mg base 3 "_law_minus" ["u", "v"] (spP K S_law_minus) := t__law_minus.cl (fun _ _ _ _ _ _ us hl => match us, hl with | [_, _], _ => rfl) (fun f fd F => ok__law_minus F c__law_num)
  have c__law_times : Cl P w K mg base 3 "_law_times" ["field", "u", "v"] (spP K S_law_times) := t__law_times.cl (fun _ _ _ _ _ _ us hl => match us, hl with | [_, _, _], _ => rfl) (fun f fd F => ok__law_times F c__law_num)
  have c__law_is : Cl P w K mg base 2 "_law_is" ["triple"] (spP K S_law_is) := t__law_is.cl (fun _ _ _ _ _ _ us hl => match us, hl with | [_], _ => rfl) (fun f fd F => ok__law_is F c__law_gcd m_abs)
  have c__law_mate : Cl P w K mg base 3 "_law_mate" ["field", "u"] (spP K S_law_mate) := t__law_mate.cl (fun _ _ _ _ _ _ us hl => match us, hl with | [_, _], _ => rfl) (fun f fd F => ok__law_mate F c__law_num)
  have c__law_same : Cl P w K mg base 4 "_law_same" ["found", "due"] (spP K (Ssame 3)) := by
    obtain ⟨f, fd, hm, F⟩ := t__law_same.ex
    have hb : Binds K fd ["found", "due"] [] := F.binds (fun _ _ _ _ _ _ us hl => match us, hl with | [_, _], _ => rfl)
    exact ⟨f, fd, hm, F.kp, hb, ok__law_same F hm hb m_isinstance m_tuple m_list m_str m_bool m_int m_len m_range 3⟩
  have c__law_number : Cl P w K mg base 3 "_law_number" ["deck"] (spD K S_law_number) := t__law_number.cl (fun _ _ _ _ _ _ us hl => match us, hl with | [_], _ => rfl) (fun f fd F => ok__law_number F c__law_take c__law_num)
  have c__law_wide : Cl P w K mg base 4 "_law_wide" ["deck"] (spD K S_law_wide) := t__law_wide.cl (fun _ _ _ _ _ _ us hl => match us, hl with | [_], _ => rfl) (fun f fd F => ok__law_wide F c__law_number c__law_take c__law_times m_range)
  have c__law_triple : Cl P w K mg base 5 "_law_triple" ["deck"] (spD K S_law_triple) := t__law_triple.cl (fun _ _ _ _ _ _ us hl => match us, hl with | [_], _ => rfl) (fun f fd F => ok__law_triple F c__law_take c__law_wide m_abs)
  have T : ExK P w K mg base "DividedByZero" C := ⟨gC, oex, no, xf, te, fI, fdI, iC, tI, FI.binds (fun _ _ _ _ _ _ us hl => match us, hl with | [_, _], _ => rfl), ok_init FI m_ValueError vV⟩
  have r_number : ClR P w K mg base 3 "number" ["a", "b", "n"] (spR K C Sx_number) := t_number.clR (fun _ _ _ _ _ _ us hl => match us, hl with | [_, _, _], _ => rfl) (fun f fd F => okx_number F c_check_integer T)
  have rk_number : ClRK P w K mg base 3 "number" ["a", "b", "n"] ["n", "b", "a"] [2, 1, 0] (spR K C Sx_number) := t_number.clRK [2, 1, 0] (by decide) (fun _ _ _ _ _ _ ws hl => match ws, hl with | [_, _, _], _ => rfl) (fun f fd F => okx_number F c_check_integer T)
  have r_by : ClR P w K mg base 4 "by" ["kind", "p", "q"] (spR K C Sx_by) := t_by.clR (fun _ _ _ _ _ _ us hl => match us, hl with | [_, _, _], _ => rfl) (fun f fd F => okx_by F c_check_kind c_check_number T)
  have rk_by : ClRK P w K mg base 4 "by" ["kind", "p", "q"] ["q", "p", "kind"] [2, 1, 0] (spR K C Sx_by) := t_by.clRK [2, 1, 0] (by decide) (fun _ _ _ _ _ _ ws hl => match ws, hl with | [_, _, _], _ => rfl) (fun f fd F => okx_by F c_check_kind c_check_number T)
  have c__law_divided : Cl P w K mg base 5 "_law_divided" ["field", "door", "u", "named"] (spN K S_law_divided) := t__law_divided.cl (fun _ _ _ _ _ _ us hl => match us, hl with | [_, _, _, _], _ => rfl) (fun f fd F => ok__law_divided F T r_number r_by rk_number rk_by)
  have c__law_two_right : Cl P w K mg base 5 "_law_two_right" ["field", "u", "v"] (spP K S_law_two_right) := t__law_two_right.cl (fun _ _ _ _ _ _ us hl => match us, hl with | [_, _, _], _ => rfl) (fun f fd F => ok__law_two_right F c__law_same c__law_plus c_plus c__law_minus c_minus c__law_times c_times c_by c__law_is ck_plus ck_minus ck_times ck_by m_isinstance m_int m_bool m_tuple m_len)
  have c__law_one_right : Cl P w K mg base 5 "_law_one_right" ["deck", "field", "u"] (spD K S_law_one_right) := t__law_one_right.cl (fun _ _ _ _ _ _ us hl => match us, hl with | [_, _, _], _ => rfl) (fun f fd F => ok__law_one_right F c__law_mate c__law_same c_mate c__law_times c_norm c__law_take c__law_num c_scaled ck_mate ck_norm ck_scaled)
  have c__law_right : Cl P w K mg base 6 "_law_right" ["deck"] (spD K S_law_right) := t__law_right.cl (fun _ _ _ _ _ _ us hl => match us, hl with | [_], _ => rfl) (fun f fd F => ok__law_right F c__law_take c__law_triple c__law_same c__law_is c_is_number c__law_wide c__law_divided c__law_two_right c__law_one_right c__law_num c_number ck_is_number ck_number)
  have cn_is_number : Cl P w K mg base 1 "is_number" ["told"] (spP K Sisn0) := t_is_number.cl (fun _ _ _ _ _ _ us hl => match us, hl with | [_], _ => rfl) (fun f fd F => okn_is_number F m_isinstance m_tuple m_len)
  have c__law_deck : Cl P w K mg base 1 "_law_deck" ["script", "at"] (spN K S_law_deck) := t__law_deck.cl (fun _ _ _ _ _ _ us hl => match us, hl with | [_, _], _ => rfl) (fun f fd F => ok__law_deck F m_len m_int)
  exact ok_law FL c__law_deck c__law_right c__law_same cn_is_number m_len m_max m_min m_range
theorem law_pre {K : PySem.W.Frag} {H : Hp} {a : Addr} {ns : List Int} (hl : ns.length ≤ 63) (hS : SqL K H a (ns.map V.int)) : spP K S_law [.ref a] H (fun v _ => v = .bl true) (fun _ _ _ => False) :=
  ⟨[.lst (ns.map Dat.int)], .bl true, DTs.cons (.lst' hS (fun z => by cases z) (dts_ints ns)) DTs.nil, ⟨ns, rfl, hl, rfl⟩, fun v H' _ h => by cases h; rfl⟩
theorem law_end {P : Program} {w : World} {K : PySem.W.Frag} {h : Heap} {mg : Str → Option Value} {fa f : Addr} {oc : Value} {od an : Option Addr} {osl : Array (Option Value)} {kV doc pm cdv ct : Value} (X : K.In h) (G : h.Ns mainGlobals mg) (hfa : mg "law" = some (.ref fa))
    (a : PySem.W.nsIn K mainGlobals "law" = some (some (.ref f))) (l : K.lookup f = some ⟨oc, od, .func (PySem.W.fnOf "law" "law" (defArgs s_law) (defBody s_law) (defScope s_law) .none kV doc pm an cdv ct), osl⟩) (c : PySem.W.codeIn K cdv "law" = true) (k : PySem.W.keepIn K (.ref f) = true)
    (H : ∀ (base : Heap) (f : Addr) (fd : FuncData), Fun K "law" "law" s_law f fd → FnOk P w K mg base CX0 7 f fd ["script"] (spP K S_law)) :
    ∃ fd : FuncData, (∀ (s : Shared) (v : Value), BindsTo s fd ⟨[v], []⟩ [("script", v)]) ∧ ∀ base : Heap, K.In base → base.Ns mainGlobals mg → FnOk P w K mg base CX0 7 fa fd ["script"] (spP K S_law) := by
  have e := hfa.symm.trans (PySem.W.mg_of X G a)
  cases e
  exact ⟨_, fun s v => .of_eq rfl, fun base _ _ => H base _ _ (fun_mk (st := s_law) l c k)⟩
theorem oex_mk {K : PySem.W.Frag} {C : Addr} {nm q : Str} {N : Addr} {bs bm : List Value} {sn : List Str} {sub : List Value} {ab : Bool} {col : Option Bool} {dd : Option Addr} {m0 m1 m2 m3 m5 : Option Value}
    (xL : K.lookup C = some (excClassObj nm q C N bs bm true sn sub ab col dd m0 m1 m2 m3 m5 "ValueError.__new__")) (hb : PySem.HandSPX.refsVE bm = true)
    (sa : PySem.W.findIn K (.ref C) "__setattr__" = some (some (.builtin "object.__setattr__"))) (eC : PySem.W.subIn K (.ref C) (.type "BaseException") = some true) (tC : PySem.W.typeIn K (.ref C) = some (.type "type")) (kC : PySem.W.keepIn K (.ref C) = true) : OexC K C :=
  ⟨⟨nm, q, N, bs, bm, sn, sub, ab, col, dd, m0, m1, m2, m3, m5, xL, hb⟩, sa, eC, tC, kC⟩
theorem law_done {P : Program} {w : World} {K : PySem.W.Frag} {h : Heap} {mg : Str → Option Value} {fa C fI : Addr} (X : K.In h) (G : h.Ns mainGlobals mg) (hfa : mg "law" = some (.ref fa))
    (t_lowest : Top K mg "lowest" s_lowest) (t_pair_times : Top K mg "pair_times" s_pair_times) (t_pair_mate : Top K mg "pair_mate" s_pair_mate) (t_pair_norm : Top K mg "pair_norm" s_pair_norm) (t_is_integer : Top K mg "is_integer" s_is_integer) (t_is_kind : Top K mg "is_kind" s_is_kind) (t_check_kind : Top K mg "check_kind" s_check_kind) (t_number_sum : Top K mg "number_sum" s_number_sum) (t_number_less : Top K mg "number_less" s_number_less) (t_number_by : Top K mg "number_by" s_number_by) (t_is_number : Top K mg "is_number" s_is_number) (t_check_number : Top K mg "check_number" s_check_number) (t_check_integer : Top K mg "check_integer" s_check_integer) (t_number : Top K mg "number" s_number) (t_plus : Top K mg "plus" s_plus) (t_minus : Top K mg "minus" s_minus) (t_scaled : Top K mg "scaled" s_scaled) (t_times : Top K mg "times" s_times) (t_by : Top K mg "by" s_by) (t_mate : Top K mg "mate" s_mate) (t_norm : Top K mg "norm" s_norm) (t__law_take : Top K mg "_law_take" s__law_take) (t__law_gcd : Top K mg "_law_gcd" s__law_gcd) (t__law_num : Top K mg "_law_num" s__law_num) (t__law_plus : Top K mg "_law_plus" s__law_plus) (t__law_minus : Top K mg "_law_minus" s__law_minus) (t__law_times : Top K mg "_law_times" s__law_times) (t__law_is : Top K mg "_law_is" s__law_is) (t__law_mate : Top K mg "_law_mate" s__law_mate) (t__law_same : Top K mg "_law_same" s__law_same) (t__law_number : Top K mg "_law_number" s__law_number) (t__law_wide : Top K mg "_law_wide" s__law_wide) (t__law_triple : Top K mg "_law_triple" s__law_triple) (t__law_divided : Top K mg "_law_divided" s__law_divided) (t__law_two_right : Top K mg "_law_two_right" s__law_two_right) (t__law_one_right : Top K mg "_law_one_right" s__law_one_right) (t__law_right : Top K mg "_law_right" s__law_right) (t__law_deck : Top K mg "_law_deck" s__law_deck) (m_isinstance : mg "isinstance" = none) (m_int : mg "int" = none) (m_bool : mg "bool" = none) (m_tuple : mg "tuple" = none) (m_list : mg "list" = none) (m_str : mg "str" = none) (m_len : mg "len" = none) (m_range : mg "range" = none) (m_abs : mg "abs" = none) (m_max : mg "max" = none) (m_min : mg "min" = none) (m_ValueError : mg "ValueError" = none) (m_gcd : mg "gcd" = some (.builtin "math.gcd")) (t_KINDS : KT K mg "KINDS" [2, 3, 5])
    {od1 an1 od2 an2 : Option Addr} {sl1 sl2 : Array (Option Value)} {oc1 kV1 dc1 pm1 cd1 ct1 oc2 kV2 dc2 pm2 cd2 ct2 : Value} {f : Addr}
    {nm q : Str} {N : Addr} {bs bm : List Value} {sn : List Str} {sub : List Value} {ab : Bool} {col : Option Bool} {dd : Option Addr} {m0 m1 m2 m3 m5 : Option Value}
    (aC : PySem.W.nsIn K mainGlobals "DividedByZero" = some (some (.ref C))) (xL : K.lookup C = some (excClassObj nm q C N bs bm true sn sub ab col dd m0 m1 m2 m3 m5 "ValueError.__new__")) (hb : PySem.HandSPX.refsVE bm = true)
    (sa : PySem.W.findIn K (.ref C) "__setattr__" = some (some (.builtin "object.__setattr__"))) (eC : PySem.W.subIn K (.ref C) (.type "BaseException") = some true) (tC : PySem.W.typeIn K (.ref C) = some (.type "type")) (kC : PySem.W.keepIn K (.ref C) = true)
    (ga : PySem.W.findIn K (.ref C) "__getattribute__" = some (some (.builtin "BaseException.__getattribute__"))) (gg : PySem.W.findIn K (.ref C) "__getattr__" = some none) (hC : PySem.W.hasDictIn K C = true) (no : PySem.W.findIn K (.ref C) "value" = some none) (sC : PySem.W.subIn K (.ref C) (.ref C) = some true)
    (iC : PySem.W.findIn K (.ref C) "__init__" = some (some (.ref fI))) (tI : PySem.W.typeIn K (.ref fI) = some (.type "function")) (l1 : K.lookup fI = some ⟨oc1, od1, .func (PySem.W.fnOf "__init__" "FloorError.__init__" (defArgs s_init) (defBody s_init) (defScope s_init) .none kV1 dc1 pm1 an1 cd1 ct1), sl1⟩) (c1 : PySem.W.codeIn K cd1 "FloorError.__init__" = true) (k1 : PySem.W.keepIn K (.ref fI) = true)
    (vV : PySem.W.findCls K (.type "ValueError") (.type "type") "__init__" = some (.val (.builtin "ValueError.__init__")))
    (a : PySem.W.nsIn K mainGlobals "law" = some (some (.ref f))) (l2 : K.lookup f = some ⟨oc2, od2, .func (PySem.W.fnOf "law" "law" (defArgs s_law) (defBody s_law) (defScope s_law) .none kV2 dc2 pm2 an2 cd2 ct2), sl2⟩) (c2 : PySem.W.codeIn K cd2 "law" = true) (k2 : PySem.W.keepIn K (.ref f) = true) :
    ∃ fd : FuncData, (∀ (s : Shared) (v : Value), BindsTo s fd ⟨[v], []⟩ [("script", v)]) ∧ ∀ base : Heap, K.In base → base.Ns mainGlobals mg → FnOk P w K mg base CX0 7 fa fd ["script"] (spP K S_law) :=
  law_end X G hfa a l2 c2 k2 fun base f fd F => law_all t_lowest t_pair_times t_pair_mate t_pair_norm t_is_integer t_is_kind t_check_kind t_number_sum t_number_less t_number_by t_is_number t_check_number t_check_integer t_number t_plus t_minus t_scaled t_times t_by t_mate t_norm t__law_take t__law_gcd t__law_num t__law_plus t__law_minus t__law_times t__law_is t__law_mate t__law_same t__law_number t__law_wide t__law_triple t__law_divided t__law_two_right t__law_one_right t__law_right t__law_deck m_isinstance m_int m_bool m_tuple m_list m_str m_len m_range m_abs m_max m_min m_ValueError m_gcd t_KINDS (PySem.W.mg_of X G aC) (oex_mk xL hb sa eC tC kC) no ⟨ga, gg, eC, hC⟩ (PySem.W.exm_ref eC hC tC sC) iC tI (fun_mk (st := s_init) l1 c1 k1) vV F
end Wk
set_option Elab.async false
set_option linter.all false
open PySem PySem.W PyProof.Rows
set_option maxRecDepth 100000 in
set_option maxHeartbeats 0 in
theorem PySem.Challenge.cw_wholefloors_k01_whole_numbers_holds : PySem.Challenge.rw_wholefloors_k01_whole_numbers.Holds := by
  w_on; o_law; k_head; (case hw => w_witness2)
  k_fill
  refine L2.walk_ofK (l := PySem.Challenge.rw_wholefloors_k01_whole_numbers) (n := 63) (k := 7) (x := "script") (CX := L2.CX0) (sp := fun K => Wf.spP K Wk.S_law) rfl (by decide) rfl ⟨rfl, by decide, by decide⟩ (fun w h Y => PySem.W.kIn_of Y) ?F (fun K H a ns hl _ hS => Wk.law_pre hl hS) (fun _ _ _ _ h => h)
  case F =>
    intro w mg fa h KX G hmg
    have t_lowest := by
      refine' Wk.top_mk (x := "lowest") (st := Wk.s_lowest) KX G ?a ?l ?c ?k
      (case a => k_is); (case l => k_is); (case c => k_is); (case k => k_is)
    have t_pair_times := by
      refine' Wk.top_mk (x := "pair_times") (st := Wk.s_pair_times) KX G ?a ?l ?c ?k
      (case a => k_is); (case l => k_is); (case c => k_is); (case k => k_is)
    have t_pair_mate := by
      refine' Wk.top_mk (x := "pair_mate") (st := Wk.s_pair_mate) KX G ?a ?l ?c ?k
      (case a => k_is); (case l => k_is); (case c => k_is); (case k => k_is)
    have t_pair_norm := by
      refine' Wk.top_mk (x := "pair_norm") (st := Wk.s_pair_norm) KX G ?a ?l ?c ?k
      (case a => k_is); (case l => k_is); (case c => k_is); (case k => k_is)
    have t_is_integer := by
      refine' Wk.top_mk (x := "is_integer") (st := Wk.s_is_integer) KX G ?a ?l ?c ?k
      (case a => k_is); (case l => k_is); (case c => k_is); (case k => k_is)
    have t_is_kind := by
      refine' Wk.top_mk (x := "is_kind") (st := Wk.s_is_kind) KX G ?a ?l ?c ?k
      (case a => k_is); (case l => k_is); (case c => k_is); (case k => k_is)
    have t_check_kind := by
      refine' Wk.top_mk (x := "check_kind") (st := Wk.s_check_kind) KX G ?a ?l ?c ?k
      (case a => k_is); (case l => k_is); (case c => k_is); (case k => k_is)
    have t_number_sum := by
      refine' Wk.top_mk (x := "number_sum") (st := Wk.s_number_sum) KX G ?a ?l ?c ?k
      (case a => k_is); (case l => k_is); (case c => k_is); (case k => k_is)
    have t_number_less := by
      refine' Wk.top_mk (x := "number_less") (st := Wk.s_number_less) KX G ?a ?l ?c ?k
      (case a => k_is); (case l => k_is); (case c => k_is); (case k => k_is)
    have t_number_by := by
      refine' Wk.top_mk (x := "number_by") (st := Wk.s_number_by) KX G ?a ?l ?c ?k
      (case a => k_is); (case l => k_is); (case c => k_is); (case k => k_is)
    have t_is_number := by
      refine' Wk.top_mk (x := "is_number") (st := Wk.s_is_number) KX G ?a ?l ?c ?k
      (case a => k_is); (case l => k_is); (case c => k_is); (case k => k_is)
    have t_check_number := by
      refine' Wk.top_mk (x := "check_number") (st := Wk.s_check_number) KX G ?a ?l ?c ?k
      (case a => k_is); (case l => k_is); (case c => k_is); (case k => k_is)
    have t_check_integer := by
      refine' Wk.top_mk (x := "check_integer") (st := Wk.s_check_integer) KX G ?a ?l ?c ?k
      (case a => k_is); (case l => k_is); (case c => k_is); (case k => k_is)
    have t_number := by
      refine' Wk.top_mk (x := "number") (st := Wk.s_number) KX G ?a ?l ?c ?k
      (case a => k_is); (case l => k_is); (case c => k_is); (case k => k_is)
    have t_plus := by
      refine' Wk.top_mk (x := "plus") (st := Wk.s_plus) KX G ?a ?l ?c ?k
      (case a => k_is); (case l => k_is); (case c => k_is); (case k => k_is)
    have t_minus := by
      refine' Wk.top_mk (x := "minus") (st := Wk.s_minus) KX G ?a ?l ?c ?k
      (case a => k_is); (case l => k_is); (case c => k_is); (case k => k_is)
    have t_scaled := by
      refine' Wk.top_mk (x := "scaled") (st := Wk.s_scaled) KX G ?a ?l ?c ?k
      (case a => k_is); (case l => k_is); (case c => k_is); (case k => k_is)
    have t_times := by
      refine' Wk.top_mk (x := "times") (st := Wk.s_times) KX G ?a ?l ?c ?k
      (case a => k_is); (case l => k_is); (case c => k_is); (case k => k_is)
    have t_by := by
      refine' Wk.top_mk (x := "by") (st := Wk.s_by) KX G ?a ?l ?c ?k
      (case a => k_is); (case l => k_is); (case c => k_is); (case k => k_is)
    have t_mate := by
      refine' Wk.top_mk (x := "mate") (st := Wk.s_mate) KX G ?a ?l ?c ?k
      (case a => k_is); (case l => k_is); (case c => k_is); (case k => k_is)
    have t_norm := by
      refine' Wk.top_mk (x := "norm") (st := Wk.s_norm) KX G ?a ?l ?c ?k
      (case a => k_is); (case l => k_is); (case c => k_is); (case k => k_is)
    have t__law_take := by
      refine' Wk.top_mk (x := "_law_take") (st := Wk.s__law_take) KX G ?a ?l ?c ?k
      (case a => k_is); (case l => k_is); (case c => k_is); (case k => k_is)
    have t__law_gcd := by
      refine' Wk.top_mk (x := "_law_gcd") (st := Wk.s__law_gcd) KX G ?a ?l ?c ?k
      (case a => k_is); (case l => k_is); (case c => k_is); (case k => k_is)
    have t__law_num := by
      refine' Wk.top_mk (x := "_law_num") (st := Wk.s__law_num) KX G ?a ?l ?c ?k
      (case a => k_is); (case l => k_is); (case c => k_is); (case k => k_is)
    have t__law_plus := by
      refine' Wk.top_mk (x := "_law_plus") (st := Wk.s__law_plus) KX G ?a ?l ?c ?k
      (case a => k_is); (case l => k_is); (case c => k_is); (case k => k_is)
    have t__law_minus := by
      refine' Wk.top_mk (x := "_law_minus") (st := Wk.s__law_minus) KX G ?a ?l ?c ?k
      (case a => k_is); (case l => k_is); (case c => k_is); (case k => k_is)
    have t__law_times := by
      refine' Wk.top_mk (x := "_law_times") (st := Wk.s__law_times) KX G ?a ?l ?c ?k
      (case a => k_is); (case l => k_is); (case c => k_is); (case k => k_is)
    have t__law_is := by
      refine' Wk.top_mk (x := "_law_is") (st := Wk.s__law_is) KX G ?a ?l ?c ?k
      (case a => k_is); (case l => k_is); (case c => k_is); (case k => k_is)
    have t__law_mate := by
      refine' Wk.top_mk (x := "_law_mate") (st := Wk.s__law_mate) KX G ?a ?l ?c ?k
      (case a => k_is); (case l => k_is); (case c => k_is); (case k => k_is)
    have t__law_same := by
      refine' Wk.top_mk (x := "_law_same") (st := Wk.s__law_same) KX G ?a ?l ?c ?k
      (case a => k_is); (case l => k_is); (case c => k_is); (case k => k_is)
    have t__law_number := by
      refine' Wk.top_mk (x := "_law_number") (st := Wk.s__law_number) KX G ?a ?l ?c ?k
      (case a => k_is); (case l => k_is); (case c => k_is); (case k => k_is)
    have t__law_wide := by
      refine' Wk.top_mk (x := "_law_wide") (st := Wk.s__law_wide) KX G ?a ?l ?c ?k
      (case a => k_is); (case l => k_is); (case c => k_is); (case k => k_is)
    have t__law_triple := by
      refine' Wk.top_mk (x := "_law_triple") (st := Wk.s__law_triple) KX G ?a ?l ?c ?k
      (case a => k_is); (case l => k_is); (case c => k_is); (case k => k_is)
    have t__law_divided := by
      refine' Wk.top_mk (x := "_law_divided") (st := Wk.s__law_divided) KX G ?a ?l ?c ?k
      (case a => k_is); (case l => k_is); (case c => k_is); (case k => k_is)
    have t__law_two_right := by
      refine' Wk.top_mk (x := "_law_two_right") (st := Wk.s__law_two_right) KX G ?a ?l ?c ?k
      (case a => k_is); (case l => k_is); (case c => k_is); (case k => k_is)
    have t__law_one_right := by
      refine' Wk.top_mk (x := "_law_one_right") (st := Wk.s__law_one_right) KX G ?a ?l ?c ?k
      (case a => k_is); (case l => k_is); (case c => k_is); (case k => k_is)
    have t__law_right := by
      refine' Wk.top_mk (x := "_law_right") (st := Wk.s__law_right) KX G ?a ?l ?c ?k
      (case a => k_is); (case l => k_is); (case c => k_is); (case k => k_is)
    have t__law_deck := by
      refine' Wk.top_mk (x := "_law_deck") (st := Wk.s__law_deck) KX G ?a ?l ?c ?k
      (case a => k_is); (case l => k_is); (case c => k_is); (case k => k_is)
    have m_isinstance := by
      refine' PySem.W.mg_none_of (n := "isinstance") KX G ?a
      (case a => k_is)
    have m_int := by
      refine' PySem.W.mg_none_of (n := "int") KX G ?a
      (case a => k_is)
    have m_bool := by
      refine' PySem.W.mg_none_of (n := "bool") KX G ?a
      (case a => k_is)
    have m_tuple := by
      refine' PySem.W.mg_none_of (n := "tuple") KX G ?a
      (case a => k_is)
    have m_list := by
      refine' PySem.W.mg_none_of (n := "list") KX G ?a
      (case a => k_is)
    have m_str := by
      refine' PySem.W.mg_none_of (n := "str") KX G ?a
      (case a => k_is)
    have m_len := by
      refine' PySem.W.mg_none_of (n := "len") KX G ?a
      (case a => k_is)
    have m_range := by
      refine' PySem.W.mg_none_of (n := "range") KX G ?a
      (case a => k_is)
    have m_abs := by
      refine' PySem.W.mg_none_of (n := "abs") KX G ?a
      (case a => k_is)
    have m_max := by
      refine' PySem.W.mg_none_of (n := "max") KX G ?a
      (case a => k_is)
    have m_min := by
      refine' PySem.W.mg_none_of (n := "min") KX G ?a
      (case a => k_is)
    have m_ValueError := by
      refine' PySem.W.mg_none_of (n := "ValueError") KX G ?a
      (case a => k_is)
    have m_gcd := by
      refine' PySem.W.mg_of (n := "gcd") (v := .builtin "math.gcd") KX G ?a
      (case a => k_is)
    have t_KINDS := by
      refine' Wk.kt_mk (x := "KINDS") KX G ?a ?l
      (case a => k_is); (case l => k_is)
    refine' Wk.law_done KX G hmg t_lowest t_pair_times t_pair_mate t_pair_norm t_is_integer t_is_kind t_check_kind t_number_sum t_number_less t_number_by t_is_number t_check_number t_check_integer t_number t_plus t_minus t_scaled t_times t_by t_mate t_norm t__law_take t__law_gcd t__law_num t__law_plus t__law_minus t__law_times t__law_is t__law_mate t__law_same t__law_number t__law_wide t__law_triple t__law_divided t__law_two_right t__law_one_right t__law_right t__law_deck m_isinstance m_int m_bool m_tuple m_list m_str m_len m_range m_abs m_max m_min m_ValueError m_gcd t_KINDS ?aC ?xL ?hb ?sa ?eC ?tC ?kC ?ga ?gg ?hC ?no ?sC ?iC ?tI ?l1 ?c1 ?k1 ?vV ?a ?l2 ?c2 ?k2
    (case aC => k_is); (case xL => k_is); (case hb => first | rfl | decide | k_is); (case sa => k_is); (case eC => k_is); (case tC => k_is); (case kC => k_is); (case ga => k_is); (case gg => k_is); (case hC => k_is); (case no => k_is); (case sC => first | k_is | rfl); (case iC => k_is); (case tI => k_is); (case l1 => k_is); (case c1 => k_is); (case k1 => k_is); (case vV => first | k_is | kernel_rfl | rfl); (case a => k_is); (case l2 => k_is); (case c2 => k_is); (case k2 => k_is)

