import PyProof.Rows.All
import HandS.ForMost
import HandS.AnyAll
import HandS.Evl
import HandS.IsInst
import HandS.TupLe
import HandS.TupSets
import HandS.DictComp
import HandS.SetBool
import HandS.Strs
import HandS.SetFor
import HandS.Conv
import HandS.Wide
import HandS.Style
import KE.GoesEnum
import PySem.Challenge.RW_shiftcore_k03_whole_parts
import HandS.Text
set_option Elab.async false
set_option linter.all false
set_option maxRecDepth 100000
set_option maxHeartbeats 2000000
namespace Vf
open PySem PySem.Spec PyProof.Rows L2
open Evl hiding Ex Ex.refl Ex.trans Ex.new Ex.mut ex_rd ex_l ex_t fresh_back

/-! ### heaps that went on: what stood stands; a table of code objects may have grown -/
def Ho (H : Hp) (b : Addr) : HO → Prop
  | .tbl ps => ∃ ps', H b = some (.tbl ps') ∧ (TriplesOk ps.toList → TriplesOk ps'.toList)
  | o => H b = some o
theorem Ho.of {H : Hp} {b : Addr} {o : HO} (h : H b = some o) : Ho H b o := by
  cases o with
  | tbl ps => exact ⟨ps, h, id⟩
  | _ => exact h
theorem Ho.ex {H : Hp} {b : Addr} {o : HO} (h : Ho H b o) : ∃ o', H b = some o' := by
  cases o with
  | tbl ps => obtain ⟨ps', e, _⟩ := h; exact ⟨_, e⟩
  | _ => exact ⟨_, h⟩
def NoTab (o : HO) : Prop := ∀ ps, o ≠ .tbl ps
theorem Ho.eq {H : Hp} {b : Addr} {o : HO} (h : Ho H b o) (n : NoTab o) : H b = some o := by
  cases o with
  | tbl ps => exact (n ps rfl).elim
  | _ => exact h
theorem Ho.away {H : Hp} {b p : Addr} {o u : HO} (h : Ho H b o) (n : b ≠ p) : Ho (upd H p u) b o := by
  cases o with
  | tbl ps => obtain ⟨ps', e, f⟩ := h; exact ⟨ps', by rw [upd_ne n]; exact e, f⟩
  | _ => exact (by rw [upd_ne n]; exact h : upd H p u b = some _)
def Ex (H H' : Hp) : Prop := ∀ b o, H b = some o → Ho H' b o
theorem Ho.trans {H H' : Hp} {b : Addr} {o : HO} (h : Ho H b o) (e : Ex H H') : Ho H' b o := by
  cases o with
  | tbl ps =>
    obtain ⟨ps', h1, f⟩ := h
    obtain ⟨p2, h2, f2⟩ := e b _ h1
    exact ⟨p2, h2, f2 ∘ f⟩
  | _ => exact e b _ h
theorem Ex.refl (H : Hp) : Ex H H := fun _ _ h => .of h
theorem Ex.trans {H H1 H2 : Hp} (a : Ex H H1) (b : Ex H1 H2) : Ex H H2 := fun x o h => (a x o h).trans b
theorem Ex.new {H : Hp} {p : Addr} {o : HO} (h : H p = none) : Ex H (upd H p o) := fun a u e => .of (by
  rw [upd_ne (ne_of_none e h)]
  exact e)
/-- an object that H does not know may change -/
theorem Ex.mut {H H' : Hp} {p : Addr} {o : HO} (e : Ex H H') (h : H p = none) : Ex H (upd H' p o) := fun a u ha => (e a u ha).away (ne_of_none ha h)
theorem ex_rd {H H' : Hp} {a : Addr} {u : HO} (e : Ex H H') (h : Rd H a u) (n : NoTab u) : Rd H' a u := by
  rcases h with h | ⟨o, h⟩
  · exact Or.inl ((e a _ h).eq n)
  · exact Or.inr ⟨o, e a _ h⟩
theorem ex_l {K : PySem.W.Frag} {H H' : Hp} {a : Addr} {xs : List V} (e : Ex H H') (h : SqL K H a xs) : SqL K H' a xs := by
  rcases h with h | h
  · exact Or.inl (ex_rd e h fun _ z => nomatch z)
  · exact Or.inr h
theorem ex_t {K : PySem.W.Frag} {H H' : Hp} {a : Addr} {xs : List V} (e : Ex H H') (h : SqT K H a xs) : SqT K H' a xs := by
  rcases h with h | h
  · exact Or.inl (ex_rd e h fun _ z => nomatch z)
  · exact Or.inr h
/-- fresh ahead of an extension is fresh before -/
theorem fresh_back {H H' : Hp} {p : Addr} (e : Ex H H') (h : H' p = none) : H p = none := by
  cases h1 : H p with
  | none => rfl
  | some o =>
    obtain ⟨o', h2⟩ := (e p o h1).ex
    rw [h] at h2
    cases h2
/-- what it does to a table -/
theorem Ex.tab {H H' : Hp} {P : Addr} (e : Ex H H') (h : GxR.TabG H P) : GxR.TabG H' P := by
  obtain ⟨ps, h1, f⟩ := h
  obtain ⟨p2, h2, f2⟩ := e P _ h1
  exact ⟨p2, h2, f2 f⟩
theorem Ex.tabbed {H H' : Hp} {P : Addr} (h : GxR.TabG H P) (t : GxR.Tabbed P H H') : Ex H H' := fun b o e => by
  by_cases hb : b = P
  · subst hb
    obtain ⟨ps, h1, f⟩ := h
    obtain ⟨⟨p2, h2, f2⟩, _⟩ := t
    rw [e] at h1
    cases h1
    exact ⟨p2, h2, fun _ => f2⟩
  · exact .of (by rw [t.2 b hb]; exact e)

/-! ### data -/
mutual
/-- the value stands for the datum; a list is an object of its own -/
inductive Rp (K : PySem.W.Frag) (H : Hp) : V → PyData → Prop
  | non : Rp K H .non .none
  | bl (b : Bool) : Rp K H (.bl b) (.bool b)
  | int (i : Int) : Rp K H (.int i) (.int i)
  | str (x : Str) : Rp K H (.str x) (.str x)
  | lst {a : Addr} {xs : List V} {ds : List PyData} : H a = some (.lst xs) → RpAll K H xs ds → Rp K H (.ref a) (.list ds)
  | tup {a : Addr} {xs : List V} {ds : List PyData} : SqT K H a xs → RpAll K H xs ds → Rp K H (.ref a) (.tuple ds)
inductive RpAll (K : PySem.W.Frag) (H : Hp) : List V → List PyData → Prop
  | nil : RpAll K H [] []
  | cons {v : V} {vs : List V} {d : PyData} {ds : List PyData} : Rp K H v d → RpAll K H vs ds → RpAll K H (v :: vs) (d :: ds)
end
mutual
theorem Rp.ex {K : PySem.W.Frag} {H H' : Hp} (e : Ex H H') : ∀ {d : PyData} {v : V}, Rp K H v d → Rp K H' v d
  | .none, _, h => by cases h; exact .non
  | .bool b, _, h => by cases h; exact .bl b
  | .int i, _, h => by cases h; exact .int i
  | .str s, _, h => by cases h; exact .str s
  | .list ds, _, h => by
    cases h with
    | lst hs ha => exact .lst (e _ _ hs) (RpAll.ex e ha)
  | .tuple ds, _, h => by
    cases h with
    | tup hs ha => exact .tup (ex_t e hs) (RpAll.ex e ha)
  | .dict _, _, h => by cases h
theorem RpAll.ex {K : PySem.W.Frag} {H H' : Hp} (e : Ex H H') : ∀ {ds : List PyData} {vs : List V}, RpAll K H vs ds → RpAll K H' vs ds
  | [], _, h => by cases h; exact .nil
  | d :: ds, _, h => by
    cases h with
    | cons h1 h2 => exact .cons (Rp.ex e h1) (RpAll.ex e h2)
end
mutual
theorem Rp.dp {K : PySem.W.Frag} {H : Hp} : ∀ {d : PyData} {v : V}, Rp K H v d → Dp K H v d
  | .none, _, h => by cases h; exact .non
  | .bool b, _, h => by cases h; exact .bl b
  | .int i, _, h => by cases h; exact .int i
  | .str s, _, h => by cases h; exact .str s
  | .list ds, _, h => by
    cases h with
    | lst hs ha => exact .lst (SqL.of hs) (RpAll.dp ha)
  | .tuple ds, _, h => by
    cases h with
    | tup hs ha => exact .tup hs (RpAll.dp ha)
  | .dict _, _, h => by cases h
theorem RpAll.dp {K : PySem.W.Frag} {H : Hp} : ∀ {ds : List PyData} {vs : List V}, RpAll K H vs ds → DpAll K H vs ds
  | [], _, h => by cases h; exact .nil
  | d :: ds, _, h => by
    cases h with
    | cons h1 h2 => exact .cons (Rp.dp h1) (RpAll.dp h2)
end
section
variable {K : PySem.W.Frag} {H : Hp}
theorem rpa_len : ∀ {vs : List V} {ds : List PyData}, RpAll K H vs ds → vs.length = ds.length
  | _, _, .nil => rfl
  | _, _, .cons _ h => by rw [List.length_cons, List.length_cons, rpa_len h]
theorem rpa_get : ∀ {vs : List V} {ds : List PyData} {i : Nat} {v : V}, RpAll K H vs ds → vs[i]? = some v → ∃ d, ds[i]? = some d ∧ Rp K H v d
  | _, _, i, v, .nil, e => by simp at e
  | _, _, 0, v, .cons (d := d) h _, e => by simp at e; subst e; exact ⟨d, rfl, h⟩
  | _, _, i + 1, v, .cons _ t, e => by
    obtain ⟨d, h1, h2⟩ := rpa_get (i := i) t (by simpa using e)
    exact ⟨d, by simpa using h1, h2⟩
theorem rpa_get' : ∀ {vs : List V} {ds : List PyData} {i : Nat} {d : PyData}, RpAll K H vs ds → ds[i]? = some d → ∃ v, vs[i]? = some v ∧ Rp K H v d
  | _, _, i, v, .nil, e => by simp at e
  | _, _, 0, _, .cons (v := v) h _, e => by simp at e; subst e; exact ⟨v, rfl, h⟩
  | _, _, i + 1, _, .cons _ t, e => by
    obtain ⟨d, h1, h2⟩ := rpa_get' (i := i) t (by simpa using e)
    exact ⟨d, by simpa using h1, h2⟩
theorem rpa_at {vs : List V} {ds : List PyData} {i : Int} {d : PyData} (h : RpAll K H vs ds) (e : atI ds i = some d) : ∃ v, atI vs i = some v ∧ Rp K H v d := by
  unfold atI at e ⊢
  rw [rpa_len h]
  cases q : ixN ds.length i with
  | none => rw [q] at e; cases e
  | some j =>
    rw [q] at e
    exact rpa_get' h e
theorem rpa_app : ∀ {vs ws : List V} {ds es : List PyData}, RpAll K H vs ds → RpAll K H ws es → RpAll K H (vs ++ ws) (ds ++ es)
  | _, _, _, _, .nil, h => h
  | _, _, _, _, .cons h t, h' => .cons h (rpa_app t h')
theorem rpa_take : ∀ {vs : List V} {ds : List PyData} (n : Nat), RpAll K H vs ds → RpAll K H (vs.take n) (ds.take n)
  | _, _, 0, _ => by simp; exact .nil
  | _, _, _ + 1, .nil => .nil
  | _, _, n + 1, .cons h t => .cons h (rpa_take n t)
theorem rpa_drop : ∀ {vs : List V} {ds : List PyData} (n : Nat), RpAll K H vs ds → RpAll K H (vs.drop n) (ds.drop n)
  | _, _, 0, h => h
  | _, _, _ + 1, .nil => .nil
  | _, _, n + 1, .cons _ t => rpa_drop n t
theorem rpa_set {v : V} {d : PyData} (h : Rp K H v d) : ∀ {vs : List V} {ds : List PyData} (n : Nat), RpAll K H vs ds → RpAll K H (vs.set n v) (ds.set n d)
  | _, _, _, .nil => .nil
  | _, _, 0, .cons _ t => .cons h t
  | _, _, n + 1, .cons g t => .cons g (rpa_set h n t)
theorem rp_int {v : V} {i : Int} (h : Rp K H v (.int i)) : v = .int i := by cases h; rfl
theorem rp_bool {v : V} {i : Bool} (h : Rp K H v (.bool i)) : v = .bl i := by cases h; rfl
theorem rp_str {v : V} {i : Str} (h : Rp K H v (.str i)) : v = .str i := by cases h; rfl
theorem rp_none {v : V} (h : Rp K H v .none) : v = .non := by cases h; rfl
theorem rpa_ints : ∀ {ns : List Int} {vs : List V}, RpAll K H vs (ns.map .int) → vs = ns.map .int
  | [], _, h => by cases h; rfl
  | n :: ns, _, h => by
    cases h with
    | cons h1 h2 => rw [rp_int h1, rpa_ints h2]; rfl
theorem ints_rpa : ∀ (ns : List Int), RpAll K H (ns.map .int) (ns.map .int)
  | [] => .nil
  | n :: ns => .cons (.int n) (ints_rpa ns)
end

/-! ### states: G what stands still, H all -/
structure Adv (G H G' H' : Hp) : Prop where
  g : Ex G G'
  h : Ex H H'
  o : Ex G' H'
  n : ∀ b o, H b = some o → G b = none → G' b = none
/-- all but what stands at rs -/
structure AdvR (rs : List Addr) (G H G' H' : Hp) : Prop where
  g : Ex G G'
  h : ∀ b o, b ∉ rs → H b = some o → Ho H' b o
  o : Ex G' H'
  n : ∀ b o, b ∉ rs → H b = some o → G b = none → G' b = none
section
variable {G H G' H' G1 H1 G2 H2 : Hp} {p r : Addr} {o u : HO} {rs qs : List Addr}
theorem Adv.refl (h : Ex G H) : Adv G H G H := ⟨Ex.refl _, Ex.refl _, h, fun _ _ _ h => h⟩
theorem Adv.trans (a : Adv G H G1 H1) (b : Adv G1 H1 G2 H2) : Adv G H G2 H2 := ⟨a.g.trans b.g, a.h.trans b.h, b.o, fun c o h n => by
  obtain ⟨o', h'⟩ := (a.h c o h).ex
  exact b.n c o' h' (a.n c o h n)⟩
theorem Adv.ok (a : Adv G H G1 H1) : Adv G1 H1 G1 H1 := .refl a.o
theorem Adv.free (a : Adv G H G1 H1) (h : H1 p = none) : H p = none := fresh_back a.h h
/-- a new thing that stands still -/
theorem Adv.new (k : Ex G H) (h : H p = none) : Adv G H (upd G p o) (upd H p o) :=
  ⟨Ex.new (fresh_back k h), Ex.new h, fun b u e => by
    by_cases hb : b = p
    · subst hb; rw [upd_same] at e; exact .of (by rw [upd_same]; exact e)
    · rw [upd_ne hb] at e; exact (k b u e).away hb, fun b u e n => by
    rw [upd_ne (ne_of_none e h)]; exact n⟩
/-- a new thing that may change -/
theorem Adv.lay (k : Ex G H) (h : H p = none) : Adv G H G (upd H p o) :=
  ⟨Ex.refl _, Ex.new h, Ex.mut k (fresh_back k h), fun _ _ _ n => n⟩
/-- a table has grown -/
theorem Adv.tab {P : Addr} (k : Ex G H) (h : GxR.TabG H P) (t : GxR.Tabbed P H H') : Adv G H G H' :=
  ⟨Ex.refl _, Ex.tabbed h t, k.trans (Ex.tabbed h t), fun _ _ _ n => n⟩
/-- a thing of one's own -/
structure Own (G H : Hp) (p : Addr) (o : HO) : Prop where
  h : H p = some o
  g : G p = none
  t : NoTab o
theorem Own.adv (w : Own G H p o) (a : Adv G H G1 H1) : Own G1 H1 p o := ⟨(a.h _ _ w.h).eq w.t, a.n _ _ w.h w.g, w.t⟩
theorem Own.advR (w : Own G H p o) (a : AdvR rs G H G1 H1) (n : p ∉ rs) : Own G1 H1 p o := ⟨(a.h _ _ n w.h).eq w.t, a.n _ _ n w.h w.g, w.t⟩
theorem Own.ne {q : Addr} (w : Own G H p o) (h : G q = some u) : p ≠ q := fun e => by rw [← e, w.g] at h; cases h
/-- it changes -/
theorem Own.chg (k : Ex G H) (w : Own G H p o) : AdvR [p] G H G (upd H p u) :=
  ⟨Ex.refl _, fun b x hb e => .of (by rw [upd_ne (fun z => hb (by rw [z]; exact List.mem_cons_self))]; exact e), Ex.mut k w.g, fun _ _ _ _ n => n⟩
theorem Own.put (w : Own G H p o) (t : NoTab u := by exact fun _ z => nomatch z) : Own G (upd H p u) p u := ⟨upd_same, w.g, t⟩
theorem Own.put_ne {q : Addr} {x : HO} (w : Own G H q x) (n : q ≠ p) : Own G (upd H p u) q x := ⟨by rw [upd_ne n]; exact w.h, w.g, w.t⟩
/-- it stands still from now on -/
theorem Own.fix (k : Ex G H) (w : Own G H p o) : AdvR [p] G H (upd G p o) H :=
  ⟨Ex.new w.g, fun b x _ e => .of e, fun b u e => by
    by_cases hb : b = p
    · subst hb; rw [upd_same] at e; exact .of (by rw [w.h]; exact e)
    · rw [upd_ne hb] at e; exact k b u e, fun b u hb e n => by
    rw [upd_ne (fun z => hb (by rw [z]; exact List.mem_cons_self))]; exact n⟩
theorem Adv.toR (a : Adv G H G1 H1) : AdvR rs G H G1 H1 := ⟨a.g, fun b o _ e => a.h b o e, a.o, fun b o _ => a.n b o⟩
theorem AdvR.trans (a : AdvR rs G H G1 H1) (b : AdvR rs G1 H1 G2 H2) : AdvR rs G H G2 H2 := ⟨a.g.trans b.g, fun c o m h => by
  have := a.h c o m h
  cases o with
  | tbl ps =>
    obtain ⟨p1, e1, f1⟩ := this
    obtain ⟨p2, e2, f2⟩ := b.h c _ m e1
    exact ⟨p2, e2, f2 ∘ f1⟩
  | _ => exact b.h c _ m this, b.o, fun c o m h n => by
  obtain ⟨o', h'⟩ := (a.h c o m h).ex
  exact b.n c o' m h' (a.n c o m h n)⟩
theorem AdvR.wk (a : AdvR rs G H G1 H1) (s : ∀ b ∈ rs, b ∈ qs) : AdvR qs G H G1 H1 := ⟨a.g, fun b o m e => a.h b o (fun z => m (s b z)) e, a.o, fun b o m e n => a.n b o (fun z => m (s b z)) e n⟩
theorem AdvR.out (a : AdvR rs G H G1 H1) (f : ∀ b ∈ rs, H b = none) : Adv G H G1 H1 := ⟨a.g, fun b o e => a.h b o (fun z => by rw [f b z] at e; cases e) e, a.o, fun b o e n => a.n b o (fun z => by rw [f b z] at e; cases e) e n⟩
/-- what was made since may be left out -/
theorem AdvR.drop (a : AdvR (p :: rs) G H G1 H1) (f : H p = none) : AdvR rs G H G1 H1 :=
  ⟨a.g, fun b o m e => a.h b o (fun z => by
    rcases List.mem_cons.mp z with z | z
    · rw [z, f] at e; cases e
    · exact m z) e, a.o, fun b o m e n => a.n b o (fun z => by
    rcases List.mem_cons.mp z with z | z
    · rw [z, f] at e; cases e
    · exact m z) e n⟩
theorem AdvR.free (a : AdvR rs G H G1 H1) (h : H1 p = none) (m : p ∉ rs) : H p = none := by
  cases q : H p with
  | none => rfl
  | some o =>
    obtain ⟨o', e⟩ := (a.h p o m q).ex
    rw [e] at h; cases h
end
/-! ### what an expression gives -/
def Eva (K : PySem.W.Frag) (te : TE) (σ : L2.St) (G H : Hp) (d : PyData) : Prop := ∀ G1 H1, Adv G H G1 H1 → ∀ Q : VK, (∀ v G2 H2, Adv G1 H1 G2 H2 → Rp K G2 v d → Q v H2) → te σ H1 Q
def EvaA (K : PySem.W.Frag) (ta : TA) (σ : L2.St) (G H : Hp) (ds : List PyData) : Prop := ∀ G1 H1, Adv G H G1 H1 → ∀ Q : List V → Hp → Prop, (∀ vs G2 H2, Adv G1 H1 G2 H2 → RpAll K G2 vs ds → Q vs H2) → ta σ H1 Q
def EvaT (tt : TT) (σ : L2.St) (G H : Hp) (b : Bool) : Prop := ∀ G1 H1, Adv G H G1 H1 → ∀ Q : Bool → Hp → Prop, (∀ G2 H2, Adv G1 H1 G2 H2 → Q b H2) → tt σ H1 Q
/-- a thing of one's own | a value as it stands -/
def EvaN (te : TE) (σ : L2.St) (G H : Hp) (P : Hp → HO → Prop) : Prop := ∀ G1 H1, Adv G H G1 H1 → ∀ Q : VK, (∀ p o G2 H2, H1 p = none → Adv G1 H1 G2 H2 → Own G2 H2 p o → P G2 o → Q (.ref p) H2) → te σ H1 Q
def EvaV (te : TE) (σ : L2.St) (G H : Hp) (v : V) : Prop := ∀ G1 H1, Adv G H G1 H1 → ∀ Q : VK, (∀ G2 H2, Adv G1 H1 G2 H2 → Q v H2) → te σ H1 Q
def EvaO (to : TO) (σ : L2.St) (G H : Hp) (o : Option Int) : Prop := ∀ G1 H1, Adv G H G1 H1 → ∀ Q : Option Int → Hp → Prop, (∀ G2 H2, Adv G1 H1 G2 H2 → Q o H2) → to σ H1 Q
section
variable {K : PySem.W.Frag} {σ : L2.St} {G H G' H' : Hp} {ta tb te tx : TE} {t u : TT} {r : R2} {d e d' : PyData} {v : V}
theorem Eva.mono (a : Adv G H G' H') (h : Eva K te σ G H d) : Eva K te σ G' H' d := fun G1 H1 b Q q => h G1 H1 (a.trans b) Q q
theorem EvaT.mono {b : Bool} (a : Adv G H G' H') (h : EvaT t σ G H b) : EvaT t σ G' H' b := fun G1 H1 c Q q => h G1 H1 (a.trans c) Q q
theorem eva_var {i : Nat} (hs : σ[i]? = some (some v)) (h : Rp K G v d) : Eva K (tVar i) σ G H d := fun G1 H1 a Q q => ⟨v, hs, q v G1 H1 a.ok (h.ex a.g)⟩
theorem evv_var {i : Nat} (hs : σ[i]? = some (some v)) : EvaV (tVar i) σ G H v := fun G1 H1 a Q q => ⟨v, hs, q G1 H1 a.ok⟩
theorem eva_int {i : Int} : Eva K (tC (.int i)) σ G H (.int i) := fun G1 H1 a _ q => q _ G1 H1 a.ok (.int i)
theorem eva_bl {b : Bool} : Eva K (tC (.bl b)) σ G H (.bool b) := fun G1 H1 a _ q => q _ G1 H1 a.ok (.bl b)
theorem eva_non : Eva K (tC .non) σ G H .none := fun G1 H1 a _ q => q _ G1 H1 a.ok .non
theorem eva_str {s : Str} : Eva K (tC (.str s)) σ G H (.str s) := fun G1 H1 a _ q => q _ G1 H1 a.ok (.str s)
theorem eva_is (h : Eva K te σ G H d) (e : d = d') : Eva K te σ G H d' := by rw [← e]; exact h
theorem evt_is {b c : Bool} (h : EvaT t σ G H b) (e : b = c) : EvaT t σ G H c := by rw [← e]; exact h
/-- two ints, an int -/
theorem eva_op {g : Int → Int → Int} {i j : Int} (ha : Eva K ta σ G H (.int i)) (hb : Eva K tb σ G H (.int j)) : Eva K (tOp (rI0 fun i j => .int (g i j)) ta tb) σ G H (.int (g i j)) := fun G1 H1 a Q q =>
  ha G1 H1 a _ fun _ G2 H2 a2 e2 => by
    cases rp_int e2
    exact hb G2 H2 (a.trans a2) _ fun _ G3 H3 a3 e3 => by
      cases rp_int e3
      exact ⟨i, j, rfl, rfl, q _ G3 H3 (a2.trans a3) (.int _)⟩
theorem eva_opc {C : Int → Int → Prop} {g : Int → Int → Int} {i j : Int} (ha : Eva K ta σ G H (.int i)) (hb : Eva K tb σ G H (.int j)) (hc : C i j) : Eva K (tOp (rI C fun i j => .int (g i j)) ta tb) σ G H (.int (g i j)) := fun G1 H1 a Q q =>
  ha G1 H1 a _ fun _ G2 H2 a2 e2 => by
    cases rp_int e2
    exact hb G2 H2 (a.trans a2) _ fun _ G3 H3 a3 e3 => by
      cases rp_int e3
      exact ⟨i, j, rfl, rfl, hc, q _ G3 H3 (a2.trans a3) (.int _)⟩
/-- two ints, a truth value -/
theorem eva_cmp {g : Int → Int → Bool} {i j : Int} (ha : Eva K ta σ G H (.int i)) (hb : Eva K tb σ G H (.int j)) : Eva K (tOp (rI0 fun i j => .bl (g i j)) ta tb) σ G H (.bool (g i j)) := fun G1 H1 a Q q =>
  ha G1 H1 a _ fun _ G2 H2 a2 e2 => by
    cases rp_int e2
    exact hb G2 H2 (a.trans a2) _ fun _ G3 H3 a3 e3 => by
      cases rp_int e3
      exact ⟨i, j, rfl, rfl, q _ G3 H3 (a2.trans a3) (.bl _)⟩
theorem evt_test {b : Bool} (h : Eva K te σ G H (.bool b)) : EvaT (tTest te) σ G H b := fun G1 H1 a Q q => h G1 H1 a _ fun v G2 H2 a2 e => by
  cases rp_bool e
  exact ⟨b, rfl, q G2 H2 a2⟩
theorem evt_B {b : Bool} (h : Eva K te σ G H (.bool b)) : EvaT (tB te) σ G H b := fun G1 H1 a Q q => h G1 H1 a _ fun v G2 H2 a2 e => by
  cases rp_bool e
  exact ⟨b, rfl, q G2 H2 a2⟩
end
end Vf

set_option Elab.async false
set_option linter.all false
set_option maxRecDepth 100000
set_option maxHeartbeats 2000000
namespace Vf
open PySem PySem.Spec PyProof.Rows L2
open Evl hiding Ex Ex.refl Ex.trans Ex.new Ex.mut ex_rd ex_l ex_t fresh_back

theorem filter_yes {α : Type} (l : List α) : l.filter (fun _ => true) = l := List.filter_eq_self.mpr fun _ _ => rfl
def isL (K : PySem.W.Frag) (ds : List PyData) (G : Hp) (o : HO) : Prop := ∃ vs, o = .lst vs ∧ RpAll K G vs ds
section
variable {K : PySem.W.Frag} {σ : L2.St} {G H G' H' : Hp} {ta tb te tx tc : TE} {t u : TT} {r : R2} {d e d' : PyData} {v : V} {ds es : List PyData} {tA tr : TA} {a p : Addr}
theorem Adv.fix {G1 H1 G2 H2 : Hp} {o : HO} (hn : H1 p = none) (a : Adv G1 H1 G2 H2) (w : Own G2 H2 p o) : Adv G1 H1 (upd G2 p o) H2 :=
  ((a.toR (rs := [p])).trans (Own.fix a.o w)).out (fun b hb => by rw [List.mem_singleton.mp hb]; exact hn)
theorem evan_eva (h : EvaN te σ G H (isL K ds)) : Eva K te σ G H (.list ds) := fun G1 H1 a Q q => h G1 H1 a Q fun p o G2 H2 hn a2 w hp => by
  obtain ⟨vs, rfl, hr⟩ := hp
  exact q _ (upd G2 p (.lst vs)) H2 (a2.fix hn w) (.lst upd_same (hr.ex (Ex.new w.g)))
theorem evaA_nil : EvaA K tNil σ G H [] := fun G1 H1 a Q q => q [] G1 H1 a.ok .nil
theorem evaA_cons (h : Eva K te σ G H d) (hr : EvaA K tr σ G H ds) : EvaA K (tCons te tr) σ G H (d :: ds) := fun G1 H1 a Q q =>
  h G1 H1 a _ fun v G2 H2 a2 e => hr G2 H2 (a.trans a2) _ fun vs G3 H3 a3 es => q _ G3 H3 (a2.trans a3) (.cons (e.ex a3.g) es)
theorem eva_tup (h : EvaA K tA σ G H ds) (hl : ds.length ≤ 100000 := by first | decide | simp) : Eva K (tTup tA) σ G H (.tuple ds) := fun G1 H1 a Q q =>
  h G1 H1 a _ fun vs G2 H2 a2 e => ⟨sz_of (by rw [rpa_len e]; exact hl), fun p hp => q _ (upd G2 p (.tup vs)) _ (a2.trans (Adv.new a2.o hp)) (.tup (SqT.of upd_same) (e.ex (Ex.new (fresh_back a2.o hp))))⟩
theorem evan_lst (h : EvaA K tA σ G H ds) (hl : ds.length ≤ 100000 := by first | decide | simp) : EvaN (tLst tA) σ G H (isL K ds) := fun G1 H1 a Q q =>
  h G1 H1 a _ fun vs G2 H2 a2 e => ⟨sz_of (by rw [rpa_len e]; exact hl), fun p hp => q p _ G2 _ (a2.free hp) (a2.trans (Adv.lay a2.o hp)) ⟨upd_same, fresh_back a2.o hp, fun _ z => nomatch z⟩ ⟨vs, rfl, e⟩⟩
theorem eva_lst (h : EvaA K tA σ G H ds) (hl : ds.length ≤ 100000 := by first | decide | simp) : Eva K (tLst tA) σ G H (.list ds) := evan_eva (evan_lst h hl)
theorem eva_ixL {i : Int} (ha : Eva K ta σ G H (.list ds)) (hb : Eva K tb σ G H (.int i)) (e : atI ds i = some d) : Eva K (tOp (rIx K) ta tb) σ G H d := fun G1 H1 a Q q =>
  ha G1 H1 a _ fun v G2 H2 a2 h2 => hb G2 H2 (a.trans a2) _ fun w G3 H3 a3 h3 => by
    cases rp_int h3
    cases h2 with
    | lst hs hr =>
      obtain ⟨v, hv, rv⟩ := rpa_at hr e
      exact .inl ⟨_, _, i, v, rfl, rfl, SqL.of (a3.o _ _ (a3.g _ _ hs)), hv, q v G3 H3 (a2.trans a3) (rv.ex a3.g)⟩
theorem eva_ixT {i : Int} (ha : Eva K ta σ G H (.tuple ds)) (hb : Eva K tb σ G H (.int i)) (e : atI ds i = some d) : Eva K (tOp (rIx K) ta tb) σ G H d := fun G1 H1 a Q q =>
  ha G1 H1 a _ fun v G2 H2 a2 h2 => hb G2 H2 (a.trans a2) _ fun w G3 H3 a3 h3 => by
    cases rp_int h3
    cases h2 with
    | tup hs hr =>
      obtain ⟨v, hv, rv⟩ := rpa_at hr e
      exact .inr (.inl ⟨_, _, i, v, rfl, rfl, ex_t (a3.g.trans a3.o) hs, hv, q v G3 H3 (a2.trans a3) (rv.ex a3.g)⟩)
/-- an item of a list of one's own -/
theorem eva_ixO {i : Int} {vs : List V} (ha : EvaV ta σ G H (.ref p)) (hb : Eva K tb σ G H (.int i)) (w : H p = some (.lst vs)) (e : atI vs i = some v) (hv : Rp K G v d) : Eva K (tOp (rIx K) ta tb) σ G H d := fun G1 H1 a Q q =>
  ha G1 H1 a _ fun G2 H2 a2 => hb G2 H2 (a.trans a2) _ fun x G3 H3 a3 h3 => by
    cases rp_int h3
    exact .inl ⟨p, vs, i, v, rfl, rfl, SqL.of (((a.trans a2).trans a3).h _ _ w), e, q v G3 H3 (a2.trans a3) (hv.ex ((a.trans a2).trans a3).g)⟩
theorem eva_len (ha : Eva K ta σ G H d) (hd : d = .list ds ∨ d = .tuple ds) : Eva K (tCB (fun xs H Q => ∃ p ys, xs = [.ref p] ∧ (SqL K H p ys ∨ SqT K H p ys) ∧ Q (.int ys.length) H) (tCons ta tNil)) σ G H (.int ds.length) := fun G1 H1 a Q q =>
  ha G1 H1 a _ fun v G2 H2 a2 h2 => by
    rcases hd with rfl | rfl
    · cases h2 with
      | lst hs hr => exact ⟨_, _, rfl, .inl (SqL.of (a2.o _ _ hs)), q _ G2 H2 a2 (by rw [rpa_len hr]; exact .int _)⟩
    · cases h2 with
      | tup hs hr => exact ⟨_, _, rfl, .inr (ex_t a2.o hs), q _ G2 H2 a2 (by rw [rpa_len hr]; exact .int _)⟩
theorem eva_lenO {vs : List V} (ha : EvaV ta σ G H (.ref p)) (w : H p = some (.lst vs)) : Eva K (tCB (fun xs H Q => ∃ p ys, xs = [.ref p] ∧ (SqL K H p ys ∨ SqT K H p ys) ∧ Q (.int ys.length) H) (tCons ta tNil)) σ G H (.int vs.length) := fun G1 H1 a Q q =>
  ha G1 H1 a _ fun G2 H2 a2 => ⟨p, vs, rfl, .inl (SqL.of ((a.trans a2).h _ _ w)), q _ G2 H2 a2 (.int _)⟩
theorem eva_eq (ha : Eva K ta σ G H d) (hb : Eva K tb σ G H e) (sd : SeqAt.shaped d = true) (se : SeqAt.shaped e = true) : Eva K (tOp (rEqD K) ta tb) σ G H (.bool (PyData.eqv d e)) := fun G1 H1 a Q q =>
  ha G1 H1 a _ fun v G2 H2 a2 h2 => hb G2 H2 (a.trans a2) _ fun w G3 H3 a3 h3 =>
    ⟨d, e, (h2.ex (a3.g.trans a3.o)).dp, (h3.ex a3.o).dp, sd, se, q _ G3 H3 (a2.trans a3) (.bl _)⟩
theorem eva_ne (ha : Eva K ta σ G H d) (hb : Eva K tb σ G H e) (sd : SeqAt.shaped d = true) (se : SeqAt.shaped e = true) : Eva K (tOp (rNeD K) ta tb) σ G H (.bool (!PyData.eqv d e)) := fun G1 H1 a Q q =>
  ha G1 H1 a _ fun v G2 H2 a2 h2 => hb G2 H2 (a.trans a2) _ fun w G3 H3 a3 h3 =>
    ⟨d, e, (h2.ex (a3.g.trans a3.o)).dp, (h3.ex a3.o).dp, sd, se, q _ G3 H3 (a2.trans a3) (.bl _)⟩
theorem shaped_int (i : Int) : SeqAt.shaped (.int i) = true := rfl
theorem shaped_bool (i : Bool) : SeqAt.shaped (.bool i) = true := rfl
theorem eqv_int (i j : Int) : PyData.eqv (.int i) (.int j) = (i == j) := by simp [PyData.eqv]
theorem eqv_bool (i j : Bool) : PyData.eqv (.bool i) (.bool j) = (i == j) := by simp [PyData.eqv]
theorem eva_eqI {i j : Int} (ha : Eva K ta σ G H (.int i)) (hb : Eva K tb σ G H (.int j)) : Eva K (tOp (rEqD K) ta tb) σ G H (.bool (i == j)) := by
  rw [← eqv_int]; exact eva_eq ha hb rfl rfl
theorem eva_neI {i j : Int} (ha : Eva K ta σ G H (.int i)) (hb : Eva K tb σ G H (.int j)) : Eva K (tOp (rNeD K) ta tb) σ G H (.bool (!(i == j))) := by
  rw [← eqv_int]; exact eva_ne ha hb rfl rfl
theorem inV_ints (i : Int) (ns : List Int) : inV (.int i) (ns.map V.int) = ns.contains i := by
  unfold inV
  induction ns with
  | nil => rfl
  | cons n ns ih =>
    rw [List.map_cons, List.any_cons, ih, List.contains_cons]
    show ((n == i) || _) = _
    rw [show (n == i) = (i == n) by rw [Bool.eq_iff_iff, beq_iff_eq, beq_iff_eq]; exact eq_comm]
theorem flat_ints (ns : List Int) : (ns.map V.int).all flatV = true := by
  rw [List.all_eq_true]; intro x hx; obtain ⟨n, _, rfl⟩ := List.mem_map.mp hx; rfl
theorem eva_in {neg : Bool} {i : Int} {ns : List Int} (ha : Eva K ta σ G H (.int i)) (hb : Eva K tb σ G H (.list (ns.map .int))) : Eva K (tOp (rIn K neg) ta tb) σ G H (.bool (if neg then !ns.contains i else ns.contains i)) := fun G1 H1 a Q q =>
  ha G1 H1 a _ fun v G2 H2 a2 h2 => hb G2 H2 (a.trans a2) _ fun w G3 H3 a3 h3 => by
    cases rp_int h2
    cases h3 with
    | lst hs hr =>
      cases rpa_ints hr
      refine ⟨_, _, rfl, .inl (SqL.of (a3.o _ _ hs)), rfl, flat_ints ns, ?_⟩
      rw [inV_ints]
      exact q _ G3 H3 (a2.trans a3) (.bl _)
theorem eva_chain {g g' : Int → Int → Bool} {i j k : Int} (ha : Eva K ta σ G H (.int i)) (hb : Eva K tb σ G H (.int j)) (hc : Eva K tc σ G H (.int k)) :
    Eva K (tChain (rI0 fun i j => .bl (g i j)) (rI0 fun i j => .bl (g' i j)) ta tb tc) σ G H (.bool (g i j && g' j k)) := fun G1 H1 a Q q =>
  ha G1 H1 a _ fun v G2 H2 a2 h2 => hb G2 H2 (a.trans a2) _ fun w G3 H3 a3 h3 => by
    cases rp_int h2
    cases rp_int h3
    refine ⟨i, j, rfl, rfl, g i j, rfl, ?_⟩
    cases hg : g i j with
    | true => exact iteT (hc G3 H3 ((a.trans a2).trans a3) _ fun x G4 H4 a4 h4 => by
        cases rp_int h4
        exact ⟨j, k, rfl, rfl, q _ G4 H4 ((a2.trans a3).trans a4) (by rw [hg]; exact .bl _)⟩)
    | false => exact iteF (q _ G3 H3 (a2.trans a3) (by rw [hg]; exact .bl _))
/-! tests -/
theorem evt_and {b c : Bool} (h1 : EvaT t σ G H b) (h2 : b = true → EvaT u σ G H c) : EvaT (tAnd t u) σ G H (b && c) := fun G1 H1 a Q q => h1 G1 H1 a _ fun G2 H2 a2 => by
  cases b with
  | true => exact iteT (h2 rfl G2 H2 (a.trans a2) Q fun G3 H3 a3 => q G3 H3 (a2.trans a3))
  | false => exact iteF (q G2 H2 a2)
theorem evt_or {b c : Bool} (h1 : EvaT t σ G H b) (h2 : b = false → EvaT u σ G H c) : EvaT (tOr t u) σ G H (b || c) := fun G1 H1 a Q q => h1 G1 H1 a _ fun G2 H2 a2 => by
  cases b with
  | true => exact iteT (q G2 H2 a2)
  | false => exact iteF (h2 rfl G2 H2 (a.trans a2) Q fun G3 H3 a3 => q G3 H3 (a2.trans a3))
theorem evt_not {b : Bool} (h1 : EvaT t σ G H b) : EvaT (tNot t) σ G H (!b) := fun G1 H1 a Q q => h1 G1 H1 a _ fun G2 H2 a2 => q G2 H2 a2
theorem evt_yes : EvaT tYes σ G H true := fun G1 H1 a Q q => q G1 H1 a.ok
theorem eva_and {b c : Bool} (h1 : Eva K ta σ G H (.bool b)) (h2 : b = true → Eva K tb σ G H (.bool c)) : Eva K (tAndV ta tb) σ G H (.bool (b && c)) := fun G1 H1 a Q q => h1 G1 H1 a _ fun v G2 H2 a2 e => by
  cases rp_bool e
  refine ⟨b, rfl, ?_⟩
  cases b with
  | true => exact iteT (h2 rfl G2 H2 (a.trans a2) Q fun v G3 H3 a3 r => q v G3 H3 (a2.trans a3) r)
  | false => exact iteF (q _ G2 H2 a2 (.bl _))
theorem eva_or {b c : Bool} (h1 : Eva K ta σ G H (.bool b)) (h2 : b = false → Eva K tb σ G H (.bool c)) : Eva K (tOrV ta tb) σ G H (.bool (b || c)) := fun G1 H1 a Q q => h1 G1 H1 a _ fun v G2 H2 a2 e => by
  cases rp_bool e
  refine ⟨b, rfl, ?_⟩
  cases b with
  | true => exact iteT (q _ G2 H2 a2 (.bl _))
  | false => exact iteF (h2 rfl G2 H2 (a.trans a2) Q fun v G3 H3 a3 r => q v G3 H3 (a2.trans a3) r)
theorem eva_not {b : Bool} (h1 : Eva K ta σ G H (.bool b)) : Eva K (tNotV ta) σ G H (.bool (!b)) := fun G1 H1 a Q q => h1 G1 H1 a _ fun v G2 H2 a2 e => by
  cases rp_bool e
  exact ⟨b, rfl, q _ G2 H2 a2 (.bl _)⟩
theorem eva_if {b : Bool} (h : EvaT t σ G H b) (h1 : b = true → Eva K ta σ G H d) (h2 : b = false → Eva K tb σ G H d) : Eva K (tIf t ta tb) σ G H d := fun G1 H1 a Q q => h G1 H1 a _ fun G2 H2 a2 => by
  cases b with
  | true => exact iteT (h1 rfl G2 H2 (a.trans a2) Q fun v G3 H3 a3 r => q v G3 H3 (a2.trans a3) r)
  | false => exact iteF (h2 rfl G2 H2 (a.trans a2) Q fun v G3 H3 a3 r => q v G3 H3 (a2.trans a3) r)
/-! built-ins -/
theorem eva_int1 {i : Int} (ha : Eva K ta σ G H (.int i)) : Eva K (tCB (fun xs H Q => (∃ i, xs = [.int i] ∧ Q (.int i) H) ∨ ∃ k, xs = [.bl k] ∧ Q (.int (if k then 1 else 0)) H) (tCons ta tNil)) σ G H (.int i) := fun G1 H1 a Q q =>
  ha G1 H1 a _ fun v G2 H2 a2 h2 => by
    cases rp_int h2
    exact .inl ⟨i, rfl, q _ G2 H2 a2 (.int _)⟩
theorem eva_tupleL (ha : Eva K ta σ G H (.list ds)) : Eva K (tCB (fun xs H Q => ∃ p ys, xs = [.ref p] ∧ ((SqL K H p ys ∧ ∀ l, H l = none → Q (.ref l) (upd H l (.tup ys))) ∨ (SqT K H p ys ∧ Q (.ref p) H))) (tCons ta tNil)) σ G H (.tuple ds) := fun G1 H1 a Q q =>
  ha G1 H1 a _ fun v G2 H2 a2 h2 => by
    cases h2 with
    | lst hs hr => exact ⟨_, _, rfl, .inl ⟨SqL.of (a2.o _ _ hs), fun l hl => q _ (upd G2 l (.tup _)) _ (a2.trans (Adv.new a2.o hl)) (.tup (SqT.of upd_same) (hr.ex (Ex.new (fresh_back a2.o hl))))⟩⟩
theorem evan_list (ha : Eva K ta σ G H d) (hd : d = .list ds ∨ d = .tuple ds) : EvaN (tCB (fun xs H Q => ∃ p ys, xs = [.ref p] ∧ (SqL K H p ys ∨ SqT K H p ys) ∧ ∀ l, H l = none → Q (.ref l) (upd H l (.lst ys))) (tCons ta tNil)) σ G H (isL K ds) := fun G1 H1 a Q q =>
  ha G1 H1 a _ fun v G2 H2 a2 h2 => by
    rcases hd with rfl | rfl
    · cases h2 with
      | lst hs hr => exact ⟨_, _, rfl, .inl (SqL.of (a2.o _ _ hs)), fun l hl => q l _ G2 _ (a2.free hl) (a2.trans (Adv.lay a2.o hl)) ⟨upd_same, fresh_back a2.o hl, fun _ z => nomatch z⟩ ⟨_, rfl, hr⟩⟩
    · cases h2 with
      | tup hs hr => exact ⟨_, _, rfl, .inr (ex_t a2.o hs), fun l hl => q l _ G2 _ (a2.free hl) (a2.trans (Adv.lay a2.o hl)) ⟨upd_same, fresh_back a2.o hl, fun _ z => nomatch z⟩ ⟨_, rfl, hr⟩⟩
theorem evan_cat (ha : Eva K ta σ G H (.list ds)) (hb : Eva K tb σ G H (.list es)) (hz : ds.length + es.length ≤ 100000) : EvaN (tOp rCat ta tb) σ G H (isL K (ds ++ es)) := fun G1 H1 a Q q =>
  ha G1 H1 a _ fun v G2 H2 a2 h2 => hb G2 H2 (a.trans a2) _ fun w G3 H3 a3 h3 => by
    cases h2 with
    | lst hs hr =>
      cases h3 with
      | lst hs' hr' =>
        exact ⟨_, _, _, _, rfl, rfl, a3.o _ _ (a3.g _ _ hs), a3.o _ _ hs', sz_of (by rw [rpa_len hr, rpa_len hr']; exact hz), fun l hl => q l _ G3 _ ((a2.trans a3).free hl) ((a2.trans a3).trans (Adv.lay a3.o hl)) ⟨upd_same, fresh_back a3.o hl, fun _ z => nomatch z⟩ ⟨_, rfl, rpa_app (hr.ex a3.g) hr'⟩⟩
/-! dicts that stand -/
theorem eva_din {k : Int} {kvs : List (Key × V)} (ha : Eva K ta σ G H (.int k)) (hd : EvaV tb σ G H (.ref p)) (w : H p = some (.dK kvs)) : Eva K (tDIn ta tb) σ G H (.bool (valV kvs (.inl k)).isSome) := fun G1 H1 a Q q =>
  ha G1 H1 a _ fun v G2 H2 a2 h2 => hd G2 H2 (a.trans a2) _ fun G3 H3 a3 => by
    cases rp_int h2
    exact ⟨p, _, rfl, DGet.k (k := Sum.inl k) (((a.trans a2).trans a3).h _ _ w), q _ G3 H3 (a2.trans a3) (.bl _)⟩
theorem eva_dget {k : Int} {kvs : List (Key × V)} (hd : EvaV ta σ G H (.ref p)) (ha : Eva K tb σ G H (.int k)) (w : H p = some (.dK kvs)) (hv : valV kvs (.inl k) = some v) (hr : Rp K G v d) : Eva K (tDGet ta tb) σ G H d := fun G1 H1 a Q q =>
  hd G1 H1 a _ fun G2 H2 a2 => ha G2 H2 (a.trans a2) _ fun x G3 H3 a3 h3 => by
    cases rp_int h3
    refine ⟨p, v, rfl, ?_, q v G3 H3 (a2.trans a3) (hr.ex ((a.trans a2).trans a3).g)⟩
    rw [← hv]
    exact DGet.k (k := Sum.inl k) (((a.trans a2).trans a3).h _ _ w)
/-! calls -/
/-- a def that changes nothing: R tells what comes of what -/
def PureSp (K : PySem.W.Frag) (R : List PyData → PyData → Prop) : Sp := fun vs H Q _ => ∃ G ds d, Ex G H ∧ RpAll K G vs ds ∧ R ds d ∧ ∀ v G' H', Adv G H G' H' → Rp K G' v d → Q v H'
theorem eva_call {R : List PyData → PyData → Prop} {E : XK} (h : EvaA K tA σ G H ds) (hr : R ds d) : Eva K (tCall (PureSp K R) [] E tA) σ G H d := fun G1 H1 a Q q =>
  h G1 H1 a _ fun vs G2 H2 a2 e => by
    rw [List.append_nil]
    exact ⟨G2, ds, d, a2.o, e, hr, fun v G3 H3 a3 r => q v G3 H3 (a2.trans a3) r⟩
end
/-! ### statements -/
section
variable {K : PySem.W.Frag} {σ : L2.St} {G H G' H' : Hp} {ta tb te tx tc : TE} {t u : TT} {d e d' : PyData} {v : V} {ds es : List PyData} {tA tr : TA} {a p : Addr} {D : Ends} {tz tu tw : TS} {g : TG}
theorem st_ret (k : Ex G H) (h : Eva K te σ G H d) (c : ∀ v G1 H1, Adv G H G1 H1 → Rp K G1 v d → D.rt v H1) : tRet te D σ H := h G H (.refl k) _ c
theorem st_asg {i : Nat} (k : Ex G H) (h : Eva K te σ G H d) (c : ∀ v G1 H1, Adv G H G1 H1 → Rp K G1 v d → D.nx (σ.set i (some v)) H1) : tAsg te (gName i) D σ H := h G H (.refl k) _ c
theorem st_asgN {i : Nat} {P : Hp → HO → Prop} (k : Ex G H) (h : EvaN te σ G H P) (c : ∀ p o G1 H1, H p = none → Adv G H G1 H1 → Own G1 H1 p o → P G1 o → D.nx (σ.set i (some (.ref p))) H1) : tAsg te (gName i) D σ H := h G H (.refl k) _ c
theorem st_drop (k : Ex G H) (h : Eva K te σ G H d) (c : ∀ G1 H1, Adv G H G1 H1 → D.nx σ H1) : tDrop te D σ H := h G H (.refl k) _ fun _ G1 H1 a _ => c G1 H1 a
theorem st_if {b : Bool} (k : Ex G H) (h : EvaT t σ G H b) (h1 : b = true → ∀ G1 H1, Adv G H G1 H1 → tu D σ H1) (h2 : b = false → ∀ G1 H1, Adv G H G1 H1 → tw D σ H1) : tIfS t tu tw D σ H := h G H (.refl k) _ fun G1 H1 a => by
  cases b with
  | true => exact iteT (h1 rfl G1 H1 a)
  | false => exact iteF (h2 rfl G1 H1 a)
theorem st_unless {b : Bool} (k : Ex G H) (h : EvaT t σ G H b) (hb : b = false) (c : ∀ G1 H1, Adv G H G1 H1 → D.nx σ H1) : tIfS t tu tNext D σ H := st_if k h (fun z => by rw [hb] at z; cases z) fun _ G1 H1 a => c G1 H1 a
/-- xs.append(e), xs one's own -/
theorem st_app {vs : List V} (k : Ex G H) (ha : EvaV ta σ G H (.ref p)) (w : Own G H p (.lst vs)) (h : Eva K te σ G H d) (hz : vs.length < 100000)
    (c : ∀ v G1 H1, Adv G H G1 H1 → Rp K G1 v d → Ex G1 (upd H1 p (.lst (vs ++ [v]))) → D.nx σ (upd H1 p (.lst (vs ++ [v])))) : tDrop (tBM K "list" rAppend ta (tCons te tNil)) D σ H :=
  ha G H (.refl k) _ fun G1 H1 a1 => ⟨.inl ⟨rfl, vs, SqL.of (a1.h _ _ w.h)⟩, h G1 H1 a1 _ fun v G2 H2 a2 r => by
    have w2 := w.adv (a1.trans a2)
    exact ⟨p, vs, v, rfl, rfl, w2.h, sz_lt hz, c v G2 H2 (a1.trans a2) r (Ex.mut a2.o w2.g)⟩⟩
/-- xs[i] = e, xs one's own -/
theorem st_setO {vs : List V} {j : Nat} (k : Ex G H) (h : Eva K te σ G H d) (ha : EvaV ta σ G H (.ref p)) (hi : Eva K tb σ G H (.int j)) (w : Own G H p (.lst vs)) (hj : j < vs.length)
    (c : ∀ v G1 H1, Adv G H G1 H1 → Rp K G1 v d → Ex G1 (upd H1 p (.lst (vs.set j v))) → D.nx σ (upd H1 p (.lst (vs.set j v)))) : tAsg te (gSub ta tb rSetL) D σ H :=
  h G H (.refl k) _ fun v G1 H1 a1 r => ha G1 H1 a1 _ fun G2 H2 a2 => hi G2 H2 (a1.trans a2) _ fun x G3 H3 a3 rx => by
    cases rp_int rx
    have w2 := w.adv ((a1.trans a2).trans a3)
    exact ⟨p, vs, j, j, rfl, rfl, w2.h, ixN_nat hj, c v G3 H3 ((a1.trans a2).trans a3) (r.ex (a2.trans a3).g) (Ex.mut a3.o w2.g)⟩
end
end Vf

set_option Elab.async false
set_option linter.all false
set_option maxRecDepth 100000
set_option maxHeartbeats 2000000
namespace Vf
open PySem PySem.Spec PyProof.Rows L2
open Evl hiding Ex Ex.refl Ex.trans Ex.new Ex.mut ex_rd ex_l ex_t fresh_back

/-! ### what is stored -/
def Bd (g : TG) (σ : L2.St) (v : V) (H : Hp) (P : L2.St → Prop) : Prop := ∀ Q : L2.St → Hp → Prop, (∀ σ2, P σ2 → Q σ2 H) → g v σ H Q
section
variable {K : PySem.W.Frag} {σ : L2.St} {G H : Hp} {v : V} {P : L2.St → Prop} {d1 d2 d3 : PyData} {g1 g2 g3 : TG}
theorem bd_name {i : Nat} (h : P (σ.set i (some v))) : Bd (gName i) σ v H P := fun Q q => q _ h
theorem bd_tup2 {i j : Nat} (k : Ex G H) (r : Rp K G v (.tuple [d1, d2])) (h : ∀ v1 v2, Rp K G v1 d1 → Rp K G v2 d2 → P ((σ.set i (some v1)).set j (some v2))) :
    Bd (gTup K 2 (gCons (gName i) (gCons (gName j) gNil))) σ v H P := fun Q q => by
  cases r with
  | tup hs ha =>
    cases ha with
    | cons r1 ha => cases ha with
      | cons r2 ha =>
        cases ha
        exact ⟨_, _, rfl, ex_t k hs, rfl, _, _, rfl, _, _, rfl, rfl, q _ (h _ _ r1 r2)⟩
theorem bd_tup3 {i j l : Nat} (k : Ex G H) (r : Rp K G v (.tuple [d1, d2, d3])) (h : ∀ v1 v2 v3, Rp K G v1 d1 → Rp K G v2 d2 → Rp K G v3 d3 → P (((σ.set i (some v1)).set j (some v2)).set l (some v3))) :
    Bd (gTup K 3 (gCons (gName i) (gCons (gName j) (gCons (gName l) gNil)))) σ v H P := fun Q q => by
  cases r with
  | tup hs ha =>
    cases ha with
    | cons r1 ha => cases ha with
      | cons r2 ha => cases ha with
        | cons r3 ha =>
          cases ha
          exact ⟨_, _, rfl, ex_t k hs, rfl, _, _, rfl, _, _, rfl, _, _, rfl, rfl, q _ (h _ _ _ r1 r2 r3)⟩
/-- a, b = e -/
theorem st_asg2 {te : TE} {D : Ends} {i j : Nat} (k : Ex G H) (h : Eva K te σ G H (.tuple [d1, d2])) (c : ∀ v1 v2 G1 H1, Adv G H G1 H1 → Rp K G1 v1 d1 → Rp K G1 v2 d2 → D.nx ((σ.set i (some v1)).set j (some v2)) H1) :
    tAsg te (gTup K 2 (gCons (gName i) (gCons (gName j) gNil))) D σ H := h G H (.refl k) _ fun v G1 H1 a r =>
  bd_tup2 (P := fun σ2 => D.nx σ2 H1) a.o r (fun v1 v2 r1 r2 => c v1 v2 G1 H1 a r1 r2) D.nx fun σ2 q => q
theorem st_asg3 {te : TE} {D : Ends} {i j l : Nat} (k : Ex G H) (h : Eva K te σ G H (.tuple [d1, d2, d3])) (c : ∀ v1 v2 v3 G1 H1, Adv G H G1 H1 → Rp K G1 v1 d1 → Rp K G1 v2 d2 → Rp K G1 v3 d3 → D.nx (((σ.set i (some v1)).set j (some v2)).set l (some v3)) H1) :
    tAsg te (gTup K 3 (gCons (gName i) (gCons (gName j) (gCons (gName l) gNil)))) D σ H := h G H (.refl k) _ fun v G1 H1 a r =>
  bd_tup3 (P := fun σ2 => D.nx σ2 H1) a.o r (fun v1 v2 v3 r1 r2 r3 => c v1 v2 v3 G1 H1 a r1 r2 r3) D.nx fun σ2 q => q
end

/-! ### what is walked -/
/-- the walk J gives ds, made at B -/
def Walks (K : PySem.W.Frag) (J : It) (ds : List PyData) (B : Hp) : Prop := ∀ i G H, Ex B G → Ex G H →
  (i < ds.length → J.go i H) ∧ (ds.length ≤ i → J.stop i H) ∧ ∀ x H', J.yld i H x H' → i < ds.length → ∃ d G', ds[i]? = some d ∧ Adv G H G' H' ∧ Rp K G' x d
def Src (K : PySem.W.Frag) (wi : TI) (σ : L2.St) (G H : Hp) (ds : List PyData) : Prop := ∀ G1 H1, Adv G H G1 H1 → ∀ R : It → Hp → Prop, (∀ J G2 H2, Adv G1 H1 G2 H2 → Walks K J ds G2 → R J H2) → wi σ H1 R
section
variable {K : PySem.W.Frag} {σ : L2.St} {G H G' H' : Hp} {te tl : TE} {ds es : List PyData} {ta : TA}
theorem src_list (h : Eva K tl σ G H (.list ds)) : Src K (iList K tl) σ G H ds := fun G1 H1 a R q => h G1 H1 a _ fun v G2 H2 a2 r => by
  cases r with
  | @lst p xs _ hs hr =>
    refine ⟨_, rfl, ⟨_, SqL.of (a2.o _ _ hs)⟩, q _ G2 H2 a2 fun i G3 H3 e3 k3 => ?_⟩
    have hp : SqL K H3 p xs := SqL.of (k3 _ _ (e3 _ _ hs))
    have hl := rpa_len hr
    refine ⟨fun hi => ⟨xs, xs[i]'(by omega), hp, List.getElem?_eq_getElem _⟩, fun hi => ⟨xs, hp, by omega⟩, fun x H' y hi => ?_⟩
    obtain ⟨rfl, y⟩ := y
    obtain ⟨d, hd, rd⟩ := rpa_get hr (y xs hp)
    exact ⟨d, G3, hd, .refl k3, rd.ex e3⟩
theorem src_tup (h : Eva K tl σ G H (.tuple ds)) : Src K (iTup K tl) σ G H ds := fun G1 H1 a R q => h G1 H1 a _ fun v G2 H2 a2 r => by
  cases r with
  | @tup p xs _ hs hr =>
    refine ⟨_, rfl, ⟨_, ex_t a2.o hs⟩, q _ G2 H2 a2 fun i G3 H3 e3 k3 => ?_⟩
    have hp : SqT K H3 p xs := ex_t (e3.trans k3) hs
    have hl := rpa_len hr
    refine ⟨fun hi => ⟨xs, xs[i]'(by omega), hp, List.getElem?_eq_getElem _⟩, fun hi => ⟨xs, hp, by omega⟩, fun x H' y hi => ?_⟩
    obtain ⟨rfl, y⟩ := y
    obtain ⟨d, hd, rd⟩ := rpa_get hr (y xs hp)
    exact ⟨d, G3, hd, .refl k3, rd.ex e3⟩
/-- lo, lo + 1, .. -/
def rngD (lo : Int) (n : Nat) : List PyData := (List.range n).map fun i => .int (lo + (i : Nat))
theorem rngD_len (lo : Int) (n : Nat) : (rngD lo n).length = n := by unfold rngD; rw [List.length_map, List.length_range]
theorem rngD_get {lo : Int} {n i : Nat} (h : i < n) : (rngD lo n)[i]? = some (.int (lo + (i : Nat))) := by
  unfold rngD; rw [List.getElem?_map, List.getElem?_range h]; rfl
theorem walks_rng (lo : Int) (n : Nat) (B : Hp) : Walks K (Itr lo n) (rngD lo n) B := fun i G H _ k => by
  rw [rngD_len]
  refine ⟨id, id, fun x H' y hi => ?_⟩
  obtain ⟨rfl, rfl⟩ := y
  exact ⟨_, G, rngD_get hi, .refl k, .int _⟩
theorem src_rng1 {n : Int} (h : Eva K te σ G H (.int n)) (b : n ≤ 1000000 := by omega) (b' : -1000000 ≤ n := by omega) : Src K (iRng1 (tCons te tNil)) σ G H (rngD 0 n.toNat) := fun G1 H1 a R q => h G1 H1 a _ fun v G2 H2 a2 r => by
  cases rp_int r
  exact ⟨n, rfl, by omega, by omega, q _ G2 H2 a2 (walks_rng _ _ _)⟩
theorem src_rng2 {m n : Int} (h1 : Eva K te σ G H (.int m)) (h : Eva K tl σ G H (.int n)) (b1 : m ≤ 1000000 := by omega) (b2 : -1000000 ≤ m := by omega) (b3 : n ≤ 1000000 := by omega) (b4 : -1000000 ≤ n := by omega) :
    Src K (iRng2 (tCons te (tCons tl tNil))) σ G H (rngD m (n - m).toNat) := fun G1 H1 a R q => h1 G1 H1 a _ fun v G2 H2 a2 r => h G2 H2 (a.trans a2) _ fun v' G3 H3 a3 r' => by
  cases rp_int r
  cases rp_int r'
  exact ⟨m, n, rfl, ⟨by omega, by omega, by omega, by omega⟩, q _ G3 H3 (a2.trans a3) (walks_rng _ _ _)⟩
/-- (0, x), (1, y), .. -/
def enumD (ds : List PyData) : List PyData := (List.range ds.length).map fun i => .tuple [.int (i : Nat), ds.getD i .none]
theorem enumD_len (ds : List PyData) : (enumD ds).length = ds.length := by unfold enumD; rw [List.length_map, List.length_range]
theorem enumD_get {ds : List PyData} {i : Nat} {d : PyData} (h : ds[i]? = some d) : (enumD ds)[i]? = some (.tuple [.int (i : Nat), d]) := by
  have hi := (List.getElem?_eq_some_iff.mp h).1
  unfold enumD; rw [List.getElem?_map, List.getElem?_range hi]
  show some (PyData.tuple [.int (i : Nat), ds.getD i .none]) = _
  rw [List.getD_eq_getElem?_getD, h]; rfl
theorem src_enum (h : Eva K te σ G H (.list ds)) : Src K (iEnum K (tCons te tNil)) σ G H (enumD ds) := fun G1 H1 a R q => h G1 H1 a _ fun v G2 H2 a2 r => by
  cases r with
  | @lst p xs _ hs hr =>
    refine ⟨_, _, rfl, SqL.of (a2.o _ _ hs), q _ G2 H2 a2 fun i G3 H3 e3 k3 => ?_⟩
    have hp : SqL K H3 p xs := SqL.of (k3 _ _ (e3 _ _ hs))
    have hl := rpa_len hr
    rw [enumD_len]
    refine ⟨fun hi => ⟨xs, xs[i]'(by omega), hp, List.getElem?_eq_getElem _⟩, fun hi => ⟨xs, hp, by omega⟩, fun x H' y hi => ?_⟩
    obtain ⟨T, x, rfl, nT, rfl, y⟩ := y
    obtain ⟨d, hd, rd⟩ := rpa_get hr (y xs hp)
    exact ⟨_, upd G3 T _, enumD_get hd, .new k3 nT, .tup (SqT.of upd_same) (.cons (.int _) (.cons (rd.ex (e3.trans (Ex.new (fresh_back k3 nT)))) .nil))⟩
def zipD (ds es : List PyData) : List PyData := List.zipWith (fun d e => .tuple [d, e]) ds es
theorem src_zip (h1 : Eva K te σ G H (.list ds)) (h2 : Eva K tl σ G H (.list es)) : Src K (iZip K (tCons te (tCons tl tNil))) σ G H (zipD ds es) := fun G1 H1 a R q => h1 G1 H1 a _ fun v G2 H2 a2 r => h2 G2 H2 (a.trans a2) _ fun v' G3 H3 a3 r' => by
  cases r with
  | @lst p xs _ hs hr =>
    cases r' with
    | @lst p' xs' _ hs' hr' =>
      have hs := a3.g _ _ hs
      have hr := hr.ex a3.g
      refine ⟨_, _, _, _, rfl, SqL.of (a3.o _ _ hs), SqL.of (a3.o _ _ hs'), q _ G3 H3 (a2.trans a3) fun i G4 H4 e4 k4 => ?_⟩
      have hp : SqL K H4 p xs := SqL.of (k4 _ _ (e4 _ _ hs))
      have hp' : SqL K H4 p' xs' := SqL.of (k4 _ _ (e4 _ _ hs'))
      have hl := rpa_len hr
      have hl' := rpa_len hr'
      have hz : (zipD ds es).length = min ds.length es.length := by unfold zipD; rw [List.length_zipWith]
      rw [hz]
      refine ⟨fun hi => ⟨xs, xs', xs[i]'(by omega), xs'[i]'(by omega), hp, hp', List.getElem?_eq_getElem _, List.getElem?_eq_getElem _⟩, fun hi => ⟨xs, xs', hp, hp', by omega⟩, fun x H' y hi => ?_⟩
      obtain ⟨T, x, x', rfl, nT, rfl, y, y'⟩ := y
      obtain ⟨d, hd, rd⟩ := rpa_get hr (y xs hp)
      obtain ⟨d', hd', rd'⟩ := rpa_get hr' (y' xs' hp')
      have ex := e4.trans (Ex.new (o := .tup [x, x']) (fresh_back k4 nT))
      refine ⟨.tuple [d, d'], upd G4 T _, ?_, .new k4 nT, .tup (SqT.of upd_same) (.cons (rd.ex ex) (.cons (rd'.ex ex) .nil))⟩
      unfold zipD
      rw [List.getElem?_zipWith, hd, hd']
end
section
variable {K : PySem.W.Frag} {σ : L2.St} {G H G' H' : Hp} {te tk tv tl : TE} {tt : TT} {wi : TI} {g : TG} {tb : TS} {vs : List Nat} {D : Ends}
theorem lt_of_some {α : Type} {l : List α} {i : Nat} {x : α} (h : l[i]? = some x) : i < l.length := (List.getElem?_eq_some_iff.mp h).1
theorem take_some {α : Type} {l : List α} {i : Nat} {x : α} (h : l[i]? = some x) : l.take (i + 1) = l.take i ++ [x] := by
  rw [List.take_add_one, h]; rfl
/-- [f x for x in xs if p x] -/
theorem evan_lc {α : Type} (xs : List α) (enc : α → PyData) (p : α → Bool) (f : α → PyData) (S : Src K wi σ G H (xs.map enc)) (hz : xs.length ≤ 40000)
    (hb : ∀ (i : Nat) x v G' H', xs[i]? = some x → Adv G H G' H' → Rp K G' v (enc x) → Bd g (wipe σ vs) v H' fun σ2 => wipe σ2 vs = wipe σ vs ∧ EvaT tt σ2 G' H' (p x) ∧ (p x = true → Eva K te σ2 G' H' (f x))) :
    EvaN (tLc wi g tt te vs) σ G H (isL K ((xs.filter p).map f)) := fun G1 H1 a Q q => S G1 H1 a _ fun J G2 H2 a2 wk D hD => by
  refine ⟨fun i m H' => m = xs.length - i ∧ i ≤ xs.length ∧ ∃ G' acc, Adv G2 H2 G' H' ∧ Own G' H' D (.lst acc) ∧ RpAll K G' acc (((xs.take i).filter p).map f),
    ⟨xs.length, rfl, Nat.zero_le _, G2, [], .lay a2.o hD, ⟨upd_same, fresh_back a2.o hD, fun _ z => nomatch z⟩, .nil⟩, ?_⟩
  rintro i m H' ⟨rfl, hi, G', acc, a3, ow, ra⟩
  obtain ⟨w1, w2, w3⟩ := wk i G' H' a3.g a3.o
  rw [List.length_map] at w1 w2 w3
  by_cases hlt : i < xs.length
  · refine .inr ⟨w1 hlt, fun H' => ∃ G' acc, Adv G2 H2 G' H' ∧ Own G' H' D (.lst acc) ∧ RpAll K G' acc (((xs.take (i + 1)).filter p).map f), fun H'' hN => ⟨xs.length - (i + 1), by omega, rfl, hlt, hN⟩, fun x H'' y => ?_⟩
    obtain ⟨d, G'', hd, a4, rx⟩ := w3 x H'' y hlt
    rw [List.getElem?_map, List.getElem?_eq_getElem hlt] at hd
    cases hd
    have hxi : xs[i]? = some xs[i] := List.getElem?_eq_getElem hlt
    refine hb i xs[i] x G'' H'' hxi ((a.trans a2).trans (a3.trans a4)) rx _ fun σ2 hσ => ?_
    obtain ⟨hw, ht, he⟩ := hσ
    have ow := ow.adv a4
    refine ⟨hw, ht G'' H'' a4.ok _ fun G5 H5 a5 => ?_⟩
    cases hp : p xs[i] with
    | false =>
      refine iteF ⟨G5, acc, (a3.trans a4).trans a5, ow.adv a5, ?_⟩
      rw [take_some hxi, List.filter_append, List.filter_cons, if_neg (by rw [hp]; exact Bool.false_ne_true)]
      simpa using ra.ex (a4.g.trans a5.g)
    | true =>
      refine iteT (he hp G5 H5 a5 _ fun v G6 H6 a6 rv => ?_)
      have ow := (ow.adv a5).adv a6
      have hl := rpa_len ra
      have h1 : (((xs.take i).filter p).map f).length ≤ xs.length := by
        rw [List.length_map]
        exact Nat.le_trans (List.length_filter_le _ _) (by rw [List.length_take]; omega)
      refine ⟨acc, ow.h, sz_lt (by omega), G6, acc ++ [v], (((((a3.trans a4).trans a5).trans a6).toR (rs := [D])).trans (ow.chg a6.o)).out (fun b hb => by rw [List.mem_singleton.mp hb]; exact hD), ow.put, ?_⟩
      rw [take_some hxi, List.filter_append, List.filter_cons, if_pos hp, List.map_append]
      exact rpa_app (ra.ex ((a4.g.trans a5.g).trans a6.g)) (.cons rv .nil)
  · have e : i = xs.length := by omega
    subst e
    refine .inl ⟨w2 (Nat.le_refl _), q D _ G' H' (a2.free hD) (a2.trans a3) ow ⟨acc, rfl, ?_⟩⟩
    rw [List.take_length] at ra
    exact ra
/-- what a dict tells of ints -/
def isD (K : PySem.W.Frag) (m : Int → Option PyData) (G : Hp) (o : HO) : Prop := ∃ kvs : List (Key × V), o = .dK kvs ∧ ∀ k, match m k with
  | none => valV kvs (.inl k) = none
  | some d => ∃ v, valV kvs (.inl k) = some v ∧ Rp K G v d
def dictOf {α : Type} (k : α → Int) (f : α → PyData) : List α → Int → Option PyData
  | [], _ => none
  | x :: xs, j => match dictOf k f xs j with
    | some d => some d
    | none => if j = k x then some (f x) else none
theorem dictOf_app {α : Type} (k : α → Int) (f : α → PyData) (x : α) (j : Int) : ∀ xs : List α, dictOf k f (xs ++ [x]) j = if j = k x then some (f x) else dictOf k f xs j
  | [] => by simp only [List.nil_append, dictOf]
  | y :: ys => by
    rw [List.cons_append]
    simp only [dictOf]
    rw [dictOf_app k f x j ys]
    by_cases h : j = k x
    · rw [if_pos h]; simp [h]
    · rw [if_neg h, if_neg h]
/-- {k x: f x for x in xs} -/
theorem evan_dc {α : Type} (xs : List α) (enc : α → PyData) (key : α → Int) (f : α → PyData) (S : Src K wi σ G H (xs.map enc)) (hz : xs.length ≤ 40000)
    (hb : ∀ (i : Nat) x v G' H', xs[i]? = some x → Adv G H G' H' → Rp K G' v (enc x) → Bd g (wipe σ vs) v H' fun σ2 => wipe σ2 vs = wipe σ vs ∧ Eva K tk σ2 G' H' (.int (key x)) ∧ Eva K tv σ2 G' H' (f x)) :
    EvaN (tDc wi g tYes tk tv vs) σ G H (isD K (dictOf key f xs)) := fun G1 H1 a Q q => S G1 H1 a _ fun J G2 H2 a2 wk D hD => by
  refine ⟨fun i m H' => m = xs.length - i ∧ i ≤ xs.length ∧ ∃ G' kvs, Adv G2 H2 G' H' ∧ Own G' H' D (.dK kvs) ∧ kvs.length ≤ i ∧ isD K (dictOf key f (xs.take i)) G' (.dK kvs),
    ⟨xs.length, rfl, Nat.zero_le _, G2, [], .lay a2.o hD, ⟨upd_same, fresh_back a2.o hD, fun _ z => nomatch z⟩, Nat.le_refl _, [], rfl, fun k => rfl⟩, ?_⟩
  rintro i m H' ⟨rfl, hi, G', kvs, a3, ow, hlen, ra⟩
  obtain ⟨w1, w2, w3⟩ := wk i G' H' a3.g a3.o
  rw [List.length_map] at w1 w2 w3
  by_cases hlt : i < xs.length
  · refine .inr ⟨w1 hlt, fun H' => ∃ G' kvs, Adv G2 H2 G' H' ∧ Own G' H' D (.dK kvs) ∧ kvs.length ≤ i + 1 ∧ isD K (dictOf key f (xs.take (i + 1))) G' (.dK kvs), fun H'' hN => ⟨xs.length - (i + 1), by omega, rfl, hlt, hN⟩, fun x H'' y => ?_⟩
    obtain ⟨d, G'', hd, a4, rx⟩ := w3 x H'' y hlt
    rw [List.getElem?_map, List.getElem?_eq_getElem hlt] at hd
    cases hd
    have hxi : xs[i]? = some xs[i] := List.getElem?_eq_getElem hlt
    refine hb i xs[i] x G'' H'' hxi ((a.trans a2).trans (a3.trans a4)) rx _ fun σ2 hσ => ?_
    obtain ⟨hw, hk, hv⟩ := hσ
    have ow := ow.adv a4
    refine ⟨hw, ?_⟩
    dsimp only [tYes]
    rw [if_pos rfl]
    refine hk G'' H'' a4.ok _ fun kv G5 H5 a5 rk => hv G5 H5 a5 _ fun vv G6 H6 a6 rv => ?_
    cases rp_int rk
    have ow := (ow.adv a5).adv a6
    have hl1 := length_putK kvs (Sum.inl (key xs[i]) : Key) vv
    refine ⟨kvs, .inl (key xs[i]), rfl, ow.h, sz_lt (by omega), G6, _, (((((a3.trans a4).trans a5).trans a6).toR (rs := [D])).trans (ow.chg a6.o)).out (fun b hb => by rw [List.mem_singleton.mp hb]; exact hD), ow.put, by omega, _, rfl, fun j => ?_⟩
    rw [take_some hxi, dictOf_app]
    rw [valV_put]
    by_cases hj : j = key xs[i]
    · rw [if_pos hj, if_pos (by rw [hj])]
      exact ⟨vv, rfl, rv⟩
    · rw [if_neg hj, if_neg (fun z => hj (Sum.inl.inj z))]
      obtain ⟨kvs', e, h⟩ := ra
      cases e
      have h := h j
      cases hd : dictOf key f (xs.take i) j with
      | none => rw [hd] at h; exact h
      | some d => rw [hd] at h; obtain ⟨v, h1, h2⟩ := h; exact ⟨v, h1, h2.ex ((a4.g.trans a5.g).trans a6.g)⟩
  · have e : i = xs.length := by omega
    subst e
    rw [List.take_length] at ra
    exact .inl ⟨w2 (Nat.le_refl _), q D _ G' H' (a2.free hD) (a2.trans a3) ow ra⟩
/-- for x in xs: Pv tells of the turn, the slots and the heaps; B: what stood still when the walk began -/
theorem st_for {α : Type} (xs : List α) (enc : α → PyData) (Pv : Hp → Nat → L2.St → Hp → Hp → Prop) (k : Ex G H) (S : Src K wi σ G H (xs.map enc)) (h0 : ∀ G1 H1, Adv G H G1 H1 → Pv G1 0 σ G1 H1)
    (hx : ∀ B i σ' G' H', Pv B i σ' G' H' → Ex B G' ∧ Ex G' H')
    (hs : ∀ B (i : Nat) x v σ' G' H' G'' H'', xs[i]? = some x → Pv B i σ' G' H' → Adv G' H' G'' H'' → Rp K G'' v (enc x) → Bd g σ' v H'' fun σ2 => tb { D with nx := fun σ H => ∃ G, Pv B (i + 1) σ G H, ct := fun σ H => ∃ G, Pv B (i + 1) σ G H, bk := D.nx } σ2 H'')
    (hd : ∀ B σ' G' H', Pv B xs.length σ' G' H' → D.nx σ' H') : tFor wi g tb D σ H := S G H (.refl k) _ fun J G2 H2 a2 wk => by
  refine ⟨fun i m σ' H' => m = xs.length - i ∧ i ≤ xs.length ∧ ∃ G', Pv G2 i σ' G' H', ⟨xs.length, rfl, Nat.zero_le _, G2, h0 G2 H2 a2⟩, ?_⟩
  rintro i m σ' H' ⟨rfl, hi, G', p⟩
  obtain ⟨e1, e2⟩ := hx _ _ _ _ _ p
  obtain ⟨w1, w2, w3⟩ := wk i G' H' e1 e2
  rw [List.length_map] at w1 w2 w3
  by_cases hlt : i < xs.length
  · refine .inr ⟨w1 hlt, fun σ H => ∃ G, Pv G2 (i + 1) σ G H, fun σ'' H'' hN => ⟨xs.length - (i + 1), by omega, rfl, hlt, hN⟩, fun x H'' y => ?_⟩
    obtain ⟨d, G'', hd, a4, rx⟩ := w3 x H'' y hlt
    rw [List.getElem?_map, List.getElem?_eq_getElem hlt] at hd
    cases hd
    exact hs G2 i xs[i] x σ' G' H' G'' H'' (List.getElem?_eq_getElem hlt) p a4 rx _ fun σ2 q => q
  · have e : i = xs.length := by omega
    subst e
    exact .inl ⟨w2 (Nat.le_refl _), hd _ _ _ _ p⟩
/-- while: W falls -/
theorem st_while {c : TT} (W : Nat → L2.St → Hp → Hp → Prop) (m0 : Nat) (h0 : W m0 σ G H)
    (hs : ∀ m σ' G' H', W m σ' G' H' → Ex G' H' ∧ ∃ b, EvaT c σ' G' H' b ∧
      (b = true → ∀ G1 H1, Adv G' H' G1 H1 → tb { D with nx := fun σ H => ∃ m' G, m' < m ∧ W m' σ G H, ct := fun σ H => ∃ m' G, m' < m ∧ W m' σ G H, bk := D.nx } σ' H1) ∧ (b = false → ∀ G1 H1, Adv G' H' G1 H1 → D.nx σ' H1)) : tWhile c tb D σ H :=
  ⟨fun m σ H => ∃ G, W m σ G H, ⟨m0, G, h0⟩, fun m σ' H' hw => by
    obtain ⟨G', hw⟩ := hw
    obtain ⟨k, b, ht, h1, h2⟩ := hs m σ' G' H' hw
    refine ht G' H' (.refl k) _ fun G1 H1 a => ?_
    cases b with
    | true => exact iteT ⟨_, fun σ' H' ⟨m', G, hm, hw⟩ => ⟨m', hm, G, hw⟩, h1 rfl G1 H1 a⟩
    | false => exact iteF (h2 rfl G1 H1 a)⟩
end
end Vf

set_option Elab.async false
set_option linter.all false
set_option maxRecDepth 100000
set_option maxHeartbeats 2000000
namespace Vf
open PySem PySem.Spec PyProof.Rows L2
open Evl hiding Ex Ex.refl Ex.trans Ex.new Ex.mut ex_rd ex_l ex_t fresh_back

/-! ### enumerate(tuple) -/
theorem wpAny_pyNext_enum_endT {prog : Program} {w : World} {A : Around} {E : Value → Shared → Prop} {s : Shared} {e it l : Addr} {i : Nat} {items : Array Value} {old : Value} {Q : Option Value → Shared → Prop} (hh : A.handled = none)
    (he : IsEnum s.heap e it i old) (hit : s.heap.IsTupleIter it l i) (hl : s.heap.IsTuple l items) (hx : items[i]? = none)
    (hQ : ∀ h', Heap.ExtBut it s.heap h' → Q none { s with heap := h' }) : wpAny (model prog w) A (pyNext (.ref e)) Q E s := by
  have hT : s.TypeIs (.ref e) "enumerate" := ⟨_, he, rfl⟩
  unfold pyNext
  refine wpAny_bind (wpAny_attempt (wpAny_callSpecial?_slot (name := Str.ofString "__next__") hT F.slot_enumerate_next
    (wpAny_call_entry F.slot_enumerate_next hT F.entry_enumerate_next ?_ (F.args_enumerate_next_1 _))))
  show wpAny _ _ (field (.ref e) 2 >>= _) _ _ _
  refine wpAny_bind (wpAny_field he rfl (x := .ref it) rfl ?_)
  refine wpAny_bind (wpAny_nextOf_tuple_end hh hit hl hx fun h' x he' hx' => ?_)
  obtain ⟨o, ho, hc⟩ := hx'
  refine wpAny_bind (wpAny_isInstance (T := "StopIteration") (b := true) ⟨o, ho, hc⟩ isSubtype_stop ?_)
  exact wpAny_pure (hQ _ he')
theorem meets_enumerate_newT {v : Value} {o : Obj} {H : Heap → Prop} (B : Begins v o H) :
    Meets (Builtin.«enumerate.__new__» ⟨[.type "enumerate", v], []⟩) (fun _ R s => H s.heap ∧
      R (.ok (.ret (.ref (s.heap.push o).objs.size))) { s with heap := (s.heap.push o).push { cls := .type "enumerate", data := .fields #[.none, .bool false, .ref s.heap.objs.size, rawInt 0, .none, .none] } }) :=
  .of_wp fun prog w A R s h => by
    obtain ⟨hp, g, d, tk, os⟩ := s; obtain ⟨h1, h⟩ := h
    have hsub := sub_enumerate
    have q1 : ∀ {A' : Around} {E : Value → Shared → Prop} {Q : Value → Shared → Prop}, Q (.ref hp.objs.size) ⟨hp.push o, g, d, tk, os⟩ → wpAny (model prog w) A' (pyIter v) Q E ⟨hp, g, d, tk, os⟩ :=
      fun q => B.iter prog w _ _ ⟨hp, g, d, tk, os⟩ _ h1 q
    wp_walk using q1
    refine wpAny_stack_any fun st => wpAny_pure ?_
    split
    · rename_i c _ _ _ _ _
      cases (c == Value.type "enumerate")
      · wp_walk using q1
        exact ⟨_, rfl, h⟩
      · wp_walk using q1
        exact ⟨_, rfl, h⟩
    · wp_walk using q1
      exact ⟨_, rfl, h⟩
section
variable {prog : Program} {w : World} {A : Around} {E : Value → Shared → Prop} {s : Shared}
theorem enum_begins1 {v : Value} {o : Obj} {H : Heap → Prop} {Q : Value → Shared → Prop} (B : Begins v o H) (h1 : H s.heap)
    (h : ∀ h', IsEnum h' (s.heap.objs.size + 1) s.heap.objs.size 0 .none → h'.get? s.heap.objs.size = some o → h'.objs.size = s.heap.objs.size + 2 →
      (∀ b o, s.heap.get? b = some o → h'.get? b = some o) → Q (.ref (s.heap.objs.size + 1)) { s with heap := h' }) :
    wpAny (model prog w) A (call (.type "enumerate") [v]) Q E s := by
  refine callType_new F.called_enumerate (by decide) (F.typeCall_enumerate_1 _) (F.newCall_enumerate_1 _) (fun obj => F.args_object_init_2 obj _) F.entry_enumerate_new
    (meets_enumerate_newT B) ⟨h1, ?_⟩
  have hz : (s.heap.push o).objs.size = s.heap.objs.size + 1 := Heap.size_push ..
  show _ ∧ _
  rw [hz]
  have he : IsEnum ((s.heap.push o).push { cls := .type "enumerate", data := .fields #[.none, .bool false, .ref s.heap.objs.size, rawInt 0, .none, .none] }) (s.heap.objs.size + 1) s.heap.objs.size 0 .none := by
    have := Heap.get?_push_size (s.heap.push o) (o := { cls := .type "enumerate", data := .fields #[.none, .bool false, .ref s.heap.objs.size, rawInt 0, .none, .none] }) rfl
    rw [hz] at this; exact this
  refine ⟨⟨_, he, rfl⟩, h _ he (Heap.get?_push_of_some _ (Heap.get?_push_size _ B.free)) (by rw [Heap.size_push, hz]) fun b o x => Heap.get?_push_of_some _ (Heap.get?_push_of_some _ x)⟩
end
def ItTe (K : PySem.W.Frag) (a : Addr) : It :=
  ⟨fun i H => ∃ (xs : List V) (x : V), SqT K H a xs ∧ xs[i]? = some x, fun i H v H' => ∃ T x, v = .ref T ∧ H T = none ∧ H' = upd H T (.tup [.int (i : Nat), x]) ∧ ∀ xs, SqT K H a xs → xs[i]? = some x, fun i H => ∃ xs : List V, SqT K H a xs ∧ xs.length ≤ i⟩
theorem turn_enumT {P : Program} {w : World} {K : PySem.W.Frag} {elts : List Expr} {kk : Nat} {tpos : Pos} (a e it : Addr) :
    Turn P w K (.Tuple elts kk tpos) (ItTe K a) [e, it] e (fun i h => (∃ old, IsEnum h e it ((i : Nat) : Int) old) ∧ h.IsTupleIter it a i ∧ e ≠ it) where
  mem := by simp
  obj := fun i h st b hb => by
    obtain ⟨⟨old, he⟩, ⟨o, ho, hc, hd⟩, _⟩ := st
    have e' : b = e ∨ b = it := by simpa using hb
    rcases e' with z | z
    · rw [z]; exact ⟨_, he, fun v q => nomatch q⟩
    · rw [z]; exact ⟨o, ho, fun v q => by rw [hd] at q; cases q⟩
  keep := fun i h h' st k => let ⟨⟨old, he⟩, hi, hne⟩ := st; ⟨⟨old, k e (by simp) _ he⟩, hi.at fun o q => k it (by simp) o q, hne⟩
  item := by
    intro X hP hw hK hc i pins s σ H E I hf st hg
    subst hP hw hK
    obtain ⟨⟨old, he⟩, hit, hne⟩ := st
    obtain ⟨xs, x, hq, hx⟩ := hg
    obtain ⟨its, rv, p, hz⟩ := I.tuple hq
    obtain ⟨u, hu, ru⟩ := rv.get hx
    have hel : e < s.heap.objs.size := Heap.lt_size he
    have hil : it < s.heap.objs.size := by obtain ⟨_, q, _⟩ := hit; exact Heap.lt_size q
    have hait : a ≠ it := fun z => by
      obtain ⟨o, ho, hcl, _⟩ := hit
      obtain ⟨o', ho', hcl', _⟩ := p
      rw [z, ho] at ho'
      cases ho'
      rw [hcl] at hcl'
      exact absurd hcl' (by decide)
    have hae : a ≠ e := fun z => by
      obtain ⟨o', ho', hcl', _⟩ := p
      rw [z, he] at ho'
      cases ho'
      exact absurd (show Value.type "enumerate" = Value.type "tuple" from hcl') (by decide)
    have pt : s.heap.IsTuple a its.toArray := p
    refine wpAny_pyNext_enum_itemC (Draws.tuple (A := X.A.in1) (I.ok.hd hc) it a hait its.toArray) he ⟨hit, pt⟩ (i := i) (by have := (List.getElem?_eq_some_iff.mp hu).1; simpa using this) hne (by simp [hne, Ne.symm hae]) fun x' h' tk hx' ho st' hT hsz hk => ?_
    have ex : x' = u := by
      have e1 : its[i]? = some x' := by simpa using hx'
      rw [hu] at e1; exact (Option.some.inj e1).symm
    subst ex
    refine ⟨_, rfl, wpAny_letOwnedTupleGo_enum (s := { s with heap := h', toks := tk + 1 }) ho fun h'' he' sb => ?_⟩
    have hT2 : h''.get? s.heap.objs.size = some { cls := .type "tuple", data := .seq #[.int i tk, x'] } := (sb.2 _ (Nat.ne_of_gt hel)).trans hT
    have new : ObjOk X.prog X.w (upd H s.heap.objs.size (.tup [.int (i : Nat), x])) h'' s.heap.objs.size (.tup [.int (i : Nat), x]) :=
      ⟨by show 2 ≤ sizeLine; decide, [.int i tk, x'], .cons ⟨_, rfl⟩ (.cons ru .nil), ⟨_, hT2, rfl, _, rfl⟩⟩
    have I1 : Inv X pins σ (upd H s.heap.objs.size (.tup [.int (i : Nat), x])) { s with heap := h'', toks := tk + 1 } :=
      I.turnedNew (ch := [e, it]) (fun b ob hb q => (sb.2 b (fun z => hb (by simp [z]))).trans (hk b ob (fun z => hb (by simp [z])) (fun z => hb (by simp [z])) q)) hf (Nat.le_refl _) new
    refine ⟨.ref s.heap.objs.size, _, I1, rfl, ⟨_, x, rfl, I.hok.fresh (Nat.le_refl _), rfl, fun ys hy => by rw [I.tuple_inj hy hq]; exact hx⟩, ⟨⟨x', ?_⟩, st'.1.at fun o q => (sb.2 it (Ne.symm hne)).trans q, hne⟩, fun b hb => ?_⟩
    · have e1 : ((i + 1 : Nat) : Int) = (i : Int) + 1 := by omega
      rw [e1]; exact he'
    · have hb' : b < s.heap.objs.size := by
        have e' : b = e ∨ b = it := by simpa using hb
        rcases e' with z | z
        · rw [z]; exact hel
        · rw [z]; exact hil
      rw [upd_ne (Nat.ne_of_lt hb')]
      exact (hf b hb).1
  done := by
    intro X hP hw hK hc i pins s σ H E I hf st hg
    subst hP hw hK
    obtain ⟨⟨old, he⟩, hit, hne⟩ := st
    obtain ⟨xs, hq, hx⟩ := hg
    obtain ⟨its, rv, p, hz⟩ := I.tuple hq
    obtain ⟨f0, f1, f2, f3, f4, f5⟩ := hf it (by simp)
    have hl := rv.length
    have pt : s.heap.IsTuple a its.toArray := p
    exact wpAny_pyNext_enum_endT (I.ok.hd hc) he hit pt (by simp; omega) fun h' eb => ⟨rfl, I.turned (t' := s.toks) (fun b o hb q => eb b o hb q) f0 f1 f3 f4 f5⟩
  self := fun A i s Q E st h => let ⟨⟨_, he⟩, _⟩ := st; wpAny_pyIter_enum he h
def iEnumT (K : PySem.W.Frag) (ta : TA) : TI := fun σ H R => ta σ H fun vs H1 => ∃ a xs, vs = [.ref a] ∧ SqT K H1 a xs ∧ R (ItTe K a) H1
theorem pi_enumT {X : Cx} {e : Expr} {ta : TA} {p pos tpos : Pos} {elts : List Expr} {kk : Nat} (hg : Gl X "enumerate") (hm : X.mg "enumerate" = none) (ha : PA X [e] ta) (hs : starEach [e] X.env = [(false, eval e X.env)] := by rfl) :
    PI X (.Tuple elts kk tpos) (.Call (.Name "enumerate" p) [e] [] pos) (iEnumT X.K ta) := by
  refine ⟨fun pins s σ H R I h => ?_⟩
  refine Call_ (ld_blt I hg hm boot_enumerate (PyProof.Rows.callWith_type1 (thn (ha.run pos pins s σ H _ I h) fun us s1 ⟨vs, H1, I1, r1, q1⟩ => ?_) hs rfl))
  obtain ⟨a, xs, ex, hq, q⟩ := q1
  subst ex
  cases r1 with
  | cons r rr =>
    cases rr
    cases r
    obtain ⟨its, rv, p', hz⟩ := I1.tuple hq
    refine enum_begins1 (begins_tuple a its.toArray) p' fun h' he hit hsz hk => wpAny_pyIter_enum he ?_
    have I2 : Inv X pins σ H1 { s1 with heap := h' } := I1.kept (t' := s1.toks) hk
    refine ⟨s1.heap.objs.size + 1, [s1.heap.objs.size + 1, s1.heap.objs.size], _, _, H1, rfl, I2, turn_enumT a (s1.heap.objs.size + 1) s1.heap.objs.size, ⟨⟨.none, he⟩, ⟨_, hit, rfl, rfl⟩, Nat.succ_ne_self _⟩, fun b hb => ?_, q⟩
    have e' : b = s1.heap.objs.size + 1 ∨ b = s1.heap.objs.size := by simpa using hb
    have hle : s1.heap.objs.size ≤ b := by
      rcases e' with z | z
      · rw [z]; exact Nat.le_add_right _ _
      · rw [z]; exact Nat.le_refl _
    exact I1.fpOk hle (I1.hok.fresh hle)
theorem src_enumT {K : PySem.W.Frag} {σ : L2.St} {G H : Hp} {te : TE} {ds : List PyData} (h : Eva K te σ G H (.tuple ds)) : Src K (iEnumT K (tCons te tNil)) σ G H (enumD ds) := fun G1 H1 a R q => h G1 H1 a _ fun v G2 H2 a2 r => by
  cases r with
  | @tup p xs _ hs hr =>
    refine ⟨_, _, rfl, ex_t a2.o hs, q _ G2 H2 a2 fun i G3 H3 e3 k3 => ?_⟩
    have hp : SqT K H3 p xs := ex_t (e3.trans k3) hs
    have hl := rpa_len hr
    rw [enumD_len]
    refine ⟨fun hi => ⟨xs, xs[i]'(by omega), hp, List.getElem?_eq_getElem _⟩, fun hi => ⟨xs, hp, by omega⟩, fun x H' y hi => ?_⟩
    obtain ⟨T, x, rfl, nT, rfl, y⟩ := y
    obtain ⟨d, hd, rd⟩ := rpa_get hr (y xs hp)
    exact ⟨_, upd G3 T _, enumD_get hd, .new k3 nT, .tup (SqT.of upd_same) (.cons (.int _) (.cons (rd.ex (e3.trans (Ex.new (fresh_back k3 nT)))) .nil))⟩
end Vf

set_option Elab.async false
set_option linter.all false
set_option maxRecDepth 100000
set_option maxHeartbeats 2000000
namespace Vf
open PySem PySem.Spec PyProof.Rows L2
open Evl hiding Ex Ex.refl Ex.trans Ex.new Ex.mut ex_rd ex_l ex_t fresh_back

/-! ### {e for t in it}: ints -/
section
variable {X : Cx}
abbrev noInt : Int → Bool := fun _ => false
abbrev withInt (S : Int → Bool) (c : Int) : Int → Bool := fun j => S j || decide (j = c)
abbrev sizeWith (S : Int → Bool) (c : Int) (n : Nat) : Nat := if S c = true then n else n + 1
theorem add_one {pins : List (Addr × Obj)} {σ : L2.St} {H : Hp} {s : Shared} {E : Value → Shared → Prop} {a : Addr} {S : Int → Bool} {n : Nat} {y : Int} {tk : Tok} {Q : Value → Shared → Prop} (J : Inv X pins σ H s)
    (ha : H a = some (SetO X.w a S n)) (room : n + 1 < scanBound) (go : ∀ s', Inv X pins σ (upd H a (SetO X.w a (withInt S y) (sizeWith S y n))) s' → Q .none s') :
    wpAny (model X.prog X.w) X.A (call (.builtin "set.add") [.ref a, .int y tk]) Q E s :=
  setR_add (setO_get J ha) room fun h' sb new => go _ (J.write (e := a) (t' := s.toks + 1) (by rw [ha]; exact True.intro) (.inl rfl) (fun b u hb hu => (sb.2 b hb).trans hu)
    (by obtain ⟨o, _, _, _, ho, _⟩ := new; exact ⟨o, ho⟩) (setO_new new))
/-- the turn of such a walk, D the new set -/
def TurnS (w : World) (J : It) (g : TG) (tt : TT) (te : TE) (vs : List Nat) (σ : L2.St) (D : Addr) (W : Nat → Nat → Hp → Prop) (Q : VK) : Prop := ∀ i m H, W i m H →
  (J.stop i H ∧ Q (.ref D) H) ∨ (J.go i H ∧ ∃ Nx : Hp → Prop, (∀ H', Nx H' → ∃ m', m' < m ∧ W (i + 1) m' H') ∧ ∀ x H', J.yld i H x H' → g x (wipe σ vs) H' fun σ2 H2 => wipe σ2 vs = wipe σ vs ∧ tt σ2 H2 fun b H3 =>
    if b = true then te σ2 H3 fun y H4 => ∃ c S n, y = .int c ∧ H4 D = some (SetO w D S n) ∧ n + 1 < scanBound ∧ Nx (upd H4 D (SetO w D (withInt S c) (sizeWith S c n))) else Nx H3)
def tScI (w : World) (wi : TI) (g : TG) (tt : TT) (te : TE) (vs : List Nat) : TE := fun σ H Q => wi σ H fun J H1 => ∀ D, H1 D = none → ∃ W : Nat → Nat → Hp → Prop, (∃ m, W 0 m (upd H1 D (SetO w D noInt 0))) ∧ TurnS w J g tt te vs σ D W Q
abbrev blkEnv (X : Cx) (sc : Scope) (n : Nat) : Env := compEnvC sc (cellsFrom (n + 1) sc.names (cloFrom X.env.cells sc.names [])) n X.env
theorem pe_scI {elt tg iter : Expr} {ifs : List Expr} {scope : Scope} {own : List (PySem.Str × Nat)} {pos : Pos} {wi : TI} {g : TG} {tt : TT} {te : TE} (hc : X.calm = true) (hN : X.N.Nodup) (hi : PI X tg iter wi) (ok : BlkOk X.N X.env.scope scope own)
    (hg : ∀ (s : Shared) (H : Hp) (C : Addr) (cl : List (PySem.Str × Addr)) (fp : List Addr), PG (X.blk s H scope (compEnvC scope cl C X.env) fp) tg g)
    (ht : ∀ (s : Shared) (H : Hp) (C : Addr) (cl : List (PySem.Str × Addr)) (fp : List Addr), PTs (X.blk s H scope (compEnvC scope cl C X.env) fp) ifs tt)
    (he : ∀ (s : Shared) (H : Hp) (C : Addr) (cl : List (PySem.Str × Addr)) (fp : List Addr), PE (X.blk s H scope (compEnvC scope cl C X.env) fp) elt te) (hs : ∀ x, foldedSetIterable iter X.env x = pure x := by intro _; rfl) :
    PE X (.SetComp elt [⟨tg, iter, ifs, 0⟩] scope pos) (tScI X.w wi g tt te (own.map (·.2))) := by
  refine ⟨fun pins s σ H Q I h => ?_⟩
  rw [PpSet.eval_SetComp]
  have cap : ∀ y ∈ scope.names, y.2 = .free → ∃ c, X.env.cells.lookup y.1 = some c := fun y hy e => (ok.free y hy e).elim (fun z => I.ok.has _ (.inl z)) fun z => I.ok.has _ (.inr z)
  refine wpAny_comprehension_free (use := none) rfl hs (closure_ok cap) ok.kind (fun y hy e => by rw [ok.uniq y hy, e]) (thn (hi.run pins s σ H _ I h) fun xv s1 hx => thn hx fun itv s2 h2 => ?_)
  obtain ⟨it, fp, tn, J, H2, rfl, I2, T, st2, f2, q⟩ := h2
  refine PpSet.newSet_ok (newEnv_comp ?_)
  -- the set is laid
  obtain ⟨W, ⟨m0, w0⟩, turn⟩ := q s2.heap.objs.size (I2.hok.fresh (Nat.le_refl _))
  have below : ∀ b ∈ fp, b < s2.heap.objs.size := fun b hb => by obtain ⟨o, e, _⟩ := T.obj _ _ st2 b hb; exact Heap.lt_size e
  generalize hD : s2.heap.objs.size = D at w0 turn below ⊢
  have J3 : Inv X pins σ (upd H2 D (SetO X.w D noInt 0)) { s2 with heap := s2.heap.push { cls := .type "set", dict := none, data := .set #[] 0 (.fresh 0 0 (!X.w.params.followText "set-order")) } } :=
    I2.laid (t' := s2.toks) (fun b o e => Heap.get?_push_of_some _ e) (Nat.le_of_eq hD) (by rw [← hD]; exact setO_new (setR_fresh X.w))
  generalize hK : ({ s2 with heap := s2.heap.push { cls := .type "set", dict := none, data := .set #[] 0 (.fresh 0 0 (!X.w.params.followText "set-order")) } } : Shared) = sK at J3
  have heapK : sK.heap = s2.heap.push { cls := .type "set", dict := none, data := .set #[] 0 (.fresh 0 0 (!X.w.params.followText "set-order")) } := by rw [← hK]
  have keptK : ∀ b o, s2.heap.get? b = some o → sK.heap.get? b = some o := fun b o e => by rw [heapK]; exact Heap.get?_push_of_some _ e
  generalize hH : upd H2 D (SetO X.w D noInt 0) = HK at J3 w0
  have fK : ∀ b ∈ fp, FpOk X pins HK b ∧ b < sK.heap.objs.size := fun b hb => by
    refine ⟨⟨?_, (f2 b hb).2⟩, by rw [heapK, Heap.size_push, hD]; exact Nat.lt_succ_of_lt (below b hb)⟩
    rw [← hH, upd_ne (Nat.ne_of_lt (below b hb))]; exact (f2 b hb).1
  have B0 := block_start J3 ok hN fK
  -- the block
  have pg := hg sK HK sK.heap.objs.size (cellsFrom (sK.heap.objs.size + 1) scope.names (cloFrom X.env.cells scope.names [])) fp
  have pt := ht sK HK sK.heap.objs.size (cellsFrom (sK.heap.objs.size + 1) scope.names (cloFrom X.env.cells scope.names [])) fp
  have pe := he sK HK sK.heap.objs.size (cellsFrom (sK.heap.objs.size + 1) scope.names (cloFrom X.env.cells scope.names [])) fp
  show codeAny _ _ (.compStart (.SetComp elt [⟨tg, iter, ifs, 0⟩] scope pos) 0 (.ref it) (.ref D) (blkEnv X scope sK.heap.objs.size)) _ _
  generalize hce : blkEnv X scope sK.heap.objs.size = ce
  change Inv (X.blk sK HK scope (blkEnv X scope sK.heap.objs.size) fp) _ _ _ _ at B0
  change PG (X.blk sK HK scope (blkEnv X scope sK.heap.objs.size) fp) _ _ at pg
  change PTs (X.blk sK HK scope (blkEnv X scope sK.heap.objs.size) fp) _ _ at pt
  change PE (X.blk sK HK scope (blkEnv X scope sK.heap.objs.size) fp) _ _ at pe
  have cL : ce.locals = sK.heap.objs.size := by rw [← hce]; rfl
  rw [hce] at B0 pg pt pe
  let Y : Cx := X.blk sK HK scope ce fp
  generalize hB : ({ sK with heap := pushCells (sK.heap.push { cls := .type "dict", data := .dict #[] }) scope.names } : Shared) = sB at B0
  have stB : tn 0 sB.heap := T.keep _ _ _ st2 fun b _ o e => by rw [← hB]; exact pushCells_keeps _ _ _ _ (Heap.get?_push_of_some _ (keptK b o e))
  have still : ∀ {τ : L2.St} {H' : Hp} {s' : Shared}, Inv Y [] τ H' s' → (∀ b ∈ fp, H' b = none) → ∀ b ∈ fp, FpOk Y [] H' b := fun {τ H' s'} I' hn b hb =>
    ⟨hn b hb, (I'.ok.exf b hb).1, I'.ok.exfs b hb, .inl hb, fun x c e => (I'.ok.exf b hb).2 x c e, fun p hp => absurd (show p ∈ ([] : List (Addr × Obj)) ++ [] from hp) (by simp)⟩
  -- what holds between two turns
  let Iv : Nat → Shared → Prop := fun n s' => ∃ i H', Inv Y [] (wipe σ (own.map (·.2))) H' s' ∧ tn i s'.heap ∧ (∀ b ∈ fp, H' b = none) ∧ W i n H'
  have loop : ∀ R : Result → Shared → Prop, (∀ s6 H5, Inv Y [] (wipe σ (own.map (·.2))) H5 s6 → Q (.ref D) H5 → R (.ok .next) s6) → codeAny (model X.prog X.w) X.A (.compLoop (.SetComp elt [⟨tg, iter, ifs, 0⟩] scope pos) 0 (.ref it) (.ref D) ce) R sB := fun R hR => by
    refine PpSet.compLoopS_any Iv ?_ m0 ⟨0, HK, B0, stB, fun b hb => (fK b hb).1.1, w0⟩
    rintro n s5 ⟨i, H5, I5, st5, n5, w5⟩
    rcases turn i n H5 w5 with ⟨stop, qq⟩ | ⟨go, Nx, hNx, step⟩
    · exact thnF (T.done Y rfl rfl rfl hc i [] s5 _ H5 (fun _ _ => False) I5 (still I5 n5) st5 stop) fun r s6 z => by
        obtain ⟨rfl, I6⟩ := z
        exact hR s6 H5 I6 qq
    · refine thnF (T.item Y rfl rfl rfl hc i [] s5 _ H5 (fun _ _ => False) I5 (still I5 n5) st5 go) fun r s6 z => ?_
      obtain ⟨u, rfl, h6⟩ := z
      refine thnF h6 fun _ s7 z => ?_
      obtain ⟨x, H7, I7, r7, y7, st7, n7⟩ := z
      refine thnF (pg.run _ s7 _ H7 x u _ (I7.pinned (still I7 n7) (T.obj _ _ st7)) r7 (step x H7 y7)) fun _ s8 z => ?_
      obtain ⟨τ, H8, I8, hw8, q8⟩ := z
      refine thnF (pt.run _ s8 τ H8 _ I8 q8) fun b s9 z => ?_
      obtain ⟨H9, I9, q9⟩ := z
      have fin : ∀ {s' : Shared} {H' : Hp}, Inv Y ([] ++ pinsAt fp s7.heap) τ H' s' → Nx H' → ∃ m, m < n ∧ Iv m s' := fun {s' H'} I' nx => by
        obtain ⟨m', hm, w'⟩ := hNx H' nx
        have pin : ∀ b ∈ fp, ∀ o, s7.heap.get? b = some o → s'.heap.get? b = some o ∧ H' b = none := fun b hb o e => by
          have z := I'.pin (b, o) (List.mem_append_right _ (List.mem_append_right _ (mem_pinsAt hb e)))
          exact ⟨z.1, z.2.1⟩
        refine ⟨m', hm, i + 1, H', (I'.unpinned (pins := [])).weak (by rw [← hw8, wipe_length]) (fun j v e => (wipe_some (by rw [hw8]; exact e)).1), T.keep _ _ _ st7 fun b hb o e => (pin b hb o e).1, fun b hb => ?_, w'⟩
        obtain ⟨o, e, _⟩ := T.obj _ _ st7 b hb
        exact (pin b hb o e).2
      cases b with
      | false => exact fin I9 (by simpa using q9)
      | true =>
        simp only [if_true] at q9 ⊢
        refine thnF (pe.run _ s9 τ H9 _ I9 q9) fun z s10 w10 => ?_
        obtain ⟨yv, H10, I10, r10, c, S0, n0, rfl, hD10, room, nx⟩ := w10
        obtain ⟨tk, rfl⟩ := r10
        exact add_one (X := Y) I10 hD10 room fun s11 I11 => fin I11 nx
  have whole : ∀ R : Result → Shared → Prop, (∀ s6 H5, Inv Y [] (wipe σ (own.map (·.2))) H5 s6 → Q (.ref D) H5 → R (.ok .next) s6) → codeAny (model X.prog X.w) X.A (.compStart (.SetComp elt [⟨tg, iter, ifs, 0⟩] scope pos) 0 (.ref it) (.ref D) ce) R sB := fun R hR =>
    PpSet.codeAny_compStart_set (loop R hR) (T.self X.A 0 _ _ _ stB (loop R hR))
  refine whole _ fun s6 H5 I6 qq => ?_
  have I7 : Inv X pins σ H5 s6 := J3.call' (ch := fp) I6.os I6.base I6.hok I6.bare fun b hb => ⟨(fK b hb).1.2.2.2.1, (fK b hb).1.2.1, (fK b hb).1.2.2.2.2.1, (fK b hb).1.2.2.2.2.2⟩
  have nC : H5 ce.locals = none := I6.free
  obtain ⟨m, hn, _⟩ := I6.loc
  have hn : s6.heap.Ns ce.locals m := hn
  rw [cL] at nC hn
  refine ⟨m, hn, fun h'' sb => ?_⟩
  obtain ⟨f0, f1, f2, f3, f4, f5⟩ := J3.fpOk (Nat.le_refl _) nC
  exact ⟨.ref D, H5, I7.turned (t' := s6.toks) (fun b o hb e => (sb.2 b hb).trans e) f0 f1 f3 f4 f5, rfl, qq⟩
end
end Vf

set_option Elab.async false
set_option linter.all false
namespace Vf
/-! ### ascending lists -/
section
variable {α : Type} (k : α → Int)
def ins (x : α) : List α → List α
  | [] => [x]
  | y :: ys => if k x < k y then x :: y :: ys else if k x = k y then y :: ys else y :: ins x ys
def ascBy (l : List α) : List α := l.foldl (fun a x => ins k x a) []
abbrev Asc (l : List α) : Prop := l.Pairwise fun x y => k x < k y
variable {k}
theorem mem_ins {x y : α} : ∀ {l : List α}, y ∈ ins k x l → y = x ∨ y ∈ l
  | [], h => .inl (List.mem_singleton.mp h)
  | z :: zs, h => by
    unfold ins at h
    split at h
    · exact List.mem_cons.mp h
    · split at h
      · exact .inr h
      · rcases List.mem_cons.mp h with e | h
        · exact .inr (e ▸ List.mem_cons_self)
        · rcases mem_ins h with e | h
          · exact .inl e
          · exact .inr (List.mem_cons_of_mem _ h)
theorem ins_key {x : α} : ∀ {l : List α}, ∃ y ∈ ins k x l, k y = k x
  | [] => ⟨x, List.mem_singleton.mpr rfl, rfl⟩
  | z :: zs => by
    unfold ins
    split
    · exact ⟨x, List.mem_cons_self, rfl⟩
    · split
      · rename_i h1 h2
        exact ⟨z, List.mem_cons_self, h2.symm⟩
      · obtain ⟨y, h, e⟩ := ins_key (x := x) (l := zs)
        exact ⟨y, List.mem_cons_of_mem _ h, e⟩
theorem ins_old {x y : α} : ∀ {l : List α}, y ∈ l → y ∈ ins k x l
  | [], h => by cases h
  | z :: zs, h => by
    unfold ins
    split
    · exact List.mem_cons_of_mem _ h
    · split
      · exact h
      · rcases List.mem_cons.mp h with e | h
        · exact e ▸ List.mem_cons_self
        · exact List.mem_cons_of_mem _ (ins_old h)
theorem ins_asc {x : α} : ∀ {l : List α}, Asc k l → Asc k (ins k x l)
  | [], _ => List.pairwise_singleton _ _
  | z :: zs, h => by
    obtain ⟨h1, h2⟩ := List.pairwise_cons.mp h
    unfold ins
    split
    · rename_i hx
      refine List.pairwise_cons.mpr ⟨fun y hy => ?_, h⟩
      rcases List.mem_cons.mp hy with e | hy
      · rw [e]; exact hx
      · exact Int.lt_trans hx (h1 y hy)
    · split
      · exact h
      · rename_i a b
        refine List.pairwise_cons.mpr ⟨fun y hy => ?_, ins_asc h2⟩
        rcases mem_ins hy with e | hy
        · rw [e]; omega
        · exact h1 y hy
theorem ins_len {x : α} : ∀ {l : List α}, Asc k l → ((∃ y ∈ l, k y = k x) → (ins k x l).length = l.length) ∧ ((¬ ∃ y ∈ l, k y = k x) → (ins k x l).length = l.length + 1)
  | [], _ => ⟨fun ⟨y, h, _⟩ => (by cases h), fun _ => rfl⟩
  | z :: zs, h => by
    obtain ⟨h1, h2⟩ := List.pairwise_cons.mp h
    unfold ins
    split
    · rename_i hx
      refine ⟨fun ⟨y, hy, e⟩ => ?_, fun _ => rfl⟩
      rcases List.mem_cons.mp hy with e' | hy
      · rw [e'] at e; omega
      · have := h1 y hy; omega
    · split
      · rename_i a b
        exact ⟨fun _ => rfl, fun n => absurd ⟨z, List.mem_cons_self, b.symm⟩ n⟩
      · rename_i a b
        obtain ⟨i1, i2⟩ := ins_len (x := x) h2
        refine ⟨fun ⟨y, hy, e⟩ => ?_, fun n => ?_⟩
        · rcases List.mem_cons.mp hy with e' | hy
          · rw [e'] at e; exact absurd e.symm b
          · rw [List.length_cons, List.length_cons, i1 ⟨y, hy, e⟩]
        · rw [List.length_cons, List.length_cons, i2 fun ⟨y, hy, e⟩ => n ⟨y, List.mem_cons_of_mem _ hy, e⟩]
theorem ascBy_app (l : List α) (x : α) : ascBy k (l ++ [x]) = ins k x (ascBy k l) := by unfold ascBy; rw [List.foldl_append]; rfl
theorem ascBy_asc (l : List α) : Asc k (ascBy k l) := by
  have h : ∀ (l a : List α), Asc k a → Asc k (l.foldl (fun a x => ins k x a) a) := by
    intro l
    induction l with
    | nil => intro a h; exact h
    | cons x xs ih => intro a h; exact ih _ (ins_asc h)
  exact h l [] List.Pairwise.nil
theorem mem_ascBy {l : List α} {y : α} (h : y ∈ ascBy k l) : y ∈ l := by
  have g : ∀ (l a : List α), y ∈ l.foldl (fun a x => ins k x a) a → y ∈ l ∨ y ∈ a := by
    intro l
    induction l with
    | nil => intro a h; exact .inr h
    | cons x xs ih =>
      intro a h
      rcases ih _ h with h | h
      · exact .inl (List.mem_cons_of_mem _ h)
      · rcases mem_ins h with e | h
        · exact .inl (e ▸ List.mem_cons_self)
        · exact .inr h
  rcases g l [] h with h | h
  · exact h
  · cases h
theorem ascBy_key {l : List α} {x : α} (h : x ∈ l) : ∃ y ∈ ascBy k l, k y = k x := by
  have g : ∀ (l a : List α), (∃ y ∈ a, k y = k x) ∨ x ∈ l → ∃ y ∈ l.foldl (fun a x => ins k x a) a, k y = k x := by
    intro l
    induction l with
    | nil =>
      intro a h
      rcases h with h | h
      · exact h
      · cases h
    | cons z zs ih =>
      intro a h
      refine ih _ ?_
      rcases h with ⟨y, hy, e⟩ | h
      · exact .inl ⟨y, ins_old hy, e⟩
      · rcases List.mem_cons.mp h with e | h
        · exact .inl (e ▸ ins_key)
        · exact .inr h
  exact g l [] (.inr h)
theorem asc_unique : ∀ {l m : List α}, Asc k l → Asc k m → (∀ x, x ∈ l ↔ x ∈ m) → l = m
  | [], [], _, _, _ => rfl
  | [], y :: ys, _, _, h => absurd ((h y).mpr List.mem_cons_self) (by simp)
  | x :: xs, [], _, _, h => absurd ((h x).mp List.mem_cons_self) (by simp)
  | x :: xs, y :: ys, hl, hm, h => by
    obtain ⟨h1, h2⟩ := List.pairwise_cons.mp hl
    obtain ⟨h3, h4⟩ := List.pairwise_cons.mp hm
    have e : x = y := by
      rcases List.mem_cons.mp ((h x).mp List.mem_cons_self) with e | hx
      · exact e
      · rcases List.mem_cons.mp ((h y).mpr List.mem_cons_self) with e | hy
        · exact e.symm
        · have := h1 y hy; have := h3 x hx; omega
    subst e
    rw [asc_unique h2 h4 fun z => ?_]
    have hz := h z
    rw [List.mem_cons, List.mem_cons] at hz
    constructor
    · intro q
      rcases hz.mp (.inr q) with e | q'
      · subst e; have := h1 z q; omega
      · exact q'
    · intro q
      rcases hz.mpr (.inr q) with e | q'
      · subst e; have := h3 z q; omega
      · exact q'
theorem mem_ascBy_iff {l : List α} (inj : ∀ x ∈ l, ∀ y ∈ l, k x = k y → x = y) {x : α} : x ∈ ascBy k l ↔ x ∈ l :=
  ⟨mem_ascBy, fun h => by
    obtain ⟨y, hy, e⟩ := ascBy_key (k := k) h
    exact inj y (mem_ascBy hy) x h e ▸ hy⟩
end
theorem ascBy_le {α : Type} (k : α → Int) (l m : List α) : (ascBy k l).length ≤ (ascBy k (l ++ m)).length := by
  have h : ∀ (m a : List α), Asc k a → a.length ≤ (m.foldl (fun a x => ins k x a) a).length := by
    intro m
    induction m with
    | nil => intro a _; exact Nat.le_refl _
    | cons x xs ih =>
      intro a ha
      have h1 := ih _ (ins_asc (x := x) ha)
      have h2 := ins_len (x := x) ha
      rw [List.foldl_cons]
      by_cases hx : ∃ y ∈ a, k y = k x
      · have := h2.1 hx; omega
      · have := h2.2 hx; omega
  unfold ascBy
  rw [List.foldl_append]
  exact h m _ (ascBy_asc l)
theorem ascBy_len {α : Type} (k : α → Int) (l : List α) : (ascBy k l).length ≤ l.length := by
  have h : ∀ (m a : List α), Asc k a → (m.foldl (fun a x => ins k x a) a).length ≤ m.length + a.length := by
    intro m
    induction m with
    | nil => intro a _; simp
    | cons x xs ih =>
      intro a ha
      have h1 := ih _ (ins_asc (x := x) ha)
      have h2 := ins_len (x := x) ha
      rw [List.foldl_cons, List.length_cons]
      by_cases hx : ∃ y ∈ a, k y = k x
      · have := h2.1 hx; omega
      · have := h2.2 hx; omega
  have := h l [] List.Pairwise.nil
  rw [List.length_nil] at this
  exact this
theorem mem_asc_id {l : List Int} {x : Int} : x ∈ ascBy id l ↔ x ∈ l := mem_ascBy_iff fun _ _ _ _ e => e
end Vf

set_option Elab.async false
set_option linter.all false
set_option maxRecDepth 100000
set_option maxHeartbeats 2000000
namespace Vf
open PySem PySem.Spec PyProof.Rows L2
open Evl hiding Ex Ex.refl Ex.trans Ex.new Ex.mut ex_rd ex_l ex_t fresh_back

section
variable {K : PySem.W.Frag} {P : Program} {w : World} {σ : L2.St} {G H G' H' : Hp} {te tl : TE} {tt : TT} {wi : TI} {g : TG} {vs : List Nat}
/-- sorted({key x for x in xs if p x}) -/
theorem eva_sortedSI {α : Type} (xs : List α) (enc : α → PyData) (p : α → Bool) (key : α → Int) (S : Src K wi σ G H (xs.map enc)) (hz : xs.length ≤ 40000) (hf : (ascBy id ((xs.filter p).map key)).length < 64)
    (hb : ∀ (i : Nat) x v G' H', xs[i]? = some x → Adv G H G' H' → Rp K G' v (enc x) → Bd g (wipe σ vs) v H' fun σ2 => wipe σ2 vs = wipe σ vs ∧ EvaT tt σ2 G' H' (p x) ∧ (p x = true → Eva K te σ2 G' H' (.int (key x)))) :
    Eva K (tCB (rSortedSet w) (tCons (tScI w wi g tt te vs) tNil)) σ G H (.list ((ascBy id ((xs.filter p).map key)).map .int)) := fun G1 H1 a Q q => S G1 H1 a _ fun J G2 H2 a2 wk D hD => by
  refine ⟨fun i m H' => m = xs.length - i ∧ i ≤ xs.length ∧ ∃ G' Z, Adv G2 H2 G' H' ∧ Own G' H' D (SetO w D Z (ascBy id (((xs.take i).filter p).map key)).length) ∧ (∀ j, Z j = true ↔ j ∈ ascBy id (((xs.take i).filter p).map key)),
    ⟨xs.length, rfl, Nat.zero_le _, G2, _, .lay a2.o hD, ⟨upd_same, fresh_back a2.o hD, fun _ z => nomatch z⟩, fun j => by simp [ascBy]⟩, ?_⟩
  rintro i m H' ⟨rfl, hi, G', Z, a3, ow, hZ⟩
  obtain ⟨w1, w2, w3⟩ := wk i G' H' a3.g a3.o
  rw [List.length_map] at w1 w2 w3
  by_cases hlt : i < xs.length
  · refine .inr ⟨w1 hlt, fun H' => ∃ G' Z, Adv G2 H2 G' H' ∧ Own G' H' D (SetO w D Z (ascBy id (((xs.take (i + 1)).filter p).map key)).length) ∧ (∀ j, Z j = true ↔ j ∈ ascBy id (((xs.take (i + 1)).filter p).map key)), fun H'' hN => ⟨xs.length - (i + 1), by omega, rfl, hlt, hN⟩, fun x H'' y => ?_⟩
    obtain ⟨d, G'', hd, a4, rx⟩ := w3 x H'' y hlt
    rw [List.getElem?_map, List.getElem?_eq_getElem hlt] at hd
    cases hd
    have hxi : xs[i]? = some xs[i] := List.getElem?_eq_getElem hlt
    refine hb i xs[i] x G'' H'' hxi ((a.trans a2).trans (a3.trans a4)) rx _ fun σ2 hσ => ?_
    obtain ⟨hw, ht, he⟩ := hσ
    have ow := ow.adv a4
    refine ⟨hw, ht G'' H'' a4.ok _ fun G5 H5 a5 => ?_⟩
    cases hp : p xs[i] with
    | false =>
      refine iteF ⟨G5, Z, (a3.trans a4).trans a5, ?_, ?_⟩
      all_goals rw [take_some hxi, List.filter_append, List.filter_cons, if_neg (by rw [hp]; exact Bool.false_ne_true), List.filter_nil, List.append_nil]
      · exact ow.adv a5
      · exact hZ
    | true =>
      refine iteT (he hp G5 H5 a5 _ fun v G6 H6 a6 rv => ?_)
      cases rp_int rv
      have ow := (ow.adv a5).adv a6
      have hn : (ascBy id (((xs.take i).filter p).map key)).length < 64 := by
        have e1 : (xs.filter p).map key = ((xs.take i).filter p).map key ++ ((xs.drop i).filter p).map key := by
          rw [← List.map_append, ← List.filter_append, List.take_append_drop]
        have := ascBy_le id (((xs.take i).filter p).map key) (((xs.drop i).filter p).map key)
        rw [← e1] at this
        omega
      refine ⟨key xs[i], Z, _, rfl, ow.h, Nat.lt_of_le_of_lt hn (by decide), G6, withInt Z (key xs[i]), (((((a3.trans a4).trans a5).trans a6).toR (rs := [D])).trans (ow.chg a6.o)).out (fun b hb => by rw [List.mem_singleton.mp hb]; exact hD), ?_, ?_⟩
      · rw [take_some hxi, List.filter_append, List.filter_cons, if_pos hp, List.filter_nil, List.map_append]
        show Own _ _ D (SetO w D _ (ascBy id (_ ++ [key xs[i]])).length)
        rw [ascBy_app]
        have hl := ins_len (x := key xs[i]) (ascBy_asc (k := id) (((xs.take i).filter p).map key))
        have e : (ins id (key xs[i]) (ascBy id (((xs.take i).filter p).map key))).length = sizeWith Z (key xs[i]) (ascBy id (((xs.take i).filter p).map key)).length := by
          unfold sizeWith
          by_cases hz : Z (key xs[i]) = true
          · rw [if_pos hz, hl.1 ⟨_, (hZ _).mp hz, rfl⟩]
          · rw [if_neg hz, hl.2 fun ⟨y, hy, e⟩ => hz (by rw [← show y = key xs[i] from e]; exact (hZ _).mpr hy)]
        rw [e]
        exact ow.put
      · intro j
        rw [take_some hxi, List.filter_append, List.filter_cons, if_pos hp, List.filter_nil, List.map_append]
        show withInt Z (key xs[i]) j = true ↔ j ∈ ascBy id (_ ++ [key xs[i]])
        have hZj := hZ j
        rw [mem_asc_id] at hZj
        rw [mem_asc_id, List.mem_append, List.mem_singleton, Bool.or_eq_true, hZj, decide_eq_true_eq]
  · have e : i = xs.length := by omega
    subst e
    rw [List.take_length] at ow hZ
    refine .inl ⟨w2 (Nat.le_refl _), D, Z, _, rfl, ow.h, hf, fun ns l hasc hmem hlen hl => ?_⟩
    have e : ns = ascBy id ((xs.filter p).map key) := asc_unique (k := id) hasc (ascBy_asc _) fun x => (hmem x).trans (hZ x)
    subst e
    exact q _ (upd G' l _) _ ((a2.trans a3).trans (Adv.new a3.o hl)) (.lst upd_same ((ints_rpa _).ex (Ex.refl _)))
/-- a triple of ints -/
abbrev E3 := Int × Int × Int
def eD (e : E3) : PyData := .tuple [.int e.1, .int e.2.1, .int e.2.2]
def e3 (e : E3) : List Int := [e.1, e.2.1, e.2.2]
def cd (e : E3) : Int := e.1 * 4096 + e.2.1 * 64 + e.2.2
abbrev Sm (e : E3) : Prop := (0 ≤ e.1 ∧ e.1 < 64) ∧ (0 ≤ e.2.1 ∧ e.2.1 < 64) ∧ (0 ≤ e.2.2 ∧ e.2.2 < 64)
theorem cd_inj {a b : E3} (ha : Sm a) (hb : Sm b) (h : cd a = cd b) : a = b := by
  obtain ⟨a1, a2, a3⟩ := a
  obtain ⟨b1, b2, b3⟩ := b
  unfold cd at h
  obtain ⟨⟨h1, h2⟩, ⟨h3, h4⟩, h5, h6⟩ := ha
  obtain ⟨⟨g1, g2⟩, ⟨g3, g4⟩, g5, g6⟩ := hb
  dsimp only at *
  have e1 : a1 = b1 := by omega
  have e2 : a2 = b2 := by omega
  have e3 : a3 = b3 := by omega
  rw [e1, e2, e3]
theorem code_e3 (e : E3) : TS.code 64 (e3 e) = cd e := by
  unfold e3 cd
  simp only [TS.code, List.length_cons, List.length_nil]
  omega
theorem eD_refs : ∀ {es : List E3} {vs : List V}, RpAll K G vs (es.map eD) → ∃ ps : List Addr, vs = ps.map V.ref ∧ ps.length = es.length ∧ ∀ (i : Nat) p e, ps[i]? = some p → es[i]? = some e → SqT K G p ((e3 e).map V.int)
  | [], _, h => by cases h; exact ⟨[], rfl, rfl, fun i p e h => by simp at h⟩
  | e :: es, _, h => by
    cases h with
    | cons h1 h2 =>
      obtain ⟨ps, rfl, hl, hp⟩ := eD_refs h2
      cases h1 with
      | @tup a xs _ hs hr =>
        cases rpa_ints (ns := e3 e) hr
        refine ⟨a :: ps, rfl, by rw [List.length_cons, List.length_cons, hl], fun i p e' h1 h2 => ?_⟩
        cases i with
        | zero => cases h1; cases h2; exact hs
        | succ i => exact hp i p e' h1 h2
/-- sorted(set(es)) -/
theorem eva_sortedSet3 {es : List E3} (h : Eva K te σ G H (.list (es.map eD))) (hz : es.length < 64) (hsm : ∀ e ∈ es, Sm e) :
    Eva K (tCB (rSortedT K P w) (tCons (tCB (rSetOfT K P w) (tCons te tNil)) tNil)) σ G H (.list ((ascBy cd es).map eD)) := fun G1 H1 a Q q => h G1 H1 a _ fun v G2 H2 a2 r => by
  cases r with
  | @lst l xs _ hs hr =>
    obtain ⟨ps, rfl, hl, hp⟩ := eD_refs hr
    have m1 : ((ps.zip es).map fun q => (q.1, e3 q.2)).map (fun q => V.ref q.1) = ps.map V.ref := by
      rw [List.map_map]
      show (ps.zip es).map (fun q => V.ref q.1) = _
      rw [show (fun q : Addr × E3 => V.ref q.1) = V.ref ∘ Prod.fst from rfl, ← List.map_map, List.map_fst_zip (by omega)]
    have mem : ∀ q ∈ ((ps.zip es).map fun q => (q.1, e3 q.2)), ∃ e ∈ es, q.2 = e3 e ∧ SqT K G2 q.1 ((e3 e).map V.int) := fun q hq => by
      obtain ⟨⟨p, e⟩, hz, rfl⟩ := List.mem_map.mp hq
      obtain ⟨i, hi, hie⟩ := List.getElem_of_mem hz
      rw [List.getElem_zip] at hie
      have h1 : ps[i]'(by rw [List.length_zip] at hi; omega) = p := congrArg Prod.fst hie
      have h2 : es[i]'(by rw [List.length_zip] at hi; omega) = e := congrArg Prod.snd hie
      exact ⟨e, (List.of_mem_zip hz).2, rfl, hp i p e (List.getElem?_eq_some_iff.mpr ⟨_, h1⟩) (List.getElem?_eq_some_iff.mpr ⟨_, h2⟩)⟩
    have back : ∀ e ∈ es, ∃ q ∈ ((ps.zip es).map fun q => (q.1, e3 q.2)), q.2 = e3 e := fun e he => by
      obtain ⟨i, hi, hie⟩ := List.getElem_of_mem he
      refine ⟨(ps[i]'(by omega), e3 e), List.mem_map.mpr ⟨(ps[i]'(by omega), e), ?_, rfl⟩, rfl⟩
      refine List.mem_iff_getElem.mpr ⟨i, by rw [List.length_zip]; omega, ?_⟩
      rw [List.getElem_zip, hie]
    refine ⟨l, (ps.zip es).map fun q => (q.1, e3 q.2), rfl, ?_, fun q hq => ?_, ?_, fun a' L ha' hL1 hL2 => ?_⟩
    · rw [m1]; exact SqL.of (a2.o _ _ hs)
    · obtain ⟨e, _, e1, e2⟩ := mem q hq
      rw [e1]; exact ex_t a2.o e2
    · rw [List.length_map, List.length_zip]; omega
    · have hne : ∀ b o, H2 b = some o → b ≠ a' := fun b o e => ne_of_none e ha'
      refine ⟨a', L, 3, 64, rfl, upd_same, fun q hq => ?_, by decide, fun q hq => ?_, fun L' p' pm nd hlt srt hp' => ?_⟩
      · obtain ⟨e, _, e1, e2⟩ := mem q (hL1 q hq)
        rw [e1]; exact ex_t (a2.o.trans (Ex.new ha')) e2
      · obtain ⟨e, he, e1, e2⟩ := mem q (hL1 q hq)
        rw [e1]
        refine ⟨rfl, fun m hm => ?_⟩
        have hb := hsm e he
        unfold e3 at hm
        simp only [List.mem_cons, List.not_mem_nil, or_false] at hm
        rcases hm with rfl | rfl | rfl
        · exact hb.1
        · exact hb.2.1
        · exact hb.2.2
      · -- what came is the ascending list
        have dec : ∀ q ∈ L', ∃ e ∈ es, q.2 = e3 e := fun q hq => by
          obtain ⟨e, he, e1, _⟩ := mem q (hL1 q (pm.mem_iff.mp hq))
          exact ⟨e, he, e1⟩
        obtain ⟨rs, hrs, hin⟩ : ∃ rs : List E3, L'.map (·.2) = rs.map e3 ∧ ∀ e ∈ rs, e ∈ es := by
          clear pm nd hlt srt hp'
          induction L' with
          | nil => exact ⟨[], rfl, fun e h => by cases h⟩
          | cons q L' ih =>
            obtain ⟨rs, h1, h2⟩ := ih fun q hq => dec q (List.mem_cons_of_mem _ hq)
            obtain ⟨e, he, e1⟩ := dec q List.mem_cons_self
            refine ⟨e :: rs, by rw [List.map_cons, List.map_cons, h1, e1], fun e' h => ?_⟩
            rcases List.mem_cons.mp h with z | z
            · rw [z]; exact he
            · exact h2 e' z
        have e3i : ∀ {a b : E3}, e3 a = e3 b → a = b := fun {a b} h => by
          unfold e3 at h
          injection h with h1 h; injection h with h2 h; injection h with h3 h
          exact Prod.ext h1 (Prod.ext h2 h3)
        have hasc : Asc cd rs := by
          have s1 : (rs.map e3).Pairwise (fun x y => TS.code 64 x ≤ TS.code 64 y) := by
            rw [← hrs, List.pairwise_map]; exact srt
          have n1 : (rs.map e3).Nodup := by rw [← hrs]; exact nd
          rw [List.pairwise_map] at s1
          have n2 : rs.Pairwise (fun a b => e3 a ≠ e3 b) := List.pairwise_map.mp n1
          refine List.Pairwise.imp_of_mem (fun {a b} ha hb h => ?_) (s1.and n2)
          obtain ⟨h1, h2⟩ := h
          rw [code_e3, code_e3] at h1
          have h3 : cd a ≠ cd b := fun z => h2 (by rw [cd_inj (hsm _ (hin a ha)) (hsm _ (hin b hb)) z])
          omega
        have hall : ∀ x, x ∈ rs ↔ x ∈ ascBy cd es := fun x => by
          rw [mem_ascBy_iff fun x hx y hy e => cd_inj (hsm x hx) (hsm y hy) e]
          refine ⟨hin x, fun hx => ?_⟩
          obtain ⟨q, hq, e1⟩ := back x hx
          have h1 := hL2 q hq
          rw [e1] at h1
          have h2 : e3 x ∈ L'.map (·.2) := (pm.map (·.2)).mem_iff.mpr h1
          rw [hrs] at h2
          obtain ⟨y, hy, e2⟩ := List.mem_map.mp h2
          rw [← e3i e2]; exact hy
        have e : rs = ascBy cd es := asc_unique hasc (ascBy_asc _) hall
        subst e
        have k2 : Ex G2 (upd H2 a' (SetTO P w a' L)) := a2.o.trans (Ex.new ha')
        refine q _ (upd G2 p' (.lst (L'.map fun q => V.ref q.1))) _ ((a2.trans (Adv.lay a2.o ha')).trans (Adv.new k2 hp')) (.lst upd_same ?_)
        have hR : ∀ (L' : List (Addr × List Int)) (rs : List E3), (∀ q ∈ L', SqT K G2 q.1 (q.2.map V.int)) → L'.map (·.2) = rs.map e3 → RpAll K G2 (L'.map fun q => V.ref q.1) (rs.map eD) := by
          intro L'
          induction L' with
          | nil => intro rs _ h; cases rs with
            | nil => exact .nil
            | cons _ _ => cases h
          | cons q L' ih => intro rs hm h; cases rs with
            | nil => cases h
            | cons e rs =>
              rw [List.map_cons, List.map_cons] at h
              injection h with h1 h2
              have := hm q List.mem_cons_self
              rw [h1] at this
              exact .cons (.tup this (ints_rpa (e3 e))) (ih rs (fun q hq => hm q (List.mem_cons_of_mem _ hq)) h2)
        refine (hR L' _ (fun q hq => ?_) hrs).ex (Ex.new (fresh_back k2 hp'))
        obtain ⟨e, _, e1, e2⟩ := mem q (hL1 q (pm.mem_iff.mp hq))
        rw [e1]; exact e2
end
end Vf

set_option Elab.async false
set_option linter.all false
set_option maxRecDepth 100000
set_option maxHeartbeats 2000000
namespace Vf
open PySem PySem.Spec PyProof.Rows L2
open Evl hiding Ex Ex.refl Ex.trans Ex.new Ex.mut ex_rd ex_l ex_t fresh_back

/-! ### isinstance -/
def kd : PyData → String
  | .none => "NoneType"
  | .bool _ => "bool"
  | .int _ => "int"
  | .str _ => "str"
  | .list _ => "list"
  | .tuple _ => "tuple"
  | .dict _ => "dict"
def isK (a b : String) : Bool := a == b || (a == "bool" && b == "int")
theorem kit_all : ∀ a ∈ ["NoneType", "bool", "int", "str", "list", "tuple", "dict"], ∀ b ∈ ["bool", "int", "str", "list", "tuple", "dict"], kitB a b = some (isK a b) := by decide +kernel
section
variable {K : PySem.W.Frag} {σ : L2.St} {G H : Hp} {ta tb tc : TE} {d : PyData}
theorem rp_ty {v : V} : Rp K H v d → TyX K H v (.type (kd d)) := fun r => by
  cases r with
  | non => exact .base .non
  | bl b => exact .base (.bl b)
  | int b => exact .base (.int b)
  | str b => exact .base (.str b)
  | lst h _ => exact .base (.lst h)
  | tup h _ =>
    rcases h with (h | ⟨o, h⟩) | ⟨o, its, n, h, c, _⟩
    · exact .base (.tup h)
    · exact .fTuple h
    · exact .kTuple h c
theorem kd_mem (d : PyData) : kd d ∈ ["NoneType", "bool", "int", "str", "list", "tuple", "dict"] := by cases d <;> simp [kd]
theorem eva_isi {T : String} (ha : Eva K ta σ G H d) (hT : T ∈ ["bool", "int", "str", "list", "tuple", "dict"] := by decide) : Eva K (tCB (rIsi K) (tCons ta (tCons (tC (.ty T)) tNil))) σ G H (.bool (isK (kd d) T)) := fun G1 H1 a Q q =>
  ha G1 H1 a _ fun v G2 H2 a2 r => ⟨v, .ty T, _, _, _, rfl, .ty T, rp_ty (r.ex a2.o), kit_ty (kit_all _ (kd_mem d) T hT), q _ G2 H2 a2 (.bl _)⟩
theorem eva_isi2 {T U : String} (ha : Eva K ta σ G H d) (hT : T ∈ ["bool", "int", "str", "list", "tuple", "dict"] := by decide) (hU : U ∈ ["bool", "int", "str", "list", "tuple", "dict"] := by decide) :
    Eva K (tCB (rIsiT K) (tCons ta (tCons (tTup (tCons (tC (.ty T)) (tCons (tC (.ty U)) tNil))) tNil))) σ G H (.bool (isK (kd d) T || isK (kd d) U)) := fun G1 H1 a Q q =>
  ha G1 H1 a _ fun v G2 H2 a2 r => ⟨by show 2 ≤ sizeLine; decide, fun p hp => ⟨v, p, [.ty T, .ty U], _, _, _, rfl, upd_same, .cons (.ty T) (.cons (.ty U) .nil), rp_ty (r.ex (a2.o.trans (Ex.new hp))),
    kitAny_cons (kit_ty (kit_all _ (kd_mem d) T hT)) (fun e => kitAny_cons (r := isK (kd d) T || isK (kd d) U) (kit_ty (kit_all _ (kd_mem d) U hU)) (fun e2 => by rw [e, e2]; exact kitAny_nil) fun e2 => by rw [e2, Bool.or_true]) fun e => by rw [e]; rfl,
    q _ G2 _ (a2.trans (Adv.lay a2.o hp)) (.bl _)⟩⟩
end
end Vf

set_option Elab.async false
set_option linter.all false
set_option maxRecDepth 100000
set_option maxHeartbeats 2000000
namespace Vf
open PySem PySem.Spec PyProof.Rows L2
open Evl hiding Ex Ex.refl Ex.trans Ex.new Ex.mut ex_rd ex_l ex_t fresh_back
/-! ### the same ahead of more -/
section
variable {K : PySem.W.Frag} {σ : L2.St} {G H : Hp} {te ta tb tl : TE} {t c : TT} {d d1 d2 d3 : PyData} {D : Ends} {tz tu tw : TS} {g : TG} {wi : TI} {i j l : Nat} {p : Addr} {vs : List V}
theorem qt_asg (k : Ex G H) (h : Eva K te σ G H d) (c : ∀ v G1 H1, Adv G H G1 H1 → Rp K G1 v d → tz D (σ.set i (some v)) H1) : tSeq (tAsg te (gName i)) tz D σ H := st_asg (D := { D with nx := tz D }) k h c
theorem qt_asgN {P : Hp → HO → Prop} (k : Ex G H) (h : EvaN te σ G H P) (c : ∀ p o G1 H1, H p = none → Adv G H G1 H1 → Own G1 H1 p o → P G1 o → tz D (σ.set i (some (.ref p))) H1) : tSeq (tAsg te (gName i)) tz D σ H :=
  st_asgN (D := { D with nx := tz D }) k h c
theorem qt_asg2 (k : Ex G H) (h : Eva K te σ G H (.tuple [d1, d2])) (c : ∀ v1 v2 G1 H1, Adv G H G1 H1 → Rp K G1 v1 d1 → Rp K G1 v2 d2 → tz D ((σ.set i (some v1)).set j (some v2)) H1) :
    tSeq (tAsg te (gTup K 2 (gCons (gName i) (gCons (gName j) gNil)))) tz D σ H := st_asg2 (D := { D with nx := tz D }) k h c
theorem qt_asg3 (k : Ex G H) (h : Eva K te σ G H (.tuple [d1, d2, d3])) (c : ∀ v1 v2 v3 G1 H1, Adv G H G1 H1 → Rp K G1 v1 d1 → Rp K G1 v2 d2 → Rp K G1 v3 d3 → tz D (((σ.set i (some v1)).set j (some v2)).set l (some v3)) H1) :
    tSeq (tAsg te (gTup K 3 (gCons (gName i) (gCons (gName j) (gCons (gName l) gNil))))) tz D σ H := st_asg3 (D := { D with nx := tz D }) k h c
theorem qt_drop (k : Ex G H) (h : Eva K te σ G H d) (c : ∀ G1 H1, Adv G H G1 H1 → tz D σ H1) : tSeq (tDrop te) tz D σ H := st_drop (D := { D with nx := tz D }) k h c
theorem qt_if {b : Bool} (k : Ex G H) (h : EvaT t σ G H b) (h1 : b = true → ∀ G1 H1, Adv G H G1 H1 → tu { D with nx := tz D } σ H1) (h2 : b = false → ∀ G1 H1, Adv G H G1 H1 → tw { D with nx := tz D } σ H1) : tSeq (tIfS t tu tw) tz D σ H :=
  st_if (D := { D with nx := tz D }) k h h1 h2
/-- if without else, its body a return | not at all -/
theorem qt_when {b : Bool} (k : Ex G H) (h : EvaT t σ G H b) (h1 : b = true → ∀ G1 H1, Adv G H G1 H1 → tu { D with nx := tz D } σ H1) (h2 : b = false → ∀ G1 H1, Adv G H G1 H1 → tz D σ H1) : tSeq (tIfS t tu tNext) tz D σ H :=
  st_if (D := { D with nx := tz D }) k h h1 h2
theorem st_when {b : Bool} (k : Ex G H) (h : EvaT t σ G H b) (h1 : b = true → ∀ G1 H1, Adv G H G1 H1 → tu D σ H1) (h2 : b = false → ∀ G1 H1, Adv G H G1 H1 → D.nx σ H1) : tIfS t tu tNext D σ H := st_if k h h1 h2
theorem qt_unless {b : Bool} (k : Ex G H) (h : EvaT t σ G H b) (hb : b = false) (c : ∀ G1 H1, Adv G H G1 H1 → tz D σ H1) : tSeq (tIfS t tu tNext) tz D σ H := st_unless (D := { D with nx := tz D }) k h hb c
theorem qt_app (k : Ex G H) (ha : EvaV ta σ G H (.ref p)) (w : Own G H p (.lst vs)) (h : Eva K te σ G H d) (hz : vs.length < 100000)
    (c : ∀ v G1 H1, Adv G H G1 H1 → Rp K G1 v d → Ex G1 (upd H1 p (.lst (vs ++ [v]))) → tz D σ (upd H1 p (.lst (vs ++ [v])))) : tSeq (tDrop (tBM K "list" rAppend ta (tCons te tNil))) tz D σ H := st_app (D := { D with nx := tz D }) k ha w h hz c
theorem qt_setO {j : Nat} (k : Ex G H) (h : Eva K te σ G H d) (ha : EvaV ta σ G H (.ref p)) (hi : Eva K tb σ G H (.int j)) (w : Own G H p (.lst vs)) (hj : j < vs.length)
    (c : ∀ v G1 H1, Adv G H G1 H1 → Rp K G1 v d → Ex G1 (upd H1 p (.lst (vs.set j v))) → tz D σ (upd H1 p (.lst (vs.set j v)))) : tSeq (tAsg te (gSub ta tb rSetL)) tz D σ H := st_setO (D := { D with nx := tz D }) k h ha hi w hj c
theorem qt_for {α : Type} (xs : List α) (enc : α → PyData) (Pv : Hp → Nat → L2.St → Hp → Hp → Prop) (k : Ex G H) (S : Src K wi σ G H (xs.map enc)) (h0 : ∀ G1 H1, Adv G H G1 H1 → Pv G1 0 σ G1 H1)
    (hx : ∀ B i σ' G' H', Pv B i σ' G' H' → Ex B G' ∧ Ex G' H')
    (hs : ∀ B (i : Nat) x v σ' G' H' G'' H'', xs[i]? = some x → Pv B i σ' G' H' → Adv G' H' G'' H'' → Rp K G'' v (enc x) → Bd g σ' v H'' fun σ2 => tu { D with nx := fun σ H => ∃ G, Pv B (i + 1) σ G H, ct := fun σ H => ∃ G, Pv B (i + 1) σ G H, bk := tz D } σ2 H'')
    (hd : ∀ B σ' G' H', Pv B xs.length σ' G' H' → tz D σ' H') : tSeq (tFor wi g tu) tz D σ H := st_for (D := { D with nx := tz D }) xs enc Pv k S h0 hx hs hd
theorem qt_while (W : Nat → L2.St → Hp → Hp → Prop) (m0 : Nat) (h0 : W m0 σ G H)
    (hs : ∀ m σ' G' H', W m σ' G' H' → Ex G' H' ∧ ∃ b, EvaT c σ' G' H' b ∧
      (b = true → ∀ G1 H1, Adv G' H' G1 H1 → tu { D with nx := fun σ H => ∃ m' G, m' < m ∧ W m' σ G H, ct := fun σ H => ∃ m' G, m' < m ∧ W m' σ G H, bk := tz D } σ' H1) ∧ (b = false → ∀ G1 H1, Adv G' H' G1 H1 → tz D σ' H1)) : tSeq (tWhile c tu) tz D σ H :=
  st_while (D := { D with nx := tz D }) W m0 h0 hs
end
theorem eva_un {K : PySem.W.Frag} {σ : L2.St} {G H : Hp} {ta : TE} {f : Int → Int} {i : Int} (h : Eva K ta σ G H (.int i)) : Eva K (tUn (rU fun i => .int (f i)) ta) σ G H (.int (f i)) := fun G1 H1 a Q q => h G1 H1 a _ fun v G2 H2 a2 r => by
  cases rp_int r
  exact ⟨i, rfl, q _ G2 H2 a2 (.int _)⟩
section
variable {X : Cx} {K : PySem.W.Frag}
theorem ix_seqK (K : PySem.W.Frag) (h : X.K = K) : IxR X (rIx K) := h ▸ ix_seq
theorem op_eqK (K : PySem.W.Frag) (h : X.K = K) (hu : X.A.units + 64 < cLine) : OpR X (compareOp .Eq) (rEqD K) := h ▸ op_eqD hu
theorem op_neK (K : PySem.W.Frag) (h : X.K = K) (hu : X.A.units + 64 < cLine) : OpR X (compareOp .NotEq) (rNeD K) := h ▸ op_neD hu
theorem op_inK (K : PySem.W.Frag) (h : X.K = K) : OpR X (compareOp .In) (rIn K false) := h ▸ op_in_seq
theorem op_notInK (K : PySem.W.Frag) (h : X.K = K) : OpR X (compareOp .NotIn) (rIn K true) := h ▸ op_notIn_seq
theorem sl_listK (K : PySem.W.Frag) (h : X.K = K) : SlR X (rSlL K) := h ▸ sl_list
theorem call_lenK (K : PySem.W.Frag) (h : X.K = K) : CallR X (.builtin "len") (fun xs H Q => ∃ p ys, xs = [.ref p] ∧ (SqL K H p ys ∨ SqT K H p ys) ∧ Q (.int ys.length) H) := h ▸ call_len_seq
end
theorem rpa1 {K : PySem.W.Frag} {G : Hp} {vs : List V} {d1 : PyData} (h : RpAll K G vs [d1]) : ∃ v1, vs = [v1] ∧ Rp K G v1 d1 := by
  cases h with | cons h1 h => cases h; exact ⟨_, rfl, h1⟩
theorem rpa2 {K : PySem.W.Frag} {G : Hp} {vs : List V} {d1 d2 : PyData} (h : RpAll K G vs [d1, d2]) : ∃ v1 v2, vs = [v1, v2] ∧ Rp K G v1 d1 ∧ Rp K G v2 d2 := by
  cases h with | cons h1 h => cases h with | cons h2 h => cases h; exact ⟨_, _, rfl, h1, h2⟩
theorem rpa3 {K : PySem.W.Frag} {G : Hp} {vs : List V} {d1 d2 d3 : PyData} (h : RpAll K G vs [d1, d2, d3]) : ∃ v1 v2 v3, vs = [v1, v2, v3] ∧ Rp K G v1 d1 ∧ Rp K G v2 d2 ∧ Rp K G v3 d3 := by
  cases h with | cons h1 h => cases h with | cons h2 h => cases h with | cons h3 h => cases h; exact ⟨_, _, _, rfl, h1, h2, h3⟩
end Vf
namespace Vf
open PySem PySem.Spec PyProof.Rows L2
open Evl hiding Ex Ex.refl Ex.trans Ex.new Ex.mut ex_rd ex_l ex_t fresh_back
/-! ### loops over ranges; levels -/
theorem rng_map (lo : Int) (n : Nat) : rngD lo n = (List.range n).map fun i => .int (lo + (i : Nat)) := rfl
theorem range_get {n i j : Nat} (h : (List.range n)[i]? = some j) : j = i ∧ i < n := by
  have hi := (List.getElem?_eq_some_iff.mp h).1
  rw [List.length_range] at hi
  rw [List.getElem?_range hi] at h
  exact ⟨(Option.some.inj h).symm, hi⟩
theorem fn_false {P : Program} {w : World} {K : PySem.W.Frag} {mg : Str → Option Value} {base : Heap} {CX : CXT} {k : Nat} {f : Addr} {fd : FuncData} {ps : List Str} {sp : Sp} (h : ∀ vs H Q E, ¬ sp vs H Q E) : FnOk P w K mg base CX k f fd ps sp :=
  ⟨fun vs H Q E z => (h _ _ _ _ z).elim, fun _ _ _ _ _ _ _ _ _ _ _ _ _ z => (h _ _ _ _ z).elim⟩
end Vf

set_option Elab.async false
set_option linter.all false
set_option maxRecDepth 100000
set_option maxHeartbeats 4000000
namespace K03
open PySem PySem.Spec PyProof.Rows L2 Vf
open Evl hiding Ex Ex.refl Ex.trans Ex.new Ex.mut ex_rd ex_l ex_t fresh_back
def topS (i : Nat) : Stmt := PySem.Challenge.pw_shiftcore_k03_whole_parts.main.body.getD i (.Pass ⟨0, 0, 0, 0⟩)
abbrev s__law_taken : Stmt := topS 22
abbrev N__law_taken : List PySem.Str := ["row", "many", "found", "cell"]
theorem sc__law_taken : FnScope N__law_taken ["row", "many"] (defScope s__law_taken) := ⟨rfl, rfl, rfl, by decide +kernel, rfl, by decide +kernel, by decide +kernel⟩
abbrev s__law_web : Stmt := topS 25
abbrev N__law_web : List PySem.Str := ["row", "most", "labels", "states", "way", "found", "k"]
theorem sc__law_web : FnScope N__law_web ["row", "most", "labels"] (defScope s__law_web) := ⟨rfl, rfl, rfl, by decide +kernel, rfl, by decide +kernel, by decide +kernel⟩
abbrev s__law_core : Stmt := topS 26
abbrev N__law_core : List PySem.Str := ["web", "kept", "turn", "bad", "k", "outs", "ins", "edges", "edge"]
theorem sc__law_core : FnScope N__law_core ["web"] (defScope s__law_core) := ⟨rfl, rfl, rfl, by decide +kernel, rfl, by decide +kernel, by decide +kernel⟩
abbrev s__law_alike : Stmt := topS 24
abbrev N__law_alike : List PySem.Str := ["found", "due", "k"]
theorem sc__law_alike : FnScope N__law_alike ["found", "due"] (defScope s__law_alike) := ⟨rfl, rfl, rfl, by decide +kernel, rfl, by decide +kernel, by decide +kernel⟩
abbrev s_is_between : Stmt := topS 7
abbrev N_is_between : List PySem.Str := ["value", "low", "high"]
theorem sc_is_between : FnScope N_is_between ["value", "low", "high"] (defScope s_is_between) := ⟨rfl, rfl, rfl, by decide +kernel, rfl, by decide +kernel, by decide +kernel⟩
abbrev s__is_edge : Stmt := topS 9
abbrev N__is_edge : List PySem.Str := ["value", "many", "start", "end", "label"]
theorem sc__is_edge : FnScope N__is_edge ["value", "many"] (defScope s__is_edge) := ⟨rfl, rfl, rfl, by decide +kernel, rfl, by decide +kernel, by decide +kernel⟩
abbrev s_check_web : Stmt := topS 8
abbrev N_check_web : List PySem.Str := ["web", "many", "edges", "at", "edge"]
theorem sc_check_web : FnScope N_check_web ["web"] (defScope s_check_web) := ⟨rfl, rfl, rfl, by decide +kernel, rfl, by decide +kernel, by decide +kernel⟩
abbrev s_reached : Stmt := topS 11
abbrev N_reached : List PySem.Str := ["many", "arrows", "bits", "start", "end", "middle"]
theorem sc_reached : FnScope N_reached ["many", "arrows"] (defScope s_reached) := ⟨rfl, rfl, rfl, by decide +kernel, rfl, by decide +kernel, by decide +kernel⟩
abbrev s_closed_parts : Stmt := topS 12
abbrev N_closed_parts : List PySem.Str := ["many", "arrows", "bits", "found", "state", "part", "k"]
theorem sc_closed_parts : FnScope N_closed_parts ["many", "arrows"] (defScope s_closed_parts) := ⟨rfl, rfl, rfl, by decide +kernel, rfl, by decide +kernel, by decide +kernel⟩
abbrev s__arrows : Stmt := topS 20
abbrev N__arrows : List PySem.Str := ["web", "start", "end", "_"]
theorem sc__arrows : FnScope N__arrows ["web"] (defScope s__arrows) := ⟨rfl, rfl, rfl, by decide +kernel, rfl, by decide +kernel, by decide +kernel⟩
abbrev s_parts : Stmt := topS 18
abbrev N_parts : List PySem.Str := ["web"]
theorem sc_parts : FnScope N_parts ["web"] (defScope s_parts) := ⟨rfl, rfl, rfl, by decide +kernel, rfl, by decide +kernel, by decide +kernel⟩
abbrev s__law_parts : Stmt := topS 30
abbrev N__law_parts : List PySem.Str := ["web", "rows", "k", "here", "seen", "turn", "found", "edge", "j"]
theorem sc__law_parts : FnScope N__law_parts ["web"] (defScope s__law_parts) := ⟨rfl, rfl, rfl, by decide +kernel, rfl, by decide +kernel, by decide +kernel⟩
abbrev s_trimmed : Stmt := topS 16
abbrev N_trimmed : List PySem.Str := ["edges", "kept", "before", "starts", "ends", "states", "number", "edge", "at", "state", "start", "end", "label"]
theorem sc_trimmed : FnScope N_trimmed ["edges"] (defScope s_trimmed) := ⟨rfl, rfl, rfl, by decide +kernel, rfl, by decide +kernel, by decide +kernel⟩
abbrev s_essential : Stmt := topS 15
abbrev N_essential : List PySem.Str := ["web"]
theorem sc_essential : FnScope N_essential ["web"] (defScope s_essential) := ⟨rfl, rfl, rfl, by decide +kernel, rfl, by decide +kernel, by decide +kernel⟩
abbrev s_is_one_part : Stmt := topS 13
abbrev N_is_one_part : List PySem.Str := ["many", "arrows"]
theorem sc_is_one_part : FnScope N_is_one_part ["many", "arrows"] (defScope s_is_one_part) := ⟨rfl, rfl, rfl, by decide +kernel, rfl, by decide +kernel, by decide +kernel⟩
abbrev s_is_whole : Stmt := topS 19
abbrev N_is_whole : List PySem.Str := ["web", "core"]
theorem sc_is_whole : FnScope N_is_whole ["web"] (defScope s_is_whole) := ⟨rfl, rfl, rfl, by decide +kernel, rfl, by decide +kernel, by decide +kernel⟩
abbrev s_law : Stmt := topS 31
abbrev N_law : List PySem.Str := ["script", "row", "turn", "web", "core", "due", "k"]
theorem sc_law : FnScope N_law ["script"] (defScope s_law) := ⟨rfl, rfl, rfl, by decide +kernel, rfl, by decide +kernel, by decide +kernel⟩
/-- what the top leaves -/
structure Tops (K : PySem.W.Frag) (mg : PySem.Str → Option Value) (base : Heap) where
  a__law_taken : Addr
  d__law_taken : FuncData
  F__law_taken : Fun K "_law_taken" "_law_taken" s__law_taken a__law_taken d__law_taken
  g__law_taken : mg "_law_taken" = some (.ref a__law_taken)
  b__law_taken : Binds K d__law_taken ["row", "many"] []
  a__law_web : Addr
  d__law_web : FuncData
  F__law_web : Fun K "_law_web" "_law_web" s__law_web a__law_web d__law_web
  g__law_web : mg "_law_web" = some (.ref a__law_web)
  b__law_web : Binds K d__law_web ["row", "most", "labels"] []
  a__law_core : Addr
  d__law_core : FuncData
  F__law_core : Fun K "_law_core" "_law_core" s__law_core a__law_core d__law_core
  g__law_core : mg "_law_core" = some (.ref a__law_core)
  b__law_core : Binds K d__law_core ["web"] []
  a__law_alike : Addr
  d__law_alike : FuncData
  F__law_alike : Fun K "_law_alike" "_law_alike" s__law_alike a__law_alike d__law_alike
  g__law_alike : mg "_law_alike" = some (.ref a__law_alike)
  b__law_alike : Binds K d__law_alike ["found", "due"] []
  a_is_between : Addr
  d_is_between : FuncData
  F_is_between : Fun K "is_between" "is_between" s_is_between a_is_between d_is_between
  g_is_between : mg "is_between" = some (.ref a_is_between)
  b_is_between : Binds K d_is_between ["value", "low", "high"] []
  a__is_edge : Addr
  d__is_edge : FuncData
  F__is_edge : Fun K "_is_edge" "_is_edge" s__is_edge a__is_edge d__is_edge
  g__is_edge : mg "_is_edge" = some (.ref a__is_edge)
  b__is_edge : Binds K d__is_edge ["value", "many"] []
  a_check_web : Addr
  d_check_web : FuncData
  F_check_web : Fun K "check_web" "check_web" s_check_web a_check_web d_check_web
  g_check_web : mg "check_web" = some (.ref a_check_web)
  b_check_web : Binds K d_check_web ["web"] []
  a_reached : Addr
  d_reached : FuncData
  F_reached : Fun K "reached" "reached" s_reached a_reached d_reached
  g_reached : mg "reached" = some (.ref a_reached)
  b_reached : Binds K d_reached ["many", "arrows"] []
  a_closed_parts : Addr
  d_closed_parts : FuncData
  F_closed_parts : Fun K "closed_parts" "closed_parts" s_closed_parts a_closed_parts d_closed_parts
  g_closed_parts : mg "closed_parts" = some (.ref a_closed_parts)
  b_closed_parts : Binds K d_closed_parts ["many", "arrows"] []
  a__arrows : Addr
  d__arrows : FuncData
  F__arrows : Fun K "_arrows" "_arrows" s__arrows a__arrows d__arrows
  g__arrows : mg "_arrows" = some (.ref a__arrows)
  b__arrows : Binds K d__arrows ["web"] []
  a_parts : Addr
  d_parts : FuncData
  F_parts : Fun K "parts" "parts" s_parts a_parts d_parts
  g_parts : mg "parts" = some (.ref a_parts)
  b_parts : Binds K d_parts ["web"] []
  a__law_parts : Addr
  d__law_parts : FuncData
  F__law_parts : Fun K "_law_parts" "_law_parts" s__law_parts a__law_parts d__law_parts
  g__law_parts : mg "_law_parts" = some (.ref a__law_parts)
  b__law_parts : Binds K d__law_parts ["web"] []
  a_trimmed : Addr
  d_trimmed : FuncData
  F_trimmed : Fun K "trimmed" "trimmed" s_trimmed a_trimmed d_trimmed
  g_trimmed : mg "trimmed" = some (.ref a_trimmed)
  b_trimmed : Binds K d_trimmed ["edges"] []
  a_essential : Addr
  d_essential : FuncData
  F_essential : Fun K "essential" "essential" s_essential a_essential d_essential
  g_essential : mg "essential" = some (.ref a_essential)
  b_essential : Binds K d_essential ["web"] []
  a_is_one_part : Addr
  d_is_one_part : FuncData
  F_is_one_part : Fun K "is_one_part" "is_one_part" s_is_one_part a_is_one_part d_is_one_part
  g_is_one_part : mg "is_one_part" = some (.ref a_is_one_part)
  b_is_one_part : Binds K d_is_one_part ["many", "arrows"] []
  a_is_whole : Addr
  d_is_whole : FuncData
  F_is_whole : Fun K "is_whole" "is_whole" s_is_whole a_is_whole d_is_whole
  g_is_whole : mg "is_whole" = some (.ref a_is_whole)
  b_is_whole : Binds K d_is_whole ["web"] []
  a_law : Addr
  d_law : FuncData
  F_law : Fun K "law" "law" s_law a_law d_law
  g_law : mg "law" = some (.ref a_law)
  b_law : Binds K d_law ["script"] []
  z_bool : mg "bool" = none
  z_enumerate : mg "enumerate" = none
  z_int : mg "int" = none
  z_isinstance : mg "isinstance" = none
  z_len : mg "len" = none
  z_list : mg "list" = none
  z_range : mg "range" = none
  z_set : mg "set" = none
  z_sorted : mg "sorted" = none
  z_str : mg "str" = none
  z_tuple : mg "tuple" = none
  t_MOST_STATES : Tok
  c_MOST_STATES : mg "MOST_STATES" = some (.int 32 t_MOST_STATES)
  t_MOST_EDGES : Tok
  c_MOST_EDGES : mg "MOST_EDGES" = some (.int 100 t_MOST_EDGES)
  t_MOST_LABEL : Tok
  c_MOST_LABEL : mg "MOST_LABEL" = some (.int 3 t_MOST_LABEL)
section
variable {P : Program} {w : World} {K : PySem.W.Frag} {mg : PySem.Str → Option Value} {base : Heap} (T : Tops K mg base)
/-! ### is_between -/
def isB (d : PyData) (lo hi : Int) : Bool := match d with
  | .int i => decide (lo ≤ i) && decide (i ≤ hi)
  | _ => false
def R_is_between (ds : List PyData) (d : PyData) : Prop := ∃ x lo hi, ds = [x, .int lo, .int hi] ∧ d = .bool (isB x lo hi)
theorem ok_is_between : FnOk P w K mg base CX0 1 T.a_is_between T.d_is_between ["value", "low", "high"] (PureSp K R_is_between) := by
  refine T.F_is_between.ok sc_is_between (fun vs H Q E h => ?_) (fun cdv A outer s H vs Q E hr h => ?_)
  · obtain ⟨G, ds, d, k, r, ⟨x, lo, hi, rfl, rfl⟩, q⟩ := h
    exact rpa_len r
  · obtain ⟨G, ds, d, k, r, ⟨x, lo, hi, rfl, rfl⟩, q⟩ := h
    obtain ⟨v1, v2, v3, rfl, r1, r2, r3⟩ := rpa3 r
    refine ⟨_, (pss_one (ps_ret (pe_and (pe_callB call_isi (by rfl) T.z_isinstance (by decide +kernel) (pa_cons (pv 0) (pa_cons (pe_bltn (v := .ty "int") (u := .type "int") (by rfl) T.z_int (by decide +kernel) rfl) pa_nil))) (pe_and (pe_not (pe_callB call_isi (by rfl) T.z_isinstance (by decide +kernel) (pa_cons (pv 0) (pa_cons (pe_bltn (v := .ty "bool") (u := .type "bool") (by rfl) T.z_bool (by decide +kernel) rfl) pa_nil)))) (pe_one (pe_chain op_le op_le (pv 1) (pv 0) (pv 2))))))), ?_⟩
    refine st_ret k ?_ q
    have e1 := eva_isi (σ := start N_is_between [v1, v2, v3]) (H := H) (ta := tVar 0) (T := "int") (eva_var rfl r1)
    cases x with
    | int i => exact eva_is (eva_and e1 fun _ => eva_and (eva_not (eva_isi (eva_var rfl r1))) fun _ => eva_chain (eva_var rfl r2) (eva_var rfl r1) (eva_var rfl r3)) rfl
    | bool b => exact eva_is (eva_and e1 fun _ => eva_and (c := false) (eva_not (eva_isi (eva_var rfl r1))) fun z => by cases z) rfl
    | _ => exact eva_is (eva_and (c := false) e1 fun z => by cases z) rfl
/-! ### _is_edge -/
def isEdge (d : PyData) (many : Int) : Bool := match d with
  | .tuple [a, b, c] => isB a 0 (many - 1) && (isB b 0 (many - 1) && isB c 0 3)
  | _ => false
def R__is_edge (ds : List PyData) (d : PyData) : Prop := ∃ (e : E3) (many : Int), ds = [eD e, .int many] ∧ d = .bool (isEdge (eD e) many)
theorem ok__is_edge : FnOk P w K mg base CX0 2 T.a__is_edge T.d__is_edge ["value", "many"] (PureSp K R__is_edge) := by
  refine T.F__is_edge.ok sc__is_edge (fun vs H Q E h => ?_) (fun cdv A outer s H vs Q E hr h => ?_)
  · obtain ⟨G, ds, d, k, r, ⟨e, many, rfl, rfl⟩, q⟩ := h
    exact rpa_len r
  · obtain ⟨G, ds, d, k, r, ⟨e, many, rfl, rfl⟩, q⟩ := h
    obtain ⟨v1, v2, rfl, r1, r2⟩ := rpa2 r
    refine ⟨_, (pss_cons (ps_if (PW.pt (pw_or (pt_not (pt_val (pe_callB call_isi (by rfl) T.z_isinstance (by decide +kernel) (pa_cons (pv 0) (pa_cons (pe_bltn (v := .ty "tuple") (u := .type "tuple") (by rfl) T.z_tuple (by decide +kernel) rfl) pa_nil))))) (pw_or1 (pt_cmpR (op_neK K rfl hr.units) (pe_callB (call_lenK K rfl) (by rfl) T.z_len (by decide +kernel) (pa_cons (pv 0) pa_nil)) pe_int (nomark _))))) (pss_one (ps_ret pe_bl)) pss_nil)
      (pss_cons (ps_asg (pv 0) (pg_tup (by rfl) (pgs_cons (pg_name (i := 2) sc__is_edge.nd rfl (Or.inl rfl)) (pgs_cons (pg_name (i := 3) sc__is_edge.nd rfl (Or.inl rfl)) (pgs_cons (pg_name (i := 4) sc__is_edge.nd rfl (Or.inl rfl)) pgs_nil)))))
      (pss_one (ps_ret (pe_and (pe_call (ok_is_between T) hr (by rfl) T.g_is_between T.F_is_between.kp T.b_is_between .nil pass0 (pa_cons (pv 2) (pa_cons pe_int (pa_cons (pe_op op_sub (pv 1) pe_int) pa_nil)))) (pe_and (pe_call (ok_is_between T) hr (by rfl) T.g_is_between T.F_is_between.kp T.b_is_between .nil pass0 (pa_cons (pv 3) (pa_cons pe_int (pa_cons (pe_op op_sub (pv 1) pe_int) pa_nil)))) (pe_one (pe_call (ok_is_between T) hr (by rfl) T.g_is_between T.F_is_between.kp T.b_is_between .nil pass0 (pa_cons (pv 4) (pa_cons pe_int (pa_cons (pe_glob (v := .int 3) rfl T.c_MOST_LABEL ⟨_, rfl⟩) pa_nil))))))))))), ?_⟩
    refine qt_unless k (evt_or (evt_not (evt_B (eva_isi (eva_var rfl r1)))) fun _ => evt_test (eva_neI (eva_len (eva_var rfl r1) (.inr rfl)) eva_int)) rfl fun G1 H1 a1 => ?_
    refine qt_asg3 a1.o (eva_var rfl (r1.ex a1.g)) fun w1 w2 w3 G2 H2 a2 s1 s2 s3 => ?_
    have m := r2.ex (a1.trans a2).g
    refine st_ret a2.o ?_ fun v G3 H3 a3 rv => q v G3 H3 ((a1.trans a2).trans a3) rv
    refine eva_is (eva_and (b := isB (.int e.1) 0 (many - 1)) ?_ fun _ => eva_and (b := isB (.int e.2.1) 0 (many - 1)) (c := isB (.int e.2.2) 0 3) ?_ fun _ => ?_) rfl
    · exact eva_call (evaA_cons (eva_var rfl s1) (evaA_cons eva_int (evaA_cons (eva_op (eva_var rfl m) eva_int) evaA_nil))) ⟨_, _, _, rfl, rfl⟩
    · exact eva_call (evaA_cons (eva_var rfl s2) (evaA_cons eva_int (evaA_cons (eva_op (eva_var rfl m) eva_int) evaA_nil))) ⟨_, _, _, rfl, rfl⟩
    · exact eva_call (evaA_cons (eva_var rfl s3) (evaA_cons eva_int (evaA_cons eva_int evaA_nil))) ⟨_, _, _, rfl, rfl⟩
end
end K03

set_option Elab.async false
set_option linter.all false
set_option maxRecDepth 100000
set_option maxHeartbeats 4000000
namespace K03
open PySem PySem.Spec PyProof.Rows L2 Vf
open Evl hiding Ex Ex.refl Ex.trans Ex.new Ex.mut ex_rd ex_l ex_t fresh_back
section
variable {P : Program} {w : World} {K : PySem.W.Frag} {mg : PySem.Str → Option Value} {base : Heap} (T : Tops K mg base)
theorem eva_le3 {σ : L2.St} {G H : Hp} {ta tb : TE} {a b : E3} (ha : Eva K ta σ G H (eD a)) (hb : Eva K tb σ G H (eD b)) (sa : Sm a) (sb : Sm b) : Eva K (tOp (rLeT K) ta tb) σ G H (.bool (decide (cd a ≤ cd b))) := fun G1 H1 a1 Q q =>
  ha G1 H1 a1 _ fun v G2 H2 a2 r => hb G2 H2 (a1.trans a2) _ fun v' G3 H3 a3 r' => by
    cases r with
    | @tup p xs _ hs hr =>
      cases r' with
      | @tup p' xs' _ hs' hr' =>
        cases rpa_ints (ns := e3 a) hr
        cases rpa_ints (ns := e3 b) hr'
        refine ⟨p, p', e3 a, e3 b, rfl, rfl, ex_t (a3.g.trans a3.o) hs, ex_t a3.o hs', ?_⟩
        have e : (Ob.lexAt (fun j => decide ((e3 a).getD j 0 = (e3 b).getD j 0)) (fun j => decide ((e3 a).getD j 0 ≤ (e3 b).getD j 0)) (decide ((e3 a).length ≤ (e3 b).length)) 0 (min (e3 a).length (e3 b).length)) = decide (cd a ≤ cd b) := by
          obtain ⟨a1, a2, a3⟩ := a
          obtain ⟨b1, b2, b3⟩ := b
          obtain ⟨⟨h1, h2⟩, ⟨h3, h4⟩, h5, h6⟩ := sa
          obtain ⟨⟨g1, g2⟩, ⟨g3, g4⟩, g5, g6⟩ := sb
          dsimp only at *
          unfold e3 cd
          simp only [List.length_cons, List.length_nil, Nat.min_self, Nat.zero_add, Nat.reduceAdd, Ob.lexAt, List.getD_cons_zero, List.getD_cons_succ, Nat.le_refl, decide_true]
          by_cases c1 : a1 = b1
          · subst c1
            by_cases c2 : a2 = b2
            · subst c2
              by_cases c3 : a3 = b3
              · subst c3; simp
              · simp [c3]
            · simp only [c2, decide_true, decide_false, if_true, if_false, Bool.false_eq_true]
              rw [decide_eq_decide]; omega
          · simp only [c1, decide_false, if_false, Bool.false_eq_true]
            rw [decide_eq_decide]; omega
        rw [e]
        exact q _ G3 H3 (a2.trans a3) (.bl _)
def enumL {α : Type} (es : List α) : List (Nat × α) := (List.range es.length).zip es
theorem enumL_len {α : Type} (es : List α) : (enumL es).length = es.length := by unfold enumL; rw [List.length_zip, List.length_range, Nat.min_self]
theorem enumL_get {α : Type} {es : List α} {i : Nat} {p : Nat × α} (h : (enumL es)[i]? = some p) : p.1 = i ∧ es[i]? = some p.2 := by
  unfold enumL at h
  rw [List.getElem?_zip_eq_some] at h
  obtain ⟨h1, h2⟩ := h
  refine ⟨?_, h2⟩
  have hi := (List.getElem?_eq_some_iff.mp h1).1
  rw [List.length_range] at hi
  rw [List.getElem?_range hi] at h1
  exact (Option.some.inj h1).symm
theorem enumD_map {α : Type} (es : List α) (f : α → PyData) : enumD (es.map f) = (enumL es).map fun p => .tuple [.int (p.1 : Nat), f p.2] := by
  refine List.ext_getElem? fun i => ?_
  by_cases hi : i < es.length
  · have h1 : es[i]? = some es[i] := List.getElem?_eq_getElem hi
    rw [enumD_get (d := f es[i]) (by rw [List.getElem?_map, h1]; rfl), List.getElem?_map]
    have h2 : (enumL es)[i]? = some (i, es[i]) := by
      unfold enumL
      rw [List.getElem?_zip_eq_some]
      exact ⟨List.getElem?_range hi, h1⟩
    rw [h2]; rfl
  · rw [List.getElem?_eq_none (by rw [enumD_len, List.length_map]; omega), List.getElem?_eq_none (by rw [List.length_map, enumL_len]; omega)]
/-! ### check_web -/
abbrev Web := Int × List E3
def wD (x : Web) : PyData := .tuple [.int x.1, .tuple (x.2.map eD)]
structure OkW (x : Web) : Prop where
  m0 : 0 ≤ x.1
  m1 : x.1 ≤ 32
  len : x.2.length ≤ 100
  rng : ∀ e ∈ x.2, (0 ≤ e.1 ∧ e.1 < x.1) ∧ (0 ≤ e.2.1 ∧ e.2.1 < x.1) ∧ (0 ≤ e.2.2 ∧ e.2.2 ≤ 3)
  asc : Asc cd x.2
theorem OkW.sm {x : Web} (h : OkW x) {e : E3} (he : e ∈ x.2) : Sm e := by
  have := h.rng e he; have := h.m1; exact ⟨⟨by omega, by omega⟩, ⟨by omega, by omega⟩, by omega, by omega⟩
def R_check_web (ds : List PyData) (d : PyData) : Prop := ∃ x, ds = [wD x] ∧ OkW x ∧ d = .none
theorem ok_check_web : FnOk P w K mg base CX0 3 T.a_check_web T.d_check_web ["web"] (PureSp K R_check_web) := by
  refine T.F_check_web.ok sc_check_web (fun vs H Q E h => ?_) (fun cdv A outer s H vs Q E hr h => ?_)
  · obtain ⟨G, ds, d, k, r, ⟨x, rfl, ok, rfl⟩, q⟩ := h
    exact rpa_len r
  · obtain ⟨G, ds, d, k, r, ⟨x, rfl, ok, rfl⟩, q⟩ := h
    obtain ⟨v1, rfl, r1⟩ := rpa1 r
    refine ⟨_, (pss_cons (ps_if (PW.pt (pw_or (pt_not (pt_val (pe_callB call_isi (by rfl) T.z_isinstance (by decide +kernel) (pa_cons (pv 0) (pa_cons (pe_bltn (v := .ty "tuple") (u := .type "tuple") (by rfl) T.z_tuple (by decide +kernel) rfl) pa_nil))))) (pw_or1 (pt_cmpR (op_neK K rfl hr.units) (pe_callB (call_lenK K rfl) (by rfl) T.z_len (by decide +kernel) (pa_cons (pv 0) pa_nil)) pe_int (nomark _))))) (pss_one ps_never) pss_nil)
      (pss_cons (ps_asg (pv 0) (pg_tup (by rfl) (pgs_cons (pg_name (i := 1) sc_check_web.nd rfl (Or.inl rfl)) (pgs_cons (pg_name (i := 2) sc_check_web.nd rfl (Or.inl rfl)) pgs_nil))))
      (pss_cons (ps_if (pt_not (pt_val (pe_call (ok_is_between T) (hr.mono (by decide)) (by rfl) T.g_is_between T.F_is_between.kp T.b_is_between .nil pass0 (pa_cons (pv 1) (pa_cons pe_int (pa_cons (pe_glob (v := .int 32) rfl T.c_MOST_STATES ⟨_, rfl⟩) pa_nil)))))) (pss_one ps_never) pss_nil)
      (pss_cons (ps_if (PW.pt (pw_or (pt_not (pt_val (pe_callB call_isi (by rfl) T.z_isinstance (by decide +kernel) (pa_cons (pv 2) (pa_cons (pe_bltn (v := .ty "tuple") (u := .type "tuple") (by rfl) T.z_tuple (by decide +kernel) rfl) pa_nil))))) (pw_or1 (pt_cmpR op_gt (pe_callB (call_lenK K rfl) (by rfl) T.z_len (by decide +kernel) (pa_cons (pv 2) pa_nil)) (pe_glob (v := .int 100) rfl T.c_MOST_EDGES ⟨_, rfl⟩) (nomark _))))) (pss_one ps_never) pss_nil)
      (pss_one (ps_for PassesOwn.never rfl (pi_enumT (by rfl) T.z_enumerate (pa_cons (pv 2) pa_nil)) (pg_tup (by rfl) (pgs_cons (pg_name (i := 3) sc_check_web.nd rfl (Or.inl rfl)) (pgs_cons (pg_name (i := 4) sc_check_web.nd rfl (Or.inl rfl)) pgs_nil))) (pss_cons (ps_if (pt_not (pt_val (pe_call (ok__is_edge T) hr (by rfl) T.g__is_edge T.F__is_edge.kp T.b__is_edge .nil pass0 (pa_cons (pv 4) (pa_cons (pv 1) pa_nil))))) (pss_one ps_never) pss_nil)
      (pss_one (ps_if (PW.pt (pw_and (pt_cmpR op_gt (pv 3) pe_int (nomark _)) (pw_and1 (pt_cmpR (op_leT hr.units0) (pv 4) (pe_ix (ix_seqK K rfl) (pv 2) (pe_op op_sub (pv 3) pe_int) (fun _ _ => rfl)) (nomark _))))) (pss_one ps_never) pss_nil))))))))), ?_⟩
    refine qt_unless k (evt_or (evt_not (evt_B (eva_isi (eva_var rfl r1)))) fun _ => evt_test (eva_neI (eva_len (eva_var rfl r1) (.inr rfl)) eva_int)) rfl fun G1 H1 a1 => ?_
    refine qt_asg2 a1.o (eva_var rfl (r1.ex a1.g)) fun w1 w2 G2 H2 a2 s1 s2 => ?_
    have m0 := ok.m0
    have m1 := ok.m1
    refine qt_unless a2.o (evt_not (evt_B (eva_call (evaA_cons (eva_var rfl s1) (evaA_cons eva_int (evaA_cons eva_int evaA_nil))) ⟨_, _, _, rfl, rfl⟩))) (by simp [isB, m0, m1]) fun G3 H3 a3 => ?_
    have hl := ok.len
    refine qt_unless a3.o (evt_or (evt_not (evt_B (eva_isi (eva_var rfl (s2.ex a3.g))))) fun _ => evt_test (eva_cmp (g := fun i j => decide (j < i)) (eva_len (eva_var rfl (s2.ex a3.g)) (.inr rfl)) eva_int)) (by
      rw [List.length_map]; simp [isK, kd]; omega) fun G4 H4 a4 => ?_
    have S : Src K (iEnumT K (tCons (tVar 2) tNil)) [some v1, some w1, some w2, none, none] G4 H4 ((enumL x.2).map fun p => .tuple [.int (p.1 : Nat), eD p.2]) := by
      rw [← enumD_map]; exact src_enumT (eva_var rfl (s2.ex (a3.trans a4).g))
    have A0 : Adv G H G4 H4 := ((a1.trans a2).trans a3).trans a4
    refine st_for (enumL x.2) _ (fun B i σ G' H' => Ex B G' ∧ Ex G4 B ∧ Adv G H G' H' ∧ ∃ o3 o4, σ = [some v1, some w1, some w2, o3, o4]) a4.o S (fun G5 H5 a5 => ⟨Ex.refl _, a5.g, A0.trans a5, none, none, rfl⟩) (fun B i σ' G' H' p => ⟨p.1, p.2.2.1.o⟩) ?_ fun B σ' G' H' p => q _ G' H' p.2.2.1 .non
    rintro B i p v σ' G' H' G'' H'' hp ⟨e1, e2, A1, o3, o4, rfl⟩ a6 rv
    obtain ⟨rfl, he⟩ := enumL_get hp
    have hmem : p.2 ∈ x.2 := List.mem_of_getElem? he
    refine bd_tup2 a6.o rv fun u1 u2 t1 t2 => ?_
    have s2' := s2.ex ((a3.trans a4).g.trans (e2.trans (e1.trans a6.g)))
    have s1' := s1.ex ((a3.trans a4).g.trans (e2.trans (e1.trans a6.g)))
    have hrng := ok.rng _ hmem
    refine qt_unless a6.o (evt_not (evt_B (eva_call (evaA_cons (eva_var rfl t2) (evaA_cons (eva_var rfl s1') evaA_nil)) ⟨_, _, rfl, rfl⟩))) (by
      simp only [isEdge, eD, isB]; simp; omega) fun G7 H7 a7 => ?_
    have hle : (decide ((p.1 : Int) > 0) = true) → EvaT (tTest (tOp (rLeT K) (tVar 4) (tOp (rIx K) (tVar 2) (tOp (rI0 fun i j => .int (i - j)) (tVar 3) (tC (.int 1)))))) [some v1, some w1, some w2, some u1, some u2] G7 H7 false := fun h0 => by
      have h0 : 0 < p.1 := by simpa using h0
      obtain ⟨f, hf⟩ : ∃ f, x.2[p.1 - 1]? = some f := ⟨x.2[p.1 - 1]'(by have := (List.getElem?_eq_some_iff.mp he).1; omega), List.getElem?_eq_getElem _⟩
      have hlt : cd f < cd p.2 := by
        have h1 := List.getElem?_eq_some_iff.mp hf
        have h2 := List.getElem?_eq_some_iff.mp he
        obtain ⟨h1, rfl⟩ := h1
        obtain ⟨h2, h2e⟩ := h2
        rw [← h2e]
        exact List.pairwise_iff_getElem.mp ok.asc _ _ h1 h2 (by omega)
      refine evt_test (eva_is (eva_le3 (eva_var rfl (t2.ex a7.g)) (eva_ixT (d := eD f) (eva_var rfl (s2'.ex a7.g)) (eva_op (eva_var rfl (t1.ex a7.g)) eva_int) ?_) (ok.sm hmem) (ok.sm (List.mem_of_getElem? hf))) ?_)
      · have e : ((p.1 : Int) - 1) = ((p.1 - 1 : Nat) : Int) := by omega
        rw [e]
        exact atI_nat (by rw [List.getElem?_map, hf]; rfl)
      · rw [decide_eq_false (by omega)]
    refine st_unless a7.o (evt_and (b := decide ((p.1 : Int) > 0)) (c := false) (evt_test (eva_cmp (g := fun i j => decide (j < i)) (eva_var rfl (t1.ex a7.g)) eva_int)) hle) (by simp) fun G8 H8 a8 => ?_
    exact ⟨G8, e1.trans (((a6.trans a7).trans a8).g), e2, A1.trans ((a6.trans a7).trans a8), _, _, rfl⟩
end
end K03

set_option Elab.async false
set_option linter.all false
set_option maxRecDepth 100000
set_option maxHeartbeats 4000000
namespace K03
open PySem PySem.Spec PyProof.Rows L2 Vf
open Evl hiding Ex Ex.refl Ex.trans Ex.new Ex.mut ex_rd ex_l ex_t fresh_back
/-! ### what is left of edges -/
def trimStep (es : List E3) : List E3 := es.filter fun e => (es.any fun f => f.2.1 == e.1) && (es.any fun f => f.1 == e.2.1)
def coreN : Nat → List E3 → List E3
  | 0, es => es
  | n + 1, es => coreN n (trimStep es)
def core (es : List E3) : List E3 := coreN es.length es
theorem filter_same {α : Type} {p : α → Bool} {l : List α} (h : (l.filter p).length = l.length) : l.filter p = l := by
  have := List.filter_sublist (p := p) (l := l)
  exact this.eq_of_length h
theorem trimStep_le (es : List E3) : (trimStep es).length ≤ es.length := List.length_filter_le _ _
theorem trimStep_same {es : List E3} (h : (trimStep es).length = es.length) : trimStep es = es := filter_same h
theorem coreN_of_fix {es : List E3} (h : trimStep es = es) : ∀ n, coreN n es = es
  | 0 => rfl
  | n + 1 => by unfold coreN; rw [h]; exact coreN_of_fix h n
theorem coreN_fix : ∀ (n : Nat) (es : List E3), es.length ≤ n → trimStep (coreN n es) = coreN n es
  | 0, es, h => by
    have : es = [] := List.length_eq_zero_iff.mp (Nat.le_zero.mp h)
    subst this; rfl
  | n + 1, es, h => by
    by_cases c : (trimStep es).length = es.length
    · have e := trimStep_same c
      rw [coreN_of_fix e]; exact e
    · have := trimStep_le es
      exact coreN_fix n (trimStep es) (by omega)
theorem coreN_succ : ∀ (n : Nat) (es : List E3), coreN (n + 1) es = trimStep (coreN n es)
  | 0, _ => rfl
  | n + 1, es => by show coreN (n + 1) (trimStep es) = _; rw [coreN_succ n (trimStep es)]; rfl
theorem coreN_core {es : List E3} : ∀ (n : Nat), es.length ≤ n → coreN n es = core es := fun n h => by
  obtain ⟨k, rfl⟩ := Nat.exists_eq_add_of_le h
  induction k with
  | zero => rfl
  | succ k ih =>
    rw [show es.length + (k + 1) = (es.length + k) + 1 from rfl, coreN_succ, coreN_fix _ _ (Nat.le_add_right _ _)]
    exact ih (Nat.le_add_right _ _)
theorem core_step (es : List E3) : core (trimStep es) = core es := by
  rw [← coreN_core es.length (trimStep_le es)]
  show coreN (es.length + 1) es = _
  exact coreN_core _ (Nat.le_succ _)
theorem core_of_fix {es : List E3} (h : trimStep es = es) : core es = es := coreN_of_fix h _
theorem core_fix (es : List E3) : trimStep (core es) = core es := coreN_fix _ _ (Nat.le_refl _)
theorem coreN_sub : ∀ (n : Nat) (es : List E3), List.Sublist (coreN n es) es
  | 0, _ => List.Sublist.refl _
  | n + 1, es => (coreN_sub n (trimStep es)).trans List.filter_sublist
theorem core_sub (es : List E3) : List.Sublist (core es) es := coreN_sub _ _
/-- the states, ascending -/
def sts (es : List E3) : List Int := ascBy id (es.map (·.1))
def ren (st : List Int) (e : E3) : E3 := ((st.idxOf e.1 : Nat), (st.idxOf e.2.1 : Nat), e.2.2)
def trimW (es : List E3) : Web := ((sts (core es)).length, (core es).map (ren (sts (core es))))
theorem dictOf_any {α : Type} (key : α → Int) (f : α → PyData) (j : Int) : ∀ xs : List α, (dictOf key f xs j).isSome = xs.any fun x => key x == j
  | [] => rfl
  | x :: xs => by
    rw [List.any_cons, ← dictOf_any key f j xs]
    rw [dictOf]
    cases h : dictOf key f xs j with
    | some d => exact (Bool.or_true _).symm
    | none =>
      rw [show (none : Option PyData).isSome = false from rfl, Bool.or_false]
      show (if j = key x then some (f x) else none).isSome = (key x == j)
      by_cases c : j = key x
      · rw [if_pos c, c]; simp
      · rw [if_neg c]
        exact (beq_eq_false_iff_ne.mpr fun z => c z.symm).symm
theorem isD_some {K : PySem.W.Frag} {m : Int → Option PyData} {G : Hp} {kvs : List (Key × V)} (h : isD K m G (.dK kvs)) (k : Int) : (valV kvs (.inl k)).isSome = (m k).isSome := by
  obtain ⟨kvs', e, h⟩ := h
  cases e
  have := h k
  cases c : m k with
  | none => rw [c] at this; rw [show valV kvs (Sum.inl k) = none from this]; rfl
  | some d => rw [c] at this; obtain ⟨v, e, _⟩ := this; rw [e]; rfl
theorem isD_get {K : PySem.W.Frag} {m : Int → Option PyData} {G : Hp} {kvs : List (Key × V)} {k : Int} {d : PyData} (h : isD K m G (.dK kvs)) (e : m k = some d) : ∃ v, valV kvs (.inl k) = some v ∧ Rp K G v d := by
  obtain ⟨kvs', e', h⟩ := h
  cases e'
  have := h k
  rw [e] at this
  exact this
theorem isD_dict {K : PySem.W.Frag} {m : Int → Option PyData} {G : Hp} {o : HO} (h : isD K m G o) : ∃ kvs, o = .dK kvs ∧ isD K m G (.dK kvs) := by
  obtain ⟨kvs, rfl, h⟩ := h; exact ⟨kvs, rfl, kvs, rfl, h⟩
theorem dictOf_none {α : Type} (key : α → Int) (f : α → PyData) (j : Int) {xs : List α} (h : ∀ x ∈ xs, key x ≠ j) : dictOf key f xs j = none := by
  have := dictOf_any key f j xs
  cases c : dictOf key f xs j with
  | none => rfl
  | some d =>
    rw [c] at this
    obtain ⟨x, hx, e⟩ := List.any_eq_true.mp this.symm
    exact absurd (eq_of_beq e) (h x hx)
/-- the place of a state -/
theorem dictOf_enum {st : List Int} (nd : st.Nodup) {s : Int} (h : s ∈ st) : dictOf (fun p : Nat × Int => p.2) (fun p => .int (p.1 : Nat)) (enumL st) s = some (.int (st.idxOf s : Nat)) := by
  have gen : ∀ (l : List (Nat × Int)), (l.map (·.2)).Nodup → ∀ p ∈ l, dictOf (fun p : Nat × Int => p.2) (fun p => .int (p.1 : Nat)) l p.2 = some (.int (p.1 : Nat)) := by
    intro l
    induction l with
    | nil => intro _ p hp; cases hp
    | cons q l ih =>
      intro nd p hp
      rw [List.map_cons, List.nodup_cons] at nd
      obtain ⟨n1, n2⟩ := nd
      unfold dictOf
      rcases List.mem_cons.mp hp with e | hp
      · subst e
        rw [dictOf_none _ _ _ fun x hx e => n1 (List.mem_map.mpr ⟨x, hx, e⟩)]
        simp
      · rw [ih n2 p hp]
  obtain ⟨i, hi, e⟩ := List.getElem_of_mem h
  have hm : (i, s) ∈ enumL st := by
    refine List.mem_of_getElem? (i := i) ?_
    unfold enumL
    rw [List.getElem?_zip_eq_some]
    exact ⟨List.getElem?_range hi, by rw [List.getElem?_eq_getElem hi, e]⟩
  have hs : (enumL st).map (·.2) = st := by
    unfold enumL
    rw [List.map_snd_zip (by rw [List.length_range]; exact Nat.le_refl _)]
  have := gen (enumL st) (by rw [hs]; exact nd) (i, s) hm
  rw [this]
  have : st.idxOf s = i := by rw [← e]; exact nd.idxOf_getElem i hi
  rw [this]
theorem asc_nodup {st : List Int} (h : Asc id st) : st.Nodup := List.Pairwise.imp (fun {a b} (z : id a < id b) e => by rw [e] at z; exact absurd z (Int.lt_irrefl _)) h
section
variable {P : Program} {w : World} {K : PySem.W.Frag} {mg : PySem.Str → Option Value} {base : Heap} (T : Tops K mg base)
def R_trimmed (ds : List PyData) (d : PyData) : Prop := ∃ es : List E3, ds = [.tuple (es.map eD)] ∧ es.length ≤ 100 ∧ (sts (core es)).length < 64 ∧ d = wD (trimW es)
theorem eva_item {σ : L2.St} {G H : Hp} {i : Nat} {e : E3} {v : V} {j : Int} {z : Int} (hs : σ[i]? = some (some v)) (r : Rp K G v (eD e)) (ha : atI [PyData.int e.1, .int e.2.1, .int e.2.2] j = some (.int z)) : Eva K (tOp (rIx K) (tVar i) (tC (.int j))) σ G H (.int z) :=
  eva_ixT (eva_var hs r) eva_int ha
theorem ok_trimmed : FnOk P w K mg base CX0 1 T.a_trimmed T.d_trimmed ["edges"] (PureSp K R_trimmed) := by
  refine T.F_trimmed.ok sc_trimmed (fun vs H Q E h => ?_) (fun cdv A outer s H vs Q E hr h => ?_)
  · obtain ⟨G, ds, d, k, r, ⟨x, rfl, hl, hst, rfl⟩, q⟩ := h
    exact rpa_len r
  · obtain ⟨G, ds, d, k, r, ⟨es, rfl, hl, hst, rfl⟩, q⟩ := h
    obtain ⟨v1, rfl, r1⟩ := rpa1 r
    refine ⟨_, (pss_cons (ps_set (i := 1) sc_trimmed.nd rfl (Or.inl rfl) (pe_callTy call_list_of (by rfl) T.z_list (by decide +kernel) (pa_cons (pv 0) pa_nil)))
      (pss_cons (ps_set (i := 2) sc_trimmed.nd rfl (Or.inl rfl) (pe_un un_neg pe_int))
      (pss_cons (ps_while PassesOwn.never (pt_cmpR (op_neK K rfl hr.units) (pe_callB (call_lenK K rfl) (by rfl) T.z_len (by decide +kernel) (pa_cons (pv 1) pa_nil)) (pv 2) (nomark _)) (pss_cons (ps_set (i := 2) sc_trimmed.nd rfl (Or.inl rfl) (pe_callB (call_lenK K rfl) (by rfl) T.z_len (by decide +kernel) (pa_cons (pv 1) pa_nil)))
      (pss_cons (ps_set (i := 3) sc_trimmed.nd rfl (Or.inr rfl) (pe_dc rfl sc_trimmed.nd (pi_list (pv 1)) (blkOk_by (own := [("edge", 7)]) (N := N_trimmed) (by kernel_rfl)) (fun _ _ _ _ _ => (pg_name (i := 7) sc_trimmed.nd rfl (Or.inl rfl))) (fun _ _ _ _ _ => pts_nil) (fun _ _ _ _ _ => (pe_ix (ix_seqK K rfl) (pv 7) pe_int (fun _ _ => rfl))) (fun _ _ _ _ _ => pe_bl)))
      (pss_cons (ps_set (i := 4) sc_trimmed.nd rfl (Or.inr rfl) (pe_dc rfl sc_trimmed.nd (pi_list (pv 1)) (blkOk_by (own := [("edge", 7)]) (N := N_trimmed) (by kernel_rfl)) (fun _ _ _ _ _ => (pg_name (i := 7) sc_trimmed.nd rfl (Or.inl rfl))) (fun _ _ _ _ _ => pts_nil) (fun _ _ _ _ _ => (pe_ix (ix_seqK K rfl) (pv 7) pe_int (fun _ _ => rfl))) (fun _ _ _ _ _ => pe_bl)))
      (pss_one (ps_setLc (i := 1) rfl sc_trimmed.nd rfl rfl (sw_true rfl rfl rfl (by decide +kernel)) (pi_list (pv 1)) (blkOk_by (own := [("edge", 7)]) (N := N_trimmed) (by kernel_rfl)) (fun _ _ _ _ _ => (pg_name (i := 7) sc_trimmed.nd rfl (Or.inl rfl))) (fun _ _ _ _ _ => (pts_one (PW.pt (pw_and (pt_cmp (pc_din (hu_of hr) (pe_ix (ix_seqK K rfl) (pv 7) pe_int (fun _ _ => rfl)) (pv 4))) (pw_and1 (pt_cmp (pc_din (hu_of hr) (pe_ix (ix_seqK K rfl) (pv 7) pe_int (fun _ _ => rfl)) (pv 3)))))))) (fun _ _ _ _ _ => (pv 7))))))))
      (pss_cons (ps_set (i := 5) sc_trimmed.nd rfl (Or.inl rfl) (pe_callB (cr_sortedSet rfl) (by rfl) T.z_sorted (by decide +kernel) (pa_cons (pe_scI rfl sc_trimmed.nd (pi_list (pv 1)) (blkOk_by (own := [("edge", 7)]) (N := N_trimmed) (by kernel_rfl)) (fun _ _ _ _ _ => (pg_name (i := 7) sc_trimmed.nd rfl (Or.inl rfl))) (fun _ _ _ _ _ => pts_nil) (fun _ _ _ _ _ => (pe_ix (ix_seqK K rfl) (pv 7) pe_int (fun _ _ => rfl)))) pa_nil)))
      (pss_cons (ps_set (i := 6) sc_trimmed.nd rfl (Or.inr rfl) (pe_dc (g := (gTup K 2 (gCons (gName 8) (gCons (gName 9) gNil)))) rfl sc_trimmed.nd (pi_enum (by rfl) T.z_enumerate (pa_cons (pv 5) pa_nil)) (blkOk_by (own := [("at", 8), ("state", 9)]) (N := N_trimmed) (by kernel_rfl)) (fun _ _ _ _ _ => (pg_tup (by rfl) (pgs_cons (pg_name (i := 8) sc_trimmed.nd rfl (Or.inl rfl)) (pgs_cons (pg_name (i := 9) sc_trimmed.nd rfl (Or.inl rfl)) pgs_nil)))) (fun _ _ _ _ _ => pts_nil) (fun _ _ _ _ _ => (pv 9)) (fun _ _ _ _ _ => (pv 8))))
      (pss_one (ps_ret (pe_tup (pa_cons (pe_callB (call_lenK K rfl) (by rfl) T.z_len (by decide +kernel) (pa_cons (pv 5) pa_nil)) (pa_cons (pe_callTy call_tuple_of (by rfl) T.z_tuple (by decide +kernel) (pa_cons (pe_lc (g := (gTup K 3 (gCons (gName 10) (gCons (gName 11) (gCons (gName 12) gNil))))) rfl sc_trimmed.nd (pi_list (pv 1)) (blkOk_by (own := [("start", 10), ("end", 11), ("label", 12)]) (N := N_trimmed) (by kernel_rfl)) (fun _ _ _ _ _ => (pg_tup (by rfl) (pgs_cons (pg_name (i := 10) sc_trimmed.nd rfl (Or.inl rfl)) (pgs_cons (pg_name (i := 11) sc_trimmed.nd rfl (Or.inl rfl)) (pgs_cons (pg_name (i := 12) sc_trimmed.nd rfl (Or.inl rfl)) pgs_nil))))) (fun _ _ _ _ _ => pts_nil) (fun _ _ _ _ _ => (pe_tup (pa_cons (pe_dget (hu_of hr) (pv 6) (pv 10) (fun _ _ => rfl)) (pa_cons (pe_dget (hu_of hr) (pv 6) (pv 11) (fun _ _ => rfl)) (pa_cons (pv 12) pa_nil)))))) pa_nil)) pa_nil)))))))))), ?_⟩
    -- kept = list(edges)
    refine qt_asg k (evan_eva (evan_list (eva_var rfl r1) (.inr rfl))) fun vk G1 H1 a1 rk => ?_
    -- before = -1
    refine qt_asg a1.o (eva_un (K := K) eva_int) fun vb G2 H2 a2 rb => ?_
    cases rp_int rb
    refine qt_while (fun m σ G' H' => Adv G H G' H' ∧ ∃ (cur : List E3) (before : Int) (vk : V) (o3 o4 : Option V), σ = [some v1, some vk, some (.int before), o3, o4, none, none, none, none, none, none, none, none] ∧ Rp K G' vk (.list (cur.map eD)) ∧ core cur = core es ∧ cur.length ≤ 100 ∧
      (before = cur.length → trimStep cur = cur) ∧ m = 2 * cur.length + (if before = cur.length then 0 else 1)) _ ⟨a1.trans a2, es, -1, vk, none, none, rfl, rk.ex a2.g, rfl, hl, fun z => by omega, rfl⟩ ?_
    rintro m σ' G3 H3 ⟨A3, cur, before, vk, o3, o4, rfl, rk, hcore, hcl, hfix, rfl⟩
    refine ⟨A3.o, _, evt_test (eva_neI (eva_len (eva_var rfl rk) (.inl rfl)) (eva_var rfl (.int before))), fun hb G4 H4 a4 => ?_, fun hb G4 H4 a4 => ?_⟩
    · -- a turn
      rw [List.length_map] at hb
      have hne : before ≠ cur.length := fun z => by rw [z] at hb; simp at hb
      refine qt_asg a4.o (eva_len (eva_var rfl (rk.ex a4.g)) (.inl rfl)) fun v2 G5 H5 a5 rb => ?_
      cases rp_int rb
      have key : ∀ {te : TE} {σ : L2.St} {G H : Hp} {vs : List Nat} {j : Int} {kf : E3 → Int}, Adv G4 H4 G H → (∀ e : E3, atI [PyData.int e.1, .int e.2.1, .int e.2.2] j = some (.int (kf e))) → σ[1]? = some (some vk) → (∀ v, wipe ((wipe σ [7]).set 7 (some v)) [7] = wipe σ [7]) → (∀ v, ((wipe σ [7]).set 7 (some v))[7]? = some (some v)) →
          EvaN (tDc (iList K (tVar 1)) (gName 7) tYes (tOp (rIx K) (tVar 7) (tC (.int j))) (tC (.bl true)) [7]) σ G H (isD K (dictOf kf (fun _ => .bool true) cur)) := fun a hk hs hw hg =>
        evan_dc cur eD _ _ (src_list (eva_var hs ((rk.ex a4.g).ex a.g))) (by omega) fun i x v G' H' hx a' rv => bd_name ⟨hw v, eva_item (hg v) rv (hk x), eva_bl⟩
      refine qt_asgN a5.o (key (kf := fun e => e.1) (vs := [7]) (te := tVar 0) a5 (fun e => rfl) rfl (fun v => rfl) (fun v => rfl)) fun p1 o1 G6 H6 n6 a6 w6 hD1 => ?_
      obtain ⟨kv1, rfl, hD1⟩ := isD_dict hD1
      refine qt_asgN a6.o (key (kf := fun e => e.2.1) (vs := [7]) (te := tVar 0) (a5.trans a6) (fun e => rfl) rfl (fun v => rfl) (fun v => rfl)) fun p2 o2 G7 H7 n7 a7 w7 hD2 => ?_
      obtain ⟨kv2, rfl, hD2⟩ := isD_dict hD2
      have w6' := w6.adv a7
      have rk7 := rk.ex (((a4.trans a5).trans (a6.trans a7)).g)
      refine st_asg a7.o (evan_eva (evan_lc cur eD (fun e => (cur.any fun f => f.2.1 == e.1) && (cur.any fun f => f.1 == e.2.1)) eD (src_list (eva_var rfl rk7)) (by omega) fun i x v G' H' hx a' rv => bd_name ⟨rfl, ?_, fun _ => eva_var rfl rv⟩)) fun v3 G8 H8 a8 r8 => ?_
      · refine evt_is (evt_and (evt_B (eva_din (eva_item rfl rv rfl) (evv_var rfl) (w7.adv a').h)) fun _ => evt_B (eva_din (eva_item rfl rv rfl) (evv_var rfl) (w6'.adv a').h)) ?_
        rw [isD_some hD2, isD_some hD1, dictOf_any, dictOf_any]
      · have e1 : cur.map eD = cur.map eD := rfl
        refine ⟨_, G8, ?_, (A3.trans a4).trans ((a5.trans (a6.trans a7)).trans a8), trimStep cur, cur.length, v3, some (.ref p1), some (.ref p2), by rw [List.length_map]; rfl, r8, by rw [core_step]; exact hcore, Nat.le_trans (trimStep_le cur) hcl, fun z => ?_, rfl⟩
        · have := trimStep_le cur
          rw [if_neg hne]
          by_cases c : (cur.length : Int) = (trimStep cur).length
          · rw [if_pos c]; omega
          · rw [if_neg c]; omega
        · have z' : (trimStep cur).length = cur.length := by omega
          rw [trimStep_same z']; exact trimStep_same z'
    · -- the end
      rw [List.length_map] at hb
      have heq : before = cur.length := (eq_of_beq (by simpa using hb : ((cur.length : Int) == before) = true)).symm
      have hcf := hfix heq
      have hcc : cur = core es := by rw [← hcore]; exact (core_of_fix hcf).symm
      have rk4 := rk.ex a4.g
      -- states = sorted({edge[0] for edge in kept})
      have hsts : sts cur = ascBy id ((cur.filter fun _ => true).map fun e => e.1) := by rw [filter_yes]; rfl
      refine qt_asg a4.o (eva_sortedSI cur eD (fun _ => true) (fun e => e.1) (src_list (eva_var rfl rk4)) (by omega) (by rw [← hsts, hcc]; exact hst) fun i x v G' H' hx a' rv => bd_name ⟨rfl, evt_yes, fun _ => eva_item rfl rv rfl⟩) fun v5 G5 H5 a5 r5 => ?_
      rw [← hsts] at r5
      -- number = {state: at for at, state in enumerate(states)}
      have S : Src K (iEnum K (tCons (tVar 5) tNil)) [some v1, some vk, some (.int before), o3, o4, some v5, none, none, none, none, none, none, none] G5 H5 ((enumL (sts cur)).map fun p => .tuple [.int (p.1 : Nat), .int p.2]) := by
        rw [← enumD_map]; exact src_enum (eva_var rfl r5)
      have hlen : (sts cur).length < 64 := by rw [hcc]; exact hst
      refine qt_asgN a5.o (evan_dc (enumL (sts cur)) _ (fun p => p.2) (fun p => .int (p.1 : Nat)) S (by rw [enumL_len]; omega) fun i x v G' H' hx a' rv => bd_tup2 a'.o rv fun u1 u2 t1 t2 => ⟨rfl, eva_var rfl t2, eva_var rfl t1⟩) fun p6 o6 G6 H6 n6 a6 w6 hD => ?_
      obtain ⟨kvs, rfl, hD⟩ := isD_dict hD
      have rk6 := rk4.ex (a5.trans a6).g
      have nd := asc_nodup (ascBy_asc (k := id) (cur.map (·.1)))
      have m1 : ∀ e ∈ cur, e.1 ∈ sts cur := fun e he => mem_asc_id.mpr (List.mem_map.mpr ⟨e, he, rfl⟩)
      have m2 : ∀ e ∈ cur, e.2.1 ∈ sts cur := fun e he => by
        have he' : e ∈ trimStep cur := by rw [hcf]; exact he
        have := (List.mem_filter.mp he').2
        rw [Bool.and_eq_true] at this
        obtain ⟨f, hf, e2⟩ := List.any_eq_true.mp this.2
        rw [← eq_of_beq e2]; exact m1 f hf
      refine st_ret a6.o (eva_tup (evaA_cons (eva_len (eva_var rfl (r5.ex a6.g)) (.inl rfl)) (evaA_cons (eva_tupleL (evan_eva (evan_lc cur eD (fun _ => true) (fun e => eD (ren (sts cur) e)) (src_list (eva_var rfl rk6)) (by omega) fun i x v G' H' hx a' rv => ?_))) evaA_nil))) fun v G7 H7 a7 rv => q v G7 H7 ((A3.trans a4).trans ((a5.trans a6).trans a7)) ?_
      · have hx' := List.mem_of_getElem? hx
        refine bd_tup3 a'.o rv fun u1 u2 u3 t1 t2 t3 => ⟨rfl, evt_yes, fun _ => ?_⟩
        obtain ⟨z1, e1, s1⟩ := isD_get hD (dictOf_enum nd (m1 x hx'))
        obtain ⟨z2, e2, s2⟩ := isD_get hD (dictOf_enum nd (m2 x hx'))
        exact eva_tup (evaA_cons (eva_dget (evv_var rfl) (eva_var rfl t1) (w6.adv a').h e1 (s1.ex a'.g)) (evaA_cons (eva_dget (evv_var rfl) (eva_var rfl t2) (w6.adv a').h e2 (s2.ex a'.g)) (evaA_cons (eva_var rfl t3) evaA_nil)))
      · rw [filter_yes, List.length_map] at rv
        have e : wD (trimW es) = .tuple [.int ((sts cur).length : Nat), .tuple (cur.map fun e => eD (ren (sts cur) e))] := by
          unfold wD trimW
          rw [← hcc, List.map_map]; rfl
        rw [e]
        exact rv
end
end K03

set_option Elab.async false
set_option linter.all false
set_option maxRecDepth 100000
set_option maxHeartbeats 4000000
namespace K03
open PySem PySem.Spec PyProof.Rows L2 Vf
open Evl hiding Ex Ex.refl Ex.trans Ex.new Ex.mut ex_rd ex_l ex_t fresh_back
theorem asc_bound {lo hi : Int} : ∀ {l : List Int}, Asc id l → (∀ x ∈ l, lo ≤ x ∧ x < hi) → (l.length : Int) ≤ max 0 (hi - lo)
  | [], _, _ => by simp; omega
  | x :: xs, h, b => by
    obtain ⟨h1, h2⟩ := List.pairwise_cons.mp h
    have hx := b x List.mem_cons_self
    have := asc_bound (lo := x + 1) (hi := hi) h2 fun y hy => by
      have := h1 y hy; have := b y (List.mem_cons_of_mem _ hy)
      have h3 : x < y := h1 y hy
      omega
    rw [List.length_cons]
    omega
theorem sts_len {x : Web} (ok : OkW x) : ((sts (core x.2)).length : Int) ≤ x.1 := by
  have h := asc_bound (lo := 0) (hi := x.1) (ascBy_asc (k := id) ((core x.2).map (·.1))) fun y hy => by
    obtain ⟨e, he, rfl⟩ := List.mem_map.mp (mem_ascBy hy)
    exact (ok.rng e ((core_sub x.2).subset he)).1
  have := ok.m0
  unfold sts
  omega
section
variable {P : Program} {w : World} {K : PySem.W.Frag} {mg : PySem.Str → Option Value} {base : Heap} (T : Tops K mg base)
def R_essential (ds : List PyData) (d : PyData) : Prop := ∃ x, ds = [wD x] ∧ OkW x ∧ d = wD (trimW x.2)
theorem ok_essential : FnOk P w K mg base CX0 4 T.a_essential T.d_essential ["web"] (PureSp K R_essential) := by
  refine T.F_essential.ok sc_essential (fun vs H Q E h => ?_) (fun cdv A outer s H vs Q E hr h => ?_)
  · obtain ⟨G, ds, d, k, r, ⟨x, rfl, ok, rfl⟩, q⟩ := h
    exact rpa_len r
  · obtain ⟨G, ds, d, k, r, ⟨x, rfl, ok, rfl⟩, q⟩ := h
    obtain ⟨v1, rfl, r1⟩ := rpa1 r
    refine ⟨_, (pss_cons (ps_expr (pe_call (ok_check_web T) hr (by rfl) T.g_check_web T.F_check_web.kp T.b_check_web .nil pass0 (pa_cons (pv 0) pa_nil)))
      (pss_one (ps_ret (pe_call (ok_trimmed T) (hr.mono (by decide)) (by rfl) T.g_trimmed T.F_trimmed.kp T.b_trimmed .nil pass0 (pa_cons (pe_ix (ix_seqK K rfl) (pv 0) pe_int (fun _ _ => rfl)) pa_nil))))), ?_⟩
    refine qt_drop k (eva_call (evaA_cons (eva_var rfl r1) evaA_nil) ⟨_, rfl, ok, rfl⟩) fun G1 H1 a1 => ?_
    have hl := sts_len ok
    have hm := ok.m1
    exact st_ret a1.o (eva_call (evaA_cons (eva_ixT (eva_var rfl (r1.ex a1.g)) eva_int rfl) evaA_nil) ⟨_, rfl, ok.len, by omega, rfl⟩) fun v G2 H2 a2 rv => q v G2 H2 (a1.trans a2) rv
/-! ### _law_alike -/
def good : Nat → PyData → Prop
  | 0, _ => False
  | n + 1, .tuple ds => ds.length ≤ 40000 ∧ ∀ d ∈ ds, good n d
  | n + 1, .list ds => ds.length ≤ 40000 ∧ ∀ d ∈ ds, good n d
  | _ + 1, .dict _ => False
  | _ + 1, .str s => SeqAt.shaped (.str s) = true
  | _ + 1, _ => True
def R_alike (n : Nat) (ds : List PyData) (d : PyData) : Prop := ∃ x, ds = [x, x] ∧ good n x ∧ d = .bool true
theorem eva_isN {σ : L2.St} {G H : Hp} {ta : TE} {d : PyData} (h : Eva K ta σ G H d) : Eva K (tOp (fun x y H Q => y = .non ∧ Q (.bl (decide (x = .non))) H) ta (tC .non)) σ G H (.bool (match d with | .none => true | _ => false)) := fun G1 H1 a Q q =>
  h G1 H1 a _ fun v G2 H2 a2 r => ⟨rfl, q _ G2 H2 a2 (by cases r <;> exact .bl _)⟩
theorem ok_alike : ∀ n, FnOk P w K mg base CX0 n T.a__law_alike T.d__law_alike ["found", "due"] (PureSp K (R_alike n))
  | 0 => fn_false fun vs H Q E ⟨G, ds, d, k, r, ⟨x, _, h, _⟩, q⟩ => h
  | n + 1 => by
    have GREC := ok_alike n
    refine T.F__law_alike.ok sc__law_alike (fun vs H Q E h => ?_) (fun cdv A outer s H vs Q E hr h => ?_)
    · obtain ⟨G, ds, d, k, r, ⟨x, rfl, hg, rfl⟩, q⟩ := h
      exact rpa_len r
    · obtain ⟨G, ds, d, k, r, ⟨x, rfl, hg, rfl⟩, q⟩ := h
      obtain ⟨v1, v2, rfl, r1, r2⟩ := rpa2 r
      refine ⟨_, (pss_cons (ps_if (pt_val (pe_callB call_isiT (by rfl) T.z_isinstance (by decide +kernel) (pa_cons (pv 1) (pa_cons (pe_tup (pa_cons (pe_bltn (v := .ty "tuple") (u := .type "tuple") (by rfl) T.z_tuple (by decide +kernel) rfl) (pa_cons (pe_bltn (v := .ty "list") (u := .type "list") (by rfl) T.z_list (by decide +kernel) rfl) pa_nil))) pa_nil)))) (pss_cons (ps_if (PW.pt (pw_or (pt_not (pt_val (pe_callB call_isiT (by rfl) T.z_isinstance (by decide +kernel) (pa_cons (pv 0) (pa_cons (pe_tup (pa_cons (pe_bltn (v := .ty "tuple") (u := .type "tuple") (by rfl) T.z_tuple (by decide +kernel) rfl) (pa_cons (pe_bltn (v := .ty "list") (u := .type "list") (by rfl) T.z_list (by decide +kernel) rfl) pa_nil))) pa_nil))))) (pw_or1 (pt_cmpR (op_neK K rfl hr.units) (pe_callB call_isi (by rfl) T.z_isinstance (by decide +kernel) (pa_cons (pv 0) (pa_cons (pe_bltn (v := .ty "list") (u := .type "list") (by rfl) T.z_list (by decide +kernel) rfl) pa_nil))) (pe_callB call_isi (by rfl) T.z_isinstance (by decide +kernel) (pa_cons (pv 1) (pa_cons (pe_bltn (v := .ty "list") (u := .type "list") (by rfl) T.z_list (by decide +kernel) rfl) pa_nil))) (nomark _))))) (pss_one (ps_ret pe_bl)) pss_nil)
      (pss_cons (ps_if (pt_cmpR (op_neK K rfl hr.units) (pe_callB (call_lenK K rfl) (by rfl) T.z_len (by decide +kernel) (pa_cons (pv 0) pa_nil)) (pe_callB (call_lenK K rfl) (by rfl) T.z_len (by decide +kernel) (pa_cons (pv 1) pa_nil)) (nomark _)) (pss_one (ps_ret pe_bl)) pss_nil)
      (pss_one (ps_ret (pe_cmpR (op_eqK K rfl hr.units) (pe_lc rfl sc__law_alike.nd (pi_range1 (by rfl) T.z_range (pa_cons (pe_callB (call_lenK K rfl) (by rfl) T.z_len (by decide +kernel) (pa_cons (pv 1) pa_nil)) pa_nil)) (blkOk_by (own := [("k", 2)]) (N := N__law_alike) (by kernel_rfl)) (fun _ _ _ _ _ => (pg_name (i := 2) sc__law_alike.nd rfl (Or.inl rfl))) (fun _ _ _ _ _ => (pts_one (pt_not (pt_val (pe_call GREC hr (by rfl) T.g__law_alike T.F__law_alike.kp T.b__law_alike .nil pass0 (pa_cons (pe_ix (ix_seqK K rfl) (pv 0) (pv 2) (fun _ _ => rfl)) (pa_cons (pe_ix (ix_seqK K rfl) (pv 1) (pv 2) (fun _ _ => rfl)) pa_nil))))))) (fun _ _ _ _ _ => (pv 2))) (pe_lst pa_nil) (nomark _)))))) pss_nil)
      (pss_cons (ps_if (PW.pt (pw_or (pt_cmpR op_isN (pv 1) pe_non (nomark _)) (pw_or1 (pt_val (pe_callB call_isi (by rfl) T.z_isinstance (by decide +kernel) (pa_cons (pv 1) (pa_cons (pe_bltn (v := .ty "str") (u := .type "str") (by rfl) T.z_str (by decide +kernel) rfl) pa_nil))))))) (pss_one (ps_ret (pe_and (pe_cmpR (op_eqK K rfl hr.units) (pv 0) (pv 1) (nomark _)) (pe_one (pe_cmpR (op_eqK K rfl hr.units) (pe_callB call_isi (by rfl) T.z_isinstance (by decide +kernel) (pa_cons (pv 0) (pa_cons (pe_bltn (v := .ty "str") (u := .type "str") (by rfl) T.z_str (by decide +kernel) rfl) pa_nil))) (pe_callB call_isi (by rfl) T.z_isinstance (by decide +kernel) (pa_cons (pv 1) (pa_cons (pe_bltn (v := .ty "str") (u := .type "str") (by rfl) T.z_str (by decide +kernel) rfl) pa_nil))) (nomark _)))))) pss_nil)
      (pss_one (ps_ret (pe_and (pe_callB call_isi (by rfl) T.z_isinstance (by decide +kernel) (pa_cons (pv 0) (pa_cons (pe_bltn (v := .ty "int") (u := .type "int") (by rfl) T.z_int (by decide +kernel) rfl) pa_nil))) (pe_and (pe_cmpR (op_eqK K rfl hr.units) (pe_callB call_isi (by rfl) T.z_isinstance (by decide +kernel) (pa_cons (pv 0) (pa_cons (pe_bltn (v := .ty "bool") (u := .type "bool") (by rfl) T.z_bool (by decide +kernel) rfl) pa_nil))) (pe_callB call_isi (by rfl) T.z_isinstance (by decide +kernel) (pa_cons (pv 1) (pa_cons (pe_bltn (v := .ty "bool") (u := .type "bool") (by rfl) T.z_bool (by decide +kernel) rfl) pa_nil))) (nomark _)) (pe_one (pe_cmpR (op_eqK K rfl hr.units) (pv 0) (pv 1) (nomark _))))))))), ?_⟩
      -- the items of two alike rows
      have items : ∀ (es : List PyData) (G1 H1 : Hp) (ta tb : TE) (σ : L2.St) (tl : TE), σ = [some v1, some v2, none] → (∀ d ∈ es, good n d) → es.length ≤ 40000 → Eva K tl σ G1 H1 (.int es.length) →
          (∀ (i : Nat) d v G2 H2, es[i]? = some d → Adv G1 H1 G2 H2 → v = V.int (i : Nat) → Eva K ta (σ.set 2 (some v)) G2 H2 d) → (∀ (i : Nat) d v G2 H2, es[i]? = some d → Adv G1 H1 G2 H2 → v = V.int (i : Nat) → Eva K tb (σ.set 2 (some v)) G2 H2 d) →
          Eva K (tOp (rEqD K) (tLc (iRng1 (tCons tl tNil)) (gName 2) (tNot (tB (tCall (PureSp K (R_alike n)) [] E0 (tCons ta (tCons tb tNil))))) (tVar 2) [2]) (tLst tNil)) σ G1 H1 (.bool true) := fun es G1 H1 ta tb σ tl hσ hgs hlen hl h1 h2 => by
        subst hσ
        have S := src_rng1 hl (by omega) (by omega)
        rw [Int.toNat_natCast, rng_map] at S
        have L : Eva K (tLc (iRng1 (tCons tl tNil)) (gName 2) (tNot (tB (tCall (PureSp K (R_alike n)) [] E0 (tCons ta (tCons tb tNil))))) (tVar 2) [2]) [some v1, some v2, none] G1 H1 (.list []) := by
          refine eva_is (evan_eva (evan_lc (List.range es.length) _ (fun _ => false) (fun _ => .none) S (by rw [List.length_range]; exact hlen) fun i x v G' H' hx a' rv => bd_name ⟨rfl, ?_, fun z => by cases z⟩)) (by rw [List.filter_eq_nil_iff.mpr fun _ _ => Bool.false_ne_true]; rfl)
          obtain ⟨rfl, hi⟩ := range_get hx
          cases rp_int rv
          have hd : es[x]? = some es[x] := List.getElem?_eq_getElem hi
          refine evt_is (evt_not (evt_B (eva_call (evaA_cons (h1 x es[x] _ G' H' hd a' (by rw [Int.zero_add])) (evaA_cons (h2 x es[x] _ G' H' hd a' (by rw [Int.zero_add])) evaA_nil)) ⟨_, rfl, hgs _ (List.getElem_mem hi), rfl⟩))) rfl
        exact eva_is (eva_eq L (eva_lst evaA_nil) rfl rfl) rfl
      cases x with
      | tuple es =>
        refine qt_if k (b := true) (evt_is (evt_B (eva_isi2 (eva_var rfl r2))) rfl) (fun _ G1 H1 a1 => ?_) fun z => by cases z
        refine qt_unless a1.o (evt_or (b := false) (c := false) (evt_is (evt_not (evt_B (eva_isi2 (eva_var rfl (r1.ex a1.g))))) rfl) fun _ => evt_is (evt_test (eva_ne (eva_isi (eva_var rfl (r1.ex a1.g))) (eva_isi (eva_var rfl (r2.ex a1.g))) rfl rfl)) rfl) rfl fun G2 H2 a2 => ?_
        have q1 := r1.ex (a1.trans a2).g
        have q2 := r2.ex (a1.trans a2).g
        refine qt_unless a2.o (evt_is (evt_test (eva_neI (eva_len (eva_var rfl q1) (.inr rfl)) (eva_len (eva_var rfl q2) (.inr rfl)))) (by simp)) rfl fun G3 H3 a3 => ?_
        refine st_ret a3.o (items es G3 H3 _ _ _ _ rfl hg.2 hg.1 (eva_len (eva_var rfl (q2.ex a3.g)) (.inr rfl)) (fun i d v G4 H4 he a4 hv => ?_) fun i d v G4 H4 he a4 hv => ?_) fun v G4 H4 a4 rv => q v G4 H4 (((a1.trans a2).trans a3).trans a4) rv
        · subst hv; exact eva_ixT (eva_var rfl ((q1.ex a3.g).ex a4.g)) (eva_var rfl (.int _)) (atI_nat he)
        · subst hv; exact eva_ixT (eva_var rfl ((q2.ex a3.g).ex a4.g)) (eva_var rfl (.int _)) (atI_nat he)
      | list es =>
        refine qt_if k (b := true) (evt_is (evt_B (eva_isi2 (eva_var rfl r2))) rfl) (fun _ G1 H1 a1 => ?_) fun z => by cases z
        refine qt_unless a1.o (evt_or (b := false) (c := false) (evt_is (evt_not (evt_B (eva_isi2 (eva_var rfl (r1.ex a1.g))))) rfl) fun _ => evt_is (evt_test (eva_ne (eva_isi (eva_var rfl (r1.ex a1.g))) (eva_isi (eva_var rfl (r2.ex a1.g))) rfl rfl)) rfl) rfl fun G2 H2 a2 => ?_
        have q1 := r1.ex (a1.trans a2).g
        have q2 := r2.ex (a1.trans a2).g
        refine qt_unless a2.o (evt_is (evt_test (eva_neI (eva_len (eva_var rfl q1) (.inl rfl)) (eva_len (eva_var rfl q2) (.inl rfl)))) (by simp)) rfl fun G3 H3 a3 => ?_
        refine st_ret a3.o (items es G3 H3 _ _ _ _ rfl hg.2 hg.1 (eva_len (eva_var rfl (q2.ex a3.g)) (.inl rfl)) (fun i d v G4 H4 he a4 hv => ?_) fun i d v G4 H4 he a4 hv => ?_) fun v G4 H4 a4 rv => q v G4 H4 (((a1.trans a2).trans a3).trans a4) rv
        · subst hv; exact eva_ixL (eva_var rfl ((q1.ex a3.g).ex a4.g)) (eva_var rfl (.int _)) (atI_nat he)
        · subst hv; exact eva_ixL (eva_var rfl ((q2.ex a3.g).ex a4.g)) (eva_var rfl (.int _)) (atI_nat he)
      | dict _ => exact hg.elim
      | none =>
        refine qt_unless k (evt_is (evt_B (eva_isi2 (eva_var rfl r2))) rfl) rfl fun G1 H1 a1 => ?_
        refine qt_when a1.o (evt_or (b := true) (c := true) (evt_test (eva_isN (eva_var rfl (r2.ex a1.g)))) fun z => by cases z) (fun _ G2 H2 a2 => ?_) fun z => by cases z
        have q1 := r1.ex (a1.trans a2).g
        have q2 := r2.ex (a1.trans a2).g
        exact st_ret a2.o (eva_and (b := true) (c := true) (eva_is (eva_eq (eva_var rfl q1) (eva_var rfl q2) rfl rfl) (by simp [PyData.eqv])) fun _ => eva_is (eva_eq (eva_isi (eva_var rfl q1)) (eva_isi (eva_var rfl q2)) rfl rfl) rfl) fun v G3 H3 a3 rv => q v G3 H3 ((a1.trans a2).trans a3) rv
      | str x =>
        refine qt_unless k (evt_is (evt_B (eva_isi2 (eva_var rfl r2))) rfl) rfl fun G1 H1 a1 => ?_
        refine qt_when a1.o (evt_or (b := false) (c := true) (evt_test (eva_isN (eva_var rfl (r2.ex a1.g)))) fun z => evt_is (evt_B (eva_isi (eva_var rfl (r2.ex a1.g)))) rfl) (fun _ G2 H2 a2 => ?_) fun z => by cases z
        have q1 := r1.ex (a1.trans a2).g
        have q2 := r2.ex (a1.trans a2).g
        exact st_ret a2.o (eva_and (b := true) (c := true) (eva_is (eva_eq (eva_var rfl q1) (eva_var rfl q2) hg hg) (by simp [PyData.eqv])) fun _ => eva_is (eva_eq (eva_isi (eva_var rfl q1)) (eva_isi (eva_var rfl q2)) rfl rfl) rfl) fun v G3 H3 a3 rv => q v G3 H3 ((a1.trans a2).trans a3) rv
      | int x =>
        refine qt_unless k (evt_is (evt_B (eva_isi2 (eva_var rfl r2))) rfl) rfl fun G1 H1 a1 => ?_
        refine qt_unless a1.o (evt_or (b := false) (c := false) (evt_test (eva_isN (eva_var rfl (r2.ex a1.g)))) fun z => evt_is (evt_B (eva_isi (eva_var rfl (r2.ex a1.g)))) rfl) rfl fun G2 H2 a2 => ?_
        have q1 := r1.ex (a1.trans a2).g
        have q2 := r2.ex (a1.trans a2).g
        exact st_ret a2.o (eva_and (b := true) (c := true) (eva_is (eva_isi (eva_var rfl q1)) rfl) fun _ => eva_and (b := true) (c := true) (eva_is (eva_eq (eva_isi (eva_var rfl q1)) (eva_isi (eva_var rfl q2)) rfl rfl) rfl) fun _ => eva_is (eva_eq (eva_var rfl q1) (eva_var rfl q2) rfl rfl) (by simp [PyData.eqv])) fun v G3 H3 a3 rv => q v G3 H3 ((a1.trans a2).trans a3) rv
      | bool x =>
        refine qt_unless k (evt_is (evt_B (eva_isi2 (eva_var rfl r2))) rfl) rfl fun G1 H1 a1 => ?_
        refine qt_unless a1.o (evt_or (b := false) (c := false) (evt_test (eva_isN (eva_var rfl (r2.ex a1.g)))) fun z => evt_is (evt_B (eva_isi (eva_var rfl (r2.ex a1.g)))) rfl) rfl fun G2 H2 a2 => ?_
        have q1 := r1.ex (a1.trans a2).g
        have q2 := r2.ex (a1.trans a2).g
        exact st_ret a2.o (eva_and (b := true) (c := true) (eva_is (eva_isi (eva_var rfl q1)) rfl) fun _ => eva_and (b := true) (c := true) (eva_is (eva_eq (eva_isi (eva_var rfl q1)) (eva_isi (eva_var rfl q2)) rfl rfl) rfl) fun _ => eva_is (eva_eq (eva_var rfl q1) (eva_var rfl q2) rfl rfl) (by simp [PyData.eqv])) fun v G3 H3 a3 rv => q v G3 H3 ((a1.trans a2).trans a3) rv
end
end K03

set_option Elab.async false
set_option linter.all false
set_option maxRecDepth 100000
set_option maxHeartbeats 2000000
namespace Vf
open PySem PySem.Spec PyProof.Rows L2
open Evl hiding Ex Ex.refl Ex.trans Ex.new Ex.mut ex_rd ex_l ex_t fresh_back

/-! ### the row that is drawn from -/
section
variable {K : PySem.W.Frag} {σ : L2.St} {G H G' H' : Hp} {ta tb te tl : TE} {tt : TT} {r p sc : Addr} {v : V} {d : PyData}
theorem evv_ixO {i : Int} {vs : List V} (ha : EvaV ta σ G H (.ref p)) (hb : Eva K tb σ G H (.int i)) (w : H p = some (.lst vs)) (e : atI vs i = some v) : EvaV (tOp (rIx K) ta tb) σ G H v := fun G1 H1 a Q q =>
  ha G1 H1 a _ fun G2 H2 a2 => hb G2 H2 (a.trans a2) _ fun x G3 H3 a3 h3 => by
    cases rp_int h3
    exact .inl ⟨p, vs, i, v, rfl, rfl, SqL.of (((a.trans a2).trans a3).h _ _ w), e, q G3 H3 (a2.trans a3)⟩
theorem eva_lenS {xs : List V} (ha : EvaV ta σ G H (.ref p)) (w : SqL K H p xs) : Eva K (tCB (fun xs H Q => ∃ p ys, xs = [.ref p] ∧ (SqL K H p ys ∨ SqT K H p ys) ∧ Q (.int ys.length) H) (tCons ta tNil)) σ G H (.int xs.length) := fun G1 H1 a Q q =>
  ha G1 H1 a _ fun G2 H2 a2 => ⟨p, xs, rfl, .inl (ex_l (a.trans a2).h w), q _ G2 H2 a2 (.int _)⟩
theorem eva_ixS {ns : List Int} {i n : Int} (ha : EvaV ta σ G H (.ref p)) (hb : Eva K tb σ G H (.int i)) (w : SqL K H p (ns.map V.int)) (e : atI ns i = some n) : Eva K (tOp (rIx K) ta tb) σ G H (.int n) := fun G1 H1 a Q q =>
  ha G1 H1 a _ fun G2 H2 a2 => hb G2 H2 (a.trans a2) _ fun x G3 H3 a3 h3 => by
    cases rp_int h3
    refine .inl ⟨p, _, i, .int n, rfl, rfl, ex_l ((a.trans a2).trans a3).h w, ?_, q _ G3 H3 (a2.trans a3) (.int _)⟩
    unfold atI at e ⊢
    rw [List.length_map]
    cases c : ixN ns.length i with
    | none => rw [c] at e; cases e
    | some j => rw [c] at e; show (ns.map V.int)[j]? = _; rw [List.getElem?_map, show ns[j]? = some n from e]; rfl
def rowV (sc : Addr) (a b c : Int) : List V := [.ref sc, .int a, .int b, .int c]
def RowI (K : PySem.W.Frag) (r : Addr) (G H : Hp) : Prop := ∃ (sc : Addr) (ns : List Int) (a b c : Int), Own G H r (.lst (rowV sc a b c)) ∧ SqL K G sc (ns.map V.int) ∧ 0 ≤ a
theorem RowI.adv (h : RowI K r G H) (a : Adv G H G' H') : RowI K r G' H' := by
  obtain ⟨sc, ns, x, y, z, w, s, h0⟩ := h
  exact ⟨sc, ns, x, y, z, w.adv a, ex_l a.g s, h0⟩
theorem RowI.advR {rs : List Addr} (h : RowI K r G H) (a : AdvR rs G H G' H') (n : r ∉ rs) : RowI K r G' H' := by
  obtain ⟨sc, ns, x, y, z, w, s, h0⟩ := h
  exact ⟨sc, ns, x, y, z, w.advR a n, ex_l a.g s, h0⟩
theorem RowI.ne {o : HO} (h : RowI K r G H) (w : Own G H p o) (hn : ∀ sc a b c, o ≠ .lst (rowV sc a b c)) : p ≠ r := fun e => by
  obtain ⟨sc, ns, x, y, z, w', s, h0⟩ := h
  rw [e] at w
  have := w.h.symm.trans w'.h
  exact hn _ _ _ _ (Option.some.inj this)
theorem RowI.live (h : RowI K r G H) : ∃ o, H r = some o := by obtain ⟨sc, ns, x, y, z, w, s, h0⟩ := h; exact ⟨_, w.h⟩
theorem AdvR.refl {rs : List Addr} (k : Ex G H) : AdvR rs G H G H := (Adv.refl k).toR
/-- a draw -/
def TakenSp (K : PySem.W.Frag) : Sp := fun vs H Q _ => ∃ G r many, Ex G H ∧ vs = [.ref r, .int many] ∧ RowI K r G H ∧ 0 < many ∧ many < 1073741824 ∧
  ∀ x G' H', 0 ≤ x → x < many → AdvR [r] G H G' H' → RowI K r G' H' → Q (.int x) H'
/-- an expression that may draw -/
def EvR (K : PySem.W.Frag) (r : Addr) (te : TE) (σ : L2.St) (G H : Hp) (D : PyData → Prop) : Prop := ∀ G1 H1, AdvR [r] G H G1 H1 → RowI K r G1 H1 → ∀ Q : VK, (∀ v d G2 H2, D d → AdvR [r] G1 H1 G2 H2 → RowI K r G2 H2 → Rp K G2 v d → Q v H2) → te σ H1 Q
def EvRA (K : PySem.W.Frag) (r : Addr) (ta : TA) (σ : L2.St) (G H : Hp) (D : List PyData → Prop) : Prop := ∀ G1 H1, AdvR [r] G H G1 H1 → RowI K r G1 H1 → ∀ Q : List V → Hp → Prop, (∀ vs ds G2 H2, D ds → AdvR [r] G1 H1 G2 H2 → RowI K r G2 H2 → RpAll K G2 vs ds → Q vs H2) → ta σ H1 Q
theorem evr_of (h : ∀ G1 H1, AdvR [r] G H G1 H1 → Eva K te σ G1 H1 d) : EvR K r te σ G H (fun x => x = d) := fun G1 H1 a w Q q =>
  h G1 H1 a G1 H1 (.refl a.o) _ fun v G2 H2 a2 rv => q v d G2 H2 rfl a2.toR (w.adv a2) rv
theorem evr_imp {D D' : PyData → Prop} (h : EvR K r te σ G H D) (f : ∀ d, D d → D' d) : EvR K r te σ G H D' := fun G1 H1 a w Q q => h G1 H1 a w Q fun v d G2 H2 hd => q v d G2 H2 (f d hd)
theorem evr_mono {D : PyData → Prop} (h : EvR K r te σ G H D) (b : AdvR [r] G H G' H') : EvR K r te σ G' H' D := fun G1 H1 a w Q q => h G1 H1 (b.trans a) w Q q
/-- _law_taken(row, e) -/
theorem evr_taken {many : Int} {E : XK} (hr : ∀ G1 H1, AdvR [r] G H G1 H1 → EvaV ta σ G1 H1 (.ref r)) (hm : ∀ G1 H1, AdvR [r] G H G1 H1 → Eva K tb σ G1 H1 (.int many)) (h0 : 0 < many) (h1 : many < 1073741824) :
    EvR K r (tCall (TakenSp K) [] E (tCons ta (tCons tb tNil))) σ G H (fun d => ∃ x, d = .int x ∧ 0 ≤ x ∧ x < many) := fun G1 H1 a w Q q =>
  hr G1 H1 a G1 H1 (.refl a.o) _ fun G2 H2 a2 => hm G2 H2 (a.trans a2.toR) G2 H2 a2.ok _ fun v G3 H3 a3 rv => by
    cases rp_int rv
    exact ⟨G3, r, many, a3.o, rfl, (w.adv a2).adv a3, h0, h1, fun x G4 H4 x0 x1 a4 w4 => q _ _ G4 H4 ⟨x, rfl, x0, x1⟩ ((a2.trans a3).toR.trans a4) w4 (.int x)⟩
theorem evr_op {g : Int → Int → Int} {A B : Int → Prop} (ha : EvR K r ta σ G H fun d => ∃ x, d = .int x ∧ A x) (hb : EvR K r tb σ G H fun d => ∃ x, d = .int x ∧ B x) :
    EvR K r (tOp (rI0 fun i j => .int (g i j)) ta tb) σ G H (fun d => ∃ x y, d = .int (g x y) ∧ A x ∧ B y) := fun G1 H1 a w Q q =>
  ha G1 H1 a w _ fun v d G2 H2 hd a2 w2 rv => hb G2 H2 (a.trans a2) w2 _ fun v' d' G3 H3 hd' a3 w3 rv' => by
    obtain ⟨x, rfl, hx⟩ := hd
    obtain ⟨y, rfl, hy⟩ := hd'
    cases rp_int rv
    cases rp_int rv'
    exact ⟨x, y, rfl, rfl, q _ _ G3 H3 ⟨x, y, rfl, hx, hy⟩ (a2.trans a3) w3 (.int _)⟩
theorem evrA_nil : EvRA K r tNil σ G H (fun ds => ds = []) := fun G1 H1 a w Q q => q [] [] G1 H1 rfl (.refl a.o) w .nil
theorem evrA_cons {tr : TA} {D : PyData → Prop} {Ds : List PyData → Prop} (h : EvR K r te σ G H D) (hr : EvRA K r tr σ G H Ds) : EvRA K r (tCons te tr) σ G H (fun ds => ∃ d es, ds = d :: es ∧ D d ∧ Ds es) := fun G1 H1 a w Q q =>
  h G1 H1 a w _ fun v d G2 H2 hd a2 w2 rv => hr G2 H2 (a.trans a2) w2 _ fun vs ds G3 H3 hds a3 w3 rvs => q _ _ G3 H3 ⟨d, ds, rfl, hd, hds⟩ (a2.trans a3) w3 (.cons (rv.ex a3.g) rvs)
theorem evr_tup {tA : TA} {Ds : List PyData → Prop} (h : EvRA K r tA σ G H Ds) (hl : ∀ ds, Ds ds → ds.length ≤ 100000) : EvR K r (tTup tA) σ G H (fun d => ∃ ds, d = .tuple ds ∧ Ds ds) := fun G1 H1 a w Q q =>
  h G1 H1 a w _ fun vs ds G2 H2 hd a2 w2 rv => ⟨sz_of (by rw [rpa_len rv]; exact hl ds hd), fun p hp => by
    have a3 : Adv G2 H2 (upd G2 p (.tup vs)) (upd H2 p (.tup vs)) := .new a2.o hp
    exact q _ _ _ _ ⟨ds, rfl, hd⟩ (a2.trans a3.toR) (w2.adv a3) (.tup (SqT.of upd_same) (rv.ex a3.g))⟩
/-- [f x for x in xs], f may draw -/
theorem evr_lc {wi : TI} {g : TG} {vs : List Nat} {α : Type} (xs : List α) (enc : α → PyData) (D : α → PyData → Prop) (S : ∀ G1 H1, AdvR [r] G H G1 H1 → Src K wi σ G1 H1 (xs.map enc)) (hz : xs.length ≤ 40000)
    (hb : ∀ (i : Nat) x v G' H', xs[i]? = some x → AdvR [r] G H G' H' → Rp K G' v (enc x) → Bd g (wipe σ vs) v H' fun σ2 => wipe σ2 vs = wipe σ vs ∧ EvR K r te σ2 G' H' (D x)) :
    EvR K r (tLc wi g tYes te vs) σ G H (fun d => ∃ ds : List PyData, d = .list ds ∧ ds.length = xs.length ∧ ∀ (i : Nat) x e, xs[i]? = some x → ds[i]? = some e → D x e) := fun G1 H1 a w Q q => S G1 H1 a G1 H1 (.refl a.o) _ fun J G2 H2 a2 wk Dl hD => by
  have nr : r ≠ Dl := by obtain ⟨o, e⟩ := (w.adv a2).live; exact ne_of_none e hD
  refine ⟨fun i m H' => m = xs.length - i ∧ i ≤ xs.length ∧ ∃ G' acc ds, AdvR [r] G2 H2 G' H' ∧ RowI K r G' H' ∧ Own G' H' Dl (.lst acc) ∧ RpAll K G' acc ds ∧ ds.length = i ∧ ∀ (j : Nat) x e, xs[j]? = some x → ds[j]? = some e → D x e,
    ⟨xs.length, rfl, Nat.zero_le _, G2, [], [], (Adv.lay a2.o hD).toR, (w.adv a2).adv (Adv.lay a2.o hD), ⟨upd_same, fresh_back a2.o hD, fun _ z => nomatch z⟩, .nil, rfl, fun j x e _ h => by simp at h⟩, ?_⟩
  rintro i m H' ⟨rfl, hi, G', acc, ds, a3, w3, ow, ra, hl, hds⟩
  obtain ⟨wk1, wk2, wk3⟩ := wk i G' H' a3.g a3.o
  rw [List.length_map] at wk1 wk2 wk3
  by_cases hlt : i < xs.length
  · refine .inr ⟨wk1 hlt, fun H' => ∃ G' acc ds, AdvR [r] G2 H2 G' H' ∧ RowI K r G' H' ∧ Own G' H' Dl (.lst acc) ∧ RpAll K G' acc ds ∧ ds.length = i + 1 ∧ ∀ (j : Nat) x e, xs[j]? = some x → ds[j]? = some e → D x e, fun H'' hN => ⟨xs.length - (i + 1), by omega, rfl, hlt, hN⟩, fun x H'' y => ?_⟩
    obtain ⟨d, G'', hd, a4, rx⟩ := wk3 x H'' y hlt
    rw [List.getElem?_map, List.getElem?_eq_getElem hlt] at hd
    cases hd
    have hxi : xs[i]? = some xs[i] := List.getElem?_eq_getElem hlt
    refine hb i xs[i] x G'' H'' hxi ((a.trans a2.toR).trans (a3.trans a4.toR)) rx _ fun σ2 hσ => ?_
    obtain ⟨hw, he⟩ := hσ
    refine ⟨hw, ?_⟩
    dsimp only [tYes]
    rw [if_pos rfl]
    refine he G'' H'' (.refl a4.o) (w3.adv a4) _ fun v d' G6 H6 hd' a6 w6 rv => ?_
    have ow6 := (ow.adv a4).advR a6 (by simp [Ne.symm nr])
    have hl6 := rpa_len ra
    have an : AdvR [r, Dl] G2 H2 G6 (upd H6 Dl (.lst (acc ++ [v]))) := (((a3.trans a4.toR).trans a6).wk (by simp)).trans ((ow6.chg a6.o).wk (by simp))
    have an' : AdvR [r] G2 H2 G6 (upd H6 Dl (.lst (acc ++ [v]))) := by
      have z : AdvR [Dl, r] G2 H2 G6 (upd H6 Dl (.lst (acc ++ [v]))) := an.wk (fun b hb => by simpa [or_comm] using hb)
      exact z.drop hD
    refine ⟨acc, ow6.h, sz_lt (by omega), G6, acc ++ [v], ds ++ [d'], an', w6.advR (ow6.chg a6.o) (by simp [nr]), ow6.put, rpa_app (ra.ex (a4.g.trans a6.g)) (.cons rv .nil), by rw [List.length_append, hl]; rfl, fun j x e h1 h2 => ?_⟩
    by_cases hj : j < ds.length
    · rw [List.getElem?_append_left hj] at h2; exact hds j x e h1 h2
    · rw [List.getElem?_append_right (by omega)] at h2
      have hj2 : j = i := by
        have := (List.getElem?_eq_some_iff.mp h2).1
        simp at this; omega
      subst hj2
      rw [hxi] at h1
      cases h1
      rw [show j - ds.length = 0 by omega] at h2
      cases h2
      exact hd'
  · have e : i = xs.length := by omega
    subst e
    refine .inl ⟨wk2 (Nat.le_refl _), ?_⟩
    have n2 : Dl ∉ [r] := by simp [Ne.symm nr]
    have af : AdvR [r] G2 H2 (upd G' Dl (.lst acc)) H' := by
      have z : AdvR [Dl, r] G2 H2 (upd G' Dl (.lst acc)) H' := (a3.wk (by simp)).trans ((ow.fix a3.o).wk (by simp))
      exact z.drop hD
    have wf : RowI K r (upd G' Dl (.lst acc)) H' := w3.advR (ow.fix a3.o) (by simp [nr])
    exact q _ _ (upd G' Dl (.lst acc)) H' ⟨ds, rfl, hl, hds⟩ (a2.toR.trans af) wf (.lst upd_same (ra.ex (Ex.new ow.g)))
/-! slices -/
def cutL {α : Type} (ds : List α) (lo hi : Option Int) : List α := (ds.drop (HT.sIx ds.length 0 lo)).take (HT.sIx ds.length ds.length hi - HT.sIx ds.length 0 lo)
theorem cutL_map {α β : Type} (f : α → β) (l : List α) (lo hi : Option Int) : cutL (l.map f) lo hi = (cutL l lo hi).map f := by
  unfold cutL; rw [List.length_map, List.map_take, List.map_drop]
theorem cutL_mem {α : Type} {l : List α} {lo hi : Option Int} {x : α} (h : x ∈ cutL l lo hi) : x ∈ l := List.mem_of_mem_drop (List.mem_of_mem_take h)
theorem cutL_len {α : Type} (l : List α) (lo hi : Option Int) : (cutL l lo hi).length ≤ l.length := by
  unfold cutL; rw [List.length_take, List.length_drop]; omega
theorem evo_none : EvaO tNoPart σ G H none := fun G1 H1 a Q q => q G1 H1 a.ok
theorem evo_some {i : Int} (h : Eva K te σ G H (.int i)) : EvaO (tPart te) σ G H (some i) := fun G1 H1 a Q q => h G1 H1 a _ fun v G2 H2 a2 r => by
  cases rp_int r
  exact ⟨i, rfl, q G2 H2 a2⟩
theorem evan_sl {tlo thi : TO} {lo hi : Option Int} {ds : List PyData} (h : Eva K te σ G H (.list ds)) (h1 : EvaO tlo σ G H lo) (h2 : EvaO thi σ G H hi) : EvaN (tSl (rSlL K) te tlo thi) σ G H (isL K (cutL ds lo hi)) := fun G1 H1 a Q q =>
  h G1 H1 a _ fun v G2 H2 a2 r => h1 G2 H2 (a.trans a2) _ fun G3 H3 a3 => h2 G3 H3 ((a.trans a2).trans a3) _ fun G4 H4 a4 => by
    cases r with
    | @lst p xs _ hs hr =>
      refine ⟨p, xs, rfl, SqL.of (((a3.trans a4).g.trans a4.o) _ _ hs), fun l hl => q l _ G4 _ (((a2.trans a3).trans a4).free hl) (((a2.trans a3).trans a4).trans (Adv.lay a4.o hl)) ⟨upd_same, fresh_back a4.o hl, fun _ z => nomatch z⟩ ⟨_, rfl, ?_⟩⟩
      unfold cutV cutL
      rw [rpa_len hr]
      exact rpa_take _ (rpa_drop _ (hr.ex (a3.trans a4).g))
/-! statements that draw -/
variable {D : Ends} {tz tu tw tb : TS} {g : TG}
theorem st_asgR {i : Nat} {A : PyData → Prop} (k : Ex G H) (w : RowI K r G H) (h : EvR K r te σ G H A) (c : ∀ v d G1 H1, A d → AdvR [r] G H G1 H1 → RowI K r G1 H1 → Rp K G1 v d → D.nx (σ.set i (some v)) H1) : tAsg te (gName i) D σ H :=
  h G H (.refl k) w _ fun v d G1 H1 hd a w' rv => c v d G1 H1 hd a w' rv
theorem qt_asgR {i : Nat} {A : PyData → Prop} (k : Ex G H) (w : RowI K r G H) (h : EvR K r te σ G H A) (c : ∀ v d G1 H1, A d → AdvR [r] G H G1 H1 → RowI K r G1 H1 → Rp K G1 v d → tz D (σ.set i (some v)) H1) : tSeq (tAsg te (gName i)) tz D σ H :=
  st_asgR (D := { D with nx := tz D }) k w h c
theorem evr_cat {ds : List PyData} {A : PyData → Prop} {n : Nat} (ha : ∀ G1 H1, AdvR [r] G H G1 H1 → Eva K ta σ G1 H1 (.list ds)) (hb : EvR K r te σ G H fun d => ∃ es, d = .list es ∧ es.length ≤ n ∧ A d) (hz : ds.length + n ≤ 100000) :
    EvR K r (tOp rCat ta te) σ G H (fun d => ∃ es, d = .list (ds ++ es) ∧ A (.list es)) := fun G1 H1 a w Q q =>
  ha G1 H1 a G1 H1 (.refl a.o) _ fun v G2 H2 a2 r2 => hb G2 H2 (a.trans a2.toR) (w.adv a2) _ fun v' d' G3 H3 hd' a3 w3 r3 => by
    obtain ⟨es, rfl, hl, hA⟩ := hd'
    cases r2 with
    | @lst p1 xs _ hs hr =>
      cases r3 with
      | @lst p2 ys _ hs' hr' =>
        refine ⟨_, _, _, _, rfl, rfl, a3.o _ _ (a3.g _ _ hs), a3.o _ _ hs', sz_of (by rw [rpa_len hr, rpa_len hr']; omega), fun l hl => ?_⟩
        have a4 := Adv.new (o := .lst (xs ++ ys)) a3.o hl
        exact q _ _ _ _ ⟨es, rfl, hA⟩ ((a2.toR.trans a3).trans a4.toR) (w3.adv a4) (.lst upd_same ((rpa_app (hr.ex a3.g) hr').ex a4.g))
/-- a, b, c = e1, e2, []: the list one's own -/
theorem qt_rowstart {i j l : Nat} {A B : PyData → Prop} (k : Ex G H) (w : RowI K r G H) (ha : EvR K r ta σ G H A) (hb : EvR K r te σ G H B)
    (c : ∀ v1 d1 v2 d2 p G1 H1, A d1 → B d2 → AdvR [r] G H G1 H1 → RowI K r G1 H1 → Rp K G1 v1 d1 → Rp K G1 v2 d2 → H p = none → p ≠ r → Own G1 H1 p (.lst []) → tz D (((σ.set i (some v1)).set j (some v2)).set l (some (.ref p))) H1) :
    tSeq (tAsg (tTup (tCons ta (tCons te (tCons (tLst tNil) tNil)))) (gTup K 3 (gCons (gName i) (gCons (gName j) (gCons (gName l) gNil))))) tz D σ H :=
  ha G H (.refl k) w _ fun v1 d1 G1 H1 h1 a1 w1 r1 => hb G1 H1 a1 w1 _ fun v2 d2 G2 H2 h2 a2 w2 r2 => ⟨Nat.zero_le _, fun p hp => ⟨by show 3 ≤ sizeLine; decide, fun t ht => by
    have a3 : Adv G2 H2 G2 (upd H2 p (.lst [])) := .lay a2.o hp
    have a4 : Adv G2 (upd H2 p (.lst [])) (upd G2 t (.tup [v1, v2, .ref p])) (upd (upd H2 p (.lst [])) t (.tup [v1, v2, .ref p])) := .new a3.o ht
    have w3 := w2.adv a3
    have pr : p ≠ r := by
      obtain ⟨o, e⟩ := w2.live
      exact fun z => by rw [z, e] at hp; cases hp
    have op : Own G2 (upd H2 p (.lst [])) p (.lst []) := ⟨upd_same, fresh_back a2.o hp, fun _ z => nomatch z⟩
    refine ⟨t, _, rfl, SqT.of upd_same, rfl, _, _, rfl, _, _, rfl, _, _, rfl, rfl, ?_⟩
    exact c v1 d1 v2 d2 p _ _ h1 h2 ((a1.trans a2).trans (a3.trans a4).toR) (w3.adv a4) (r1.ex (a2.g.trans (a3.trans a4).g)) (r2.ex (a3.trans a4).g) ((a1.trans a2).free hp (by simpa using pr)) pr (op.adv a4)⟩⟩
/-- for k in range(e), e drawn -/
theorem st_forRow {N : Int} (hN : N ≤ 1000000) (k : Ex G H) (w : RowI K r G H) (hn : EvR K r te σ G H fun d => ∃ x, d = .int x ∧ 0 ≤ x ∧ x < N) (Pv : Nat → Nat → L2.St → Hp → Hp → Prop)
    (h0 : ∀ (n : Nat) G1 H1, (n : Int) < N → AdvR [r] G H G1 H1 → RowI K r G1 H1 → Pv n 0 σ G1 H1) (hx : ∀ n i σ' G' H', Pv n i σ' G' H' → Ex G' H')
    (hs : ∀ n i σ' G' H', i < n → Pv n i σ' G' H' → Bd g σ' (.int (i : Nat)) H' fun σ2 => tb { D with nx := fun σ H => ∃ G, Pv n (i + 1) σ G H, ct := fun σ H => ∃ G, Pv n (i + 1) σ G H, bk := D.nx } σ2 H')
    (hd : ∀ n σ' G' H', Pv n n σ' G' H' → D.nx σ' H') : tFor (iRng1 (tCons te tNil)) g tb D σ H := hn G H (.refl k) w _ fun v d G1 H1 hd' a1 w1 rv => by
  obtain ⟨x, rfl, x0, x1⟩ := hd'
  cases rp_int rv
  refine ⟨x, rfl, by omega, by omega, fun i m σ' H' => m = x.toNat - i ∧ i ≤ x.toNat ∧ ∃ G', Pv x.toNat i σ' G' H', ⟨x.toNat, rfl, Nat.zero_le _, G1, h0 _ G1 H1 (by omega) a1 w1⟩, ?_⟩
  rintro i m σ' H' ⟨rfl, hi, G', p⟩
  by_cases hlt : i < x.toNat
  · refine .inr ⟨hlt, fun σ H => ∃ G, Pv x.toNat (i + 1) σ G H, fun σ'' H'' hN => ⟨x.toNat - (i + 1), by omega, rfl, hlt, hN⟩, fun z H'' y => ?_⟩
    obtain ⟨rfl, rfl⟩ := y
    rw [Int.zero_add]
    exact hs _ i σ' G' H'' hlt p _ fun σ2 q => q
  · have e : i = x.toNat := by omega
    subst e
    exact .inl ⟨Nat.le_refl _, hd _ _ _ _ p⟩
theorem qt_forRow {N : Int} (hN : N ≤ 1000000) (k : Ex G H) (w : RowI K r G H) (hn : EvR K r te σ G H fun d => ∃ x, d = .int x ∧ 0 ≤ x ∧ x < N) (Pv : Nat → Nat → L2.St → Hp → Hp → Prop)
    (h0 : ∀ (n : Nat) G1 H1, (n : Int) < N → AdvR [r] G H G1 H1 → RowI K r G1 H1 → Pv n 0 σ G1 H1) (hx : ∀ n i σ' G' H', Pv n i σ' G' H' → Ex G' H')
    (hs : ∀ n i σ' G' H', i < n → Pv n i σ' G' H' → Bd g σ' (.int (i : Nat)) H' fun σ2 => tb { D with nx := fun σ H => ∃ G, Pv n (i + 1) σ G H, ct := fun σ H => ∃ G, Pv n (i + 1) σ G H, bk := tz D } σ2 H')
    (hd : ∀ n σ' G' H', Pv n n σ' G' H' → tz D σ' H') : tSeq (tFor (iRng1 (tCons te tNil)) g tb) tz D σ H := st_forRow (D := { D with nx := tz D }) hN k w hn Pv h0 hx hs hd
/-- xs.append(e), e drawn -/
theorem st_appR {vs : List V} {i : Nat} {A : PyData → Prop} (k : Ex G H) (w : RowI K r G H) (hi : σ[i]? = some (some (.ref p))) (ow : Own G H p (.lst vs)) (n : p ≠ r) (h : EvR K r te σ G H A) (hz : vs.length < 100000)
    (c : ∀ v d G1 H1, A d → AdvR [r, p] G H G1 H1 → RowI K r G1 H1 → Own G1 H1 p (.lst (vs ++ [v])) → Rp K G1 v d → D.nx σ H1) : tDrop (tBM K "list" rAppend (tVar i) (tCons te tNil)) D σ H :=
  ⟨_, hi, .inl ⟨rfl, vs, SqL.of ow.h⟩, h G H (.refl k) w _ fun v d G1 H1 hd a1 w1 rv => by
    have o1 := ow.advR a1 (by simpa using n)
    exact ⟨p, vs, v, rfl, rfl, o1.h, sz_lt hz, c v d G1 _ hd ((a1.wk (by simp)).trans ((o1.chg a1.o).wk (by simp))) (w1.advR (o1.chg a1.o) (by simpa using Ne.symm n)) o1.put rv⟩⟩
/-- an if whose ways meet -/
theorem ct_when {t : TT} {b : Bool} (Iv : L2.St → Hp → Hp → Prop) (k : Ex G H) (h : EvaT t σ G H b) (h1 : b = true → ∀ G1 H1, Adv G H G1 H1 → tu { D with nx := fun σ H => ∃ G, Iv σ G H } σ H1) (h2 : b = false → ∀ G1 H1, Adv G H G1 H1 → Iv σ G1 H1)
    (rest : ∀ σ' G' H', Iv σ' G' H' → tz D σ' H') : tCut (tIfS t tu tNext) tz D σ H :=
  ⟨fun σ H => ∃ G, Iv σ G H, st_if (D := { D with nx := fun σ H => ∃ G, Iv σ G H }) k h h1 (fun hb G1 H1 a => ⟨G1, h2 hb G1 H1 a⟩), fun σ' H' ⟨G', i⟩ => rest σ' G' H' i⟩
end
end Vf
namespace Vf
open PySem PySem.Spec PyProof.Rows L2
open Evl hiding Ex Ex.refl Ex.trans Ex.new Ex.mut ex_rd ex_l ex_t fresh_back
section
variable {K : PySem.W.Frag} {σ : L2.St} {G H G' H' : Hp} {ta tb te tl : TE} {p : Addr} {d : PyData}
theorem depthAll_le {n : Nat} : ∀ {ds : List PyData}, (∀ d ∈ ds, PyData.depth d ≤ n) → PyData.depthAll ds ≤ n
  | [], _ => Nat.zero_le _
  | d :: ds, h => by
    unfold PyData.depthAll
    exact Nat.max_le.mpr ⟨h d List.mem_cons_self, depthAll_le fun x hx => h x (List.mem_cons_of_mem _ hx)⟩
theorem canLayAll {ds : List PyData} (h : ∀ d ∈ ds, PyData.canLay0 d = true) : PyData.canLayAll0 ds = true := by
  induction ds with
  | nil => rfl
  | cons d ds ih =>
    unfold PyData.canLayAll0
    rw [h d List.mem_cons_self, ih fun x hx => h x (List.mem_cons_of_mem _ hx)]
    rfl
/-- shaped, of depth n at most -/
def Sh (n : Nat) (d : PyData) : Prop := PyData.canLay0 d = true ∧ PyData.depth d ≤ n
theorem Sh.int (i : Int) : Sh 0 (.int i) := ⟨rfl, Nat.le_refl _⟩
theorem Sh.bool (i : Bool) : Sh 0 (.bool i) := ⟨rfl, Nat.le_refl _⟩
theorem Sh.none : Sh 0 .none := ⟨rfl, Nat.le_refl _⟩
theorem Sh.list {n : Nat} {ds : List PyData} (h : ∀ d ∈ ds, Sh n d) : Sh (n + 1) (.list ds) := by
  refine ⟨?_, ?_⟩
  · unfold PyData.canLay0; exact canLayAll fun d hd => (h d hd).1
  · unfold PyData.depth; exact Nat.succ_le_succ (depthAll_le fun d hd => (h d hd).2)
theorem Sh.tuple {n : Nat} {ds : List PyData} (h : ∀ d ∈ ds, Sh n d) : Sh (n + 1) (.tuple ds) := by
  refine ⟨?_, ?_⟩
  · unfold PyData.canLay0; exact canLayAll fun d hd => (h d hd).1
  · unfold PyData.depth; exact Nat.succ_le_succ (depthAll_le fun d hd => (h d hd).2)
theorem Sh.ok {n : Nat} {d : PyData} (h : Sh n d) (hn : n ≤ 64 := by decide) : SeqAt.shaped d = true := by
  unfold SeqAt.shaped
  rw [h.1, decide_eq_true (Nat.le_trans h.2 hn)]; rfl
theorem Sh.edge (e : E3) : Sh 1 (eD e) := Sh.tuple fun d hd => by
  simp only [List.mem_cons, List.not_mem_nil, or_false] at hd
  rcases hd with rfl | rfl | rfl <;> exact Sh.int _
theorem Sh.es (es : List E3) : Sh 2 (.list (es.map eD)) := Sh.list fun d hd => by
  obtain ⟨e, _, rfl⟩ := List.mem_map.mp hd; exact Sh.edge e
theorem eqv_nil {ds : List PyData} : PyData.eqv (.list ds) (.list []) = ds.isEmpty := by
  cases ds with
  | nil => rfl
  | cons d ds => rw [PyData.eqv]; rfl
theorem empty_filter {α : Type} {l : List α} {q : α → Bool} : (l.filter q).isEmpty = !l.any q := by
  induction l with
  | nil => rfl
  | cons x l ih =>
    rw [List.filter_cons, List.any_cons]
    cases h : q x with
    | true => rw [if_pos rfl]; rfl
    | false => rw [if_neg Bool.false_ne_true, ih, Bool.false_or]
/-- xs.index(i) -/
theorem eva_index {ns : List Int} {i : Int} (ha : Eva K ta σ G H (.list (ns.map .int))) (hb : Eva K tb σ G H (.int i)) (hi : i ∈ ns) : Eva K (tBM K "list" (rIndex K) ta (tCons tb tNil)) σ G H (.int (ns.idxOf i : Nat)) := fun G1 H1 a Q q =>
  ha G1 H1 a _ fun v G2 H2 a2 r => by
    cases r with
    | @lst p xs _ hs hr =>
      cases rpa_ints hr
      refine ⟨.inl ⟨rfl, _, SqL.of (a2.o _ _ hs)⟩, hb G2 H2 (a.trans a2) _ fun v' G3 H3 a3 r' => ?_⟩
      cases rp_int r'
      have hl := List.idxOf_lt_length_iff.mpr hi
      have hg : ns[ns.idxOf i]? = some i := by rw [List.getElem?_eq_getElem hl]; exact congrArg some (List.getElem_idxOf hl)
      refine ⟨p, ns.map .int, .int i, ns.idxOf i, .int i, rfl, rfl, SqL.of (a3.o _ _ (a3.g _ _ hs)), rfl, flat_ints ns, by rw [List.getElem?_map, hg]; rfl, beq_self_eq_true i, fun m z' hm hz => ?_, q _ G3 H3 (a2.trans a3) (.int _)⟩
      rw [List.getElem?_map] at hz
      cases hn : ns[m]? with
      | none => rw [hn] at hz; cases hz
      | some n =>
        rw [hn] at hz; cases hz
        show (n == i) = false
        rw [beq_eq_false_iff_ne]
        intro e
        have h1 : m < ns.length := (List.getElem?_eq_some_iff.mp hn).1
        have h2 : ns[m] = i := by rw [← e]; exact (List.getElem?_eq_some_iff.mp hn).2
        have h3 := List.not_of_lt_findIdx (p := (· == i)) (xs := ns) (i := m) hm
        simp [h2] at h3
theorem cutL_one {α : Type} (l : List α) : cutL l none (some 1) = l.take 1 := by
  unfold cutL
  rw [show HT.sIx l.length l.length (some 1) = min 1 l.length from HT.sIx_nat l.length l.length 1, HT.sIx_none]
  rw [List.drop_zero, Nat.sub_zero]
  cases l with
  | nil => rfl
  | cons x r => rw [show min 1 (x :: r).length = 1 by rw [List.length_cons]; omega]
end
end Vf
namespace Vf
open PySem PySem.Spec PyProof.Rows L2
open Evl hiding Ex Ex.refl Ex.trans Ex.new Ex.mut ex_rd ex_l ex_t fresh_back
/-- xs.index(e), wherever it stands -/
theorem pe_index {X : Cx} (K : PySem.W.Frag) (hK : X.K = K) {o e : Expr} {to te : TE} {apos cpos : Pos} (ho : PE X o to) (he : PE X e te) (hb : attributeBase o "index" X.env (eval o X.env) = eval o X.env := by rfl)
    (h1 : ((backTo cpos (starEach [e] X.env)).all (fun x => !x.1) && (backToKw cpos (keywordEach [] X.env)).all (fun x => x.1.isSome) && decide (([e] : List Expr).length + ([] : List Keyword).length + (if ([] : List Keyword).isEmpty then 0 else 1) < 30)) = true := by rfl)
    (h2 : (apos.endLine == cpos.line) = true := by rfl) (h3 : starEach [e] X.env = (false, eval e X.env) :: starEach [] X.env := by rfl) (h4 : (backTo cpos (starEach [] X.env)).any (·.1) = false := by rfl) :
    PE X (.Call (.Attribute o "index" apos) [e] [] cpos) (tBM K "list" (rIndex K) to (tCons te tNil)) := by
  subst hK
  exact pe_bm PySem.F.plainAttrs_list PySem.F.slot_list_index PySem.F.type_list_index mt_index ho (pa_cons he pa_nil (hs := h3)) hb h1 h2 h3 h4
end Vf

set_option Elab.async false
set_option linter.all false
set_option maxRecDepth 100000
set_option maxHeartbeats 4000000
namespace K03
open PySem PySem.Spec PyProof.Rows L2 Vf
open Evl hiding Ex Ex.refl Ex.trans Ex.new Ex.mut ex_rd ex_l ex_t fresh_back
section
variable {P : Program} {w : World} {K : PySem.W.Frag} {mg : PySem.Str → Option Value} {base : Heap} (T : Tops K mg base)
theorem ok__law_taken : FnOk P w K mg base CX0 1 T.a__law_taken T.d__law_taken ["row", "many"] (TakenSp K) := by
  refine T.F__law_taken.ok sc__law_taken (fun vs H Q E h => ?_) (fun cdv A outer s H vs Q E hr h => ?_)
  · obtain ⟨G, r, many, k, rfl, _⟩ := h
    rfl
  · obtain ⟨G, r, many, k, rfl, hw, m0, m1, q⟩ := h
    obtain ⟨sc, ns, a, b, c, ow, hs, ha⟩ := hw
    refine ⟨_, (pss_cons (ps_if (pt_cmpR op_gt (pe_ix (ix_seqK K rfl) (pv 0) pe_int (fun _ _ => rfl)) pe_int (nomark _)) (pss_cons (ps_set (i := 2) sc__law_taken.nd rfl (Or.inl rfl) (pe_op op_mod (pe_callTy call_int1 (by rfl) T.z_int (by decide +kernel) (pa_cons (pe_ix (ix_seqK K rfl) (pv 0) pe_int (fun _ _ => rfl)) pa_nil)) (pv 1)))
      (pss_cons (ps_asg (pe_op op_fdiv (pe_ix (ix_seqK K rfl) (pv 0) pe_int (fun _ _ => rfl)) (pv 1)) (pg_sub (pv 0) pe_int set_list))
      (pss_one (ps_ret (pv 2))))) pss_nil)
      (pss_cons (ps_asg (pe_op op_add (pe_ix (ix_seqK K rfl) (pv 0) pe_int (fun _ _ => rfl)) pe_int) (pg_sub (pv 0) pe_int set_list))
      (pss_cons (ps_if (pt_cmpR op_gt (pe_ix (ix_seqK K rfl) (pv 0) pe_int (fun _ _ => rfl)) (pe_callB (call_lenK K rfl) (by rfl) T.z_len (by decide +kernel) (pa_cons (pe_ix (ix_seqK K rfl) (pv 0) pe_int (fun _ _ => rfl)) pa_nil)) (nomark _)) (pss_cons (ps_asg (pe_op op_mod (pe_callTy call_int1 (by rfl) T.z_int (by decide +kernel) (pa_cons (pe_op op_add (pe_op op_mul (pe_ix (ix_seqK K rfl) (pv 0) pe_int (fun _ _ => rfl)) pe_int) pe_int) pa_nil)) pe_int) (pg_sub (pv 0) pe_int set_list))
      (pss_one (ps_ret (pe_op op_mod (pe_callTy call_int1 (by rfl) T.z_int (by decide +kernel) (pa_cons (pe_op op_fdiv (pe_ix (ix_seqK K rfl) (pv 0) pe_int (fun _ _ => rfl)) pe_int) pa_nil)) (pv 1))))) pss_nil)
      (pss_cons (ps_set (i := 3) sc__law_taken.nd rfl (Or.inl rfl) (pe_ix (ix_seqK K rfl) (pe_ix (ix_seqK K rfl) (pv 0) pe_int (fun _ _ => rfl)) (pe_op op_sub (pe_ix (ix_seqK K rfl) (pv 0) pe_int (fun _ _ => rfl)) pe_int) (fun _ _ => rfl)))
      (pss_cons (ps_asg (pe_op op_mod (pe_callTy call_int1 (by rfl) T.z_int (by decide +kernel) (pa_cons (pe_op op_add (pe_op op_add (pe_op op_mul (pe_ix (ix_seqK K rfl) (pv 0) pe_int (fun _ _ => rfl)) pe_int) (pv 3)) pe_int) pa_nil)) pe_int) (pg_sub (pv 0) pe_int set_list))
      (pss_cons (ps_if (pt_cmpR op_ge (pv 3) (pe_op op_pow pe_int pe_int) (nomark _)) (pss_one (ps_asg (pe_op op_fdiv (pv 3) (pv 1)) (pg_sub (pv 0) pe_int set_list))) pss_nil)
      (pss_one (ps_ret (pe_op op_mod (pe_callTy call_int1 (by rfl) T.z_int (by decide +kernel) (pa_cons (pv 3) pa_nil)) (pv 1)))))))))), ?_⟩
    have vr : ∀ {G' H'} {σ : L2.St}, σ[0]? = some (some (.ref r)) → EvaV (tVar 0) σ G' H' (.ref r) := fun h => evv_var h
    -- an item of the row
    have it : ∀ {G' H' a b c} {σ : L2.St} {i : Int} {z : Int}, Own G' H' r (.lst (rowV sc a b c)) → σ[0]? = some (some (.ref r)) → atI (rowV sc a b c) i = some (.int z) → Eva K (tOp (rIx K) (tVar 0) (tC (.int i))) σ G' H' (.int z) := fun o h e => eva_ixO (vr h) eva_int o.h e (.int _)
    refine qt_when k (evt_test (eva_cmp (g := fun i j => decide (j < i)) (it ow rfl rfl) eva_int)) (fun hb G1 H1 a1 => ?_) fun hb G1 H1 a1 => ?_
    · -- the rest of a great cell
      have o1 := ow.adv a1
      refine qt_asg a1.o (eva_opc (g := fun i j => i % j) (eva_int1 (it o1 rfl rfl)) (eva_var rfl (.int many)) m0) fun v G2 H2 a2 rv => ?_
      cases rp_int rv
      have o2 := o1.adv a2
      refine qt_setO (j := 3) a2.o (eva_opc (g := fun i j => i / j) (it o2 rfl rfl) (eva_var rfl (.int many)) ⟨m0, m1⟩) (vr rfl) eva_int o2 (by show 3 < 4; decide) fun v G3 H3 a3 rv k3 => ?_
      cases rp_int rv
      have o3 := o2.adv a3
      have c4 : AdvR [r] G H G3 (upd H3 r (.lst (rowV sc a b (c / many)))) := ((a1.trans a2).trans a3).toR.trans (o3.chg a3.o)
      refine st_ret (K := K) k3 (eva_var rfl (.int (c % many))) fun v G4 H4 a4 rv => ?_
      cases rp_int rv
      exact q _ G4 H4 (Int.emod_nonneg _ (by omega)) (Int.emod_lt_of_pos _ m0) (c4.trans a4.toR) ⟨sc, ns, a, b, c / many, (o3.put).adv a4, ex_l (c4.trans (a4.toR (rs := [r]))).g hs, ha⟩
    · have o1 := ow.adv a1
      refine qt_setO (j := 1) a1.o (eva_op (g := fun i j => i + j) (it o1 rfl rfl) eva_int) (vr rfl) eva_int o1 (by show 1 < 4; decide) fun v G2 H2 a2 rv k2 => ?_
      cases rp_int rv
      have o2 := (o1.adv a2).put (u := .lst (rowV sc (a + 1) b c))
      have c2 : AdvR [r] G H G2 (upd H2 r (.lst (rowV sc (a + 1) b c))) := (a1.trans a2).toR.trans ((o1.adv a2).chg a2.o)
      have s2 : SqL K G2 sc (ns.map V.int) := ex_l c2.g hs
      have k2 := c2.o
      revert c2 o2 s2 k2
      change Own G2 (upd H2 r (.lst (rowV sc (a + 1) b c))) r (.lst (rowV sc (a + 1) b c)) → _ → _ → _ → tSeq _ _ _ _ (upd H2 r (.lst (rowV sc (a + 1) b c)))
      generalize upd H2 r (.lst (rowV sc (a + 1) b c)) = HH
      intro o2 c2 s2 k2
      have scr : ∀ {G' H' a b c} {σ : L2.St}, Own G' H' r (.lst (rowV sc a b c)) → σ[0]? = some (some (.ref r)) → EvaV (tOp (rIx K) (tVar 0) (tC (.int 0))) σ G' H' (.ref sc) := fun o h => evv_ixO (vr h) eva_int o.h rfl
      refine qt_when k2 (evt_test (eva_cmp (g := fun i j => decide (j < i)) (it o2 rfl rfl) (eva_lenS (scr o2 rfl) (ex_l k2 s2)))) (fun hb G3 H3 a3 => ?_) fun hb G3 H3 a3 => ?_
      · -- beyond the script
        have o3 := o2.adv a3
        refine qt_setO (j := 2) a3.o (eva_opc (g := fun i j => i % j) (eva_int1 (eva_op (g := fun i j => i + j) (eva_opc (g := fun i j => i * j) (it o3 rfl rfl) eva_int (.inr (by decide))) eva_int)) eva_int (by decide)) (vr rfl) eva_int o3 (by show 2 < 4; decide) fun v G4 H4 a4 rv k4 => ?_
        cases rp_int rv
        have o4 := (o3.adv a4).put (u := .lst (rowV sc (a + 1) ((b * 48271 + 11) % 2147483647) c))
        have c4 : AdvR [r] G H G4 (upd H4 r (.lst (rowV sc (a + 1) ((b * 48271 + 11) % 2147483647) c))) := (c2.trans (a3.trans a4).toR).trans ((o3.adv a4).chg a4.o)
        have k4 := c4.o
        change tRet _ _ _ (upd H4 r (.lst (rowV sc (a + 1) ((b * 48271 + 11) % 2147483647) c)))
        refine st_ret k4 (eva_opc (g := fun i j => i % j) (eva_int1 (eva_opc (g := fun i j => i / j) (it o4 rfl rfl) eva_int ⟨by decide, by decide⟩)) (eva_var rfl (.int many)) m0) fun v G5 H5 a5 rv => ?_
        cases rp_int rv
        exact q _ G5 H5 (Int.emod_nonneg _ (by omega)) (Int.emod_lt_of_pos _ m0) (c4.trans a5.toR) ⟨sc, ns, a + 1, _, c, o4.adv a5, ex_l (c4.trans (a5.toR (rs := [r]))).g hs, by omega⟩
      · -- a cell
        have o3 := o2.adv a3
        have s3 := ex_l a3.g s2
        have hlt : a < ns.length := by
          rw [List.length_map] at hb; simp at hb; omega
        obtain ⟨n, hn⟩ : ∃ n, ns[a.toNat]? = some n := ⟨ns[a.toNat]'(by omega), List.getElem?_eq_getElem _⟩
        have hat : atI ns (a + 1 - 1) = some n := by
          rw [show a + 1 - 1 = (a.toNat : Int) by omega]; exact atI_nat hn
        refine qt_asg a3.o (eva_ixS (scr o3 rfl) (eva_op (g := fun i j => i - j) (it o3 rfl rfl) eva_int) (ex_l a3.o s3) hat) fun v G4 H4 a4 rv => ?_
        cases rp_int rv
        have o4 := o3.adv a4
        refine qt_setO (j := 2) a4.o (eva_opc (g := fun i j => i % j) (eva_int1 (eva_op (g := fun i j => i + j) (eva_op (g := fun i j => i + j) (eva_opc (g := fun i j => i * j) (it o4 rfl rfl) eva_int (.inr (by decide))) (eva_var rfl (.int n))) eva_int)) eva_int (by decide)) (vr rfl) eva_int o4 (by show 2 < 4; decide) fun v G5 H5 a5 rv k5 => ?_
        cases rp_int rv
        generalize hb' : (b * 48271 + n + 11) % 2147483647 = b'
        have o5 := (o4.adv a5).put (u := .lst (rowV sc (a + 1) b' c))
        have c5 : AdvR [r] G H G5 (upd H5 r (.lst (rowV sc (a + 1) b' c))) := (c2.trans ((a3.trans a4).trans a5).toR).trans ((o4.adv a5).chg a5.o)
        have k5 := c5.o
        have s5 := ex_l c5.g hs
        change tSeq _ _ _ _ (upd H5 r (.lst (rowV sc (a + 1) b' c)))
        revert c5 o5 k5
        generalize upd H5 r (.lst (rowV sc (a + 1) b' c)) = HJ
        intro o5 c5 k5
        refine qt_when k5 (evt_test (K := K) (eva_cmp (g := fun i j => decide (j ≤ i)) (eva_var rfl (.int n)) (eva_opc (g := fun i j => i ^ j.toNat) eva_int eva_int ⟨by decide, by decide, by decide⟩))) (fun hb G6 H6 a6 => ?_) fun hb G6 H6 a6 => ?_
        · have o6 := o5.adv a6
          refine st_setO (K := K) (j := 3) a6.o (eva_opc (g := fun i j => i / j) (eva_var rfl (.int n)) (eva_var rfl (.int many)) ⟨m0, m1⟩) (vr rfl) eva_int o6 (by show 3 < 4; decide) fun v G7 H7 a7 rv k7 => ?_
          cases rp_int rv
          have o7 := (o6.adv a7).put (u := .lst (rowV sc (a + 1) b' (n / many)))
          have c7 : AdvR [r] G H G7 (upd H7 r (.lst (rowV sc (a + 1) b' (n / many)))) := (c5.trans (a6.trans a7).toR).trans ((o6.adv a7).chg a7.o)
          dsimp only
          change tRet _ _ _ (upd H7 r (.lst (rowV sc (a + 1) b' (n / many))))
          refine st_ret (K := K) c7.o (eva_opc (g := fun i j => i % j) (eva_int1 (eva_var rfl (.int n))) (eva_var rfl (.int many)) m0) fun v G8 H8 a8 rv => ?_
          cases rp_int rv
          exact q _ G8 H8 (Int.emod_nonneg _ (by omega)) (Int.emod_lt_of_pos _ m0) (c7.trans a8.toR) ⟨sc, ns, a + 1, _, _, o7.adv a8, ex_l (c7.trans (a8.toR (rs := [r]))).g hs, by omega⟩
        · have o6 := o5.adv a6
          refine st_ret (K := K) a6.o (eva_opc (g := fun i j => i % j) (eva_int1 (eva_var rfl (.int n))) (eva_var rfl (.int many)) m0) fun v G8 H8 a8 rv => ?_
          cases rp_int rv
          exact q _ G8 H8 (Int.emod_nonneg _ (by omega)) (Int.emod_lt_of_pos _ m0) (c5.trans (a6.trans a8).toR) ⟨sc, ns, a + 1, _, _, o6.adv a8, ex_l (c5.trans ((a6.trans a8).toR (rs := [r]))).g hs, by omega⟩
end
end K03

set_option Elab.async false
set_option linter.all false
set_option maxRecDepth 100000
set_option maxHeartbeats 4000000
namespace K03
open PySem PySem.Spec PyProof.Rows L2 Vf
open Evl hiding Ex Ex.refl Ex.trans Ex.new Ex.mut ex_rd ex_l ex_t fresh_back
/-- the web that _law_web draws -/
structure WebOk (x : Web) (most labels : Int) : Prop extends OkW x where
  one : 1 ≤ x.1
  most : x.1 ≤ most
  lab : ∀ e ∈ x.2, e.2.2 < labels
  few : (x.2.length : Int) ≤ 4 * x.1 + 2
def EdgeOk (n labels : Int) (e : E3) : Prop := (0 ≤ e.1 ∧ e.1 < n) ∧ (0 ≤ e.2.1 ∧ e.2.1 < n) ∧ (0 ≤ e.2.2 ∧ e.2.2 < labels)
section
variable {P : Program} {w : World} {K : PySem.W.Frag} {mg : PySem.Str → Option Value} {base : Heap} (T : Tops K mg base)
def WebSp (K : PySem.W.Frag) : Sp := fun vs H Q _ => ∃ G r most labels, Ex G H ∧ vs = [.ref r, .int most, .int labels] ∧ RowI K r G H ∧ (1 ≤ most ∧ most ≤ 15) ∧ (1 ≤ labels ∧ labels ≤ 4) ∧
  ∀ x v G' H', WebOk x most labels → AdvR [r] G H G' H' → RowI K r G' H' → Rp K G' v (wD x) → Q v H'
theorem lst_es {ds : List PyData} {f : Nat → E3 → Prop} : (∀ (i : Nat) d, ds[i]? = some d → ∃ e, d = eD e ∧ f i e) → ∃ es : List E3, ds = es.map eD ∧ es.length = ds.length ∧ ∀ (i : Nat) e, es[i]? = some e → f i e := by
  induction ds generalizing f with
  | nil => intro _; exact ⟨[], rfl, rfl, fun i e h => by simp at h⟩
  | cons d ds ih =>
    intro h
    obtain ⟨e, rfl, he⟩ := h 0 d rfl
    obtain ⟨es, rfl, hl, hes⟩ := ih (f := fun i => f (i + 1)) fun i d' hd => h (i + 1) d' (by simpa using hd)
    refine ⟨e :: es, rfl, by rw [List.length_cons, List.length_cons, hl], fun i e' hi => ?_⟩
    cases i with
    | zero => cases hi; exact he
    | succ i => exact hes i e' (by simpa using hi)
theorem ok__law_web : FnOk P w K mg base CX0 2 T.a__law_web T.d__law_web ["row", "most", "labels"] (WebSp K) := by
  refine T.F__law_web.ok sc__law_web (fun vs H Q E h => ?_) (fun cdv A outer s H vs Q E hr h => ?_)
  · obtain ⟨G, r, most, labels, k, rfl, _⟩ := h
    rfl
  · obtain ⟨G, r, most, labels, k, rfl, hw, ⟨m0, m1⟩, ⟨l0, l1⟩, q⟩ := h
    refine ⟨_, (pss_cons (ps_asg (pe_tup (pa_cons (pe_op op_add pe_int (pe_call (ok__law_taken T) hr (by rfl) T.g__law_taken T.F__law_taken.kp T.b__law_taken .nil pass0 (pa_cons (pv 0) (pa_cons (pv 1) pa_nil)))) (pa_cons (pe_call (ok__law_taken T) hr (by rfl) T.g__law_taken T.F__law_taken.kp T.b__law_taken .nil pass0 (pa_cons (pv 0) (pa_cons pe_int pa_nil))) (pa_cons (pe_lst pa_nil) pa_nil)))) (pg_tup (by rfl) (pgs_cons (pg_name (i := 3) sc__law_web.nd rfl (Or.inr rfl)) (pgs_cons (pg_name (i := 4) sc__law_web.nd rfl (Or.inl rfl)) (pgs_cons (pg_name (i := 5) sc__law_web.nd rfl (Or.inl rfl)) pgs_nil)))))
      (pss_cons (ps_for PassesOwn.never rfl (pi_range1 (by rfl) T.z_range (pa_cons (pe_call (ok__law_taken T) hr (by rfl) T.g__law_taken T.F__law_taken.kp T.b__law_taken .nil pass0 (pa_cons (pv 0) (pa_cons (pe_op op_add (pe_op op_mul pe_int (pv 3)) pe_int) pa_nil))) pa_nil)) (pg_name (i := 6) sc__law_web.nd rfl (Or.inl rfl)) (pss_one (ps_expr (pe_bm PySem.F.plainAttrs_list PySem.F.slot_list_append PySem.F.type_list_append mt_append (pv 5) (pa_cons (pe_tup (pa_cons (pe_call (ok__law_taken T) hr (by rfl) T.g__law_taken T.F__law_taken.kp T.b__law_taken .nil pass0 (pa_cons (pv 0) (pa_cons (pv 3) pa_nil))) (pa_cons (pe_call (ok__law_taken T) hr (by rfl) T.g__law_taken T.F__law_taken.kp T.b__law_taken .nil pass0 (pa_cons (pv 0) (pa_cons (pv 3) pa_nil))) (pa_cons (pe_call (ok__law_taken T) hr (by rfl) T.g__law_taken T.F__law_taken.kp T.b__law_taken .nil pass0 (pa_cons (pv 0) (pa_cons (pv 2) pa_nil))) pa_nil)))) pa_nil)))))
      (pss_cut (ps_if (pt_cmpR op_gt (pv 4) pe_int (nomark _)) (pss_one (ps_set (i := 5) sc__law_web.nd rfl (Or.inl rfl) (pe_op op_cat (pv 5) (pe_lc rfl sc__law_web.nd (pi_range1 (by rfl) T.z_range (pa_cons (pv 3) pa_nil)) (blkOk_by (own := [("k", 6)]) (N := N__law_web) (by kernel_rfl)) (fun _ _ _ _ _ => (pg_name (i := 6) sc__law_web.nd rfl (Or.inl rfl))) (fun _ _ _ _ _ => pts_nil) (fun _ _ _ _ _ => (pe_tup (pa_cons (pv 6) (pa_cons (pe_op op_mod (pe_callTy call_int1 (by rfl) T.z_int (by decide +kernel) (pa_cons (pe_op op_add (pv 6) pe_int) pa_nil)) (pv 3)) (pa_cons (pe_call (ok__law_taken T) hr (by rfl) T.g__law_taken T.F__law_taken.kp T.b__law_taken .nil pass0 (pa_cons (pv 0) (pa_cons (pv 2) pa_nil))) pa_nil))))))))) pss_nil)
      (pss_cut (ps_if (pt_cmpR (op_eqK K rfl hr.units) (pv 4) pe_int (nomark _)) (pss_one (ps_set (i := 5) sc__law_web.nd rfl (Or.inl rfl) (pe_op op_cat (pe_slice (sl_listK K rfl) (pv 5) (po_some (pv 3)) po_none) (pe_lc rfl sc__law_web.nd (pi_range1 (by rfl) T.z_range (pa_cons (pv 3) pa_nil)) (blkOk_by (own := [("k", 6)]) (N := N__law_web) (by kernel_rfl)) (fun _ _ _ _ _ => (pg_name (i := 6) sc__law_web.nd rfl (Or.inl rfl))) (fun _ _ _ _ _ => pts_nil) (fun _ _ _ _ _ => (pe_tup (pa_cons (pv 6) (pa_cons (pe_op op_mod (pe_callTy call_int1 (by rfl) T.z_int (by decide +kernel) (pa_cons (pe_op op_add (pv 6) pe_int) pa_nil)) (pv 3)) (pa_cons pe_int pa_nil))))))))) pss_nil)
      (pss_one (ps_ret (pe_tup (pa_cons (pv 3) (pa_cons (pe_callTy call_tuple_of (by rfl) T.z_tuple (by decide +kernel) (pa_cons (pe_callB (cr_sortedT rfl) (by rfl) T.z_sorted (by decide +kernel) (pa_cons (pe_callTy (cr_setOfT rfl hr.units) (by rfl) T.z_set (by decide +kernel) (pa_cons (pv 5) pa_nil)) pa_nil)) pa_nil)) pa_nil))))))))), ?_⟩
    have tk : ∀ {G1 H1 : Hp} {σ : L2.St} {tb : TE} {many : Int}, σ[0]? = some (some (.ref r)) → 0 < many → many < 1073741824 → (∀ G2 H2, AdvR [r] G1 H1 G2 H2 → Eva K tb σ G2 H2 (.int many)) →
        EvR K r (tCall (TakenSp K) [] E0 (tCons (tVar 0) (tCons tb tNil))) σ G1 H1 (fun d => ∃ x, d = .int x ∧ 0 ≤ x ∧ x < many) := fun h h0 h1 hb => evr_taken (fun _ _ _ => evv_var h) hb h0 h1
    refine qt_rowstart k hw (evr_imp (evr_op (g := fun i j => i + j) (A := fun x => x = 1) (evr_imp (evr_of fun _ _ _ => eva_int) fun d hd => ⟨1, hd, rfl⟩) (tk rfl (by omega) (by omega) fun _ _ _ => eva_var rfl (.int most))) fun d hd => hd) (tk rfl (by decide) (by decide) fun _ _ _ => eva_int) fun v1 d1 v2 d2 p G1 H1 hd1 hd2 a1 w1 r1 r2 np pr op => ?_
    obtain ⟨_, n', rfl, rfl, n0, n1⟩ := hd1
    obtain ⟨way, rfl, y0, y1⟩ := hd2
    cases rp_int r1
    cases rp_int r2
    generalize hn : 1 + n' = n
    have hn0 : 1 ≤ n := by omega
    have hn1 : n ≤ most := by omega
    -- the loop
    refine qt_forRow (N := 2 * n + 3) (by omega) a1.o w1 (tk rfl (by omega) (by omega) fun _ _ _ => eva_op (g := fun i j => i + j) (eva_opc (g := fun i j => i * j) eva_int (eva_var rfl (.int n)) (.inl (by decide))) eva_int)
      (fun m i σ G' H' => (m : Int) < 2 * n + 3 ∧ AdvR [r] G H G' H' ∧ RowI K r G' H' ∧ ∃ (es : List E3) (vs : List V) (o : Option V), σ = [some (.ref r), some (.int most), some (.int labels), some (.int n), some (.int way), some (.ref p), o] ∧ Own G' H' p (.lst vs) ∧ RpAll K G' vs (es.map eD) ∧ es.length = i ∧ ∀ e ∈ es, EdgeOk n labels e)
      (fun m G2 H2 hm a2 w2 => ⟨hm, a1.trans a2, w2, [], [], none, rfl, op.advR a2 (by simpa using pr), .nil, rfl, fun e he => by cases he⟩) (fun m i σ' G' H' z => z.2.1.o) ?_ ?_
    · -- a turn
      rintro m i σ' G' H' him ⟨hm, A, wr, es, vs, o, rfl, ow, ra, hl, hes⟩
      refine bd_name ?_
      have he := evr_tup (evrA_cons (tk (G1 := G') (H1 := H') (σ := [some (.ref r), some (.int most), some (.int labels), some (.int n), some (.int way), some (.ref p), some (.int (i : Nat))]) rfl (by omega) (by omega) fun _ _ _ => eva_var (i := 3) rfl (.int n)) (evrA_cons (tk rfl (by omega) (by omega) fun _ _ _ => eva_var (i := 3) rfl (.int n)) (evrA_cons (tk rfl (by omega) (by omega) fun _ _ _ => eva_var (i := 2) rfl (.int labels)) evrA_nil))) (fun ds hd => by
        obtain ⟨_, _, rfl, _, _, _, rfl, _, _, _, rfl, _, rfl⟩ := hd; simp)
      have hvl := rpa_len ra
      rw [List.length_map] at hvl
      refine st_appR A.o wr rfl ow pr he (by omega) fun v d G2 H2 hd a2 w2 o2 rv => ?_
      obtain ⟨_, rfl, _, _, rfl, ⟨x, rfl, x0, x1⟩, _, _, rfl, ⟨y, rfl, y0, y1⟩, _, _, rfl, ⟨z, rfl, z0, z1⟩, rfl⟩ := hd
      refine ⟨G2, hm, (A.wk (by simp) |>.trans a2).wk (qs := [p, r]) (fun b hb => by simpa [or_comm] using hb) |>.drop np, w2, es ++ [(x, y, z)], vs ++ [v], _, rfl, o2, ?_, by rw [List.length_append, hl]; rfl, fun e he => ?_⟩
      · rw [List.map_append]; exact rpa_app (ra.ex a2.g) (.cons rv .nil)
      · rcases List.mem_append.mp he with h | h
        · exact hes e h
        · rw [List.mem_singleton.mp h]; exact ⟨⟨x0, x1⟩, ⟨y0, y1⟩, z0, z1⟩
    · -- behind the loop
      rintro m σ' G2 H2 ⟨hm, A2, w2, es, vs, o, rfl, ow, ra, hl, hes⟩
      have af : AdvR [p] G2 H2 (upd G2 p (.lst vs)) H2 := ow.fix A2.o
      have A3 : AdvR [r] G H (upd G2 p (.lst vs)) H2 := ((A2.wk (qs := [p, r]) (by simp)).trans (af.wk (by simp))).drop np
      have w3 : RowI K r (upd G2 p (.lst vs)) H2 := w2.advR af (by simpa using Ne.symm pr)
      have rf : Rp K (upd G2 p (.lst vs)) (.ref p) (.list (es.map eD)) := .lst upd_same (ra.ex (Ex.new ow.g))
      -- a comprehension over the states
      have comp : ∀ {σ : L2.St} {te : TE} {lb : Int → Prop} {G1 H1 : Hp} {v : V}, (∀ v, wipe ((wipe σ [6]).set 6 (some v)) [6] = wipe σ [6]) → σ[3]? = some (some (.int n)) → (∀ v, ((wipe σ [6]).set 6 (some v))[6]? = some (some v)) → (∀ v, ((wipe σ [6]).set 6 (some v))[3]? = some (some (.int n))) →
          (∀ z, lb z → 0 ≤ z ∧ z < labels) → (∀ v G' H', AdvR [r] G1 H1 G' H' → EvR K r te ((wipe σ [6]).set 6 (some v)) G' H' (fun d => ∃ x, d = .int x ∧ lb x)) →
          EvR K r (tLc (iRng1 (tCons (tVar 3) tNil)) (gName 6) tYes (tTup (tCons (tVar 6) (tCons (tOp (rI (fun _ j => 0 < j) fun i j => .int (i % j)) (tCB (fun xs H Q => (∃ i, xs = [.int i] ∧ Q (.int i) H) ∨ ∃ k, xs = [.bl k] ∧ Q (.int (if k then 1 else 0)) H) (tCons (tOp (rI0 fun i j => .int (i + j)) (tVar 6) (tC (.int 1))) tNil)) (tVar 3)) (tCons te tNil)))) [6]) σ G1 H1
            (fun d => ∃ fs : List PyData, d = .list fs ∧ fs.length ≤ n.toNat ∧ ∃ gs : List E3, d = .list (gs.map eD) ∧ gs.length = n.toNat ∧ ∀ e ∈ gs, EdgeOk n labels e) := fun {σ te lb G1 H1 v} hw3 h3 h6 h36 hlb hte => by
        refine evr_imp (evr_lc (List.range n.toNat) (fun i => .int (0 + (i : Nat))) (fun (i : Nat) d => ∃ z, d = eD ((i : Nat), ((i : Int) + 1) % n, z) ∧ 0 ≤ z ∧ z < labels) (fun G' H' a' => by have := src_rng1 (K := K) (G := G') (H := H') (eva_var h3 (.int n)); rw [rng_map] at this; exact this) (by rw [List.length_range]; omega) fun i x v G' H' hx a' rv => ?_) fun d hd => ?_
        · obtain ⟨rfl, hi⟩ := range_get hx
          cases rp_int rv
          refine bd_name ⟨hw3 _, ?_⟩
          refine evr_imp (evr_tup (evrA_cons (evr_of fun _ _ _ => eva_var (h6 _) (.int _)) (evrA_cons (evr_of fun _ _ _ => eva_opc (g := fun i j => i % j) (eva_int1 (eva_op (g := fun i j => i + j) (eva_var (h6 _) (.int _)) eva_int)) (eva_var (h36 _) (.int n)) (by show 0 < n; omega)) (evrA_cons (hte _ G' H' a') evrA_nil))) fun ds hd => ?_) fun d hd => ?_
          · obtain ⟨_, _, rfl, _, _, _, rfl, _, _, _, rfl, _, rfl⟩ := hd; simp
          · obtain ⟨_, rfl, _, _, rfl, rfl, _, _, rfl, rfl, _, _, rfl, ⟨z, rfl, hz⟩, rfl⟩ := hd
            refine ⟨z, ?_, hlb z hz⟩
            unfold eD
            simp
        · obtain ⟨ds, rfl, hlen, hds⟩ := hd
          rw [List.length_range] at hlen
          obtain ⟨gs, rfl, hgl, hgs⟩ := lst_es (ds := ds) (f := fun i e => EdgeOk n labels e) fun i d hd => by
            have hi : i < n.toNat := by rw [← hlen]; exact (List.getElem?_eq_some_iff.mp hd).1
            obtain ⟨z, rfl, z0, z1⟩ := hds i i d (List.getElem?_range hi) hd
            exact ⟨_, rfl, ⟨by dsimp only; omega, by dsimp only; omega⟩, ⟨Int.emod_nonneg _ (by omega), Int.emod_lt_of_pos _ (by omega)⟩, z0, z1⟩
          refine ⟨_, rfl, by omega, gs, rfl, by omega, fun e he => ?_⟩
          obtain ⟨i, hi, rfl⟩ := List.getElem_of_mem he
          exact hgs i _ (List.getElem?_eq_getElem hi)
      -- what holds between the two ifs
      refine ct_when (fun σ G' H' => AdvR [r] G H G' H' ∧ RowI K r G' H' ∧ ∃ (es : List E3) (vf : V) (o : Option V), σ = [some (.ref r), some (.int most), some (.int labels), some (.int n), some (.int way), some vf, o] ∧ Rp K G' vf (.list (es.map eD)) ∧ (es.length : Int) ≤ 3 * n + 2 ∧ ∀ e ∈ es, EdgeOk n labels e) A3.o
        (evt_test (K := K) (eva_cmp (g := fun i j => decide (j < i)) (eva_var rfl (.int way)) eva_int)) (fun hb G4 H4 a4 => ?_) (fun hb G4 H4 a4 => ⟨A3.trans a4.toR, w3.adv a4, es, _, o, rfl, rf.ex a4.g, by omega, hes⟩) ?_
      · have rf4 := rf.ex a4.g
        refine st_asgR a4.o (w3.adv a4) (evr_cat (n := n.toNat) (A := fun d => ∃ gs : List E3, d = .list (gs.map eD) ∧ gs.length = n.toNat ∧ ∀ e ∈ gs, EdgeOk n labels e) (fun G' H' a' => eva_var rfl (rf4.ex a'.g)) (comp (v := .ref p) (lb := fun z => 0 ≤ z ∧ z < labels) (fun v => rfl) rfl (fun v => rfl) (fun v => rfl) (fun z h => h) fun v G' H' a' => tk rfl (by omega) (by omega) fun _ _ _ => eva_var rfl (.int labels)) (by rw [List.length_map]; omega)) fun v d G5 H5 hd a5 w5 rv => ?_
        obtain ⟨fs, rfl, gs, e, hgl, hgs⟩ := hd
        cases e
        refine ⟨G5, A3.trans (a4.toR.trans a5), w5, es ++ gs, v, o, rfl, by rw [List.map_append]; exact rv, by rw [List.length_append]; omega, fun e he => ?_⟩
        rcases List.mem_append.mp he with h | h
        · exact hes e h
        · exact hgs e h
      · clear rf hes hl ra ow af A3 w3 A2 w2 es vs o
        rintro σ' G4 H4 ⟨A4, w4, es, vf, o, rfl, rf, hl, hes⟩
        refine ct_when (fun σ G' H' => AdvR [r] G H G' H' ∧ RowI K r G' H' ∧ ∃ (es : List E3) (vf : V) (o : Option V), σ = [some (.ref r), some (.int most), some (.int labels), some (.int n), some (.int way), some vf, o] ∧ Rp K G' vf (.list (es.map eD)) ∧ (es.length : Int) ≤ 4 * n + 2 ∧ ∀ e ∈ es, EdgeOk n labels e) A4.o
          (evt_test (K := K) (eva_eqI (eva_var rfl (.int way)) eva_int)) (fun hb G5 H5 a5 => ?_) (fun hb G5 H5 a5 => ⟨A4.trans a5.toR, w4.adv a5, es, _, o, rfl, rf.ex a5.g, by omega, hes⟩) ?_
        · have rf5 := rf.ex a5.g
          have hcl := cutL_len es (some n) none
          refine st_asgR a5.o (w4.adv a5) (evr_cat (ds := (cutL es (some n) none).map eD) (n := n.toNat) (A := fun d => ∃ gs : List E3, d = .list (gs.map eD) ∧ gs.length = n.toNat ∧ ∀ e ∈ gs, EdgeOk n labels e) (fun G' H' a' => eva_is (evan_eva (evan_sl (eva_var rfl (rf5.ex a'.g)) (evo_some (K := K) (eva_var rfl (.int n))) evo_none)) (by rw [cutL_map])) (comp (v := vf) (lb := fun z => z = 0) (fun v => rfl) rfl (fun v => rfl) (fun v => rfl) (fun z h => by omega) fun v G' H' a' => evr_imp (evr_of fun _ _ _ => eva_int) fun d hd => ⟨0, hd, rfl⟩) (by rw [List.length_map]; omega)) fun v d G6 H6 hd a6 w6 rv => ?_
          obtain ⟨fs, rfl, gs, e, hgl, hgs⟩ := hd
          cases e
          refine ⟨G6, A4.trans (a5.toR.trans a6), w6, cutL es (some n) none ++ gs, v, o, rfl, by rw [List.map_append]; exact rv, by rw [List.length_append]; omega, fun e he => ?_⟩
          rcases List.mem_append.mp he with h | h
          · exact hes e (cutL_mem h)
          · exact hgs e h
        · clear rf hes hl A4 w4 es vf o
          rintro σ' G5 H5 ⟨A5, w5, es, vf, o, rfl, rf, hl, hes⟩
          have hsm : ∀ e ∈ es, Sm e := fun e he => by
            obtain ⟨⟨h1, h2⟩, ⟨h3, h4⟩, h5, h6⟩ := hes e he
            exact ⟨⟨h1, by omega⟩, ⟨h3, by omega⟩, h5, by omega⟩
          refine st_ret A5.o (eva_tup (evaA_cons (eva_var rfl (.int n)) (evaA_cons (eva_tupleL (eva_sortedSet3 (eva_var rfl rf) (by omega) hsm)) evaA_nil))) fun v G6 H6 a6 rv => ?_
          refine q (n, ascBy cd es) v G6 H6 ⟨⟨by dsimp only; omega, by dsimp only; omega, ?_, fun e he => ?_, ascBy_asc es⟩, hn0, hn1, fun e he => (hes e (mem_ascBy he)).2.2.2, by have := ascBy_len cd es; dsimp only; omega⟩ (A5.trans a6.toR) (w5.adv a6) rv
          · have := ascBy_len cd es
            dsimp only
            omega
          · obtain ⟨h1, h2, h3, h4⟩ := hes e (mem_ascBy he)
            exact ⟨h1, h2, h3, by omega⟩
end
end K03

set_option Elab.async false
set_option linter.all false
set_option maxRecDepth 100000
set_option maxHeartbeats 4000000
namespace K03
open PySem PySem.Spec PyProof.Rows L2 Vf
open Evl hiding Ex Ex.refl Ex.trans Ex.new Ex.mut ex_rd ex_l ex_t fresh_back
/-! ### states on walks without an end -/
def outOk (es : List E3) (S : List Int) (k : Int) : Bool := es.any fun e => e.1 == k && S.contains e.2.1
def inOk (es : List E3) (S : List Int) (k : Int) : Bool := es.any fun e => e.2.1 == k && S.contains e.1
def Good (es : List E3) (S : List Int) : Prop := ∀ k ∈ S, outOk es S k = true ∧ inOk es S k = true
theorem outOk_iff {es : List E3} {S : List Int} {k : Int} : outOk es S k = true ↔ ∃ e ∈ es, e.1 = k ∧ e.2.1 ∈ S := by
  unfold outOk
  rw [List.any_eq_true]
  constructor
  · rintro ⟨e, he, h⟩
    rw [Bool.and_eq_true, beq_iff_eq, List.contains_iff_mem] at h
    exact ⟨e, he, h⟩
  · rintro ⟨e, he, h⟩
    exact ⟨e, he, by rw [Bool.and_eq_true, beq_iff_eq, List.contains_iff_mem]; exact h⟩
theorem inOk_iff {es : List E3} {S : List Int} {k : Int} : inOk es S k = true ↔ ∃ e ∈ es, e.2.1 = k ∧ e.1 ∈ S := by
  unfold inOk
  rw [List.any_eq_true]
  constructor
  · rintro ⟨e, he, h⟩
    rw [Bool.and_eq_true, beq_iff_eq, List.contains_iff_mem] at h
    exact ⟨e, he, h⟩
  · rintro ⟨e, he, h⟩
    exact ⟨e, he, by rw [Bool.and_eq_true, beq_iff_eq, List.contains_iff_mem]; exact h⟩
theorem mem_sts {es : List E3} {k : Int} : k ∈ sts es ↔ ∃ e ∈ es, e.1 = k := by
  unfold sts
  rw [mem_asc_id, List.mem_map]
theorem mem_trimStep {es : List E3} {e : E3} : e ∈ trimStep es ↔ e ∈ es ∧ (∃ f ∈ es, f.2.1 = e.1) ∧ ∃ f ∈ es, f.1 = e.2.1 := by
  unfold trimStep
  rw [List.mem_filter, Bool.and_eq_true, List.any_eq_true, List.any_eq_true]
  simp only [beq_iff_eq]
theorem core_two {es : List E3} {e : E3} (h : e ∈ core es) : (∃ f ∈ core es, f.2.1 = e.1) ∧ ∃ f ∈ core es, f.1 = e.2.1 := by
  rw [← core_fix es] at h
  exact (mem_trimStep.mp h).2
theorem core_good (es : List E3) : Good es (sts (core es)) := fun k hk => by
  obtain ⟨e, he, rfl⟩ := mem_sts.mp hk
  obtain ⟨⟨f, hf, h1⟩, g, hg, h2⟩ := core_two he
  refine ⟨outOk_iff.mpr ⟨e, (core_sub es).subset he, rfl, mem_sts.mpr ⟨g, hg, h2⟩⟩, inOk_iff.mpr ⟨f, (core_sub es).subset hf, h1, mem_sts.mpr ⟨f, hf, rfl⟩⟩⟩
/-- edges within a good set stay -/
theorem good_edges {es : List E3} {S : List Int} (g : Good es S) : ∀ n, ∀ fs : List E3, (∀ e ∈ es, e.1 ∈ S → e.2.1 ∈ S → e ∈ fs) → ∀ e ∈ es, e.1 ∈ S → e.2.1 ∈ S → e ∈ coreN n fs := by
  intro n
  induction n with
  | zero => intro fs h; exact h
  | succ n ih =>
    intro fs h
    refine ih (trimStep fs) fun e he h1 h2 => mem_trimStep.mpr ⟨h e he h1 h2, ?_, ?_⟩
    · obtain ⟨f, hf, e1, e2⟩ := inOk_iff.mp (g _ h1).2
      exact ⟨f, h f hf e2 (e1 ▸ h1), e1⟩
    · obtain ⟨f, hf, e1, e2⟩ := outOk_iff.mp (g _ h2).1
      exact ⟨f, h f hf (e1 ▸ h2) e2, e1⟩
theorem good_sub {es : List E3} {S : List Int} (g : Good es S) {k : Int} (hk : k ∈ S) : k ∈ sts (core es) := by
  obtain ⟨e, he, e1, e2⟩ := outOk_iff.mp (g k hk).1
  exact mem_sts.mpr ⟨e, good_edges g es.length es (fun e he _ _ => he) e he (e1 ▸ hk) e2, e1⟩
theorem core_filter (es : List E3) : core es = es.filter fun e => (sts (core es)).contains e.1 && (sts (core es)).contains e.2.1 := by
  have sub := core_sub es
  have h1 : ∀ e, e ∈ core es ↔ e ∈ es ∧ e.1 ∈ sts (core es) ∧ e.2.1 ∈ sts (core es) := fun e => by
    constructor
    · intro h
      obtain ⟨_, g, hg, h2⟩ := core_two h
      exact ⟨sub.subset h, mem_sts.mpr ⟨e, h, rfl⟩, mem_sts.mpr ⟨g, hg, h2⟩⟩
    · rintro ⟨h, a, b⟩
      exact good_edges (core_good es) es.length es (fun e he _ _ => he) e h a b
  have h2 : ∀ n (fs : List E3), coreN n fs = fs.filter fun e => decide (e ∈ coreN n fs) := by
    intro n
    induction n with
    | zero =>
      intro fs
      exact (List.filter_eq_self.mpr fun e he => decide_eq_true he).symm
    | succ n ih =>
      intro fs
      show coreN n (trimStep fs) = fs.filter fun e => decide (e ∈ coreN n (trimStep fs))
      have := ih (trimStep fs)
      conv => lhs; rw [this]
      unfold trimStep
      rw [List.filter_filter]
      refine List.filter_congr fun e he => ?_
      rw [Bool.eq_iff_iff, Bool.and_eq_true, decide_eq_true_eq]
      refine ⟨fun h => h.1, fun h => ⟨h, ?_⟩⟩
      have := (coreN_sub n (trimStep fs)).subset h
      exact (List.mem_filter.mp this).2
  have h3 := h2 es.length es
  conv => lhs; unfold core; rw [h3]
  refine List.filter_congr fun e he => ?_
  rw [Bool.eq_iff_iff, decide_eq_true_eq, Bool.and_eq_true, List.contains_iff_mem, List.contains_iff_mem]
  have := h1 e
  unfold core at this ⊢
  rw [this]
  exact ⟨fun h => h.2, fun h => ⟨he, h⟩⟩
/-! ### one state after the other -/
def badOf (es : List E3) (kept : List Int) : List Int := kept.filter fun k => !outOk es kept k || !inOk es kept k
def keptStep (es : List E3) (kept : List Int) : List Int := kept.filter fun k => !((badOf es kept).take 1).contains k
def keptN (es : List E3) : Nat → List Int → List Int
  | 0, S => S
  | n + 1, S => keptN es n (keptStep es S)
theorem keptN_succ (es : List E3) : ∀ n S, keptN es (n + 1) S = keptStep es (keptN es n S)
  | 0, _ => rfl
  | n + 1, S => keptN_succ es n (keptStep es S)
theorem kept_good {es : List E3} {S : List Int} (h : badOf es S = []) : Good es S := fun k hk => by
  unfold badOf at h
  have := List.filter_eq_nil_iff.mp h k hk
  simpa using this
theorem keptStep_of_good {es : List E3} {S : List Int} (h : badOf es S = []) : keptStep es S = S := by
  unfold keptStep; rw [h]; exact List.filter_eq_self.mpr fun _ _ => rfl
theorem keptStep_lt {es : List E3} {S : List Int} (h : badOf es S ≠ []) : (keptStep es S).length < S.length := by
  obtain ⟨b, bs, hb⟩ := List.exists_cons_of_ne_nil h
  have hm : b ∈ S := by
    have : b ∈ badOf es S := by rw [hb]; exact List.mem_cons_self
    exact (List.mem_filter.mp this).1
  unfold keptStep
  rw [hb]
  have h1 := List.length_filter_le (fun k => !((b :: bs).take 1).contains k) S
  by_cases c : (S.filter fun k => !((b :: bs).take 1).contains k).length = S.length
  · have := filter_same c
    rw [List.filter_eq_self] at this
    have := this b hm
    simp at this
  · omega
theorem keptN_good (es : List E3) : ∀ n (S : List Int), S.length ≤ n → badOf es (keptN es n S) = []
  | 0, S, h => by
    have : S = [] := List.length_eq_zero_iff.mp (Nat.le_zero.mp h)
    subst this; rfl
  | n + 1, S, h => by
    by_cases c : badOf es S = []
    · have e := keptStep_of_good c
      have : ∀ m, keptN es m S = S := by
        intro m
        induction m with
        | zero => rfl
        | succ m ih => show keptN es m (keptStep es S) = S; rw [e]; exact ih
      rw [this]; exact c
    · have := keptStep_lt c
      exact keptN_good es n (keptStep es S) (by omega)
theorem keptN_sub (es : List E3) : ∀ n S, List.Sublist (keptN es n S) S
  | 0, _ => List.Sublist.refl _
  | n + 1, S => (keptN_sub es n (keptStep es S)).trans List.filter_sublist
theorem keptStep_keeps {es : List E3} {S T : List Int} (g : Good es T) (h : ∀ k ∈ T, k ∈ S) : ∀ k ∈ T, k ∈ keptStep es S := fun k hk => by
  unfold keptStep
  refine List.mem_filter.mpr ⟨h k hk, ?_⟩
  rw [Bool.not_eq_true', ← Bool.not_eq_true, List.contains_iff_mem]
  intro hm
  have hb := List.mem_of_mem_take hm
  have hb := (List.mem_filter.mp hb).2
  obtain ⟨e, he, e1, e2⟩ := outOk_iff.mp (g k hk).1
  obtain ⟨f, hf, f1, f2⟩ := inOk_iff.mp (g k hk).2
  have o : outOk es S k = true := outOk_iff.mpr ⟨e, he, e1, h _ e2⟩
  have i : inOk es S k = true := inOk_iff.mpr ⟨f, hf, f1, h _ f2⟩
  rw [o, i] at hb
  cases hb
theorem keptN_keeps {es : List E3} {T : List Int} (g : Good es T) : ∀ n (S : List Int), (∀ k ∈ T, k ∈ S) → ∀ k ∈ T, k ∈ keptN es n S
  | 0, _, h => h
  | n + 1, S, h => keptN_keeps g n _ (keptStep_keeps g h)
/-- 0, 1, .., n - 1 -/
def upTo (n : Nat) : List Int := (List.range n).map fun i => ((i : Nat) : Int)
theorem upTo_asc (n : Nat) : Asc id (upTo n) := by
  unfold upTo
  exact List.pairwise_map.mpr (List.Pairwise.imp (fun {a b} h => by show (a : Int) < b; omega) List.pairwise_lt_range)
theorem mem_upTo {n : Nat} {k : Int} : k ∈ upTo n ↔ 0 ≤ k ∧ k < n := by
  unfold upTo
  rw [List.mem_map]
  constructor
  · rintro ⟨i, hi, rfl⟩; have := List.mem_range.mp hi; omega
  · rintro ⟨h1, h2⟩; exact ⟨k.toNat, List.mem_range.mpr (by omega), by omega⟩
theorem upTo_len (n : Nat) : (upTo n).length = n := by unfold upTo; rw [List.length_map, List.length_range]
theorem sts_upTo {x : Web} (ok : OkW x) {k : Int} (h : k ∈ sts (core x.2)) : k ∈ upTo x.1.toNat := by
  obtain ⟨e, he, rfl⟩ := mem_sts.mp h
  have := ok.rng e ((core_sub x.2).subset he)
  rw [mem_upTo]; omega
theorem kept_sts {x : Web} (ok : OkW x) : keptN x.2 x.1.toNat (upTo x.1.toNat) = sts (core x.2) := by
  refine asc_unique (k := id) ((upTo_asc _).sublist (keptN_sub _ _ _)) (ascBy_asc _) fun k => ⟨fun h => ?_, fun h => ?_⟩
  · exact good_sub (kept_good (keptN_good x.2 _ _ (Nat.le_of_eq (upTo_len _)))) h
  · exact keptN_keeps (core_good x.2) _ _ (fun k hk => sts_upTo ok hk) k h
/-! ### long walks -/
def aheadN (es : List E3) : Nat → List Int → List Int
  | 0, S => S
  | n + 1, S => aheadN es n (S.filter fun k => outOk es S k)
def behindN (es : List E3) : Nat → List Int → List Int
  | 0, S => S
  | n + 1, S => behindN es n (S.filter fun k => inOk es S k)
section
variable (p : List Int → Int → Bool)
def iterN : Nat → List Int → List Int
  | 0, S => S
  | n + 1, S => iterN n (S.filter (p S))
theorem iterN_succ : ∀ n S, iterN p (n + 1) S = (iterN p n S).filter (p (iterN p n S))
  | 0, _ => rfl
  | n + 1, S => iterN_succ n (S.filter (p S))
theorem iterN_fix : ∀ n S, S.length ≤ n → (iterN p n S).filter (p (iterN p n S)) = iterN p n S
  | 0, S, h => by
    have : S = [] := List.length_eq_zero_iff.mp (Nat.le_zero.mp h)
    subst this; rfl
  | n + 1, S, h => by
    by_cases c : (S.filter (p S)).length = S.length
    · have e := filter_same c
      have : ∀ m, iterN p m S = S := by
        intro m
        induction m with
        | zero => rfl
        | succ m ih => show iterN p m (S.filter (p S)) = S; rw [e]; exact ih
      rw [this]; exact e
    · have := List.length_filter_le (p S) S
      exact iterN_fix n (S.filter (p S)) (by omega)
theorem iterN_sub : ∀ n S, List.Sublist (iterN p n S) S
  | 0, _ => List.Sublist.refl _
  | n + 1, S => (iterN_sub n _).trans List.filter_sublist
theorem iterN_keeps {T : List Int} (g : ∀ S, (∀ k ∈ T, k ∈ S) → ∀ k ∈ T, p S k = true) : ∀ n S, (∀ k ∈ T, k ∈ S) → ∀ k ∈ T, k ∈ iterN p n S
  | 0, _, h => h
  | n + 1, S, h => iterN_keeps g n _ fun k hk => List.mem_filter.mpr ⟨h k hk, g S h k hk⟩
end
theorem ahead_fix {es : List E3} {n : Nat} {k : Int} (h : k ∈ iterN (outOk es) n (upTo n)) : ∃ e ∈ es, e.1 = k ∧ e.2.1 ∈ iterN (outOk es) n (upTo n) := by
  rw [← iterN_fix (outOk es) n (upTo n) (Nat.le_of_eq (upTo_len n))] at h
  exact outOk_iff.mp (List.mem_filter.mp h).2
theorem behind_fix {es : List E3} {n : Nat} {k : Int} (h : k ∈ iterN (inOk es) n (upTo n)) : ∃ e ∈ es, e.2.1 = k ∧ e.1 ∈ iterN (inOk es) n (upTo n) := by
  rw [← iterN_fix (inOk es) n (upTo n) (Nat.le_of_eq (upTo_len n))] at h
  exact inOk_iff.mp (List.mem_filter.mp h).2
/-- what is behind both ways -/
theorem both_sts {x : Web} (ok : OkW x) : (iterN (outOk x.2) x.1.toNat (upTo x.1.toNat)).filter (fun k => (iterN (inOk x.2) x.1.toNat (upTo x.1.toNat)).contains k) = sts (core x.2) := by
  generalize hn : x.1.toNat = n
  have fwd : ∀ m, m ≤ n → ∀ e ∈ x.2, e.1 ∈ iterN (inOk x.2) n (upTo n) → e.2.1 ∈ iterN (inOk x.2) m (upTo n) := by
    intro m
    induction m with
    | zero =>
      intro _ e he _
      have := (ok.rng e he).2.1
      show e.2.1 ∈ upTo n
      rw [mem_upTo]; omega
    | succ m ih =>
      intro hm e he h
      rw [iterN_succ]
      have mono : ∀ j, m + j ≤ n → ∀ k ∈ iterN (inOk x.2) (m + j) (upTo n), k ∈ iterN (inOk x.2) m (upTo n) := by
        intro j
        induction j with
        | zero => intro _ k h; exact h
        | succ j ihj =>
          intro hj k h
          rw [show m + (j + 1) = (m + j) + 1 from rfl, iterN_succ] at h
          exact ihj (by omega) k (List.mem_filter.mp h).1
      refine List.mem_filter.mpr ⟨ih (by omega) e he h, inOk_iff.mpr ⟨e, he, rfl, mono (n - m) (by omega) _ (by rw [show m + (n - m) = n by omega]; exact h)⟩⟩
  have bwd : ∀ m, m ≤ n → ∀ e ∈ x.2, e.2.1 ∈ iterN (outOk x.2) n (upTo n) → e.1 ∈ iterN (outOk x.2) m (upTo n) := by
    intro m
    induction m with
    | zero =>
      intro _ e he _
      have := (ok.rng e he).1
      show e.1 ∈ upTo n
      rw [mem_upTo]; omega
    | succ m ih =>
      intro hm e he h
      rw [iterN_succ]
      have mono : ∀ j, m + j ≤ n → ∀ k ∈ iterN (outOk x.2) (m + j) (upTo n), k ∈ iterN (outOk x.2) m (upTo n) := by
        intro j
        induction j with
        | zero => intro _ k h; exact h
        | succ j ihj =>
          intro hj k h
          rw [show m + (j + 1) = (m + j) + 1 from rfl, iterN_succ] at h
          exact ihj (by omega) k (List.mem_filter.mp h).1
      refine List.mem_filter.mpr ⟨ih (by omega) e he h, outOk_iff.mpr ⟨e, he, rfl, mono (n - m) (by omega) _ (by rw [show m + (n - m) = n by omega]; exact h)⟩⟩
  refine asc_unique (k := id) ((upTo_asc n).sublist (List.filter_sublist.trans (iterN_sub _ _ _))) (ascBy_asc _) fun k => ⟨fun h => ?_, fun h => ?_⟩
  · refine good_sub (S := (iterN (outOk x.2) n (upTo n)).filter (fun k => (iterN (inOk x.2) n (upTo n)).contains k)) (fun j hj => ?_) h
    obtain ⟨h1, h2⟩ := List.mem_filter.mp hj
    rw [List.contains_iff_mem] at h2
    obtain ⟨e, he, e1, e2⟩ := ahead_fix h1
    obtain ⟨f, hf, f1, f2⟩ := behind_fix h2
    refine ⟨outOk_iff.mpr ⟨e, he, e1, List.mem_filter.mpr ⟨e2, ?_⟩⟩, inOk_iff.mpr ⟨f, hf, f1, List.mem_filter.mpr ⟨?_, ?_⟩⟩⟩
    · rw [List.contains_iff_mem]; exact fwd n (Nat.le_refl _) e he (e1 ▸ h2)
    · exact bwd n (Nat.le_refl _) f hf (f1 ▸ h1)
    · rw [List.contains_iff_mem]; exact f2
  · have hk : ∀ k ∈ sts (core x.2), k ∈ upTo n := fun k hk => hn ▸ sts_upTo ok hk
    refine List.mem_filter.mpr ⟨iterN_keeps (outOk x.2) (fun S hS k hk => ?_) n _ hk k h, ?_⟩
    · obtain ⟨e, he, e1, e2⟩ := outOk_iff.mp (core_good x.2 k hk).1
      exact outOk_iff.mpr ⟨e, he, e1, hS _ e2⟩
    · rw [List.contains_iff_mem]
      refine iterN_keeps (inOk x.2) (fun S hS k hk => ?_) n _ hk k h
      obtain ⟨e, he, e1, e2⟩ := inOk_iff.mp (core_good x.2 k hk).2
      exact inOk_iff.mpr ⟨e, he, e1, hS _ e2⟩
/-! ### once more -/
theorem idx_lt {st : List Int} (h : Asc id st) {a b : Int} (ha : a ∈ st) (hb : b ∈ st) : st.idxOf a < st.idxOf b ↔ a < b := by
  have nd := asc_nodup h
  obtain ⟨i, hi, rfl⟩ := List.getElem_of_mem ha
  obtain ⟨j, hj, rfl⟩ := List.getElem_of_mem hb
  rw [nd.idxOf_getElem i hi, nd.idxOf_getElem j hj]
  have mono := List.pairwise_iff_getElem.mp h
  constructor
  · intro hij; exact mono i j hi hj hij
  · intro hlt
    rcases Nat.lt_trichotomy i j with c | c | c
    · exact c
    · subst c; exact absurd hlt (Int.lt_irrefl _)
    · have := mono j i hj hi c
      have h2 : st[j] < st[i] := this
      omega
theorem idx_inj {st : List Int} {a b : Int} (ha : a ∈ st) (hb : b ∈ st) (h : st.idxOf a = st.idxOf b) : a = b := by
  have h1 := List.getElem_idxOf (List.idxOf_lt_length_iff.mpr ha)
  have h2 := List.getElem_idxOf (List.idxOf_lt_length_iff.mpr hb)
  rw [← h1, ← h2]
  congr 1
theorem core_ends {es : List E3} {e : E3} (h : e ∈ core es) : e.1 ∈ sts (core es) ∧ e.2.1 ∈ sts (core es) := by
  obtain ⟨_, g, hg, h2⟩ := core_two h
  exact ⟨mem_sts.mpr ⟨e, h, rfl⟩, mem_sts.mpr ⟨g, hg, h2⟩⟩
theorem trimW_ok {x : Web} (ok : OkW x) : OkW (trimW x.2) := by
  have hl := sts_len ok
  have hm := ok.m1
  have hst : Asc id (sts (core x.2)) := ascBy_asc _
  refine ⟨by unfold trimW; dsimp only; omega, by unfold trimW; dsimp only; omega, ?_, fun e he => ?_, ?_⟩
  · unfold trimW
    dsimp only
    rw [List.length_map]
    exact Nat.le_trans (core_sub x.2).length_le ok.len
  · unfold trimW at he
    obtain ⟨f, hf, rfl⟩ := List.mem_map.mp he
    obtain ⟨h1, h2⟩ := core_ends hf
    have := List.idxOf_lt_length_iff.mpr h1
    have := List.idxOf_lt_length_iff.mpr h2
    have h3 := (ok.rng f ((core_sub x.2).subset hf)).2.2
    unfold trimW ren
    dsimp only
    exact ⟨⟨by omega, by omega⟩, ⟨by omega, by omega⟩, h3⟩
  · unfold trimW
    dsimp only
    unfold Asc
    rw [List.pairwise_map]
    refine List.Pairwise.imp_of_mem (fun {a b} ha hb h => ?_) (ok.asc.sublist (core_sub x.2))
    obtain ⟨a1, a2⟩ := core_ends ha
    obtain ⟨b1, b2⟩ := core_ends hb
    have sa := ok.sm ((core_sub x.2).subset ha)
    have sb := ok.sm ((core_sub x.2).subset hb)
    have p1 := idx_lt hst a1 b1
    have p2 := idx_lt hst a2 b2
    have p3 := idx_lt hst b1 a1
    have p4 := idx_lt hst b2 a2
    have l1 := List.idxOf_lt_length_iff.mpr a1
    have l2 := List.idxOf_lt_length_iff.mpr a2
    have l3 := List.idxOf_lt_length_iff.mpr b1
    have l4 := List.idxOf_lt_length_iff.mpr b2
    unfold cd at h
    unfold ren cd
    dsimp only
    generalize List.idxOf a.1 (sts (core x.2)) = i1 at *
    generalize List.idxOf b.1 (sts (core x.2)) = j1 at *
    generalize List.idxOf a.2.1 (sts (core x.2)) = i2 at *
    generalize List.idxOf b.2.1 (sts (core x.2)) = j2 at *
    generalize (sts (core x.2)).length = L at *
    obtain ⟨⟨_, _⟩, ⟨_, _⟩, _, _⟩ := sa
    obtain ⟨⟨_, _⟩, ⟨_, _⟩, _, _⟩ := sb
    clear ha hb a1 a2 b1 b2 hst
    omega
theorem trim_again {x : Web} (ok : OkW x) : trimW (trimW x.2).2 = trimW x.2 := by
  have hst : Asc id (sts (core x.2)) := ascBy_asc _
  have nd := asc_nodup hst
  have h1 : trimStep (trimW x.2).2 = (trimW x.2).2 := by
    unfold trimStep
    refine List.filter_eq_self.mpr fun e he => ?_
    unfold trimW at he ⊢
    obtain ⟨f, hf, rfl⟩ := List.mem_map.mp he
    obtain ⟨⟨g, hg, e1⟩, g', hg', e2⟩ := core_two hf
    rw [Bool.and_eq_true, List.any_eq_true, List.any_eq_true]
    refine ⟨⟨ren (sts (core x.2)) g, List.mem_map.mpr ⟨g, hg, rfl⟩, ?_⟩, ⟨ren (sts (core x.2)) g', List.mem_map.mpr ⟨g', hg', rfl⟩, ?_⟩⟩
    · unfold ren; dsimp only; rw [e1]; exact beq_self_eq_true _
    · unfold ren; dsimp only; rw [e2]; exact beq_self_eq_true _
  have h2 : core (trimW x.2).2 = (trimW x.2).2 := core_of_fix h1
  have h3 : sts (trimW x.2).2 = upTo (sts (core x.2)).length := by
    refine asc_unique (k := id) (ascBy_asc _) (upTo_asc _) fun k => ?_
    have hm : k ∈ sts (trimW x.2).2 ↔ ∃ f ∈ core x.2, ((sts (core x.2)).idxOf f.1 : Int) = k := by
      rw [mem_sts]
      constructor
      · rintro ⟨e, he, rfl⟩
        obtain ⟨f, hf, rfl⟩ := List.mem_map.mp he
        exact ⟨f, hf, rfl⟩
      · rintro ⟨f, hf, rfl⟩
        exact ⟨ren (sts (core x.2)) f, List.mem_map.mpr ⟨f, hf, rfl⟩, rfl⟩
    show k ∈ sts (trimW x.2).2 ↔ _
    rw [hm, mem_upTo]
    constructor
    · rintro ⟨f, hf, rfl⟩
      have := List.idxOf_lt_length_iff.mpr (core_ends hf).1
      omega
    · rintro ⟨k0, k1⟩
      have hi : k.toNat < (sts (core x.2)).length := by omega
      obtain ⟨f, hf, e⟩ := mem_sts.mp (List.getElem_mem hi)
      refine ⟨f, hf, ?_⟩
      rw [e]
      have := nd.idxOf_getElem k.toNat hi
      change List.idxOf _ (sts (core x.2)) = _ at this
      rw [this]; omega
  have h4 : ∀ i : Nat, i < (sts (core x.2)).length → (upTo (sts (core x.2)).length).idxOf (i : Int) = i := fun i hi => by
    have e : (upTo (sts (core x.2)).length)[i]'(by rw [upTo_len]; exact hi) = (i : Int) := by unfold upTo; simp
    rw [← e]
    exact (asc_nodup (upTo_asc _)).idxOf_getElem i _
  have h5 : trimW (trimW x.2).2 = ((((sts (trimW x.2).2).length : Nat) : Int), (trimW x.2).2.map (ren (sts (trimW x.2).2))) := by
    have h6 : ∀ es, core es = es → trimW es = ((((sts es).length : Nat) : Int), es.map (ren (sts es))) := fun es h => by unfold trimW; rw [h]
    exact h6 _ h2
  rw [h5, h3, upTo_len]
  conv => rhs; unfold trimW
  refine congrArg (Prod.mk _) ?_
  unfold trimW
  dsimp only
  rw [List.map_map]
  refine List.map_congr_left fun f hf => ?_
  obtain ⟨a1, a2⟩ := core_ends hf
  show ren (upTo _) (ren (sts (core x.2)) f) = ren (sts (core x.2)) f
  unfold ren
  dsimp only
  rw [h4 _ (List.idxOf_lt_length_iff.mpr a1), h4 _ (List.idxOf_lt_length_iff.mpr a2)]
end K03

set_option Elab.async false
set_option linter.all false
set_option maxRecDepth 100000
set_option maxHeartbeats 4000000
namespace K03
open PySem PySem.Spec PyProof.Rows L2 Vf
open Evl hiding Ex Ex.refl Ex.trans Ex.new Ex.mut ex_rd ex_l ex_t fresh_back
section
variable {P : Program} {w : World} {K : PySem.W.Frag} {mg : PySem.Str → Option Value} {base : Heap} (T : Tops K mg base)
theorem src_m {σ : L2.St} {G H : Hp} {v : V} {x : Web} {i : Nat} (hs : σ[i]? = some (some v)) (r : Rp K G v (wD x)) (m0 : 0 ≤ x.1) (m1 : x.1 ≤ 32) :
    Src K (iRng1 (tCons (tOp (rIx K) (tVar i) (tC (.int 0))) tNil)) σ G H ((List.range x.1.toNat).map fun i => .int (0 + (i : Nat))) := src_rng1 (n := x.1) (eva_ixT (eva_var hs r) eva_int rfl)
theorem ok__law_alike : FnOk P w K mg base CX0 4 T.a__law_alike T.d__law_alike ["found", "due"] (PureSp K (R_alike 4)) := ok_alike T 4
def R__law_core (ds : List PyData) (d : PyData) : Prop := ∃ x, ds = [wD x] ∧ OkW x ∧ d = wD (trimW x.2)
theorem ok__law_core : FnOk P w K mg base CX0 1 T.a__law_core T.d__law_core ["web"] (PureSp K R__law_core) := by
  refine T.F__law_core.ok sc__law_core (fun vs H Q E h => ?_) (fun cdv A outer s H vs Q E hr h => ?_)
  · obtain ⟨G, ds, d, k, r, ⟨x, rfl, ok, rfl⟩, q⟩ := h
    exact rpa_len r
  · obtain ⟨G, ds, d, k, r, ⟨x, rfl, ok, rfl⟩, q⟩ := h
    obtain ⟨v1, rfl, r1⟩ := rpa1 r
    have hm0 := ok.m0
    have hm1 := ok.m1
    have hlen := ok.len
    refine ⟨_, (pss_cons (ps_set (i := 1) sc__law_core.nd rfl (Or.inr rfl) (pe_lc rfl sc__law_core.nd (pi_range1 (by rfl) T.z_range (pa_cons (pe_ix (ix_seqK K rfl) (pv 0) pe_int (fun _ _ => rfl)) pa_nil)) (blkOk_by (own := [("k", 4)]) (N := N__law_core) (by kernel_rfl)) (fun _ _ _ _ _ => (pg_name (i := 4) sc__law_core.nd rfl (Or.inl rfl))) (fun _ _ _ _ _ => pts_nil) (fun _ _ _ _ _ => (pv 4))))
      (pss_cons (ps_for PassesOwn.never rfl (pi_range1 (by rfl) T.z_range (pa_cons (pe_ix (ix_seqK K rfl) (pv 0) pe_int (fun _ _ => rfl)) pa_nil)) (pg_name (i := 2) sc__law_core.nd rfl (Or.inl rfl)) (pss_cons (ps_set (i := 3) sc__law_core.nd rfl (Or.inr rfl) (pe_lst pa_nil))
      (pss_cons (ps_for PassesOwn.never rfl (pi_list (pv 1)) (pg_name (i := 4) sc__law_core.nd rfl (Or.inr rfl)) (pss_cons (ps_setLc (i := 5) rfl sc__law_core.nd rfl rfl (sw_true rfl rfl rfl (by decide +kernel)) (pi_tup (pe_ix (ix_seqK K rfl) (pv 0) pe_int (fun _ _ => rfl))) (blkOk_by (own := [("edge", 8)]) (N := N__law_core) (by kernel_rfl)) (fun _ _ _ _ _ => (pg_name (i := 8) sc__law_core.nd rfl (Or.inl rfl))) (fun _ _ _ _ _ => (pts_one (PW.pt (pw_and (pt_cmpR (op_eqK K rfl hr.units) (pe_ix (ix_seqK K rfl) (pv 8) pe_int (fun _ _ => rfl)) (pv 4) (nomark _)) (pw_and1 (pt_cmpR (op_inK K rfl) (pe_ix (ix_seqK K rfl) (pv 8) pe_int (fun _ _ => rfl)) (pv 1) (by rfl))))))) (fun _ _ _ _ _ => (pv 8)))
      (pss_cons (ps_setLc (i := 6) rfl sc__law_core.nd rfl rfl (sw_true rfl rfl rfl (by decide +kernel)) (pi_tup (pe_ix (ix_seqK K rfl) (pv 0) pe_int (fun _ _ => rfl))) (blkOk_by (own := [("edge", 8)]) (N := N__law_core) (by kernel_rfl)) (fun _ _ _ _ _ => (pg_name (i := 8) sc__law_core.nd rfl (Or.inl rfl))) (fun _ _ _ _ _ => (pts_one (PW.pt (pw_and (pt_cmpR (op_eqK K rfl hr.units) (pe_ix (ix_seqK K rfl) (pv 8) pe_int (fun _ _ => rfl)) (pv 4) (nomark _)) (pw_and1 (pt_cmpR (op_inK K rfl) (pe_ix (ix_seqK K rfl) (pv 8) pe_int (fun _ _ => rfl)) (pv 1) (by rfl))))))) (fun _ _ _ _ _ => (pv 8)))
      (pss_one (ps_if (PW.pt (pw_or (pt_cmpR (op_eqK K rfl hr.units) (pv 5) (pe_lst pa_nil) (nomark _)) (pw_or1 (pt_cmpR (op_eqK K rfl hr.units) (pv 6) (pe_lst pa_nil) (nomark _))))) (pss_one (ps_expr (pe_bm PySem.F.plainAttrs_list PySem.F.slot_list_append PySem.F.type_list_append mt_append (pv 3) (pa_cons (pv 4) pa_nil)))) pss_nil)))))
      (pss_one (ps_set (i := 1) sc__law_core.nd rfl (Or.inr rfl) (pe_lc rfl sc__law_core.nd (pi_list (pv 1)) (blkOk_by (own := [("k", 4)]) (N := N__law_core) (by kernel_rfl)) (fun _ _ _ _ _ => (pg_name (i := 4) sc__law_core.nd rfl (Or.inl rfl))) (fun _ _ _ _ _ => (pts_one (pt_cmpR (op_notInK K rfl) (pv 4) (pe_slice (sl_listK K rfl) (pv 3) po_none (po_some pe_int)) (by rfl)))) (fun _ _ _ _ _ => (pv 4))))))))
      (pss_cons (ps_setLc (i := 7) rfl sc__law_core.nd rfl rfl (sw_true rfl rfl rfl (by decide +kernel)) (pi_tup (pe_ix (ix_seqK K rfl) (pv 0) pe_int (fun _ _ => rfl))) (blkOk_by (own := [("edge", 8)]) (N := N__law_core) (by kernel_rfl)) (fun _ _ _ _ _ => (pg_name (i := 8) sc__law_core.nd rfl (Or.inl rfl))) (fun _ _ _ _ _ => (pts_one (PW.pt (pw_and (pt_cmpR (op_inK K rfl) (pe_ix (ix_seqK K rfl) (pv 8) pe_int (fun _ _ => rfl)) (pv 1) (by rfl)) (pw_and1 (pt_cmpR (op_inK K rfl) (pe_ix (ix_seqK K rfl) (pv 8) pe_int (fun _ _ => rfl)) (pv 1) (by rfl))))))) (fun _ _ _ _ _ => (pv 8)))
      (pss_one (ps_ret (pe_tup (pa_cons (pe_callB (call_lenK K rfl) (by rfl) T.z_len (by decide +kernel) (pa_cons (pv 1) pa_nil)) (pa_cons (pe_callTy call_tuple_of (by rfl) T.z_tuple (by decide +kernel) (pa_cons (pe_lc rfl sc__law_core.nd (pi_list (pv 7)) (blkOk_by (own := [("edge", 8)]) (N := N__law_core) (by kernel_rfl)) (fun _ _ _ _ _ => (pg_name (i := 8) sc__law_core.nd rfl (Or.inl rfl))) (fun _ _ _ _ _ => pts_nil) (fun _ _ _ _ _ => (pe_tup (pa_cons (pe_index K rfl (pv 1) (pe_ix (ix_seqK K rfl) (pv 8) pe_int (fun _ _ => rfl))) (pa_cons (pe_index K rfl (pv 1) (pe_ix (ix_seqK K rfl) (pv 8) pe_int (fun _ _ => rfl))) (pa_cons (pe_ix (ix_seqK K rfl) (pv 8) pe_int (fun _ _ => rfl)) pa_nil)))))) pa_nil)) pa_nil)))))))), ?_⟩
    -- kept = [0, 1, ..]
    refine qt_asg k (evan_eva (evan_lc (List.range x.1.toNat) (fun i => .int (0 + (i : Nat))) (fun _ => true) (fun i => .int (i : Nat)) (src_m rfl r1 hm0 hm1) (by rw [List.length_range]; omega) fun i j v G' H' hx a' rv => bd_name ⟨rfl, evt_yes, fun _ => ?_⟩)) fun vk G1 H1 a1 rk => ?_
    · cases rp_int rv
      rw [Int.zero_add]
      exact eva_var rfl (.int _)
    rw [filter_yes] at rk
    have e0 : (List.range x.1.toNat).map (fun i => PyData.int (i : Nat)) = (upTo x.1.toNat).map .int := by unfold upTo; rw [List.map_map]; rfl
    rw [e0] at rk
    -- the turns
    refine qt_for (List.range x.1.toNat) (fun i => .int (0 + (i : Nat))) (fun B i σ G' H' => Adv G H G' H' ∧ Ex B G' ∧ ∃ vk o2 o3 o4 o5 o6, σ = [some v1, some vk, o2, o3, o4, o5, o6, none, none] ∧ Rp K G' vk (.list ((keptN x.2 i (upTo x.1.toNat)).map .int))) a1.o
      (src_m rfl (r1.ex a1.g) hm0 hm1)
      (fun G2 H2 a2 => ⟨a1.trans a2, Ex.refl _, vk, none, none, none, none, none, rfl, rk.ex a2.g⟩) (fun B i σ' G' H' p => ⟨p.2.1, p.1.o⟩) ?_ ?_
    · rintro B i j v σ' G' H' G2 H2 hij ⟨A', eB, vk, o2, o3, o4, o5, o6, rfl, rk⟩ a2 rv
      obtain ⟨rfl, hi⟩ := range_get hij
      refine bd_name ?_
      generalize hS : keptN x.2 j (upTo x.1.toNat) = S at rk
      have hSl : S.length ≤ 32 := by
        have := (keptN_sub x.2 j (upTo x.1.toNat)).length_le
        rw [hS, upTo_len] at this; omega
      have A2 := A'.trans a2
      -- bad = []
      refine qt_asgN a2.o (evan_lst (K := K) evaA_nil) fun p o G3 H3 np a3 op hp => ?_
      obtain ⟨_, rfl, hp⟩ := hp
      cases hp
      have rk3 := rk.ex (a2.trans a3).g
      have r13 := r1.ex (A2.trans a3).g
      refine qt_for S .int (fun B' i σ G' H' => Adv G2 H2 G' H' ∧ Ex B' G' ∧ Ex G3 G' ∧ ∃ vs o4 o5 o6, σ = [some v1, some vk, some v, some (.ref p), o4, o5, o6, none, none] ∧ Own G' H' p (.lst vs) ∧ RpAll K G' vs (((S.take i).filter fun k => !outOk x.2 S k || !inOk x.2 S k).map .int)) a3.o (src_list (eva_var rfl rk3))
        (fun G4 H4 a4 => ⟨a3.trans a4, Ex.refl _, a4.g, [], o4, o5, o6, rfl, op.adv a4, .nil⟩) (fun B i σ' G' H' p => ⟨p.2.1, p.1.o⟩) ?_ ?_
      · rintro B' i kk vkk σ' G4 H4 G5 H5 hk ⟨A4, eB', e34, vs, o4, o5, o6, rfl, ow, ra⟩ a5 rkk
        refine bd_name ?_
        have rk5 := rk3.ex (e34.trans a5.g)
        have r15 := r13.ex (e34.trans a5.g)
        have sel : ∀ {σ : L2.St} {G6 H6 : Hp} (a b : Int) (fa fb : E3 → Int), Adv G5 H5 G6 H6 → σ[0]? = some (some v1) → (∀ e : E3, atI [PyData.int e.1, .int e.2.1, .int e.2.2] a = some (.int (fa e))) → (∀ e : E3, atI [PyData.int e.1, .int e.2.1, .int e.2.2] b = some (.int (fb e))) →
            (∀ v, wipe ((wipe σ [8]).set 8 (some v)) [8] = wipe σ [8]) → (∀ v, ((wipe σ [8]).set 8 (some v))[8]? = some (some v)) → (∀ v, ((wipe σ [8]).set 8 (some v))[4]? = some (some vkk)) → (∀ v, ((wipe σ [8]).set 8 (some v))[1]? = some (some vk)) →
            Eva K (tLc (iTup K (tOp (rIx K) (tVar 0) (tC (.int 1)))) (gName 8) (tAnd (tTest (tOp (rEqD K) (tOp (rIx K) (tVar 8) (tC (.int a))) (tVar 4))) (tTest (tOp (rIn K false) (tOp (rIx K) (tVar 8) (tC (.int b))) (tVar 1)))) (tVar 8) [8]) σ G6 H6 (.list ((x.2.filter fun e => fa e == kk && S.contains (fb e)).map eD)) := fun {σ G6 H6} a b fa fb a6 h0 ha hb hw h8 h4 h1 =>
          evan_eva (evan_lc x.2 eD _ eD (src_tup (eva_ixT (eva_var h0 (r15.ex a6.g)) eva_int rfl)) (by omega) fun i e v G' H' hx a' rv => bd_name ⟨hw v, evt_and (evt_test (eva_eqI (eva_item (h8 v) rv (ha e)) (eva_var (h4 v) ((rkk.ex a6.g).ex a'.g)))) fun _ => evt_test (eva_in (neg := false) (eva_item (h8 v) rv (hb e)) (eva_var (h1 v) ((rk5.ex a6.g).ex a'.g))), fun _ => eva_var (h8 v) rv⟩)
        refine qt_asg a5.o (sel 0 1 (fun e => e.1) (fun e => e.2.1) a5.ok rfl (fun _ => rfl) (fun _ => rfl) (fun _ => rfl) (fun _ => rfl) (fun _ => rfl) (fun _ => rfl)) fun vo G6 H6 a6 ro => ?_
        refine qt_asg a6.o (sel 1 0 (fun e => e.2.1) (fun e => e.1) a6 rfl (fun _ => rfl) (fun _ => rfl) (fun _ => rfl) (fun _ => rfl) (fun _ => rfl) (fun _ => rfl)) fun vi G7 H7 a7 ri => ?_
        have ow7 := ((ow.adv a5).adv a6).adv a7
        have test : EvaT (tOr (tTest (tOp (rEqD K) (tVar 5) (tLst tNil))) (tTest (tOp (rEqD K) (tVar 6) (tLst tNil)))) [some v1, some vk, some v, some (.ref p), some vkk, some vo, some vi, none, none] G7 H7 (!outOk x.2 S kk || !inOk x.2 S kk) := by
          refine evt_or (evt_is (evt_test (eva_eq (eva_var rfl (ro.ex a7.g)) (eva_lst evaA_nil) (Sh.es _).ok rfl)) ?_) fun _ => evt_is (evt_test (eva_eq (eva_var rfl ri) (eva_lst evaA_nil) (Sh.es _).ok rfl)) ?_
          · rw [eqv_nil, List.isEmpty_map, empty_filter]; rfl
          · rw [eqv_nil, List.isEmpty_map, empty_filter]; rfl
        have A7 : Adv G2 H2 G7 H7 := A4.trans (a5.trans (a6.trans a7))
        have e37 : Ex G3 G7 := e34.trans (a5.g.trans (a6.g.trans a7.g))
        have eB7 : Ex B' G7 := eB'.trans (a5.g.trans (a6.g.trans a7.g))
        have ra7 := ra.ex (a5.g.trans (a6.g.trans a7.g))
        have hvl := rpa_len ra
        have hvl2 : vs.length ≤ 32 := by
          rw [hvl, List.length_map]
          exact Nat.le_trans (List.length_filter_le _ _) (by rw [List.length_take]; omega)
        refine st_when a7.o test (fun hb G8 H8 a8 => ?_) fun hb G8 H8 a8 => ?_
        · have ow8 := ow7.adv a8
          refine st_app a8.o (evv_var rfl) ow8 (eva_var rfl (rkk.ex ((a6.trans a7).trans a8).g)) (by omega) fun v' G9 H9 a9 rv' k9 => ?_
          have ow9 := ow8.adv a9
          have A9 : Adv G2 H2 G9 (upd H9 p (.lst (vs ++ [v']))) := ((((A7.trans a8).trans a9).toR (rs := [p])).trans (ow9.chg a9.o)).out fun b hb => by rw [List.mem_singleton.mp hb]; exact np
          refine ⟨G9, A9, eB7.trans (a8.trans a9).g, e37.trans (a8.trans a9).g, vs ++ [v'], _, _, _, rfl, ow9.put, ?_⟩
          rw [take_some hk, List.filter_append, List.filter_cons, if_pos hb, List.map_append]
          exact rpa_app (ra7.ex (a8.trans a9).g) (.cons rv' .nil)
        · refine ⟨G8, A7.trans a8, eB7.trans a8.g, e37.trans a8.g, vs, _, _, _, rfl, ow7.adv a8, ?_⟩
          rw [take_some hk, List.filter_append, List.filter_cons, if_neg (by rw [hb]; exact Bool.false_ne_true), List.filter_nil, List.append_nil]
          exact ra7.ex a8.g
      · rintro B' σ' G4 H4 ⟨A4, eB', e34, vs, o4, o5, o6, rfl, ow, ra⟩
        rw [List.take_length] at ra
        have A5 : Adv G2 H2 (upd G4 p (.lst vs)) H4 := (A4.toR.trans (ow.fix A4.o)).out fun b hb => by rw [List.mem_singleton.mp hb]; exact np
        have e45 : Ex G4 (upd G4 p (.lst vs)) := Ex.new ow.g
        have rb : Rp K (upd G4 p (.lst vs)) (.ref p) (.list ((badOf x.2 S).map .int)) := .lst upd_same (ra.ex e45)
        have rk5 := rk3.ex (e34.trans e45)
        refine st_asg A5.o (evan_eva (evan_lc S .int (fun k => !((badOf x.2 S).take 1).contains k) .int (src_list (eva_var rfl rk5)) (by omega) fun i kk vv G' H' hx a' rv => bd_name ⟨rfl, evt_test (eva_in (neg := true) (eva_var rfl rv) (eva_is (evan_eva (evan_sl (eva_var rfl (rb.ex a'.g)) evo_none (evo_some (K := K) eva_int))) (by rw [cutL_map, cutL_one]))), fun _ => eva_var rfl rv⟩)) fun vk' G6 H6 a6 rk6 => ?_
        refine ⟨G6, A2.trans (A5.trans a6), eB.trans ((a2.trans (A5.trans a6)).g), vk', some v, some (.ref p), o4, o5, o6, rfl, ?_⟩
        rw [keptN_succ, hS]
        exact rk6
    · rintro B σ' G2 H2 ⟨A2, eB, vk, o2, o3, o4, o5, o6, rfl, rk⟩
      rw [List.length_range, kept_sts ok] at rk
      have r12 := r1.ex A2.g
      refine qt_asg A2.o (evan_eva (evan_lc x.2 eD (fun e => (sts (core x.2)).contains e.1 && (sts (core x.2)).contains e.2.1) eD (src_tup (eva_ixT (eva_var rfl r12) eva_int rfl)) (by omega) fun i e v G' H' hx a' rv => bd_name ⟨rfl, evt_and (evt_test (eva_in (neg := false) (eva_item rfl rv rfl) (eva_var rfl (rk.ex a'.g)))) fun _ => evt_test (eva_in (neg := false) (eva_item rfl rv rfl) (eva_var rfl (rk.ex a'.g))), fun _ => eva_var rfl rv⟩)) fun ve G3 H3 a3 re => ?_
      rw [← core_filter] at re
      have hcl := (core_sub x.2).length_le
      refine st_ret a3.o (eva_tup (evaA_cons (eva_len (eva_var rfl (rk.ex a3.g)) (.inl rfl)) (evaA_cons (eva_tupleL (evan_eva (evan_lc (core x.2) eD (fun _ => true) (fun e => eD (ren (sts (core x.2)) e)) (src_list (eva_var rfl re)) (by omega) fun i e v G' H' hx a' rv => bd_name ⟨rfl, evt_yes, fun _ => ?_⟩))) evaA_nil))) fun v G4 H4 a4 rv => ?_
      · obtain ⟨h1, h2⟩ := core_ends (List.mem_of_getElem? hx)
        have rk' := (rk.ex a3.g).ex a'.g
        exact eva_tup (evaA_cons (eva_index (eva_var rfl rk') (eva_item rfl rv rfl) h1) (evaA_cons (eva_index (eva_var rfl rk') (eva_item rfl rv rfl) h2) (evaA_cons (eva_item rfl rv rfl) evaA_nil)))
      · refine q v G4 H4 (A2.trans (a3.trans a4)) ?_
        rw [filter_yes, List.length_map] at rv
        have e : wD (trimW x.2) = .tuple [.int ((sts (core x.2)).length : Nat), .tuple ((core x.2).map fun e => eD (ren (sts (core x.2)) e))] := by
          unfold wD trimW
          rw [List.map_map]; rfl
        rw [e]; exact rv
end
end K03

namespace Vf
open PySem PySem.Spec PyProof.Rows L2
open Evl hiding Ex Ex.refl Ex.trans Ex.new Ex.mut ex_rd ex_l ex_t fresh_back
theorem pi_listK {X : Cx} {tg l : Expr} {tl : TE} (K : PySem.W.Frag) (h : X.K = K) (a : PE X l tl) : PI X tg l (iList K tl) := h ▸ pi_list a
theorem pi_tupK {X : Cx} {tg l : Expr} {tl : TE} (K : PySem.W.Frag) (h : X.K = K) (a : PE X l tl) : PI X tg l (iTup K tl) := h ▸ pi_tup a
end Vf

set_option Elab.async false
set_option linter.all false
set_option maxRecDepth 100000
set_option maxHeartbeats 4000000
/-! ### set(xs), xs a list of ints; sorted of it -/
namespace Vf
open PySem PySem.Spec PyProof.Rows L2
open Evl hiding Ex Ex.refl Ex.trans Ex.new Ex.mut ex_rd ex_l ex_t fresh_back
abbrev nuSet (w : World) : Obj := { cls := .type "set", dict := none, data := .set #[] 0 (.fresh 0 0 (!w.params.followText "set-order")) }
section
variable {P : Program} {w : World} {A : Around} {E : Value → Shared → Prop} {s : Shared}
/-- what set(xs) leaves, at the next address -/
def SetLeft (w : World) (ns : List Int) (s : Shared) (s2 : Shared) : Prop := ∃ h' tk c, s2 = { s with heap := h', toks := tk } ∧ SetR w h' s.heap.objs.size (fun j => decide (j ∈ ns)) c ∧ c ≤ ns.length ∧ ∀ b o, s.heap.get? b = some o → h'.get? b = some o
theorem fill_ints {l : Addr} {its : Array Value} {ns : List Int} {A' : Around} {R : Result → Shared → Prop} (hh : A'.in1.handled = none) (hl : s.heap.IsList l its) (hi : IntsAre its.toList ns) (hb : ns.length + 1 < scanBound)
    (go : ∀ s2, SetLeft w ns s s2 → R (.ok (.ret .none)) s2) :
    codeAny (model P w) A' (.builtin "set.update.loop" ⟨[.ref s.heap.objs.size, .ref (s.heap.push (nuSet w)).objs.size], []⟩) R
      { s with heap := (s.heap.push (nuSet w)).push { cls := .type "list_iterator", data := .fields #[.ref l, .int 0 0] } } := by
  have lt0 : l < s.heap.objs.size := by obtain ⟨o, ho, _⟩ := hl; exact Heap.lt_size ho
  have z1 : (s.heap.push (nuSet w)).objs.size = s.heap.objs.size + 1 := Heap.size_push ..
  have len : its.size = ns.length := by have := IntsAre.length hi; rwa [Array.length_toList] at this
  have item : ∀ (i : Nat) (v : Value), its[i]? = some v → ∃ k t, ns[i]? = some k ∧ v = .int k t := by
    intro i v hv
    have lt : i < ns.length := len ▸ (Array.getElem?_eq_some_iff.mp hv).1
    obtain ⟨t, e⟩ := IntsAre.int_at hi i v (by rwa [Array.getElem?_toList])
    exact ⟨ns[i], t, List.getElem?_eq_getElem lt, by rw [e, List.getD_eq_getElem?_getD, List.getElem?_eq_getElem lt]; rfl⟩
  have apart : l ≠ (s.heap.push (nuSet w)).objs.size := by rw [z1]; exact Nat.ne_of_lt (Nat.lt_succ_of_lt lt0)
  have out : s.heap.objs.size ∉ [(s.heap.push (nuSet w)).objs.size, l] := by
    rw [z1]
    intro m
    rcases List.mem_cons.mp m with h | m
    · exact absurd h (Nat.ne_of_lt (Nat.lt_succ_self _))
    · exact Nat.lt_irrefl _ (by have := List.mem_singleton.mp m; rw [← this] at lt0; exact lt0)
  have l1 : (s.heap.push (nuSet w)).IsList l its := by
    obtain ⟨o, ho, q⟩ := hl; exact ⟨o, Heap.get?_push_of_some _ ho, q⟩
  have here : ((s.heap.push (nuSet w)).push { cls := .type "list_iterator", data := .fields #[.ref l, .int 0 0] }).get? s.heap.objs.size = some (nuSet w) := Heap.get?_push_of_some _ (Heap.get?_push_size _ rfl)
  refine set_update_ints ((Walks.list hh _ l apart its).toS) _ out ns len hb item its.size 0 _ (Nat.sub_zero _) (Nat.zero_le _) ⟨⟨_, Heap.get?_push_size _ rfl, rfl, rfl⟩, l1.push _⟩ ⟨0, Nat.le_refl _, setR_new_at here⟩ ?_
  rintro ⟨h2, g2, d2, t2, o2⟩ c mv hc hS
  have e1 : g2 = s.gens := mv.gens
  have e2 : d2 = s.drawn := mv.drawn
  have e3 : o2 = s.os := mv.os
  subst e1 e2 e3
  refine go _ ⟨h2, t2, c, rfl, hS, by omega, fun b o e => ?_⟩
  have lt := Heap.lt_size e
  refine mv.heap b o ?_ (Heap.get?_push_of_some _ (Heap.get?_push_of_some _ e))
  rw [z1]
  intro m
  rcases List.mem_cons.mp m with h | m
  · exact Nat.lt_irrefl _ (h ▸ lt)
  · exact Nat.lt_irrefl _ (Nat.lt_of_lt_of_le (List.mem_singleton.mp m ▸ lt) (Nat.le_succ _))
set_option maxHeartbeats 8000000 in
theorem set_of_ints {l : Addr} {its : Array Value} {ns : List Int} {Q : Value → Shared → Prop} (hh : A.handled = none) (hl : s.heap.IsList l its) (hi : IntsAre its.toList ns) (hb : ns.length + 1 < scanBound)
    (go : ∀ s2, SetLeft w ns s s2 → Q (.ref s.heap.objs.size) s2) : wpAny (model P w) A (call (.type "set") [.ref l]) Q E s := by
  have m1 := F.called_set.made
  have m2 := F.called_set.sub
  have m3 := F.called_set.notType
  have m4 := F.called_set.canCreate
  have m5 := F.typeCall_set_1 (.ref l)
  obtain ⟨_, _, m6⟩ := F.called_set.mro
  refine wpAny_call (codeAny_of_tree (wpAny_pure ⟨Code.quiet_builtin _ (by decide +kernel), codeAny_builtin F.entry_type_call ?_⟩))
  rw [Around.under_plain (weight_type_call_type "set" [.ref l] []) rfl]
  repeat (any_goals (first | assumption | wp_step))
  refine codeAny_mono (code_set_led1 (.ref l) (E := E) (Q₁ := fun v s1 => v = .ref s.heap.objs.size ∧ s1 = { s with heap := s.heap.push (nuSet w) }) ⟨rfl, rfl⟩) fun r s1 hr => ?_
  match r, hr with
  | .error _, hr => exact hr
  | .ok (.ret v), hr =>
    obtain ⟨rfl, rfl⟩ := hr
    have at1 : (s.heap.push (nuSet w)).get? s.heap.objs.size = some (nuSet w) := Heap.get?_push_size _ rfl
    have ty : Shared.TypeIs { s with heap := s.heap.push (nuSet w) } (.ref s.heap.objs.size) "set" := ⟨_, at1, rfl⟩
    have k1 := F.called_set.init.lookup
    have k2 := F.called_set.init.bind (.ref s.heap.objs.size)
    repeat (any_goals (first | assumption | wp_step))
    refine codeAny_mono (codeAny_call_builtin (R := wants (fun r s2 => r = .none ∧ SetLeft w ns s s2) E) F.called_set.init.plain F.entry_set_init (check_set_init_1 ty ?_)) fun r s2 h2 => ?_
    · have back := hl
      obtain ⟨⟨oc, od, ob, os⟩, ol, e1, n, e2⟩ := hl
      cases e1
      cases e2
      have at2 : (s.heap.push (nuSet w)).get? l = some { cls := .type "list", dict := od, data := .seq its n, slots := os } := Heap.get?_push_of_some _ ol
      have s1 := F.sub_list_set
      have s2 := F.sub_list_frozenset
      have no : (Value.type "list" == Value.type "dict") = false := by decide
      unfold Builtin.«set.__init__» noKeywords Builtin.Frozenset.updateFrom
      generalize hI : pyIter = py
      wp_walk
      subst hI
      refine wpAny_pyIter_list (items := its) ⟨_, at2, rfl, n, rfl⟩ (wpAny_bind (wpAny_runValue ?_))
      refine fill_ints (s := s) (by simp [hh]) back hi hb fun s2 left => ?_
      exact wpAny_pure (show wpAny _ _ (ret Value.none) _ _ _ from wpAny_pure ⟨rfl, left⟩)
    · match r, h2 with
      | .error _, h2 => exact h2
      | .ok (.ret v), h2 =>
        obtain ⟨rfl, h2⟩ := h2
        repeat (any_goals (first | assumption | wp_step))
        exact go _ h2
  | .ok .next, hr => exact hr.elim
end
end Vf

set_option Elab.async false
set_option linter.all false
set_option maxRecDepth 100000
set_option maxHeartbeats 4000000
namespace Vf
open PySem PySem.Spec PyProof.Rows L2
open Evl hiding Ex Ex.refl Ex.trans Ex.new Ex.mut ex_rd ex_l ex_t fresh_back
section
variable {X : Cx}
/-- set(xs), xs a list of ints -/
def rSetInts (K : PySem.W.Frag) (w : World) : List V → Hp → VK → Prop := fun vs H Q => ∃ (l : Addr) (ns : List Int), vs = [V.ref l] ∧ SqL K H l (ns.map V.int) ∧ ns.length < 64 ∧ ∀ a c, H a = none → c ≤ ns.length → Q (.ref a) (upd H a (SetO w a (fun j => decide (j ∈ ns)) c))
theorem cr_setInts (hc : X.calm = true) : CallR X (.type "set") (rSetInts X.K X.w) := by
  intro pins s σ H vs us Q I r h
  obtain ⟨l, ns, rfl, hs, hf, q⟩ := h
  rw [Vals.ref1 r]
  obtain ⟨its, rv, pl, hz⟩ := I.list hs
  have new : H s.heap.objs.size = none := I.hok.fresh (Nat.le_refl _)
  refine set_of_ints (P := X.prog) (w := X.w) (I.ok.hd hc) pl.isList (ints_of_vals rv) (by unfold scanBound; omega) fun s2 left => ?_
  obtain ⟨h', tk, c, rfl, hS, hc, k⟩ := left
  exact ⟨.ref s.heap.objs.size, upd H s.heap.objs.size (SetO X.w s.heap.objs.size (fun j => decide (j ∈ ns)) c), I.laid (t' := tk) k (Nat.le_refl _) (setO_new hS), rfl, q _ c new hc⟩
end
section
variable {K : PySem.W.Frag} {w : World} {σ : L2.St} {G H : Hp} {te : TE}
/-- sorted(set(xs)) -/
theorem eva_ssi {ns : List Int} (h : Eva K te σ G H (.list (ns.map .int))) (hf : ns.length < 64) : Eva K (tCB (rSortedSet w) (tCons (tCB (rSetInts K w) (tCons te tNil)) tNil)) σ G H (.list ((ascBy id ns).map .int)) := fun G1 H1 a Q q =>
  h G1 H1 a _ fun v G2 H2 a2 r => by
    cases r with
    | @lst l xs _ hs hr =>
      cases rpa_ints hr
      refine ⟨l, ns, rfl, SqL.of (a2.o _ _ hs), hf, fun a' c ha hc => ?_⟩
      refine ⟨a', _, c, rfl, upd_same, by omega, fun ms p hasc hmem hlen hp => ?_⟩
      have e : ms = ascBy id ns := asc_unique (k := id) hasc (ascBy_asc _) fun x => by rw [hmem, mem_asc_id, decide_eq_true_eq]
      subst e
      have a3 : Adv G2 H2 G2 (upd H2 a' (SetO w a' (fun j => decide (j ∈ ns)) c)) := .lay a2.o ha
      exact q _ (upd G2 p _) _ ((a2.trans a3).trans (Adv.new a3.o hp)) (.lst upd_same ((ints_rpa _).ex (Ex.refl _)))
end
end Vf

set_option Elab.async false
set_option linter.all false
set_option maxRecDepth 100000
set_option maxHeartbeats 4000000
/-! ### sorted(set(xs)), xs a list of tuples of ints, short and long ones -/
namespace Vf
open PySem PySem.Spec PyProof.Rows L2
open Evl hiding Ex Ex.refl Ex.trans Ex.new Ex.mut ex_rd ex_l ex_t fresh_back
/-- a tuple's rank, the short ones filled up -/
def padc (B : Int) : Nat → List Int → Int
  | 0, _ => 0
  | _ + 1, [] => 0
  | d + 1, n :: r => (n + 1) * (B + 1) ^ d + padc B d r
theorem padc_nil (B : Int) : ∀ d, padc B d [] = 0
  | 0 => rfl
  | _ + 1 => rfl
theorem padc_bd {B : Int} (hB : 0 ≤ B) : ∀ (d : Nat) (ns : List Int), TS.Bd B ns → 0 ≤ padc B d ns ∧ padc B d ns < (B + 1) ^ d
  | 0, _, _ => ⟨Int.le_refl _, by show (0 : Int) < _; rw [Int.pow_zero]; decide⟩
  | d + 1, [], _ => by
    obtain ⟨p0, p1⟩ := padc_bd hB d [] fun m hm => by cases hm
    refine ⟨Int.le_refl _, ?_⟩
    show (0 : Int) < (B + 1) ^ (d + 1)
    rw [Int.pow_succ]
    exact Int.mul_pos (by omega) (by omega)
  | d + 1, n :: r, h => by
    obtain ⟨p0, p1⟩ := padc_bd hB d r h.tail
    obtain ⟨n0, n1⟩ := h.head
    have z := TS.num1 (d := n + 1) (B := B + 1) p0 p1 (by omega) (by omega)
    rw [← Int.pow_succ] at z
    exact z
theorem padc_inj {B : Int} (hB : 0 ≤ B) : ∀ (d : Nat) (ns ms : List Int), TS.Bd B ns → TS.Bd B ms → ns.length ≤ d → ms.length ≤ d → padc B d ns = padc B d ms → ns = ms
  | 0, [], [], _, _, _, _, _ => rfl
  | 0, _ :: _, _, _, _, h, _, _ => by simp at h
  | 0, [], _ :: _, _, _, _, h, _ => by simp at h
  | d + 1, [], [], _, _, _, _, _ => rfl
  | d + 1, [], m :: r, _, h, _, _, e => by
    obtain ⟨p0, p1⟩ := padc_bd hB d r h.tail
    obtain ⟨n0, n1⟩ := h.head
    have : 0 * (B + 1) ^ d + 0 < (m + 1) * (B + 1) ^ d + padc B d r := TS.num2 (Int.le_refl _) (by omega) p0 (by omega)
    change (0 : Int) = (m + 1) * (B + 1) ^ d + padc B d r at e
    omega
  | d + 1, m :: r, [], h, _, _, _, e => by
    obtain ⟨p0, p1⟩ := padc_bd hB d r h.tail
    obtain ⟨n0, n1⟩ := h.head
    have : 0 * (B + 1) ^ d + 0 < (m + 1) * (B + 1) ^ d + padc B d r := TS.num2 (Int.le_refl _) (by omega) p0 (by omega)
    change (m + 1) * (B + 1) ^ d + padc B d r = (0 : Int) at e
    omega
  | d + 1, n :: r, m :: q, h, g, l1, l2, e => by
    obtain ⟨p0, p1⟩ := padc_bd hB d r h.tail
    obtain ⟨q0, q1⟩ := padc_bd hB d q g.tail
    change (n + 1) * (B + 1) ^ d + padc B d r = (m + 1) * (B + 1) ^ d + padc B d q at e
    rcases Int.lt_trichotomy n m with c | c | c
    · have := TS.num2 (P := (B + 1) ^ d) (d := n + 1) (e := m + 1) p0 p1 q0 (by omega)
      omega
    · subst c
      rw [padc_inj hB d r q h.tail g.tail (by simpa using l1) (by simpa using l2) (by omega)]
    · have := TS.num2 (P := (B + 1) ^ d) (d := m + 1) (e := n + 1) q0 q1 p0 (by omega)
      omega
section
variable {P : Program} {w : World} {A : Around} {E : Value → Shared → Prop} {s : Shared}
theorem lex_any {B : Int} {b fin : Bool} {Q : Bool → Shared → Prop} (hB : 0 ≤ B) : ∀ (d i : Nat) {xs ys : List Value} {ns ms : List Int}, IntsAre xs ns → IntsAre ys ms → ns.length ≤ d → ms.length ≤ d → TS.Bd B ns → TS.Bd B ms → fin = decide (ns.length < ms.length) →
    Q (decide (padc B d ns < padc B d ms)) s → PySem.W.KatLex P w A b fin Q (xs.zip ys) i s
  | d, i, _, _, _, _, .nil, .nil, _, _, _, _, hf, h => by
    rw [padc_nil] at h
    subst hf
    exact PySem.W.kat_nil h
  | 0, i, _, _, _, _, .cons .., _, l1, _, _, _, _, _ => by simp at l1
  | 0, i, _, _, _, _, .nil, .cons .., _, l2, _, _, _, _ => by simp at l2
  | d + 1, i, _, _, _, _, .nil, .cons (ns := ms) m t hy, _, _, _, h2, hf, h => by
    obtain ⟨p0, p1⟩ := padc_bd hB d ms h2.tail
    obtain ⟨n0, n1⟩ := h2.head
    have z : 0 * (B + 1) ^ d + 0 < (m + 1) * (B + 1) ^ d + padc B d ms := TS.num2 (Int.le_refl _) (by omega) p0 (by omega)
    have e : decide (padc B (d + 1) [] < padc B (d + 1) (m :: ms)) = true := decide_eq_true (by show 0 < (m + 1) * (B + 1) ^ d + padc B d ms; omega)
    rw [e] at h
    subst hf
    refine PySem.W.kat_nil ?_
    simpa using h
  | d + 1, i, _, _, _, _, .cons (ns := ms) m t hy, .nil, _, _, h2, _, hf, h => by
    obtain ⟨p0, p1⟩ := padc_bd hB d ms h2.tail
    obtain ⟨n0, n1⟩ := h2.head
    have z : 0 * (B + 1) ^ d + 0 < (m + 1) * (B + 1) ^ d + padc B d ms := TS.num2 (Int.le_refl _) (by omega) p0 (by omega)
    have e : decide (padc B (d + 1) (m :: ms) < padc B (d + 1) []) = false := decide_eq_false (by show ¬ (m + 1) * (B + 1) ^ d + padc B d ms < 0; omega)
    rw [e] at h
    subst hf
    refine PySem.W.kat_nil ?_
    simpa using h
  | d + 1, i, _, _, _, _, .cons (ns := ns) n t hx, .cons (ns := ms) m u hy, l1, l2, h1, h2, hf, h => by
    obtain ⟨p0, p1⟩ := padc_bd hB d ns h1.tail
    obtain ⟨q0, q1⟩ := padc_bd hB d ms h2.tail
    change Q (decide ((n + 1) * (B + 1) ^ d + padc B d ns < (m + 1) * (B + 1) ^ d + padc B d ms)) s at h
    refine PySem.W.kat_cons (wpAny_eqBool_int ?_)
    rcases Int.lt_trichotomy n m with c | c | c
    · rw [beq_eq_false_iff_ne.mpr (by omega : n ≠ m)]
      have := TS.num2 (P := (B + 1) ^ d) (d := n + 1) (e := m + 1) p0 p1 q0 (by omega)
      refine PySem.W.kat_no (TS.oneLt_ints _ ?_)
      rw [decide_eq_true c]
      rw [decide_eq_true this] at h
      exact h
    · subst c
      rw [beq_self_eq_true]
      refine PySem.W.kat_yes (lex_any hB d (i + 1) hx hy (by simpa using l1) (by simpa using l2) h1.tail h2.tail (by rw [hf]; simp) ?_)
      rw [show decide (padc B d ns < padc B d ms) = decide ((n + 1) * (B + 1) ^ d + padc B d ns < (n + 1) * (B + 1) ^ d + padc B d ms) from decide_eq_decide.mpr (by constructor <;> intro z <;> omega)]
      exact h
    · rw [beq_eq_false_iff_ne.mpr (by omega : n ≠ m)]
      have := TS.num2 (P := (B + 1) ^ d) (d := m + 1) (e := n + 1) q0 q1 p0 (by omega)
      refine PySem.W.kat_no (TS.oneLt_ints _ ?_)
      rw [decide_eq_false (by omega)]
      rw [decide_eq_false (by omega)] at h
      exact h
/-- what is sorted -/
def TupsB (h : Heap) (d : Nat) (B : Int) (vs : List Value) : Prop := ∀ v ∈ vs, ∃ ns, TS.TupInts h v ns ∧ 1 ≤ ns.length ∧ ns.length ≤ d ∧ TS.Bd B ns
theorem tups_firsts {h : Heap} {d : Nat} {B : Int} : ∀ vs : List Value, TupsB h d B vs → ∃ fs, PySem.W.KatTups h vs fs ∧ fs.length = vs.length ∧ ∀ f ∈ fs, ∃ n t, f = Value.int n t
  | [], _ => ⟨[], .nil, rfl, fun f hf => by cases hf⟩
  | v :: vs, x => by
    obtain ⟨fs, k, e, a⟩ := tups_firsts vs fun u hu => x u (List.mem_cons_of_mem _ hu)
    obtain ⟨ns, ⟨p, xs, rfl, ⟨o, ho, hc, n, hd⟩, hi⟩, h1, _, _⟩ := x v List.mem_cons_self
    obtain ⟨xl⟩ := xs
    cases hi with
    | nil => simp at h1
    | @cons m t us ms hi => exact ⟨.int m t :: fs, .cons ho hc hd rfl k, congrArg (· + 1) e, fun f hf => (List.mem_cons.mp hf).elim (fun z => ⟨m, t, z⟩) (a f)⟩
theorem tups_kind {d : Nat} {B : Int} {vs : List Value} {Q : SortKind → Shared → Prop} (hB : 0 ≤ B) (two : 2 ≤ vs.length) (x : TupsB s.heap d B vs) (r : Value → Int) (hr : ∀ v ∈ vs, ∀ ns, TS.TupInts s.heap v ns → r v = padc B d ns)
    (go : ∀ κ, TS.Cmp P w A s κ (pairsOf vs) r → Q κ s) : wpAny (model P w) A (keyKind' vs.toArray) Q E s := by
  obtain ⟨fs, k, e, a⟩ := tups_firsts vs x
  refine PySem.W.kat_kind (T := .type "int") k (by omega) (fun f hf => ?_) rfl (go _ fun p q hp hq Q' E' h => ?_)
  · obtain ⟨n, t, rfl⟩ := a f hf; exact PySem.W.Looks.of_pure rfl
  · rw [pairsOf_toList] at hp hq
    have mp := (mem_zip_self hp).2
    have mq := (mem_zip_self hq).2
    obtain ⟨ns, tp, n1, n2, nb⟩ := x _ mp
    obtain ⟨ms, tq, m1, m2, mb⟩ := x _ mq
    rw [hr _ mp _ tp, hr _ mq _ tq] at h
    obtain ⟨a1, xs, e1, ⟨o1, g1, c1, j1, d1⟩, i1⟩ := tp
    obtain ⟨a2, ys, e2, ⟨o2, g2, c2, j2, d2⟩, i2⟩ := tq
    rw [e1, e2]
    have z1 := i1.length
    have z2 := i2.length
    rw [Array.length_toList] at z1 z2
    exact PySem.W.kat_lt g1 d1 g2 d2 (lex_any hB d 0 i1 i2 n2 m2 nb mb (by rw [z1, z2]) h)
end
end Vf

set_option Elab.async false
set_option linter.all false
set_option maxRecDepth 100000
set_option maxHeartbeats 4000000
namespace Vf
open PySem PySem.Spec PyProof.Rows L2
open Evl hiding Ex Ex.refl Ex.trans Ex.new Ex.mut ex_rd ex_l ex_t fresh_back
section
variable {P : Program} {w : World} {A : Around} {E : Value → Shared → Prop} {s : Shared}
theorem tups_sort {a : Addr} {vs : List Value} {n d : Nat} {B : Int} {Q : Value → Shared → Prop} (hB : 0 ≤ B) (ho : s.heap.get? a = some (seqObj "list" vs.toArray n)) (few : vs.length < 64) (x : TupsB s.heap d B vs)
    (go : ∀ out : Array Value, out.toList.Perm vs → out.toList.Pairwise (fun u v => padc B d (TS.intsOf s.heap u) ≤ padc B d (TS.intsOf s.heap v)) → Q .none { s with heap := sortedHeap s.heap a vs out }) :
    wpAny (model P w) A (call (.builtin "list.sort") [.ref a]) Q E s := by
  refine wpAny_call_entry slot_list_sort ⟨_, ho, rfl⟩ entry_list_sort ?_ (args_list_sort _)
  have stay : ∀ b o, s.heap.get? b = some o → o.cls = .type "tuple" → (TS.midHeap s.heap a vs).get? b = some o := by
    intro b o e c
    by_cases z : b = a
    · rw [z, ho] at e
      cases e
      exact absurd (show Value.type "list" = Value.type "tuple" from c) (by decide)
    · exact TS.midHeap_old z e
  refine SK.plain_sort (r := fun v => padc B d (TS.intsOf s.heap v)) ho few (fun two R hR => ?_) fun ps out h1 h2 h3 => ?_
  · refine tups_kind (d := d) (s := { s with heap := TS.midHeap s.heap a vs }) hB two (fun v hv => ?_) _ (fun v hv ns t => ?_) hR
    · obtain ⟨ns, t, r⟩ := x v hv
      exact ⟨ns, t.keeps stay, r⟩
    · obtain ⟨ms, t', r⟩ := x v hv
      rw [show ns = ms from t.ints.symm.trans (t'.keeps stay).ints, t'.ints]
  · obtain ⟨pm, pw⟩ := TS.out_rank (r := fun v => padc B d (TS.intsOf s.heap v)) h1 h2 h3
    exact ⟨_, rfl, go out pm pw⟩
theorem set_sorted {a : Addr} {L : List (Addr × List Int)} {es : Array (Int × Value)} {ep : Nat} {t : SetTable} {d : Nat} {B : Int} {Q : Value → Shared → Prop} (R : SetTR P w s.heap a L es ep t) (hh : A.handled = none) (hB : 0 ≤ B)
    (ok : ∀ p ∈ L, 1 ≤ p.2.length ∧ p.2.length ≤ d ∧ TS.Bd B p.2)
    (go : ∀ s2 p (out : Array Value) (c : Nat) (M : List (Addr × List Int)), (∀ b o, s.heap.get? b = some o → s2.heap.get? b = some o) → s2.gens = s.gens → s2.os = s.os → s.heap.objs.size ≤ p → s2.heap.get? p = some (seqObj "list" out c) →
      out.toList = M.map (fun q => Value.ref q.1) → M.Perm L → M.Pairwise (fun q r => padc B d q.2 ≤ padc B d r.2) → Q (.ref p) s2) :
    wpAny (model P w) A (call (.builtin "sorted") [.ref a]) Q E s := by
  have few := R.few
  obtain ⟨o, ho, ex, od⟩ := R.ob
  have sz := R.size
  have rows : es.toList.map (·.2) = L.map fun q => Value.ref q.1 := by rw [R.rows]; unfold rowsOf; rw [List.map_map]; rfl
  have uniq : ∀ q ∈ L, ∀ r ∈ L, q.1 = r.1 → q = r := by
    intro q hq r hr e
    have t1 := R.tup q hq
    rw [e] at t1
    exact Prod.ext e (t1.inj (R.tup r hr))
  refine Calls.call_function_entry kind_sorted plain_sorted entry_sorted (args_sorted1 _) ?_
  unfold Builtin.«sorted»
  refine wpAny_bind (m := checkCount "sorted" 1 1 _) (wpAny_pure (wpAny_bind (collect_set (A := A.in1) hh ⟨o, ho, ex.1, od⟩ R.fits (by unfold scanBound; omega) R.tab.ris R.led fun s1 vs k1 z1 g1 o1 pm => ?_)))
  rw [rows] at pm
  have nv : vs.length < 64 := by rw [pm.length_eq, List.length_map]; exact few
  refine wpAny_bind (wpAny_newList ?_ (by rw [sizeLine_eq]; omega))
  have at1 : (s1.heap.push (seqObj "list" vs.toArray 0)).get? s1.heap.objs.size = some (seqObj "list" vs.toArray 0) := Heap.get?_push_size _ rfl
  have tup : ∀ q ∈ L, TS.TupInts (s1.heap.push (seqObj "list" vs.toArray 0)) (.ref q.1) q.2 := fun q hq => tupInts_of (P := P) (w := w) (isT_keep (R.tup q hq) fun b u e => Heap.get?_push_of_some _ (k1 b u e))
  have all : TupsB (s1.heap.push (seqObj "list" vs.toArray 0)) d B vs := by
    intro v hv
    obtain ⟨q, hq, rfl⟩ := List.mem_map.mp (pm.mem_iff.mp hv)
    exact ⟨q.2, tup q hq, ok q hq⟩
  refine wpAny_bind (wpAny_holding (tups_sort (s := { s1 with heap := s1.heap.push (seqObj "list" vs.toArray 0) }) hB at1 nv all fun out p1 p2 => ?_))
  -- the sorted values as rows of the set
  have back : ∀ us : List Value, (∀ u ∈ us, ∃ q ∈ L, Value.ref q.1 = u) → ∃ M : List (Addr × List Int), us = M.map (fun q => Value.ref q.1) ∧ ∀ q ∈ M, q ∈ L := by
    intro us
    induction us with
    | nil => exact fun _ => ⟨[], rfl, fun _ h => by cases h⟩
    | cons u us ih =>
      intro h
      obtain ⟨q, hq, rfl⟩ := h u List.mem_cons_self
      obtain ⟨M, rfl, hM⟩ := ih fun v hv => h v (List.mem_cons_of_mem _ hv)
      exact ⟨q :: M, rfl, fun r hr => (List.mem_cons.mp hr).elim (fun z => z ▸ hq) (hM r)⟩
  have p3 := p1.trans pm
  obtain ⟨M, eM, hM⟩ := back out.toList fun u hu => by
    obtain ⟨q, hq, e⟩ := List.mem_map.mp (p3.mem_iff.mp hu)
    exact ⟨q, hq, e⟩
  have inj : ∀ q ∈ L, ∀ r ∈ L, (fun q : Addr × List Int => Value.ref q.1) q = (fun q => Value.ref q.1) r → q = r := fun q hq r hr e => uniq q hq r hr (Value.ref.inj e)
  have nL : L.Nodup := nodup_of_map R.nd
  rw [eM] at p3 p2
  have nM : M.Nodup := nodup_of_map (p3.nodup_iff.mpr (List.pairwise_map.mpr (List.Pairwise.imp_of_mem (fun {q r} hq hr n e => n (inj q hq r hr e)) nL)))
  have pM : M.Perm L := (List.perm_ext_iff_of_nodup nM nL).mpr fun q => ⟨hM q, fun hq => by
    obtain ⟨r, hr, e⟩ := List.mem_map.mp (p3.mem_iff.mpr (List.mem_map.mpr ⟨q, hq, rfl⟩))
    rw [← inj r (hM r hr) q hq e]; exact hr⟩
  obtain ⟨c, hc⟩ := sortedHeap_at (vs := vs) (out := out) at1
  refine wpAny_pure ⟨_, rfl, go _ s1.heap.objs.size out c M (fun b u e => ?_) g1 o1 z1 hc eM pM (List.Pairwise.imp_of_mem (fun {q r} hq hr hle => ?_) (List.pairwise_map.mp p2))⟩
  · have e1 := k1 b u e
    have lt := Heap.lt_size e1
    change (sortedHeap (s1.heap.push (seqObj "list" vs.toArray 0)) s1.heap.objs.size vs out).get? b = some u
    rw [sortedHeap_old (Nat.ne_of_lt lt) (by rw [size_push']; exact Nat.lt_succ_of_lt lt)]
    exact Heap.get?_push_of_some _ e1
  · rw [(tup q (hM q hq)).ints, (tup r (hM r hr)).ints] at hle
    exact hle
end
section
variable {X : Cx}
/-- sorted(set), tuples of ints in [0, B), not empty, of at most d -/
def rSortTups (P : Program) (K : PySem.W.Frag) (w : World) (d : Nat) (B : Int) : List V → Hp → VK → Prop := fun vs H Q => ∃ (a : Addr) (L : List (Addr × List Int)), vs = [V.ref a] ∧ H a = some (SetTO P w a L) ∧ (∀ p ∈ L, SqT K H p.1 (p.2.map V.int)) ∧
  (∀ p ∈ L, 1 ≤ p.2.length ∧ p.2.length ≤ d ∧ TS.Bd B p.2) ∧
  ∀ (M : List (Addr × List Int)) (p : Addr), M.Perm L → (M.map (·.2)).Nodup → M.length < 64 → M.Pairwise (fun q r => padc B d q.2 ≤ padc B d r.2) → H p = none → Q (.ref p) (upd H p (.lst (M.map fun q => V.ref q.1)))
theorem cr_sortTups (d : Nat) (B : Int) (hB : 0 ≤ B) (hc : X.calm = true) : CallR X (.builtin "sorted") (rSortTups X.prog X.K X.w d B) := by
  intro pins s σ H vs us Q I r h
  obtain ⟨a, L, rfl, ha, hk, ok, q⟩ := h
  have R0 : SetT0 X.prog X.w s.heap a L := (I.hok a _ ha).1
  obtain ⟨es, ep, t, R⟩ := R0.full fun p hp => I.isT (hk p hp)
  rw [Vals.ref1 r]
  refine set_sorted R (I.ok.hd hc) hB ok fun s2 p out c M k g o hp hg hout pm pw => ?_
  have few : M.length < 64 := by rw [pm.length_eq]; exact R.few
  have J : Inv X pins σ (upd H p (.lst (M.map fun q => V.ref q.1))) { s with heap := s2.heap, gens := s2.gens, drawn := s2.drawn, toks := s2.toks } :=
    I.call (ch := []) (Un.laid k hp (I.hok.fresh hp)) (I.hok.laid k hp ⟨by rw [List.length_map, sizeLine_eq]; omega, out.toList, c, by rw [hout]; exact vals_of_refs M, hg⟩) (by rw [g]; exact I.bare) (fun _ z => nomatch z)
  have e : s2 = { s with heap := s2.heap, gens := s2.gens, drawn := s2.drawn, toks := s2.toks } := by cases s2; cases s; cases o; rfl
  rw [e]
  exact ⟨.ref p, _, J, rfl, q M p pm ((pm.map (·.2)).nodup_iff.mpr R.nd) few pw (I.hok.fresh hp)⟩
end
end Vf

set_option Elab.async false
set_option linter.all false
set_option maxRecDepth 100000
set_option maxHeartbeats 4000000
namespace Vf
open PySem PySem.Spec PyProof.Rows L2
open Evl hiding Ex Ex.refl Ex.trans Ex.new Ex.mut ex_rd ex_l ex_t fresh_back
def tD (ns : List Int) : PyData := .tuple (ns.map .int)
section
variable {P : Program} {w : World} {K : PySem.W.Frag} {σ : L2.St} {G H : Hp} {te : TE}
/-- where the tuples of a list are -/
theorem tD_refs : ∀ {ts : List (List Int)} {vs : List V}, RpAll K G vs (ts.map tD) → ∃ ks : List (Addr × List Int), vs = ks.map (fun q => V.ref q.1) ∧ ks.map (·.2) = ts ∧ ∀ q ∈ ks, SqT K G q.1 (q.2.map V.int)
  | [], _, h => by cases h; exact ⟨[], rfl, rfl, fun q h => by cases h⟩
  | t :: ts, _, h => by
    cases h with
    | cons h1 h2 =>
      obtain ⟨ks, rfl, rfl, hk⟩ := tD_refs h2
      cases h1 with
      | @tup a xs _ hs hr =>
        cases rpa_ints hr
        exact ⟨(a, t) :: ks, rfl, rfl, fun q hq => (List.mem_cons.mp hq).elim (fun e => by rw [e]; exact hs) (hk q)⟩
theorem refs_tD : ∀ {ks : List (Addr × List Int)}, (∀ q ∈ ks, SqT K G q.1 (q.2.map V.int)) → RpAll K G (ks.map fun q => V.ref q.1) ((ks.map (·.2)).map tD)
  | [], _ => .nil
  | q :: ks, h => .cons (.tup (h q List.mem_cons_self) (ints_rpa _)) (refs_tD fun r hr => h r (List.mem_cons_of_mem _ hr))
/-- sorted(set(ts)), tuples of ints -/
theorem eva_sst {d : Nat} {B : Int} {ts : List (List Int)} (h : Eva K te σ G H (.list (ts.map tD))) (hz : ts.length < 64) (hB : 0 ≤ B) (ok : ∀ t ∈ ts, 1 ≤ t.length ∧ t.length ≤ d ∧ TS.Bd B t) :
    Eva K (tCB (rSortTups P K w d B) (tCons (tCB (rSetOfT K P w) (tCons te tNil)) tNil)) σ G H (.list ((ascBy (padc B d) ts).map tD)) := fun G1 H1 a Q q => h G1 H1 a _ fun v G2 H2 a2 r => by
  cases r with
  | @lst l xs _ hs hr =>
    obtain ⟨ks, rfl, rfl, hk⟩ := tD_refs hr
    have mem : ∀ q ∈ ks, q.2 ∈ ks.map (·.2) := fun q hq => List.mem_map.mpr ⟨q, hq, rfl⟩
    have inj : ∀ x ∈ ks.map (·.2), ∀ y ∈ ks.map (·.2), padc B d x = padc B d y → x = y := fun x hx y hy e => padc_inj hB d x y (ok x hx).2.2 (ok y hy).2.2 (ok x hx).2.1 (ok y hy).2.1 e
    refine ⟨l, ks, rfl, SqL.of (a2.o _ _ hs), fun q hq => ex_t a2.o (hk q hq), by simpa using hz, fun a' L ha L1 L2 => ?_⟩
    refine ⟨a', L, rfl, upd_same, fun q hq => ex_t (a2.o.trans (Ex.new ha)) (hk q (L1 q hq)), fun q hq => ok _ (mem q (L1 q hq)), fun M p pm nd few pw hp => ?_⟩
    have sub : ∀ q ∈ M, q ∈ ks := fun q hq => L1 q (pm.mem_iff.mp hq)
    have asc : Asc (padc B d) (M.map (·.2)) := by
      refine List.pairwise_map.mpr (List.Pairwise.imp_of_mem (fun {q r} hq hr z => ?_) (pw.and (List.pairwise_map.mp nd)))
      rcases Int.lt_or_eq_of_le z.1 with c | c
      · exact c
      · exact absurd (inj _ (mem q (sub q hq)) _ (mem r (sub r hr)) c) z.2
    have e : M.map (·.2) = ascBy (padc B d) (ks.map (·.2)) := asc_unique asc (ascBy_asc _) fun x => by
      rw [mem_ascBy_iff inj]
      refine ⟨fun hx => ?_, fun hx => ?_⟩
      · obtain ⟨q, hq, rfl⟩ := List.mem_map.mp hx
        exact mem q (sub q hq)
      · obtain ⟨q, hq, rfl⟩ := List.mem_map.mp hx
        exact (pm.map (·.2)).mem_iff.mpr (L2 q hq)
    rw [← e] at q
    have k2 : Ex G2 (upd H2 a' (SetTO P w a' L)) := a2.o.trans (Ex.new ha)
    exact q _ (upd G2 p _) _ ((a2.trans (Adv.lay a2.o ha)).trans (Adv.new k2 hp)) (.lst upd_same ((refs_tD fun q hq => hk q (sub q hq)).ex (Ex.new (fresh_back k2 hp))))
end
end Vf

set_option Elab.async false
set_option linter.all false
set_option maxRecDepth 100000
set_option maxHeartbeats 4000000
namespace Vf
open PySem PySem.Spec PyProof.Rows L2
open Evl hiding Ex Ex.refl Ex.trans Ex.new Ex.mut ex_rd ex_l ex_t fresh_back
/-! ### whole numbers as bits -/
theorem bitOr_nat (a b : Nat) : Builtin.bitOr (a : Int) (b : Int) = ((a ||| b : Nat) : Int) := by rw [Bits.bitOr_pp (Int.natCast_nonneg _) (Int.natCast_nonneg _)]; rfl
theorem bitAnd_one (a : Nat) : Builtin.bitAnd (a : Int) 1 = ((a % 2 : Nat) : Int) := by
  have := Bits.bitAnd_mask 1 (Int.natCast_nonneg a)
  rw [show (2 : Int) ^ 1 - 1 = 1 by decide, show (2 : Int) ^ 1 = 2 by decide] at this
  rw [this]; rfl
theorem shl_one (k : Nat) : (1 : Int) * 2 ^ (k : Int).toNat = ((2 ^ k : Nat) : Int) := by rw [Int.one_mul, Int.toNat_natCast, Int.natCast_pow]; rfl
theorem shr_nat (a k : Nat) : (a : Int) / 2 ^ (k : Int).toNat = ((a / 2 ^ k : Nat) : Int) := by rw [Int.toNat_natCast, Int.natCast_ediv, Int.natCast_pow]; rfl
section
variable {K : PySem.W.Frag} {σ : L2.St} {G H : Hp} {ta tb te : TE} {p : Addr} {D : Ends} {tz : TS}
/-- a bit of a whole number -/
theorem eva_bit {a k : Nat} (ha : Eva K ta σ G H (.int a)) (hb : Eva K tb σ G H (.int k)) :
    Eva K (tOp (rI0 fun i j => .int (Builtin.bitAnd i j)) (tOp (rI (fun _ j => 0 ≤ j) fun i j => .int (i / 2 ^ j.toNat)) ta tb) (tC (.int 1))) σ G H (.int ((a / 2 ^ k % 2 : Nat) : Int)) :=
  eva_is (eva_op (g := Builtin.bitAnd) (eva_opc (g := fun i j => i / 2 ^ j.toNat) ha hb (Int.natCast_nonneg _)) eva_int) (by rw [shr_nat, bitAnd_one])
theorem eva_or2 {a b : Nat} (ha : Eva K ta σ G H (.int a)) (hb : Eva K tb σ G H (.int b)) : Eva K (tOp (rI0 fun i j => .int (Builtin.bitOr i j)) ta tb) σ G H (.int ((a ||| b : Nat) : Int)) :=
  eva_is (eva_op (g := Builtin.bitOr) ha hb) (by rw [bitOr_nat])
theorem eva_shl1 {k : Nat} (hb : Eva K tb σ G H (.int k)) (hk : k ≤ 1000000) : Eva K (tOp (rI CPow fun i j => .int (i * 2 ^ j.toNat)) (tC (.int 1)) tb) σ G H (.int ((2 ^ k : Nat) : Int)) :=
  eva_is (eva_opc (g := fun i j => i * 2 ^ j.toNat) eva_int hb ⟨Int.natCast_nonneg _, by omega, by decide⟩) (by rw [shl_one])
/-- the truth of an int, of a list -/
abbrev tTru (K : PySem.W.Frag) (te : TE) : TT := fun σ H Q => te σ H fun x H' => ∃ k, TruV K x H' k ∧ Q k H'
theorem evt_int {i : Int} (h : Eva K te σ G H (.int i)) : EvaT (tTru K te) σ G H (i != 0) := fun G1 H1 a Q q => h G1 H1 a _ fun v G2 H2 a2 r => by
  cases rp_int r
  exact ⟨_, rfl, q G2 H2 a2⟩
theorem evt_list {ds : List PyData} (h : Eva K te σ G H (.list ds)) : EvaT (tTru K te) σ G H (!ds.isEmpty) := fun G1 H1 a Q q => h G1 H1 a _ fun v G2 H2 a2 r => by
  cases r with
  | @lst l xs _ hs hr => exact ⟨_, .inl ⟨xs, SqL.of (a2.o _ _ hs), by cases hr <;> rfl⟩, q G2 H2 a2⟩
/-- [x] * n -/
theorem evan_rep {d : PyData} {n : Nat} (ha : Eva K ta σ G H (.list [d])) (hb : Eva K tb σ G H (.int n)) (hn : n ≤ 100000) : EvaN (tOp rRep ta tb) σ G H (isL K (List.replicate n d)) := fun G1 H1 a Q q =>
  ha G1 H1 a _ fun v G2 H2 a2 r => hb G2 H2 (a.trans a2) _ fun v' G3 H3 a3 r' => by
    cases rp_int r'
    cases r with
    | @lst l xs _ hs hr =>
      obtain ⟨u, rfl, ru⟩ := rpa1 hr
      have e : (List.replicate n [u]).flatten = List.replicate n u := by
        clear hn q r' hb
        induction n with
        | zero => rfl
        | succ n ih => rw [List.replicate_succ, List.flatten_cons, ih]; rfl
      refine ⟨l, n, [u], rfl, rfl, a3.o _ _ (a3.g _ _ hs), by omega, by omega, by rw [Int.toNat_natCast, sizeLine_eq]; show 1 * n ≤ _; omega, fun p hp => ?_⟩
      rw [Int.toNat_natCast, e]
      have ha4 := (a2.trans a3).trans (Adv.lay (o := .lst (List.replicate n u)) a3.o hp)
      refine q p _ G3 _ (a2.trans a3 |>.free hp) ha4 ⟨upd_same, fresh_back a3.o hp, fun _ z => nomatch z⟩ ⟨_, rfl, ?_⟩
      have rr := ru.ex a3.g
      clear q e hn r' ha4 hb
      induction n with
      | zero => exact .nil
      | succ n ih => exact .cons rr ih
end
/-! ### xs[i] op= e -/
def rGetO : V → V → Hp → VK → Prop := fun o i H Q => ∃ (p : Addr) (xs : List V) (j : Nat) (z : V), o = .ref p ∧ i = .int j ∧ H p = some (.lst xs) ∧ xs[j]? = some z ∧ Q z H
section
variable {X : Cx}
theorem pget_list : PGet X rGetO := by
  intro pins s σ H o i ov iv Q I ro ri h
  obtain ⟨p, xs, j, z, rfl, rfl, hp, hz, q⟩ := h
  obtain ⟨t, rfl⟩ := ri
  cases ro
  obtain ⟨its, r, pl, hl⟩ := I.list (SqL.of hp)
  obtain ⟨u, e, ru⟩ := r.get hz
  have hn := line63
  have hj := (List.getElem?_eq_some_iff.mp e).1
  have := r.length
  exact wpAny_getItem_list pl.isList (Int.natCast_nonneg _) (by omega) (by rw [Int.toNat_natCast, List.getElem?_toArray]; exact e) ⟨z, H, I, ru, q⟩
theorem pt_truK {a : Expr} {ta : TE} (K : PySem.W.Frag) (hK : X.K = K) (ha : PE X a ta) (he : ∀ whole, isTrue a X.env whole = (do let v ← whole; standAt a.pos; holding [v] (truthy v))) : PT X a (tTru K ta) := hK ▸ pt_truth ha he
theorem pip_or : PIp X .BitOr (rI0 fun i j => .int (Builtin.bitOr i j)) := iop_or
end
section
variable {K : PySem.W.Frag} {σ : L2.St} {G H : Hp} {ta tb te : TE} {p : Addr} {D : Ends} {tz : TS}
/-- xs[j] |= e: a list of whole numbers -/
theorem st_orS {bs : List Nat} {j b : Nat} (k : Ex G H) (ha : EvaV ta σ G H (.ref p)) (hi : Eva K tb σ G H (.int j)) (w : Own G H p (.lst (bs.map fun b : Nat => V.int (b : Nat)))) (hj : j < bs.length) (h : Eva K te σ G H (.int b))
    (c : ∀ G1 H1, Adv G H G1 H1 → Ex G1 (upd H1 p (.lst ((bs.set j (bs.getD j 0 ||| b)).map fun b : Nat => V.int (b : Nat)))) → D.nx σ (upd H1 p (.lst ((bs.set j (bs.getD j 0 ||| b)).map fun b : Nat => V.int (b : Nat))))) :
    tAugS ta tb te rGetO (rI0 fun i j => .int (Builtin.bitOr i j)) rSetL D σ H :=
  ha G H (.refl k) _ fun G1 H1 a1 => hi G1 H1 a1 _ fun x G2 H2 a2 rx => by
    cases rp_int rx
    have w2 := w.adv (a1.trans a2)
    have hz : (bs.map fun b : Nat => V.int (b : Nat))[j]? = some (V.int (bs.getD j 0 : Nat)) := by rw [List.getElem?_map, List.getD_eq_getElem?_getD, List.getElem?_eq_getElem hj]; rfl
    refine ⟨p, _, j, _, rfl, rfl, w2.h, hz, ?_⟩
    refine h G2 H2 (a1.trans a2) _ fun y G3 H3 a3 ry => ?_
    cases rp_int ry
    have w3 := w2.adv a3
    refine ⟨_, _, rfl, rfl, p, _, (j : Int), j, rfl, rfl, w3.h, ixN_nat (by rw [List.length_map]; exact hj), ?_⟩
    have e : (bs.map fun b : Nat => V.int (b : Nat)).set j (V.int (Builtin.bitOr (bs.getD j 0 : Nat) b)) = (bs.set j (bs.getD j 0 ||| b)).map fun b : Nat => V.int (b : Nat) := by rw [bitOr_nat, List.map_set]
    rw [e]
    exact c G3 H3 ((a1.trans a2).trans a3) (Ex.mut a3.o w3.g)
end
end Vf

set_option Elab.async false
set_option linter.all false
set_option maxRecDepth 100000
set_option maxHeartbeats 4000000
namespace K03
open PySem PySem.Spec PyProof.Rows L2 Vf
open Evl hiding Ex Ex.refl Ex.trans Ex.new Ex.mut ex_rd ex_l ex_t fresh_back
/-! ### what is reached -/
abbrev Arr := Nat × Nat
def baseOf (n : Nat) (as : List Arr) : List Nat := as.foldl (fun bs a => bs.set a.1 (bs.getD a.1 0 ||| 2 ^ a.2)) (List.replicate n 0)
def stepOf (m : Nat) (bs : List Nat) (i : Nat) : List Nat := if (bs.getD i 0 / 2 ^ m % 2 != 0) = true then bs.set i (bs.getD i 0 ||| bs.getD m 0) else bs
def passOf (n : Nat) (bs : List Nat) (m : Nat) : List Nat := (List.range n).foldl (stepOf m) bs
def reachL (n : Nat) (as : List Arr) : List Nat := (List.range n).foldl (passOf n) (baseOf n as)
def bitAt (bs : List Nat) (i j : Nat) : Bool := (bs.getD i 0).testBit j
theorem bit_div (a m : Nat) : (a / 2 ^ m % 2 != 0) = a.testBit m := by
  rw [Nat.testBit_eq_decide_div_mod_eq]
  rcases Nat.mod_two_eq_zero_or_one (a / 2 ^ m) with h | h <;> rw [h] <;> rfl
theorem getD_set (bs : List Nat) (i j x : Nat) (h : i < bs.length) : (bs.set i x).getD j 0 = if i = j then x else bs.getD j 0 := by
  rw [List.getD_eq_getElem?_getD, List.getElem?_set, List.getD_eq_getElem?_getD]
  by_cases c : i = j
  · subst c; simp [h]
  · simp [c]
theorem step_len (m : Nat) (bs : List Nat) (i : Nat) : (stepOf m bs i).length = bs.length := by unfold stepOf; split <;> simp
theorem fold_len {α : Type} (f : List Nat → α → List Nat) (h : ∀ bs x, (f bs x).length = bs.length) : ∀ (l : List α) (bs : List Nat), (l.foldl f bs).length = bs.length
  | [], _ => rfl
  | x :: l, bs => by rw [List.foldl_cons, fold_len f h l, h]
theorem base_len (n : Nat) (as : List Arr) : (baseOf n as).length = n := by unfold baseOf; rw [fold_len _ (fun bs x => List.length_set ..), List.length_replicate]
theorem pass_len (n : Nat) (bs : List Nat) (m : Nat) : (passOf n bs m).length = bs.length := fold_len _ (step_len m) _ _
theorem reach_len (n : Nat) (as : List Arr) : (reachL n as).length = n := by unfold reachL; rw [fold_len _ (pass_len n), base_len]
theorem bit_step {m i a b : Nat} {bs : List Nat} (hi : i < bs.length) : bitAt (stepOf m bs i) a b = (bitAt bs a b || (decide (i = a) && (bitAt bs a m && bitAt bs m b))) := by
  unfold stepOf bitAt
  rw [bit_div]
  by_cases c : (bs.getD i 0).testBit m = true
  · rw [if_pos c, getD_set _ _ _ _ hi]
    by_cases e : i = a
    · subst e
      rw [if_pos rfl, Nat.testBit_or, c]; simp
    · rw [if_neg e]; simp [e]
  · rw [if_neg c]
    by_cases e : i = a
    · subst e
      rw [Bool.not_eq_true] at c
      rw [c]; simp
    · simp [e]
/-- a pass by one middle state -/
theorem bit_fold {m a b : Nat} : ∀ (l : List Nat) (bs : List Nat), (∀ i ∈ l, i < bs.length) → bitAt (l.foldl (stepOf m) bs) a b = (bitAt bs a b || (l.contains a && (bitAt bs a m && bitAt bs m b)))
  | [], bs, _ => by simp
  | i :: l, bs, h => by
    have hi := h i List.mem_cons_self
    rw [List.foldl_cons, bit_fold l _ fun x hx => by rw [step_len]; exact h x (List.mem_cons_of_mem _ hx)]
    have e1 := bit_step (m := m) (i := i) (a := a) (b := b) hi
    have e2 : bitAt (stepOf m bs i) a m = bitAt bs a m := by rw [bit_step hi]; cases bitAt bs a m <;> simp
    have e3 : bitAt (stepOf m bs i) m b = bitAt bs m b := by rw [bit_step hi]; cases bitAt bs m b <;> simp
    rw [e1, e2, e3, List.contains_cons]
    have e4 : (a == i) = decide (i = a) := by rw [Bool.eq_iff_iff, beq_iff_eq, decide_eq_true_iff]; exact eq_comm
    rw [e4]
    generalize decide (i = a) = p
    generalize l.contains a = q
    generalize bitAt bs a b = r
    generalize bitAt bs a m = t
    generalize bitAt bs m b = u
    cases p <;> cases q <;> cases r <;> cases t <;> cases u <;> rfl
theorem bit_pass {n m a b : Nat} {bs : List Nat} (hl : bs.length = n) (ha : a < n) : bitAt (passOf n bs m) a b = (bitAt bs a b || (bitAt bs a m && bitAt bs m b)) := by
  unfold passOf
  rw [bit_fold _ _ fun i hi => by rw [hl]; exact List.mem_range.mp hi]
  have : (List.range n).contains a = true := List.contains_iff_mem.mpr (List.mem_range.mpr ha)
  rw [this, Bool.true_and]
/-- the middle states below k -/
structure Warsh (n k : Nat) (as : List Arr) (bs : List Nat) : Prop where
  len : bs.length = n
  base : ∀ a ∈ as, bitAt bs a.1 a.2 = true
  via : ∀ i j m, i < n → j < n → m < k → bitAt bs i m = true → bitAt bs m j = true → bitAt bs i j = true
  least : ∀ T : Nat → Nat → Prop, (∀ a ∈ as, T a.1 a.2) → (∀ i j l, T i j → T j l → T i l) → ∀ i j, i < n → bitAt bs i j = true → T i j
theorem warsh_step {n k : Nat} {as : List Arr} {bs : List Nat} (hk : k < n) (has : ∀ a ∈ as, a.1 < n ∧ a.2 < n) (w : Warsh n k as bs) : Warsh n (k + 1) as (passOf n bs k) := by
  have e : ∀ {a b}, a < n → bitAt (passOf n bs k) a b = (bitAt bs a b || (bitAt bs a k && bitAt bs k b)) := fun ha => bit_pass w.len ha
  refine ⟨by rw [pass_len, w.len], fun a ha => by rw [e (has a ha).1, w.base a ha]; rfl, fun i j m hi hj hm h1 h2 => ?_, fun T hb ht i j hi h => ?_⟩
  · have hmn : m < n := by omega
    rw [e hi] at h1
    rw [e hmn] at h2
    rw [e hi]
    rw [Bool.or_eq_true, Bool.and_eq_true] at h1 h2 ⊢
    by_cases c : m = k
    · subst c
      have x1 : bitAt bs i m = true := h1.elim id (·.1)
      have x2 : bitAt bs m j = true := h2.elim id (·.2)
      exact .inr ⟨x1, x2⟩
    · have hmk : m < k := by omega
      rcases h1 with h1 | ⟨h1, h1'⟩
      · rcases h2 with h2 | ⟨h2, h2'⟩
        · exact .inl (w.via i j m hi hj hmk h1 h2)
        · exact .inr ⟨w.via i k m hi hk hmk h1 h2, h2'⟩
      · rcases h2 with h2 | ⟨h2, h2'⟩
        · exact .inr ⟨h1, w.via k j m hk hj hmk h1' h2⟩
        · exact .inr ⟨h1, h2'⟩
  · rw [e hi, Bool.or_eq_true, Bool.and_eq_true] at h
    rcases h with h | ⟨h, h'⟩
    · exact w.least T hb ht i j hi h
    · exact ht _ _ _ (w.least T hb ht i k hi h) (w.least T hb ht k j hk h')
theorem bit_base {n : Nat} : ∀ (as : List Arr) (bs : List Nat), bs.length = n → (∀ a ∈ as, a.1 < n) → ∀ i j, bitAt (as.foldl (fun bs a => bs.set a.1 (bs.getD a.1 0 ||| 2 ^ a.2)) bs) i j = (bitAt bs i j || as.any fun a => a.1 == i && a.2 == j)
  | [], bs, _, _, i, j => by simp
  | a :: as, bs, hl, h, i, j => by
    have ha := h a List.mem_cons_self
    rw [List.foldl_cons, bit_base as _ (by rw [List.length_set, hl]) (fun x hx => h x (List.mem_cons_of_mem _ hx)), List.any_cons, ← Bool.or_assoc]
    congr 1
    unfold bitAt
    rw [getD_set _ _ _ _ (by rw [hl]; exact ha)]
    by_cases c : a.1 = i
    · rw [if_pos c, Nat.testBit_or, Nat.testBit_two_pow, c]
      by_cases d : a.2 = j <;> simp [d]
    · rw [if_neg c]; simp [c]
theorem base_bits {n : Nat} {as : List Arr} (has : ∀ a ∈ as, a.1 < n ∧ a.2 < n) (i j : Nat) : bitAt (baseOf n as) i j = as.any fun a => a.1 == i && a.2 == j := by
  unfold baseOf
  rw [bit_base (n := n) as _ (by rw [List.length_replicate]) fun a ha => (has a ha).1]
  have : bitAt (List.replicate n 0) i j = false := by
    unfold bitAt
    rw [List.getD_eq_getElem?_getD, List.getElem?_replicate]
    split <;> exact Nat.zero_testBit _
  rw [this, Bool.false_or]
theorem warsh {n : Nat} {as : List Arr} (has : ∀ a ∈ as, a.1 < n ∧ a.2 < n) : ∀ k, k ≤ n → Warsh n k as ((List.range k).foldl (passOf n) (baseOf n as))
  | 0, _ => ⟨base_len n as, fun a ha => by
      show bitAt (baseOf n as) a.1 a.2 = true
      rw [base_bits has]; exact List.any_eq_true.mpr ⟨a, ha, by simp⟩, fun i j m _ _ h => by omega, fun T hb ht i j hi h => by
      change bitAt (baseOf n as) i j = true at h
      rw [base_bits has] at h
      obtain ⟨a, ha, e⟩ := List.any_eq_true.mp h
      rw [Bool.and_eq_true] at e
      rw [← eq_of_beq e.1, ← eq_of_beq e.2]; exact hb a ha⟩
  | k + 1, hk => by
    rw [List.range_succ, List.foldl_append]
    exact warsh_step (by omega) has (warsh has k (by omega))
def bit (n : Nat) (as : List Arr) (i j : Nat) : Bool := bitAt (reachL n as) i j
theorem bitW {n : Nat} {as : List Arr} (has : ∀ a ∈ as, a.1 < n ∧ a.2 < n) : Warsh n n as (reachL n as) := warsh has n (Nat.le_refl _)
/-! ### the parts -/
def partN (n : Nat) (as : List Arr) (s : Nat) : List Nat := (List.range n).filter fun k => bit n as s k && bit n as k s
def partI (n : Nat) (as : List Arr) (s : Nat) : List Int := (partN n as s).map fun k => ((k : Nat) : Int)
def headOk (n : Nat) (as : List Arr) (s : Nat) : Bool := decide ((partN n as s).head? = some s)
def closedP (n : Nat) (as : List Arr) : List (List Int) := ((List.range n).filter (headOk n as)).map (partI n as)
def lawTs (n : Nat) (as : List Arr) : List (List Int) := ((List.range n).filter fun k => bit n as k k).map (partI n as)
theorem mem_partN {n : Nat} {as : List Arr} {s k : Nat} : k ∈ partN n as s ↔ k < n ∧ bit n as s k = true ∧ bit n as k s = true := by
  unfold partN; rw [List.mem_filter, List.mem_range, Bool.and_eq_true]
theorem partN_len (n : Nat) (as : List Arr) (s : Nat) : (partN n as s).length ≤ n := by have := List.length_filter_le (fun k => bit n as s k && bit n as k s) (List.range n); rw [List.length_range] at this; exact this
theorem partI_ok {n : Nat} {as : List Arr} {s : Nat} (hn : n ≤ 8) (hs : partN n as s ≠ []) : 1 ≤ (partI n as s).length ∧ (partI n as s).length ≤ 8 ∧ TS.Bd 16 (partI n as s) := by
  unfold partI
  rw [List.length_map]
  refine ⟨List.length_pos_iff.mpr hs, Nat.le_trans (partN_len n as s) hn, fun m hm => ?_⟩
  obtain ⟨k, hk, rfl⟩ := List.mem_map.mp hm
  have := (mem_partN.mp hk).1
  exact ⟨by omega, by omega⟩
theorem law_part_ne {n : Nat} {as : List Arr} {k : Nat} (hk : k < n) (h : bit n as k k = true) : partN n as k ≠ [] := List.ne_nil_of_mem (mem_partN.mpr ⟨hk, h, h⟩)
theorem law_ok {n : Nat} {as : List Arr} (hn : n ≤ 8) : ∀ t ∈ lawTs n as, 1 ≤ t.length ∧ t.length ≤ 8 ∧ TS.Bd 16 t := fun t ht => by
  obtain ⟨k, hk, rfl⟩ := List.mem_map.mp ht
  rw [List.mem_filter, List.mem_range] at hk
  exact partI_ok hn (law_part_ne hk.1 hk.2)
theorem closed_law {n : Nat} {as : List Arr} (has : ∀ a ∈ as, a.1 < n ∧ a.2 < n) (hn : n ≤ 8) : closedP n as = ascBy (padc 16 8) (lawTs n as) := by
  have W := bitW has
  have via : ∀ {i j m}, i < n → j < n → m < n → bit n as i m = true → bit n as m j = true → bit n as i j = true := fun hi hj hm => W.via _ _ _ hi hj hm
  refine asc_unique (k := padc 16 8) ?_ (ascBy_asc _) fun x => ?_
  · -- ascending by their first states
    unfold closedP
    refine List.pairwise_map.mpr (List.Pairwise.imp_of_mem (fun {s t} hs ht h => ?_) (List.Pairwise.filter _ List.pairwise_lt_range))
    have e1 := of_decide_eq_true (List.mem_filter.mp hs).2
    have e2 := of_decide_eq_true (List.mem_filter.mp ht).2
    have b1 := (partI_ok (s := s) (as := as) hn (by intro z; rw [z] at e1; cases e1)).2.2
    have b2 := (partI_ok (s := t) (as := as) hn (by intro z; rw [z] at e2; cases e2)).2.2
    unfold partI at b1 b2 ⊢
    cases p1 : partN n as s with
    | nil => rw [p1] at e1; cases e1
    | cons a r =>
      cases p2 : partN n as t with
      | nil => rw [p2] at e2; cases e2
      | cons b q =>
        rw [p1] at e1 b1
        rw [p2] at e2 b2
        cases e1
        cases e2
        rw [List.map_cons] at b1 b2
        obtain ⟨x0, x1⟩ := padc_bd (by decide) 7 _ b1.tail
        obtain ⟨y0, y1⟩ := padc_bd (by decide) 7 _ b2.tail
        exact TS.num2 (P := (16 + 1) ^ 7) (d := ((s : Nat) : Int) + 1) (e := ((t : Nat) : Int) + 1) x0 x1 y0 (by omega)
  · rw [mem_ascBy_iff fun a ha b hb e => padc_inj (by decide) 8 a b (law_ok hn a ha).2.2 (law_ok hn b hb).2.2 (law_ok hn a ha).2.1 (law_ok hn b hb).2.1 e]
    constructor
    · intro hx
      obtain ⟨s, hs, rfl⟩ := List.mem_map.mp hx
      rw [List.mem_filter, List.mem_range] at hs
      have hm := mem_partN.mp (List.mem_of_mem_head? (of_decide_eq_true hs.2))
      exact List.mem_map.mpr ⟨s, List.mem_filter.mpr ⟨List.mem_range.mpr hs.1, hm.2.1⟩, rfl⟩
    · intro hx
      obtain ⟨k, hk, rfl⟩ := List.mem_map.mp hx
      rw [List.mem_filter, List.mem_range] at hk
      have kn := hk.1
      cases p : partN n as k with
      | nil => exact absurd p (law_part_ne kn hk.2)
      | cons s r =>
        obtain ⟨sn, ks, sk⟩ := mem_partN.mp (show s ∈ partN n as k by rw [p]; exact List.mem_cons_self)
        have same : partN n as s = partN n as k := by
          refine List.filter_congr fun j hj => ?_
          have jn := List.mem_range.mp hj
          rw [Bool.eq_iff_iff, Bool.and_eq_true, Bool.and_eq_true]
          exact ⟨fun ⟨h1, h2⟩ => ⟨via kn jn sn ks h1, via jn kn sn h2 sk⟩, fun ⟨h1, h2⟩ => ⟨via sn jn kn sk h1, via jn sn kn h2 ks⟩⟩
        refine List.mem_map.mpr ⟨s, List.mem_filter.mpr ⟨List.mem_range.mpr sn, ?_⟩, by unfold partI; rw [same]⟩
        unfold headOk
        rw [same, p]
        simp
end K03

set_option Elab.async false
set_option linter.all false
set_option maxRecDepth 100000
set_option maxHeartbeats 4000000
namespace K03
open PySem PySem.Spec PyProof.Rows L2 Vf
open Evl hiding Ex Ex.refl Ex.trans Ex.new Ex.mut ex_rd ex_l ex_t fresh_back
def aD (a : Arr) : PyData := .tuple [.int (a.1 : Nat), .int (a.2 : Nat)]
theorem foldl_take {α β : Type} {f : β → α → β} {l : List α} {i : Nat} {x : α} {b : β} (h : l[i]? = some x) : (l.take (i + 1)).foldl f b = f ((l.take i).foldl f b) x := by rw [take_some h, List.foldl_append]; rfl
section
variable {P : Program} {w : World} {K : PySem.W.Frag} {mg : PySem.Str → Option Value} {base : Heap} (T : Tops K mg base)
abbrev bV (bs : List Nat) : HO := .lst (bs.map fun b : Nat => V.int (b : Nat))
def bL (bs : List Nat) : PyData := .list (bs.map fun b : Nat => PyData.int (b : Nat))
theorem eva_nth {σ : L2.St} {G H : Hp} {ta tb : TE} {p : Addr} {bs : List Nat} {j : Nat} (ha : EvaV ta σ G H (.ref p)) (hb : Eva K tb σ G H (.int j)) (w : Own G H p (bV bs)) (hj : j < bs.length) : Eva K (tOp (rIx K) ta tb) σ G H (.int (bs.getD j 0 : Nat)) :=
  eva_ixO ha hb w.h (atI_nat (by rw [List.getElem?_map, List.getD_eq_getElem?_getD, List.getElem?_eq_getElem hj]; rfl)) (.int _)
def R_reached (ds : List PyData) (d : PyData) : Prop := ∃ (n : Nat) (as : List Arr), ds = [.int n, .list (as.map aD)] ∧ n ≤ 32 ∧ as.length ≤ 100 ∧ (∀ a ∈ as, a.1 < n ∧ a.2 < n) ∧ d = bL (reachL n as)
theorem ok_reached : FnOk P w K mg base CX0 1 T.a_reached T.d_reached ["many", "arrows"] (PureSp K R_reached) := by
  refine T.F_reached.ok sc_reached (fun vs H Q E h => ?_) (fun cdv A outer s H vs Q E hr h => ?_)
  · obtain ⟨G, ds, d, k, r, ⟨n, as, rfl, _⟩, q⟩ := h
    exact rpa_len r
  · obtain ⟨G, ds, d, k, r, ⟨n, as, rfl, hn, hl, has, rfl⟩, q⟩ := h
    obtain ⟨v1, v2, rfl, r1, r2⟩ := rpa2 r
    cases rp_int r1
    refine ⟨_, (pss_cons (ps_set (i := 2) sc_reached.nd rfl (Or.inl rfl) (pe_op op_rep (pe_lst (pa_cons pe_int pa_nil)) (pv 0)))
      (pss_cons (ps_for PassesOwn.never rfl (pi_listK K rfl (pv 1)) (pg_tup (by rfl) (pgs_cons (pg_name (i := 3) sc_reached.nd rfl (Or.inl rfl)) (pgs_cons (pg_name (i := 4) sc_reached.nd rfl (Or.inl rfl)) pgs_nil))) (pss_one (ps_augS (pv 2) (pv 3) pget_list (pe_op op_shl pe_int (pv 4)) pip_or set_list)))
      (pss_cons (ps_for PassesOwn.never rfl (pi_range1 (by rfl) T.z_range (pa_cons (pv 0) pa_nil)) (pg_name (i := 5) sc_reached.nd rfl (Or.inl rfl)) (pss_one (ps_for PassesOwn.never rfl (pi_range1 (by rfl) T.z_range (pa_cons (pv 0) pa_nil)) (pg_name (i := 3) sc_reached.nd rfl (Or.inl rfl)) (pss_one (ps_if (pt_truK K rfl (pe_op op_and (pe_op op_shr (pe_ix (ix_seqK K rfl) (pv 2) (pv 3) (fun _ _ => rfl)) (pv 5)) pe_int) (by intro _; rfl)) (pss_one (ps_augS (pv 2) (pv 3) pget_list (pe_ix (ix_seqK K rfl) (pv 2) (pv 5) (fun _ _ => rfl)) pip_or set_list)) pss_nil)))))
      (pss_one (ps_ret (pv 2)))))), ?_⟩
    refine qt_asgN k (evan_rep (K := K) (eva_lst (evaA_cons eva_int evaA_nil)) (eva_var rfl (.int (n : Nat))) (by omega)) fun p o G1 H1 np a1 w1 h1 => ?_
    obtain ⟨vs, rfl, h1⟩ := h1
    have e0 : vs = (List.replicate n 0).map fun b : Nat => V.int (b : Nat) := by
      have := rpa_ints (ns := List.replicate n 0) (by rw [List.map_replicate]; exact h1)
      rw [this, List.map_replicate, List.map_replicate]; rfl
    subst e0
    refine qt_for as aD (fun B i σ G' H' => Ex B G' ∧ Ex G1 G' ∧ Adv G H G' H' ∧ ∃ o3 o4, σ = [some (.int (n : Nat)), some v2, some (.ref p), o3, o4, none] ∧ Own G' H' p (bV ((as.take i).foldl (fun bs a => bs.set a.1 (bs.getD a.1 0 ||| 2 ^ a.2)) (List.replicate n 0)))) a1.o (src_list (eva_var rfl (r2.ex a1.g)))
      (fun G2 H2 a2 => ⟨Ex.refl _, a2.g, a1.trans a2, none, none, rfl, w1.adv a2⟩) (fun B i σ' G' H' z => ⟨z.1, z.2.2.1.o⟩) ?_ ?_
    · rintro B i a v σ' G2 H2 G3 H3 ha ⟨eB, e1, A2, o3, o4, rfl, ow⟩ a3 rv
      have hm := has a (List.mem_of_getElem? ha)
      refine bd_tup2 a3.o rv fun u1 u2 t1 t2 => ?_
      have ow3 := ow.adv a3
      generalize hb : (as.take i).foldl (fun bs a => bs.set a.1 (bs.getD a.1 0 ||| 2 ^ a.2)) (List.replicate n 0) = bs at ow3
      have hbl : bs.length = n := by rw [← hb, fold_len _ (fun bs x => List.length_set ..), List.length_replicate]
      refine st_orS (K := K) a3.o (evv_var rfl) (eva_var rfl t1) ow3 (by omega) (eva_shl1 (eva_var rfl t2) (by omega)) fun G4 H4 a4 k4 => ?_
      refine ⟨G4, eB.trans (a3.g.trans a4.g), e1.trans (a3.g.trans a4.g), ((A2.trans a3 |>.trans a4).toR (rs := [p])).trans ((ow3.adv a4).chg a4.o) |>.out fun b hb => by rw [List.mem_singleton.mp hb]; exact np, _, _, rfl, ?_⟩
      rw [foldl_take ha, hb]
      exact (ow3.adv a4).put
    · rintro B σ' G2 H2 ⟨eB, e1, A2, o3, o4, rfl, ow⟩
      rw [List.take_length] at ow
      change Own G2 H2 p (bV (baseOf n as)) at ow
      refine qt_for (List.range n) (fun i => .int (0 + (i : Nat))) (fun B i σ G' H' => Ex B G' ∧ Adv G H G' H' ∧ ∃ o3 o5, σ = [some (.int (n : Nat)), some v2, some (.ref p), o3, o4, o5] ∧ Own G' H' p (bV (((List.range n).take i).foldl (passOf n) (baseOf n as)))) A2.o
        (src_rng1 (K := K) (eva_var rfl (.int (n : Nat)))) (fun G3 H3 a3 => ⟨Ex.refl _, A2.trans a3, o3, none, rfl, ow.adv a3⟩) (fun B i σ' G' H' z => ⟨z.1, z.2.1.o⟩) ?_ ?_
      · rintro B i m v σ' G3 H3 G4 H4 hm ⟨eB, A3, o3, o5, rfl, ow⟩ a4 rv
        obtain ⟨rfl, him⟩ := range_get hm
        cases rp_int rv
        refine bd_name ?_
        have ow4 := ow.adv a4
        generalize hb : ((List.range n).take m).foldl (passOf n) (baseOf n as) = bs at ow4
        have hbl : bs.length = n := by rw [← hb, fold_len _ (pass_len n), base_len]
        refine st_for (List.range n) (fun i => .int (0 + (i : Nat))) (fun B' i σ G' H' => Ex B' G' ∧ Ex B G' ∧ Adv G H G' H' ∧ ∃ o3, σ = [some (.int (n : Nat)), some v2, some (.ref p), o3, o4, some (.int (0 + (m : Nat)))] ∧ Own G' H' p (bV (((List.range n).take i).foldl (stepOf m) bs))) a4.o
          (src_rng1 (K := K) (eva_var rfl (.int (n : Nat)))) (fun G5 H5 a5 => ⟨Ex.refl _, eB.trans (a4.g.trans a5.g), A3.trans (a4.trans a5), o3, rfl, ow4.adv a5⟩) (fun B i σ' G' H' z => ⟨z.1, z.2.2.1.o⟩) ?_ ?_
        · rintro B' i s v σ' G5 H5 G6 H6 hs ⟨eB', eB, A5, o3, rfl, ow5⟩ a6 rv
          obtain ⟨rfl, his⟩ := range_get hs
          cases rp_int rv
          refine bd_name ?_
          have ow6 := ow5.adv a6
          generalize hc : ((List.range n).take s).foldl (stepOf m) bs = cs at ow6
          have hcl : cs.length = n := by rw [← hc, fold_len _ (step_len m), hbl]
          have hx : List.foldl (stepOf m) bs (List.take (s + 1) (List.range n)) = stepOf m cs s := by rw [foldl_take hs, hc]
          rw [Int.zero_add, Int.zero_add]
          refine st_when a6.o (evt_int (eva_bit (eva_nth (evv_var rfl) (eva_var rfl (.int (s : Nat))) ow6 (by omega)) (eva_var rfl (.int (m : Nat))))) (fun hb2 G7 H7 a7 => ?_) fun hb2 G7 H7 a7 => ?_
          · have ow7 := ow6.adv a7
            refine st_orS a7.o (evv_var rfl) (eva_var rfl (.int (s : Nat))) ow7 (by omega) (eva_nth (evv_var rfl) (eva_var rfl (.int (m : Nat))) ow7 (by omega)) fun G8 H8 a8 k8 => ?_
            refine ⟨G8, eB'.trans (a6.g.trans (a7.g.trans a8.g)), eB.trans (a6.g.trans (a7.g.trans a8.g)), ((A5.trans a6 |>.trans (a7.trans a8)).toR (rs := [p])).trans ((ow7.adv a8).chg a8.o) |>.out fun b hb => by rw [List.mem_singleton.mp hb]; exact np, _, rfl, ?_⟩
            rw [hx]
            unfold stepOf
            rw [if_pos (by rw [← hb2, bne, bne]; congr 1; rw [Bool.eq_iff_iff, beq_iff_eq, beq_iff_eq]; omega)]
            exact (ow7.adv a8).put
          · refine ⟨G7, eB'.trans (a6.g.trans a7.g), eB.trans (a6.g.trans a7.g), A5.trans (a6.trans a7), _, rfl, ?_⟩
            rw [hx]
            unfold stepOf
            rw [if_neg (by rw [Bool.not_eq_true, ← hb2, bne, bne]; congr 1; rw [Bool.eq_iff_iff, beq_iff_eq, beq_iff_eq]; omega)]
            exact ow6.adv a7
        · rintro B' σ' G5 H5 ⟨eB', eB, A5, o3, rfl, ow5⟩
          rw [List.take_of_length_le (by rw [List.length_range]; exact Nat.le_refl _)] at ow5
          refine ⟨G5, eB, A5, o3, _, rfl, ?_⟩
          rw [foldl_take hm, hb]
          exact ow5
      · rintro B σ' G3 H3 ⟨eB, A3, o3, o5, rfl, ow⟩
        rw [List.take_of_length_le (by rw [List.length_range]; exact Nat.le_refl _)] at ow
        have af : AdvR [p] G3 H3 (upd G3 p (bV (reachL n as))) H3 := ow.fix A3.o
        have A4 : Adv G H (upd G3 p (bV (reachL n as))) H3 := ((A3.toR (rs := [p])).trans af).out fun b hb => by rw [List.mem_singleton.mp hb]; exact np
        refine st_ret A4.o (eva_var rfl (d := bL (reachL n as)) (.lst upd_same ?_)) fun v G5 H5 a5 rv => q v G5 H5 (A4.trans a5) rv
        have := ints_rpa (K := K) (H := upd G3 p (bV (reachL n as))) ((reachL n as).map fun b : Nat => (b : Int))
        rw [List.map_map, List.map_map] at this
        exact this
end
end K03

set_option Elab.async false
set_option linter.all false
set_option maxRecDepth 100000
set_option maxHeartbeats 4000000
namespace K03
open PySem PySem.Spec PyProof.Rows L2 Vf
open Evl hiding Ex Ex.refl Ex.trans Ex.new Ex.mut ex_rd ex_l ex_t fresh_back
theorem bitI (a m : Nat) : (((a / 2 ^ m % 2 : Nat) : Int) != 0) = a.testBit m := by
  rw [← bit_div]
  rcases Nat.mod_two_eq_zero_or_one (a / 2 ^ m) with h | h <;> rw [h] <;> rfl
def arr (es : List E3) : List Arr := es.map fun e => (e.1.toNat, e.2.1.toNat)
theorem arr_ok {x : Web} (ok : OkW x) : ∀ a ∈ arr x.2, a.1 < x.1.toNat ∧ a.2 < x.1.toNat := fun a ha => by
  obtain ⟨e, he, rfl⟩ := List.mem_map.mp ha
  have := ok.rng e he
  have := ok.m0
  exact ⟨by show e.1.toNat < _; omega, by show e.2.1.toNat < _; omega⟩
theorem arr_len (es : List E3) : (arr es).length = es.length := List.length_map ..
def wholeP (n : Nat) (as : List Arr) : Bool := match closedP n as with
  | [t] => decide (t.length = n)
  | _ => false
theorem closed_mem {n : Nat} {as : List Arr} {t : List Int} (h : t ∈ closedP n as) : ∃ s, s < n ∧ partN n as s ≠ [] ∧ t = partI n as s := by
  obtain ⟨s, hs, rfl⟩ := List.mem_map.mp h
  rw [List.mem_filter, List.mem_range] at hs
  refine ⟨s, hs.1, fun z => ?_, rfl⟩
  have := of_decide_eq_true hs.2
  rw [z] at this
  cases this
theorem whole_eq (n : Nat) (as : List Arr) : (decide ((n : Int) > 0) && (match closedP n as with | [t] => t == upTo n | _ => false)) = wholeP n as := by
  unfold wholeP
  cases h : closedP n as with
  | nil => exact Bool.and_false _
  | cons t r =>
    cases r with
    | cons u r => exact Bool.and_false _
    | nil =>
      obtain ⟨s, hs, hne, rfl⟩ := closed_mem (by rw [h]; exact List.mem_singleton.mpr rfl : t ∈ closedP n as)
      have e1 : decide ((n : Int) > 0) = true := decide_eq_true (by omega)
      show (decide ((n : Int) > 0) && (partI n as s == upTo n)) = decide ((partI n as s).length = n)
      rw [e1, Bool.true_and, Bool.eq_iff_iff, beq_iff_eq, decide_eq_true_iff]
      constructor
      · intro e
        rw [e, upTo_len]
      · intro e
        unfold partI at e ⊢
        rw [List.length_map] at e
        have : partN n as s = List.range n := filter_same (by rw [List.length_range]; exact e)
        rw [this]; rfl
theorem eqv_ints : ∀ (ns ms : List Int), PyData.eqv (tD ns) (tD ms) = (ns == ms) := by
  have go : ∀ (ns ms : List Int), PyData.eqvAll (ns.map .int) (ms.map .int) = (ns == ms) := by
    intro ns
    induction ns with
    | nil => intro ms; cases ms <;> simp [PyData.eqvAll]
    | cons n ns ih =>
      intro ms
      cases ms with
      | nil => simp [PyData.eqvAll]
      | cons m ms => rw [List.map_cons, List.map_cons, PyData.eqvAll, ih, eqv_int]; rfl
  intro ns ms
  unfold tD
  rw [PyData.eqv]; exact go ns ms
theorem eqv_one (ts : List (List Int)) (u : List Int) : PyData.eqv (.list (ts.map tD)) (.list [tD u]) = (match ts with | [t] => t == u | _ => false) := by
  match ts with
  | [] => rw [PyData.eqv]; rfl
  | [t] => rw [List.map_cons, List.map_nil, PyData.eqv, PyData.eqvAll, eqv_ints, PyData.eqvAll, Bool.and_true]
  | t :: s :: ts => rw [List.map_cons, List.map_cons, PyData.eqv, PyData.eqvAll, PyData.eqvAll, Bool.and_false]
theorem sh_tD (t : List Int) : Sh 1 (tD t) := Sh.tuple fun d hd => by
  obtain ⟨i, _, rfl⟩ := List.mem_map.mp hd; exact Sh.int _
theorem sh_ts (ts : List (List Int)) : Sh 2 (.list (ts.map tD)) := Sh.list fun d hd => by
  obtain ⟨t, _, rfl⟩ := List.mem_map.mp hd; exact sh_tD t
theorem eqv_oneT (ts : List (List Int)) (u : List Int) : PyData.eqv (.tuple (ts.map tD)) (.tuple [tD u]) = (match ts with | [t] => t == u | _ => false) := by
  match ts with
  | [] => rw [PyData.eqv]; rfl
  | [t] => rw [List.map_cons, List.map_nil, PyData.eqv, PyData.eqvAll, eqv_ints, PyData.eqvAll, Bool.and_true]
  | t :: s :: ts => rw [List.map_cons, List.map_cons, PyData.eqv, PyData.eqvAll, PyData.eqvAll, Bool.and_false]
theorem sh_tsT (ts : List (List Int)) : Sh 2 (.tuple (ts.map tD)) := Sh.tuple fun d hd => by
  obtain ⟨t, _, rfl⟩ := List.mem_map.mp hd; exact sh_tD t
theorem whole_eq1 (n : Nat) (as : List Arr) : (match closedP n as with | [t] => t == upTo n | _ => false) = wholeP n as := by
  cases n with
  | zero => rfl
  | succ n =>
    have := whole_eq (n + 1) as
    rw [decide_eq_true (show ((n + 1 : Nat) : Int) > 0 by omega), Bool.true_and] at this
    exact this
theorem rgV_upTo (n : Nat) : rgV 0 (n : Nat) = (upTo n).map V.int := by
  unfold rgV upTo
  rw [List.map_map, Int.sub_zero, Int.toNat_natCast]
  exact List.map_congr_left fun i _ => by show V.int (0 + (i : Nat)) = V.int (i : Nat); rw [Int.zero_add]
theorem eva_tupRg {K : PySem.W.Frag} {σ : L2.St} {G H : Hp} {te : TE} {n : Nat} (h : Eva K te σ G H (.int (n : Nat))) (hn : n ≤ 40000) : Eva K (tTupRg (tRg1 te)) σ G H (tD (upTo n)) := fun G1 H1 a Q q => h G1 H1 a _ fun v G2 H2 a2 rv => by
  cases rp_int rv
  refine ⟨_, rfl, RgOk.of_le (by decide) (by omega) (by decide) (by omega), fun p hp => ?_⟩
  rw [rgV_upTo]
  have a3 : Adv G2 H2 (upd G2 p (.tup ((upTo n).map V.int))) (upd H2 p (.tup ((upTo n).map V.int))) := .new a2.o hp
  exact q _ _ _ (a2.trans a3) (.tup (SqT.of upd_same) (ints_rpa _))
section
variable {P : Program} {w : World} {K : PySem.W.Frag} {mg : PySem.Str → Option Value} {base : Heap} (T : Tops K mg base)
def R_closed_parts (ds : List PyData) (d : PyData) : Prop := ∃ (n : Nat) (as : List Arr), ds = [.int n, .list (as.map aD)] ∧ n ≤ 32 ∧ as.length ≤ 100 ∧ (∀ a ∈ as, a.1 < n ∧ a.2 < n) ∧ d = .tuple ((closedP n as).map tD)
theorem eva_nthL {σ : L2.St} {G H : Hp} {ta tb : TE} {bs : List Nat} {j : Nat} (ha : Eva K ta σ G H (bL bs)) (hb : Eva K tb σ G H (.int j)) (hj : j < bs.length) : Eva K (tOp (rIx K) ta tb) σ G H (.int (bs.getD j 0 : Nat)) :=
  eva_ixL ha hb (atI_nat (by rw [List.getElem?_map, List.getD_eq_getElem?_getD, List.getElem?_eq_getElem hj]; rfl))
theorem ok_closed_parts : FnOk P w K mg base CX0 2 T.a_closed_parts T.d_closed_parts ["many", "arrows"] (PureSp K R_closed_parts) := by
  refine T.F_closed_parts.ok sc_closed_parts (fun vs H Q E h => ?_) (fun cdv A outer s H vs Q E hr h => ?_)
  · obtain ⟨G, ds, d, k, r, ⟨n, as, rfl, _⟩, q⟩ := h
    exact rpa_len r
  · obtain ⟨G, ds, d, k, r, ⟨n, as, rfl, hn, hl, has, rfl⟩, q⟩ := h
    obtain ⟨v1, v2, rfl, r1, r2⟩ := rpa2 r
    cases rp_int r1
    refine ⟨_, (pss_cons (ps_set (i := 2) sc_closed_parts.nd rfl (Or.inr rfl) (pe_call (ok_reached T) hr (by rfl) T.g_reached T.F_reached.kp T.b_reached .nil pass0 (pa_cons (pv 0) (pa_cons (pv 1) pa_nil))))
      (pss_cons (ps_set (i := 3) sc_closed_parts.nd rfl (Or.inl rfl) (pe_lst pa_nil))
      (pss_cons (ps_for PassesOwn.never rfl (pi_range1 (by rfl) T.z_range (pa_cons (pv 0) pa_nil)) (pg_name (i := 4) sc_closed_parts.nd rfl (Or.inr rfl)) (pss_cons (ps_setLc (i := 5) rfl sc_closed_parts.nd rfl rfl (sw_true rfl rfl rfl (by decide +kernel)) (pi_range1 (by rfl) T.z_range (pa_cons (pv 0) pa_nil)) (blkOk_by (own := [("k", 6)]) (N := N_closed_parts) (by kernel_rfl)) (fun _ _ _ _ _ => (pg_name (i := 6) sc_closed_parts.nd rfl (Or.inl rfl))) (fun _ _ _ _ _ => (pts_one (PW.pt (pw_and (pt_truK K rfl (pe_op op_and (pe_op op_shr (pe_ix (ix_seqK K rfl) (pv 2) (pv 4) (fun _ _ => rfl)) (pv 6)) pe_int) (by intro _; rfl)) (pw_and1 (pt_truK K rfl (pe_op op_and (pe_op op_shr (pe_ix (ix_seqK K rfl) (pv 2) (pv 6) (fun _ _ => rfl)) (pv 4)) pe_int) (by intro _; rfl))))))) (fun _ _ _ _ _ => (pv 6)))
      (pss_one (ps_if (PW.pt (pw_and (pt_truK K rfl (pv 5) (by intro _; rfl)) (pw_and1 (pt_cmpR (op_eqK K rfl hr.units) (pe_ix (ix_seqK K rfl) (pv 5) pe_int (fun _ _ => rfl)) (pv 4) (nomark _))))) (pss_one (ps_expr (pe_bm PySem.F.plainAttrs_list PySem.F.slot_list_append PySem.F.type_list_append mt_append (pv 3) (pa_cons (pe_callTy call_tuple_of (by rfl) T.z_tuple (by decide +kernel) (pa_cons (pv 5) pa_nil)) pa_nil)))) pss_nil))))
      (pss_one (ps_ret (pe_callTy call_tuple_of (by rfl) T.z_tuple (by decide +kernel) (pa_cons (pv 3) pa_nil))))))), ?_⟩
    refine qt_asg k (eva_call (evaA_cons (eva_var rfl (.int (n : Nat))) (evaA_cons (eva_var rfl r2) evaA_nil)) ⟨n, as, rfl, hn, hl, has, rfl⟩) fun vb G1 H1 a1 rb => ?_
    refine qt_asgN a1.o (evan_lst (K := K) evaA_nil) fun p o G2 H2 np a2 w2 h2 => ?_
    obtain ⟨_, rfl, h2⟩ := h2
    cases h2
    have rl := reach_len n as
    refine qt_for (List.range n) (fun i => .int (0 + (i : Nat))) (fun B i σ G' H' => Ex B G' ∧ Ex G1 G' ∧ AdvR [p] G2 H2 G' H' ∧ ∃ o4 o5 vs, σ = [some (.int (n : Nat)), some v2, some vb, some (.ref p), o4, o5, none] ∧ Own G' H' p (.lst vs) ∧ RpAll K G' vs (((((List.range n).take i).filter (headOk n as)).map (partI n as)).map tD)) a2.o
      (src_rng1 (K := K) (eva_var rfl (.int (n : Nat)))) (fun G3 H3 a3 => ⟨Ex.refl _, a2.g.trans a3.g, a3.toR, none, none, [], rfl, w2.adv a3, .nil⟩) (fun B i σ' G' H' z => ⟨z.1, z.2.2.1.o⟩) ?_ ?_
    · rintro B i s v σ' G3 H3 G4 H4 hs ⟨eB, e1, A3, o4, o5, vs, rfl, ow, ra⟩ a4 rv
      obtain ⟨rfl, his⟩ := range_get hs
      cases rp_int rv
      refine bd_name ?_
      rw [Int.zero_add]
      have rb4 := rb.ex (e1.trans a4.g)
      refine qt_asg a4.o (evan_eva (evan_lc (List.range n) (fun i => .int (0 + (i : Nat))) (fun k => bit n as s k && bit n as k s) (fun k => .int (k : Nat)) (src_rng1 (K := K) (eva_var rfl (.int (n : Nat)))) (by rw [List.length_range]; omega) fun j k vk G' H' hk a' rk => ?_)) fun v5 G5 H5 a5 r5 => ?_
      · obtain ⟨rfl, hkn⟩ := range_get hk
        cases rp_int rk
        refine bd_name ⟨rfl, ?_, fun _ => eva_var rfl (by rw [Int.zero_add]; exact .int _)⟩
        rw [Int.zero_add]
        have rb' := rb4.ex a'.g
        refine evt_and (evt_is (evt_int (eva_bit (eva_nthL (eva_var rfl rb') (eva_var rfl (.int (s : Nat))) (by omega)) (eva_var rfl (.int (k : Nat))))) (bitI _ _)) fun _ => evt_is (evt_int (eva_bit (eva_nthL (eva_var rfl rb') (eva_var rfl (.int (k : Nat))) (by omega)) (eva_var rfl (.int (s : Nat))))) (bitI _ _)
      · change Rp K G5 v5 (.list ((partN n as s).map fun k => .int (k : Nat))) at r5
        have ow5 := (ow.adv a4).adv a5
        have ra5 := ra.ex (a4.g.trans a5.g)
        have hvl : vs.length ≤ 32 := by
          rw [rpa_len ra, List.length_map, List.length_map]
          exact Nat.le_trans (List.length_filter_le _ _) (by rw [List.length_take, List.length_range]; omega)
        have test : EvaT (tAnd (tTru K (tVar 5)) (tTest (tOp (rEqD K) (tOp (rIx K) (tVar 5) (tC (.int 0))) (tVar 4)))) [some (.int (n : Nat)), some v2, some vb, some (.ref p), some (.int (s : Nat)), some v5, none] G5 H5 (headOk n as s) := by
          unfold headOk
          cases hp : partN n as s with
          | nil =>
            rw [hp] at r5
            exact evt_is (evt_and (b := false) (c := false) (evt_list (eva_var rfl r5)) fun z => by cases z) rfl
          | cons a r =>
            rw [hp] at r5
            refine evt_is (evt_and (b := true) (evt_list (eva_var rfl r5)) fun _ => evt_test (eva_eqI (i := (a : Nat)) (eva_ixL (eva_var rfl r5) eva_int (atI_nat (j := 0) rfl)) (eva_var rfl (.int (s : Nat))))) ?_
            rw [Bool.true_and, Bool.eq_iff_iff, beq_iff_eq, decide_eq_true_iff]
            show ((a : Nat) : Int) = (s : Nat) ↔ some a = some s
            rw [Option.some.injEq]; omega
        have A5 : AdvR [p] G2 H2 G5 H5 := A3.trans ((a4.trans a5).toR)
        refine st_when a5.o test (fun hb G6 H6 a6 => ?_) fun hb G6 H6 a6 => ?_
        · have ow6 := ow5.adv a6
          refine st_app a6.o (evv_var rfl) ow6 (eva_tupleL (eva_var rfl (r5.ex a6.g))) (by omega) fun v' G7 H7 a7 rv' k7 => ?_
          have ow7 := ow6.adv a7
          refine ⟨G7, eB.trans (a4.g.trans (a5.g.trans (a6.g.trans a7.g))), e1.trans (a4.g.trans (a5.g.trans (a6.g.trans a7.g))), (A5.trans (a6.trans a7).toR).trans (ow7.chg a7.o), _, _, _, rfl, ow7.put, ?_⟩
          rw [take_some hs, List.filter_append, List.filter_cons, if_pos hb, List.map_append, List.map_append]
          refine rpa_app (ra5.ex (a6.g.trans a7.g)) (.cons ?_ .nil)
          have e : tD (partI n as s) = .tuple ((partN n as s).map fun k => .int (k : Nat)) := by unfold tD partI; rw [List.map_map]; rfl
          rw [e]; exact rv'
        · refine ⟨G6, eB.trans (a4.g.trans (a5.g.trans a6.g)), e1.trans (a4.g.trans (a5.g.trans a6.g)), A5.trans a6.toR, _, _, _, rfl, ow5.adv a6, ?_⟩
          rw [take_some hs, List.filter_append, List.filter_cons, if_neg (by rw [hb]; exact Bool.false_ne_true), List.filter_nil, List.append_nil]
          exact ra5.ex a6.g
    · rintro B σ' G3 H3 ⟨eB, e1, A3, o4, o5, vs, rfl, ow, ra⟩
      rw [List.take_of_length_le (by rw [List.length_range]; exact Nat.le_refl _)] at ra
      have A4 : Adv G H (upd G3 p (.lst vs)) H3 := (((a1.trans a2).toR (rs := [p])).trans (A3.trans (ow.fix A3.o))).out fun b hb => by rw [List.mem_singleton.mp hb]; exact a1.free np
      have rf : Rp K (upd G3 p (.lst vs)) (.ref p) (.list ((closedP n as).map tD)) := .lst upd_same (ra.ex (Ex.new ow.g))
      exact st_ret A4.o (eva_tupleL (eva_var rfl rf)) fun v G5 H5 a5 rv => q v G5 H5 (A4.trans a5) rv
def R__arrows (ds : List PyData) (d : PyData) : Prop := ∃ x, ds = [wD x] ∧ OkW x ∧ d = .list ((arr x.2).map aD)
theorem ok__arrows : FnOk P w K mg base CX0 1 T.a__arrows T.d__arrows ["web"] (PureSp K R__arrows) := by
  refine T.F__arrows.ok sc__arrows (fun vs H Q E h => ?_) (fun cdv A outer s H vs Q E hr h => ?_)
  · obtain ⟨G, ds, d, k, r, ⟨x, rfl, ok, rfl⟩, q⟩ := h
    exact rpa_len r
  · obtain ⟨G, ds, d, k, r, ⟨x, rfl, ok, rfl⟩, q⟩ := h
    obtain ⟨v1, rfl, r1⟩ := rpa1 r
    have hl := ok.len
    refine ⟨_, (pss_one (ps_ret (pe_lc (g := (gTup K 3 (gCons (gName 1) (gCons (gName 2) (gCons (gName 3) gNil))))) rfl sc__arrows.nd (pi_tup (pe_ix (ix_seqK K rfl) (pv 0) pe_int (fun _ _ => rfl))) (blkOk_by (own := [("start", 1), ("end", 2), ("_", 3)]) (N := N__arrows) (by kernel_rfl)) (fun _ _ _ _ _ => (pg_tup (by rfl) (pgs_cons (pg_name (i := 1) sc__arrows.nd rfl (Or.inl rfl)) (pgs_cons (pg_name (i := 2) sc__arrows.nd rfl (Or.inl rfl)) (pgs_cons (pg_name (i := 3) sc__arrows.nd rfl (Or.inl rfl)) pgs_nil))))) (fun _ _ _ _ _ => pts_nil) (fun _ _ _ _ _ => (pe_tup (pa_cons (pv 1) (pa_cons (pv 2) pa_nil))))))), ?_⟩
    refine st_ret k (eva_is (evan_eva (evan_lc x.2 eD (fun _ => true) (fun e => aD (e.1.toNat, e.2.1.toNat)) (src_tup (eva_ixT (eva_var rfl r1) eva_int rfl)) (by omega) fun i e v G' H' he a' rv => ?_)) ?_) q
    · have hr' := ok.rng e (List.mem_of_getElem? he)
      refine bd_tup3 a'.o rv fun u1 u2 u3 t1 t2 t3 => ⟨rfl, evt_yes, fun _ => eva_is (eva_tup (evaA_cons (eva_var rfl t1) (evaA_cons (eva_var rfl t2) evaA_nil))) ?_⟩
      unfold aD
      rw [show ((e.1.toNat : Nat) : Int) = e.1 by omega, show ((e.2.1.toNat : Nat) : Int) = e.2.1 by omega]
    · rw [filter_yes]; unfold arr; rw [List.map_map]; rfl
def R_parts (ds : List PyData) (d : PyData) : Prop := ∃ x, ds = [wD x] ∧ OkW x ∧ d = .tuple ((closedP x.1.toNat (arr x.2)).map tD)
theorem eva_closed {σ : L2.St} {G H : Hp} {ta : TE} {x : Web} (ok : OkW x) (ha : Eva K ta σ G H (wD x)) :
    Eva K (tCall (PureSp K R_closed_parts) [] E0 (tCons (tOp (rIx K) ta (tC (.int 0))) (tCons (tCall (PureSp K R__arrows) [] E0 (tCons ta tNil)) tNil))) σ G H (.tuple ((closedP x.1.toNat (arr x.2)).map tD)) := by
  have m0 := ok.m0
  have m1 := ok.m1
  refine eva_call (evaA_cons (eva_is (eva_ixT ha eva_int rfl) ?_) (evaA_cons (eva_call (evaA_cons ha evaA_nil) ⟨x, rfl, ok, rfl⟩) evaA_nil)) ⟨x.1.toNat, arr x.2, rfl, by omega, by rw [arr_len]; exact ok.len, arr_ok ok, rfl⟩
  rw [show ((x.1.toNat : Nat) : Int) = x.1 by omega]
theorem ok_parts : FnOk P w K mg base CX0 4 T.a_parts T.d_parts ["web"] (PureSp K R_parts) := by
  refine T.F_parts.ok sc_parts (fun vs H Q E h => ?_) (fun cdv A outer s H vs Q E hr h => ?_)
  · obtain ⟨G, ds, d, k, r, ⟨x, rfl, ok, rfl⟩, q⟩ := h
    exact rpa_len r
  · obtain ⟨G, ds, d, k, r, ⟨x, rfl, ok, rfl⟩, q⟩ := h
    obtain ⟨v1, rfl, r1⟩ := rpa1 r
    refine ⟨_, (pss_cons (ps_expr (pe_call (ok_check_web T) hr (by rfl) T.g_check_web T.F_check_web.kp T.b_check_web .nil pass0 (pa_cons (pv 0) pa_nil)))
      (pss_one (ps_ret (pe_call (ok_closed_parts T) (hr.mono (by decide)) (by rfl) T.g_closed_parts T.F_closed_parts.kp T.b_closed_parts .nil pass0 (pa_cons (pe_ix (ix_seqK K rfl) (pv 0) pe_int (fun _ _ => rfl)) (pa_cons (pe_call (ok__arrows T) (hr.mono (by decide)) (by rfl) T.g__arrows T.F__arrows.kp T.b__arrows .nil pass0 (pa_cons (pv 0) pa_nil)) pa_nil)))))), ?_⟩
    refine qt_drop k (eva_call (evaA_cons (eva_var rfl r1) evaA_nil) ⟨_, rfl, ok, rfl⟩) fun G1 H1 a1 => ?_
    exact st_ret a1.o (eva_closed ok (eva_var rfl (r1.ex a1.g))) fun v G2 H2 a2 rv => q v G2 H2 (a1.trans a2) rv
def R_is_one_part (ds : List PyData) (d : PyData) : Prop := ∃ (n : Nat) (as : List Arr), ds = [.int n, .list (as.map aD)] ∧ n ≤ 32 ∧ as.length ≤ 100 ∧ (∀ a ∈ as, a.1 < n ∧ a.2 < n) ∧ d = .bool (wholeP n as)
theorem ok_is_one_part : FnOk P w K mg base CX0 3 T.a_is_one_part T.d_is_one_part ["many", "arrows"] (PureSp K R_is_one_part) := by
  refine T.F_is_one_part.ok sc_is_one_part (fun vs H Q E h => ?_) (fun cdv A outer s H vs Q E hr h => ?_)
  · obtain ⟨G, ds, d, k, r, ⟨n, as, rfl, _⟩, q⟩ := h
    exact rpa_len r
  · obtain ⟨G, ds, d, k, r, ⟨n, as, rfl, hn, hl, has, rfl⟩, q⟩ := h
    obtain ⟨v1, v2, rfl, r1, r2⟩ := rpa2 r
    refine ⟨_, (pss_one (ps_ret (pe_cmpR (op_eqK K rfl hr.units) (pe_call (ok_closed_parts T) hr (by rfl) T.g_closed_parts T.F_closed_parts.kp T.b_closed_parts .nil pass0 (pa_cons (pv 0) (pa_cons (pv 1) pa_nil))) (pe_tup (pa_cons (pe_tupRg rfl (by rfl) T.z_tuple (prg_1 (by rfl) T.z_range (pv 0))) pa_nil)) (nomark _)))), ?_⟩
    refine st_ret k (eva_is (eva_eq (d := .tuple ((closedP n as).map tD)) (e := .tuple [tD (upTo n)]) (eva_call (evaA_cons (eva_var rfl r1) (evaA_cons (eva_var rfl r2) evaA_nil)) ⟨n, as, rfl, hn, hl, has, rfl⟩) (eva_tup (evaA_cons (eva_tupRg (eva_var rfl r1) (by omega)) evaA_nil)) (sh_tsT _).ok (sh_tsT [upTo n]).ok) ?_) q
    rw [eqv_oneT]
    exact congrArg PyData.bool (whole_eq1 n as)
def R_is_whole (ds : List PyData) (d : PyData) : Prop := ∃ x, ds = [wD x] ∧ OkW x ∧ d = .bool (wholeP (trimW x.2).1.toNat (arr (trimW x.2).2))
theorem ok_is_whole : FnOk P w K mg base CX0 5 T.a_is_whole T.d_is_whole ["web"] (PureSp K R_is_whole) := by
  refine T.F_is_whole.ok sc_is_whole (fun vs H Q E h => ?_) (fun cdv A outer s H vs Q E hr h => ?_)
  · obtain ⟨G, ds, d, k, r, ⟨x, rfl, ok, rfl⟩, q⟩ := h
    exact rpa_len r
  · obtain ⟨G, ds, d, k, r, ⟨x, rfl, ok, rfl⟩, q⟩ := h
    obtain ⟨v1, rfl, r1⟩ := rpa1 r
    refine ⟨_, (pss_cons (ps_set (i := 1) sc_is_whole.nd rfl (Or.inl rfl) (pe_call (ok_essential T) hr (by rfl) T.g_essential T.F_essential.kp T.b_essential .nil pass0 (pa_cons (pv 0) pa_nil)))
      (pss_one (ps_ret (pe_call (ok_is_one_part T) (hr.mono (by decide)) (by rfl) T.g_is_one_part T.F_is_one_part.kp T.b_is_one_part .nil pass0 (pa_cons (pe_ix (ix_seqK K rfl) (pv 1) pe_int (fun _ _ => rfl)) (pa_cons (pe_call (ok__arrows T) (hr.mono (by decide)) (by rfl) T.g__arrows T.F__arrows.kp T.b__arrows .nil pass0 (pa_cons (pv 1) pa_nil)) pa_nil)))))), ?_⟩
    refine qt_asg k (eva_call (evaA_cons (eva_var rfl r1) evaA_nil) ⟨_, rfl, ok, rfl⟩) fun vc G1 H1 a1 rc => ?_
    have okT := trimW_ok ok
    have m0 := okT.m0
    have m1 := okT.m1
    refine st_ret a1.o (eva_call (evaA_cons (eva_is (eva_ixT (eva_var rfl rc) eva_int rfl) (show PyData.int (trimW x.2).1 = .int ((trimW x.2).1.toNat : Nat) by rw [show (((trimW x.2).1.toNat : Nat) : Int) = (trimW x.2).1 by omega])) (evaA_cons (eva_call (evaA_cons (eva_var rfl rc) evaA_nil) ⟨trimW x.2, rfl, okT, rfl⟩) evaA_nil))
      ⟨(trimW x.2).1.toNat, arr (trimW x.2).2, rfl, by omega, by rw [arr_len]; exact okT.len, arr_ok okT, rfl⟩) fun v G3 H3 a3 rv => q v G3 H3 (a1.trans a3) rv
end
end K03

set_option Elab.async false
set_option linter.all false
set_option maxRecDepth 100000
set_option maxHeartbeats 4000000
namespace K03
open PySem PySem.Spec PyProof.Rows L2 Vf
open Evl hiding Ex Ex.refl Ex.trans Ex.new Ex.mut ex_rd ex_l ex_t fresh_back
/-! ### what the law reaches, step by step -/
def nextOf (es : List E3) (S : List Int) : List Int := ascBy id ((es.filter fun e => S.contains e.1).map fun e => e.2.1)
def hereN (es : List E3) (k : Int) : Nat → List Int
  | 0 => [k]
  | t + 1 => nextOf es (hereN es k t)
def seenN (es : List E3) (k : Int) : Nat → List Int
  | 0 => []
  | t + 1 => ascBy id (seenN es k t ++ hereN es k (t + 1))
theorem mem_next {es : List E3} {S : List Int} {j : Int} : j ∈ nextOf es S ↔ ∃ e ∈ es, e.1 ∈ S ∧ e.2.1 = j := by
  unfold nextOf
  rw [mem_asc_id, List.mem_map]
  constructor
  · rintro ⟨e, he, rfl⟩
    rw [List.mem_filter, List.contains_iff_mem] at he
    exact ⟨e, he.1, he.2, rfl⟩
  · rintro ⟨e, he, hs, rfl⟩
    exact ⟨e, List.mem_filter.mpr ⟨he, List.contains_iff_mem.mpr hs⟩, rfl⟩
theorem mem_seen {es : List E3} {k j : Int} {t : Nat} : j ∈ seenN es k (t + 1) ↔ j ∈ seenN es k t ∨ j ∈ hereN es k (t + 1) := by
  show j ∈ ascBy id _ ↔ _
  rw [mem_asc_id, List.mem_append]
theorem seen_mono {es : List E3} {k j : Int} : ∀ (t u : Nat), t ≤ u → j ∈ seenN es k t → j ∈ seenN es k u
  | t, u, h, hj => by
    obtain ⟨d, rfl⟩ := Nat.exists_eq_add_of_le h
    induction d with
    | zero => exact hj
    | succ d ih => exact mem_seen.mpr (.inl (ih (Nat.le_add_right _ _)))
theorem here_seen {es : List E3} {k j : Int} {t : Nat} (h : j ∈ hereN es k (t + 1)) : j ∈ seenN es k (t + 1) := mem_seen.mpr (.inr h)
/-- one more step of all that is seen -/
theorem seen_step {es : List E3} {k j : Int} : ∀ t, j ∈ seenN es k (t + 1) ↔ ∃ e ∈ es, (e.1 = k ∨ e.1 ∈ seenN es k t) ∧ e.2.1 = j
  | 0 => by
    rw [mem_seen]
    show j ∈ [] ∨ j ∈ nextOf es [k] ↔ _
    rw [mem_next]
    constructor
    · rintro (h | ⟨e, he, hs, rfl⟩)
      · cases h
      · exact ⟨e, he, .inl (List.mem_singleton.mp hs), rfl⟩
    · rintro ⟨e, he, hs | hs, rfl⟩
      · exact .inr ⟨e, he, List.mem_singleton.mpr hs, rfl⟩
      · cases hs
  | t + 1 => by
    rw [mem_seen]
    constructor
    · rintro (h | h)
      · obtain ⟨e, he, hs, rfl⟩ := (seen_step t).mp h
        exact ⟨e, he, hs.imp id (seen_mono t (t + 1) (Nat.le_succ _)), rfl⟩
      · obtain ⟨e, he, hs, rfl⟩ := mem_next.mp h
        exact ⟨e, he, .inr (here_seen hs), rfl⟩
    · rintro ⟨e, he, hs | hs, rfl⟩
      · exact .inl ((seen_step t).mpr ⟨e, he, .inl hs, rfl⟩)
      · rcases mem_seen.mp hs with h | h
        · exact .inl ((seen_step t).mpr ⟨e, he, .inr h, rfl⟩)
        · exact .inr (mem_next.mpr ⟨e, he, h, rfl⟩)
theorem seen_asc (es : List E3) (k : Int) : ∀ t, Asc id (seenN es k t)
  | 0 => List.Pairwise.nil
  | t + 1 => ascBy_asc _
/-- a set of ints that grows -/
theorem len_le_sub : ∀ {l m : List Int}, l.Nodup → (∀ x ∈ l, x ∈ m) → l.length ≤ m.length
  | [], _, _, _ => Nat.zero_le _
  | x :: l, m, nd, h => by
    obtain ⟨n1, n2⟩ := List.nodup_cons.mp nd
    have hx := h x List.mem_cons_self
    have := len_le_sub (l := l) (m := m.erase x) n2 fun y hy => (List.mem_erase_of_ne (by rintro rfl; exact n1 hy)).mpr (h y (List.mem_cons_of_mem _ hy))
    rw [List.length_erase_of_mem hx] at this
    have := List.length_pos_of_mem hx
    rw [List.length_cons]; omega
theorem seen_grows {es : List E3} {k : Int} (t : Nat) : (∃ u, u ≤ t ∧ ∀ j, j ∈ seenN es k (u + 1) → j ∈ seenN es k u) ∨ t ≤ (seenN es k t).length := by
  induction t with
  | zero => exact .inr (Nat.zero_le _)
  | succ t ih =>
    rcases ih with ⟨u, hu, h⟩ | h
    · exact .inl ⟨u, by omega, h⟩
    · by_cases c : ∀ j, j ∈ seenN es k (t + 1) → j ∈ seenN es k t
      · exact .inl ⟨t, by omega, c⟩
      · refine .inr ?_
        obtain ⟨j, hj⟩ := Classical.not_forall.mp c
        rw [Classical.not_imp] at hj
        have := len_le_sub (l := j :: seenN es k t) (m := seenN es k (t + 1)) (List.nodup_cons.mpr ⟨hj.2, asc_nodup (seen_asc es k t)⟩) fun x hx => (List.mem_cons.mp hx).elim (fun z => z ▸ hj.1) (seen_mono t (t + 1) (Nat.le_succ _))
        rw [List.length_cons] at this
        omega
theorem seen_rng {x : Web} (ok : OkW x) {k : Int} : ∀ t, ∀ j ∈ seenN x.2 k t, 0 ≤ j ∧ j < x.1
  | 0, _, h => by cases h
  | t + 1, j, h => by
    obtain ⟨e, he, _, rfl⟩ := (seen_step t).mp h
    exact (ok.rng e he).2.1
theorem seen_closed {x : Web} (ok : OkW x) {k : Int} {j : Int} (h : j ∈ seenN x.2 k (x.1.toNat + 1)) : j ∈ seenN x.2 k x.1.toNat := by
  rcases seen_grows (es := x.2) (k := k) x.1.toNat with ⟨u, hu, c⟩ | c
  · -- nothing new from u on
    have all : ∀ d j, j ∈ seenN x.2 k (u + d) → j ∈ seenN x.2 k u := by
      intro d
      induction d with
      | zero => exact fun j h => h
      | succ d ih =>
        intro j h
        obtain ⟨e, he, hs, rfl⟩ := (seen_step (u + d)).mp h
        exact c _ ((seen_step u).mpr ⟨e, he, hs.imp id (ih _), rfl⟩)
    obtain ⟨d, hd⟩ := Nat.exists_eq_add_of_le hu
    rw [show x.1.toNat + 1 = u + (d + 1) by omega] at h
    exact seen_mono u _ hu (all _ _ h)
  · -- all states are seen
    apply Classical.byContradiction
    intro no
    have hj := seen_rng ok _ _ h
    have nd : (j :: seenN x.2 k x.1.toNat).Nodup := List.nodup_cons.mpr ⟨no, asc_nodup (seen_asc _ _ _)⟩
    have := len_le_sub (m := upTo x.1.toNat) nd fun y hy => by
      rw [mem_upTo]
      rcases List.mem_cons.mp hy with rfl | hy
      · omega
      · have := seen_rng ok _ _ hy; omega
    rw [List.length_cons, upTo_len] at this
    omega
def arrO (es : List E3) : List Arr := es.map fun e => (e.1.toNat, e.2.1.toNat)
theorem seen_bit {x : Web} (ok : OkW x) {k j : Nat} (hk : k < x.1.toNat) (hj : j < x.1.toNat) : (seenN x.2 (k : Int) x.1.toNat).contains (j : Int) = bit x.1.toNat (arrO x.2) k j := by
  have has : ∀ a ∈ arrO x.2, a.1 < x.1.toNat ∧ a.2 < x.1.toNat := fun a ha => by
    obtain ⟨e, he, rfl⟩ := List.mem_map.mp ha
    have := ok.rng e he
    have := ok.m0
    exact ⟨by show e.1.toNat < _; omega, by show e.2.1.toNat < _; omega⟩
  have W := bitW has
  rw [Bool.eq_iff_iff, List.contains_iff_mem]
  constructor
  · -- what is seen is reached
    have fwd : ∀ t, ∀ i : Int, i ∈ seenN x.2 (k : Int) t → bit x.1.toNat (arrO x.2) k i.toNat = true := by
      intro t
      induction t with
      | zero => intro i h; cases h
      | succ t ih =>
        intro i h
        obtain ⟨e, he, hs, rfl⟩ := (seen_step t).mp h
        have hr := ok.rng e he
        have b1 : bit x.1.toNat (arrO x.2) e.1.toNat e.2.1.toNat = true := W.base (e.1.toNat, e.2.1.toNat) (List.mem_map.mpr ⟨e, he, rfl⟩)
        rcases hs with hs | hs
        · rw [hs] at b1; exact b1
        · exact W.via _ _ _ hk (by omega) (by omega) (ih _ hs) b1
    intro h
    have := fwd _ _ h
    simpa using this
  · -- what is reached is seen
    intro h
    have key := W.least (fun a b => (a = k ∨ ((a : Nat) : Int) ∈ seenN x.2 (k : Int) x.1.toNat) → ((b : Nat) : Int) ∈ seenN x.2 (k : Int) x.1.toNat) (fun a ha => ?_) (fun a b c h1 h2 h3 => h2 (.inr (h1 h3))) k j hk h
    · exact key (.inl rfl)
    · obtain ⟨e, he, rfl⟩ := List.mem_map.mp ha
      have hr := ok.rng e he
      intro hs
      refine seen_closed ok ((seen_step _).mpr ⟨e, he, ?_, by show e.2.1 = ((e.2.1.toNat : Nat) : Int); omega⟩)
      rcases hs with hs | hs
      · refine .inl ?_
        have hs : e.1.toNat = k := hs
        omega
      · refine .inr ?_
        have hs : ((e.1.toNat : Nat) : Int) ∈ seenN x.2 (k : Int) x.1.toNat := hs
        rw [show ((e.1.toNat : Nat) : Int) = e.1 by omega] at hs
        exact hs
end K03

set_option Elab.async false
set_option linter.all false
set_option maxRecDepth 100000
set_option maxHeartbeats 4000000
namespace K03
open PySem PySem.Spec PyProof.Rows L2 Vf
open Evl hiding Ex Ex.refl Ex.trans Ex.new Ex.mut ex_rd ex_l ex_t fresh_back
theorem here_asc (es : List E3) (k : Int) : ∀ t, Asc id (hereN es k t)
  | 0 => List.pairwise_singleton _ _
  | t + 1 => ascBy_asc _
theorem here_rng {x : Web} (ok : OkW x) {k : Int} (hk : 0 ≤ k ∧ k < x.1) : ∀ t, ∀ j ∈ hereN x.2 k t, 0 ≤ j ∧ j < x.1
  | 0, j, h => by rw [List.mem_singleton.mp h]; exact hk
  | t + 1, j, h => by
    obtain ⟨e, he, _, rfl⟩ := mem_next.mp h
    exact (ok.rng e he).2.1
def rowD (x : Web) (k : Nat) : PyData := .list ((seenN x.2 (k : Nat) x.1.toNat).map .int)
section
variable {P : Program} {w : World} {K : PySem.W.Frag} {mg : PySem.Str → Option Value} {base : Heap} (T : Tops K mg base)
def R__law_parts (ds : List PyData) (d : PyData) : Prop := ∃ x, ds = [wD x] ∧ OkW x ∧ x.1 ≤ 8 ∧ x.2.length < 64 ∧ d = .list ((closedP x.1.toNat (arr x.2)).map tD)
theorem ok__law_parts : FnOk P w K mg base CX0 1 T.a__law_parts T.d__law_parts ["web"] (PureSp K R__law_parts) := by
  refine T.F__law_parts.ok sc__law_parts (fun vs H Q E h => ?_) (fun cdv A outer s H vs Q E hr h => ?_)
  · obtain ⟨G, ds, d, k, r, ⟨x, rfl, _⟩, q⟩ := h
    exact rpa_len r
  · obtain ⟨G, ds, d, k, r, ⟨x, rfl, ok, hx8, hfew, rfl⟩, q⟩ := h
    obtain ⟨v1, rfl, r1⟩ := rpa1 r
    have m0 := ok.m0
    have m1 := ok.m1
    refine ⟨_, (pss_cons (ps_set (i := 1) sc__law_parts.nd rfl (Or.inr rfl) (pe_lst pa_nil))
      (pss_cons (ps_for PassesOwn.never rfl (pi_range1 (by rfl) T.z_range (pa_cons (pe_ix (ix_seqK K rfl) (pv 0) pe_int (fun _ _ => rfl)) pa_nil)) (pg_name (i := 2) sc__law_parts.nd rfl (Or.inr rfl)) (pss_cons (ps_set (i := 3) sc__law_parts.nd rfl (Or.inr rfl) (pe_lst (pa_cons (pv 2) pa_nil)))
      (pss_cons (ps_set (i := 4) sc__law_parts.nd rfl (Or.inl rfl) (pe_lst pa_nil))
      (pss_cons (ps_for PassesOwn.never rfl (pi_range1 (by rfl) T.z_range (pa_cons (pe_ix (ix_seqK K rfl) (pv 0) pe_int (fun _ _ => rfl)) pa_nil)) (pg_name (i := 5) sc__law_parts.nd rfl (Or.inl rfl)) (pss_cons (ps_set (i := 3) sc__law_parts.nd rfl (Or.inr rfl) (pe_callB (cr_sortedSet rfl) (by rfl) T.z_sorted (by decide +kernel) (pa_cons (pe_callTy (cr_setInts rfl) (by rfl) T.z_set (by decide +kernel) (pa_cons (pe_lc rfl sc__law_parts.nd (pi_tupK K rfl (pe_ix (ix_seqK K rfl) (pv 0) pe_int (fun _ _ => rfl))) (blkOk_by (own := [("edge", 7)]) (N := N__law_parts) (by kernel_rfl)) (fun _ _ _ _ _ => (pg_name (i := 7) sc__law_parts.nd rfl (Or.inl rfl))) (fun _ _ _ _ _ => (pts_one (pt_cmpR (op_inK K rfl) (pe_ix (ix_seqK K rfl) (pv 7) pe_int (fun _ _ => rfl)) (pv 3) (by rfl)))) (fun _ _ _ _ _ => (pe_ix (ix_seqK K rfl) (pv 7) pe_int (fun _ _ => rfl)))) pa_nil)) pa_nil)))
      (pss_one (ps_set (i := 4) sc__law_parts.nd rfl (Or.inl rfl) (pe_callB (cr_sortedSet rfl) (by rfl) T.z_sorted (by decide +kernel) (pa_cons (pe_callTy (cr_setInts rfl) (by rfl) T.z_set (by decide +kernel) (pa_cons (pe_op op_cat (pv 4) (pv 3)) pa_nil)) pa_nil))))))
      (pss_one (ps_expr (pe_bm PySem.F.plainAttrs_list PySem.F.slot_list_append PySem.F.type_list_append mt_append (pv 1) (pa_cons (pv 4) pa_nil))))))))
      (pss_cons (ps_set (i := 6) sc__law_parts.nd rfl (Or.inl rfl) (pe_lst pa_nil))
      (pss_cons (ps_for PassesOwn.never rfl (pi_range1 (by rfl) T.z_range (pa_cons (pe_ix (ix_seqK K rfl) (pv 0) pe_int (fun _ _ => rfl)) pa_nil)) (pg_name (i := 2) sc__law_parts.nd rfl (Or.inr rfl)) (pss_one (ps_if (pt_cmpR (op_inK K rfl) (pv 2) (pe_ix (ix_seqK K rfl) (pv 1) (pv 2) (fun _ _ => rfl)) (by rfl)) (pss_one (ps_expr (pe_bm PySem.F.plainAttrs_list PySem.F.slot_list_append PySem.F.type_list_append mt_append (pv 6) (pa_cons (pe_callTy call_tuple_of (by rfl) T.z_tuple (by decide +kernel) (pa_cons (pe_lc rfl sc__law_parts.nd (pi_range1 (by rfl) T.z_range (pa_cons (pe_ix (ix_seqK K rfl) (pv 0) pe_int (fun _ _ => rfl)) pa_nil)) (blkOk_by (own := [("j", 8)]) (N := N__law_parts) (by kernel_rfl)) (fun _ _ _ _ _ => (pg_name (i := 8) sc__law_parts.nd rfl (Or.inl rfl))) (fun _ _ _ _ _ => (pts_one (PW.pt (pw_and (pt_cmpR (op_inK K rfl) (pv 8) (pe_ix (ix_seqK K rfl) (pv 1) (pv 2) (fun _ _ => rfl)) (by rfl)) (pw_and1 (pt_cmpR (op_inK K rfl) (pv 2) (pe_ix (ix_seqK K rfl) (pv 1) (pv 8) (fun _ _ => rfl)) (by rfl))))))) (fun _ _ _ _ _ => (pv 8))) pa_nil)) pa_nil)))) pss_nil)))
      (pss_one (ps_ret (pe_callB (cr_sortTups 8 16 (by decide) rfl) (by rfl) T.z_sorted (by decide +kernel) (pa_cons (pe_callTy (cr_setOfT rfl hr.units) (by rfl) T.z_set (by decide +kernel) (pa_cons (pv 6) pa_nil)) pa_nil)))))))), ?_⟩
    refine qt_asgN k (evan_lst (K := K) evaA_nil) fun p o G2 H2 np a2 w2 h2 => ?_
    obtain ⟨_, rfl, h2⟩ := h2
    cases h2
    -- rows
    refine qt_for (List.range x.1.toNat) (fun i => .int (0 + (i : Nat))) (fun B i σ G' H' => Ex B G' ∧ Ex G G' ∧ AdvR [p] G2 H2 G' H' ∧ ∃ o2 o3 o4 o5 vs, σ = [some v1, some (.ref p), o2, o3, o4, o5, none, none, none] ∧ Own G' H' p (.lst vs) ∧ RpAll K G' vs (((List.range x.1.toNat).take i).map (rowD x))) a2.o
      (src_m rfl (r1.ex a2.g) m0 m1) (fun G3 H3 a3 => ⟨Ex.refl _, a2.g.trans a3.g, a3.toR, none, none, none, none, [], rfl, w2.adv a3, .nil⟩) (fun B i σ' G' H' z => ⟨z.1, z.2.2.1.o⟩) ?_ ?_
    · rintro B i s v σ' G3 H3 G4 H4 hs ⟨eB, e1, A3, o2, o3, o4, o5, vs, rfl, ow, ra⟩ a4 rv
      obtain ⟨rfl, his⟩ := range_get hs
      cases rp_int rv
      refine bd_name ?_
      rw [Int.zero_add]
      refine qt_asg a4.o (eva_lst (K := K) (evaA_cons (eva_var rfl (.int (s : Nat))) evaA_nil)) fun vh G5 H5 a5 rh => ?_
      refine qt_asg a5.o (eva_lst (K := K) evaA_nil) fun vz G6 H6 a6 rz => ?_
      have r16 := r1.ex (e1.trans (a4.g.trans (a5.g.trans a6.g)))
      refine qt_for (List.range x.1.toNat) (fun i => .int (0 + (i : Nat))) (fun B' t σ G' H' => Ex B' G' ∧ Adv G6 H6 G' H' ∧ ∃ vh vz o5, σ = [some v1, some (.ref p), some (.int (s : Nat)), some vh, some vz, o5, none, none, none] ∧ Rp K G' vh (.list ((hereN x.2 (s : Nat) t).map .int)) ∧ Rp K G' vz (.list ((seenN x.2 (s : Nat) t).map .int))) a6.o
        (src_m rfl r16 m0 m1) (fun G7 H7 a7 => ⟨Ex.refl _, a7, vh, vz, o5, rfl, (rh.ex a6.g).ex a7.g, rz.ex a7.g⟩) (fun B i σ' G' H' z => ⟨z.1, z.2.1.o⟩) ?_ ?_
      · rintro B' i t vt σ' G7 H7 G8 H8 ht ⟨eB', A7, vh, vz, o5, rfl, rh, rz⟩ a8 rt
        obtain ⟨rfl, hit⟩ := range_get ht
        refine bd_name ?_
        have hrl : ∀ t, (hereN x.2 (s : Nat) t).length ≤ 8 := fun t => by
          have := asc_bound (lo := 0) (hi := x.1) (here_asc x.2 (s : Nat) t) (here_rng ok ⟨by omega, by omega⟩ t)
          omega
        have hsl : ∀ t, (seenN x.2 (s : Nat) t).length ≤ 8 := fun t => by
          have := asc_bound (lo := 0) (hi := x.1) (seen_asc x.2 (s : Nat) t) (seen_rng ok t)
          omega
        have r18 := r16.ex (A7.g.trans a8.g)
        have rh8 := rh.ex a8.g
        refine qt_asg a8.o (eva_ssi (ns := (x.2.filter fun e => (hereN x.2 (s : Nat) t).contains e.1).map fun e => e.2.1) (eva_is (evan_eva (evan_lc x.2 eD (fun e => (hereN x.2 (s : Nat) t).contains e.1) (fun e => .int e.2.1) (src_tup (eva_ixT (eva_var rfl r18) eva_int rfl)) (by omega) fun i e v G' H' he a' rv => bd_name ⟨rfl, evt_test (eva_in (neg := false) (eva_item rfl rv rfl) (eva_var rfl (rh8.ex a'.g))), fun _ => eva_item rfl rv rfl⟩)) ?_) ?_) fun vh' G9 H9 a9 rh' => ?_
        · rw [List.map_map]; rfl
        · rw [List.length_map]; exact Nat.lt_of_le_of_lt (List.length_filter_le _ _) hfew
        · change Rp K G9 vh' (.list ((hereN x.2 (s : Nat) (t + 1)).map .int)) at rh'
          have h1 := hrl (t + 1)
          have h2 := hsl t
          refine st_asg a9.o (eva_ssi (ns := seenN x.2 (s : Nat) t ++ hereN x.2 (s : Nat) (t + 1)) (eva_is (evan_eva (evan_cat (eva_var rfl (rz.ex (a8.g.trans a9.g))) (eva_var rfl rh') (by rw [List.length_map, List.length_map]; omega))) (by rw [List.map_append])) (by rw [List.length_append]; omega)) fun vz' G10 H10 a10 rz' => ?_
          exact ⟨G10, eB'.trans (a8.g.trans (a9.g.trans a10.g)), A7.trans (a8.trans (a9.trans a10)), vh', vz', _, rfl, rh'.ex a10.g, rz'⟩
      · rintro B' σ' G7 H7 ⟨eB', A7, vh, vz, o5, rfl, rh, rz⟩
        rw [List.length_range] at rz
        have A37 := ((a4.trans a5).trans a6).trans A7
        have ow7 := ow.adv A37
        have hvl : vs.length ≤ 32 := by rw [rpa_len ra, List.length_map, List.length_take, List.length_range]; omega
        refine st_app A7.o (evv_var rfl) ow7 (eva_var rfl rz) (by omega) fun v' G8 H8 a8 rv' k8 => ?_
        have ow8 := ow7.adv a8
        refine ⟨G8, eB.trans (A37.g.trans a8.g), e1.trans (A37.g.trans a8.g), (A3.trans (A37.trans a8).toR).trans (ow8.chg a8.o), _, _, _, _, _, rfl, ow8.put, ?_⟩
        rw [take_some hs, List.map_append]
        exact rpa_app (ra.ex (A37.g.trans a8.g)) (.cons rv' .nil)
    · rintro B σ' G3 H3 ⟨eB, e1, A3, o2, o3, o4, o5, vs, rfl, ow, ra⟩
      rw [List.take_of_length_le (by rw [List.length_range]; exact Nat.le_refl _)] at ra
      have A4 : Adv G H (upd G3 p (.lst vs)) H3 := ((a2.toR (rs := [p])).trans (A3.trans (ow.fix A3.o))).out fun b hb => by rw [List.mem_singleton.mp hb]; exact np
      have rr : Rp K (upd G3 p (.lst vs)) (.ref p) (.list ((List.range x.1.toNat).map (rowD x))) := .lst upd_same (ra.ex (Ex.new ow.g))
      have r14 := r1.ex A4.g
      generalize upd G3 p (.lst vs) = G4 at A4 rr r14
      clear ow ra A3 eB e1
      -- found
      refine qt_asgN A4.o (evan_lst (K := K) evaA_nil) fun p o G5 H5 np5 a5 w5 h5 => ?_
      obtain ⟨_, rfl, h5⟩ := h5
      cases h5
      have rr5 := rr.ex a5.g
      have r15 := r14.ex a5.g
      have row : ∀ {σ : L2.St} {G' H' : Hp} {tb : TE} {j : Nat}, Ex G5 G' → σ[1]? = some (some _) → Eva K tb σ G' H' (.int (j : Nat)) → j < x.1.toNat → Eva K (tOp (rIx K) (tVar 1) tb) σ G' H' (rowD x j) := fun {σ G' H' tb j} e h1 hb hj =>
        eva_ixL (eva_var h1 (rr5.ex e)) hb (atI_nat (by rw [List.getElem?_map, List.getElem?_range hj]; rfl))
      have isin : ∀ {σ : L2.St} {G' H' : Hp} {ta tb : TE} {i j : Nat}, Ex G5 G' → σ[1]? = some (some _) → Eva K ta σ G' H' (.int (i : Nat)) → Eva K tb σ G' H' (.int (j : Nat)) → i < x.1.toNat → j < x.1.toNat → EvaT (tTest (tOp (rIn K false) ta (tOp (rIx K) (tVar 1) tb))) σ G' H' (bit x.1.toNat (arr x.2) j i) := fun e h1 ha hb hi hj =>
        evt_is (evt_test (eva_in (neg := false) ha (row e h1 hb hj))) (seen_bit ok hj hi)
      refine qt_for (List.range x.1.toNat) (fun i => .int (0 + (i : Nat))) (fun B i σ G' H' => Ex B G' ∧ Ex G5 G' ∧ AdvR [p] G5 H5 G' H' ∧ ∃ o2 vs, σ = [some v1, _, o2, o3, o4, o5, some (.ref p), none, none] ∧ Own G' H' p (.lst vs) ∧ RpAll K G' vs (((((List.range x.1.toNat).take i).filter fun k => bit x.1.toNat (arr x.2) k k).map (partI x.1.toNat (arr x.2))).map tD)) a5.o
        (src_m rfl r15 m0 m1) (fun G6 H6 a6 => ⟨Ex.refl _, a6.g, a6.toR, _, [], rfl, w5.adv a6, .nil⟩) (fun B i σ' G' H' z => ⟨z.1, z.2.2.1.o⟩) ?_ ?_
      · rintro B i s v σ' G6 H6 G7 H7 hs ⟨eB, e1, A6, o2, vs, rfl, ow, ra⟩ a7 rv
        obtain ⟨rfl, his⟩ := range_get hs
        cases rp_int rv
        refine bd_name ?_
        rw [Int.zero_add]
        have e17 := e1.trans a7.g
        have r17 := r15.ex e17
        have hvl : vs.length ≤ 32 := by
          rw [rpa_len ra, List.length_map, List.length_map]
          exact Nat.le_trans (List.length_filter_le _ _) (by rw [List.length_take, List.length_range]; omega)
        refine st_when a7.o (isin e17 rfl (eva_var rfl (.int (s : Nat))) (eva_var rfl (.int (s : Nat))) his his) (fun hb G8 H8 a8 => ?_) fun hb G8 H8 a8 => ?_
        · have ow8 := (ow.adv a7).adv a8
          have e18 := e17.trans a8.g
          refine st_app a8.o (evv_var rfl) ow8 (eva_tupleL (evan_eva (evan_lc (List.range x.1.toNat) (fun i => .int (0 + (i : Nat))) (fun j => bit x.1.toNat (arr x.2) s j && bit x.1.toNat (arr x.2) j s) (fun j => .int (j : Nat)) (src_m rfl (r15.ex e18) m0 m1) (by rw [List.length_range]; omega) fun i j vj G' H' hj a' rj => ?_))) (by omega) fun v' G9 H9 a9 rv' k9 => ?_
          · obtain ⟨rfl, hjn⟩ := range_get hj
            cases rp_int rj
            refine bd_name ⟨rfl, ?_, fun _ => eva_var rfl (by rw [Int.zero_add]; exact .int _)⟩
            rw [Int.zero_add]
            exact evt_and (isin (e18.trans a'.g) rfl (eva_var rfl (.int (j : Nat))) (eva_var rfl (.int (s : Nat))) hjn his) fun _ => isin (e18.trans a'.g) rfl (eva_var rfl (.int (s : Nat))) (eva_var rfl (.int (j : Nat))) his hjn
          · have ow9 := ow8.adv a9
            refine ⟨G9, eB.trans (a7.g.trans (a8.g.trans a9.g)), e18.trans a9.g, (A6.trans ((a7.trans a8).trans a9).toR).trans (ow9.chg a9.o), _, _, rfl, ow9.put, ?_⟩
            rw [take_some hs, List.filter_append, List.filter_cons, if_pos hb, List.map_append, List.map_append]
            refine rpa_app (ra.ex (a7.g.trans (a8.g.trans a9.g))) (.cons ?_ .nil)
            have e : tD (partI x.1.toNat (arr x.2) s) = .tuple ((partN x.1.toNat (arr x.2) s).map fun k => .int (k : Nat)) := by unfold tD partI; rw [List.map_map]; rfl
            rw [e]; exact rv'
        · refine ⟨G8, eB.trans (a7.g.trans a8.g), e17.trans a8.g, A6.trans (a7.trans a8).toR, _, _, rfl, (ow.adv a7).adv a8, ?_⟩
          rw [take_some hs, List.filter_append, List.filter_cons, if_neg (by rw [hb]; exact Bool.false_ne_true), List.filter_nil, List.append_nil]
          exact ra.ex (a7.g.trans a8.g)
      · rintro B σ' G6 H6 ⟨eB, e1, A6, o2, vs, rfl, ow, ra⟩
        rw [List.take_of_length_le (by rw [List.length_range]; exact Nat.le_refl _)] at ra
        have A7 : Adv G H (upd G6 p (.lst vs)) H6 := (((A4.trans a5).toR (rs := [p])).trans (A6.trans (ow.fix A6.o))).out fun b hb => by rw [List.mem_singleton.mp hb]; exact A4.free np5
        have rf : Rp K (upd G6 p (.lst vs)) (.ref p) (.list ((lawTs x.1.toNat (arr x.2)).map tD)) := .lst upd_same (ra.ex (Ex.new ow.g))
        have hn8 : x.1.toNat ≤ 8 := by omega
        have hts : (lawTs x.1.toNat (arr x.2)).length < 64 := by
          unfold lawTs
          rw [List.length_map]
          exact Nat.lt_of_le_of_lt (List.length_filter_le _ _) (by rw [List.length_range]; omega)
        rw [closed_law (arr_ok ok) hn8] at q
        exact st_ret A7.o (eva_sst (eva_var rfl rf) hts (by decide) (law_ok hn8)) fun v G8 H8 a8 rv => q v G8 H8 (A7.trans a8) rv
end
end K03

set_option Elab.async false
set_option linter.all false
set_option maxRecDepth 100000
set_option maxHeartbeats 4000000
namespace K03
open PySem PySem.Spec PyProof.Rows L2 Vf
open Evl hiding Ex Ex.refl Ex.trans Ex.new Ex.mut ex_rd ex_l ex_t fresh_back
section
variable {P : Program} {w : World} {K : PySem.W.Frag} {mg : PySem.Str → Option Value} {base : Heap} (T : Tops K mg base)
theorem qt_row {σ : L2.St} {H : Hp} {D : Ends} {tz : TS} {i j : Nat} {sc : Addr} {ns : List Int} {b : Int} (hi : σ[i]? = some (some (.ref sc))) (hs : SqL K H sc (ns.map V.int))
    (c : ∀ r H1, Ex H H1 → RowI K r H H1 → tz D (σ.set j (some (.ref r))) H1) : tSeq (tAsg (tLst (tCons (tVar i) (tCons (tC (.int 0)) (tCons (tC (.int b)) (tCons (tC (.int 0)) tNil))))) (gName j)) tz D σ H :=
  ⟨_, hi, by show 4 ≤ sizeLine; decide, fun p hp => c p _ (Ex.new hp) ⟨sc, ns, 0, b, 0, ⟨upd_same, hp, fun _ z => nomatch z⟩, hs, Int.le_refl _⟩⟩
def spLaw (K : PySem.W.Frag) : Sp := fun vs H Q _ => ∃ (a : Addr) (ns : List Int), vs = [.ref a] ∧ SqL K H a (ns.map V.int) ∧ ns.length ≤ 63 ∧ ∀ H', Q (.bl true) H'
theorem good_parts (n : Nat) (as : List Arr) (hn : n ≤ 40000) : good 4 (.tuple ((closedP n as).map tD)) := by
  refine ⟨?_, fun d hd => ?_⟩
  · unfold closedP
    rw [List.length_map, List.length_map]
    exact Nat.le_trans (List.length_filter_le _ _) (by rw [List.length_range]; exact hn)
  · obtain ⟨t, ht, rfl⟩ := List.mem_map.mp hd
    obtain ⟨s, _, _, rfl⟩ := closed_mem ht
    refine ⟨?_, fun d hd => ?_⟩
    · unfold partI
      rw [List.length_map, List.length_map]
      exact Nat.le_trans (partN_len n as s) hn
    · obtain ⟨i, _, rfl⟩ := List.mem_map.mp hd
      trivial
theorem ok_law : FnOk P w K mg base CX0 6 T.a_law T.d_law ["script"] (spLaw K) := by
  refine T.F_law.ok sc_law (fun vs H Q E h => ?_) (fun cdv A outer s H vs Q E hr h => ?_)
  · obtain ⟨a, ns, rfl, _⟩ := h
    rfl
  · obtain ⟨sc, ns, rfl, hS, hlen, q⟩ := h
    refine ⟨_, (pss_cons (ps_set (i := 1) sc_law.nd rfl (Or.inl rfl) (pe_lst (pa_cons (pv 0) (pa_cons pe_int (pa_cons pe_int (pa_cons pe_int pa_nil))))))
      (pss_cons (ps_for PassesOwn.never rfl (pi_range1 (by rfl) T.z_range (pa_cons pe_int pa_nil)) (pg_name (i := 2) sc_law.nd rfl (Or.inl rfl)) (pss_cons (ps_set (i := 3) sc_law.nd rfl (Or.inl rfl) (pe_call (ok__law_web T) (hr.mono (by decide)) (by rfl) T.g__law_web T.F__law_web.kp T.b__law_web .nil pass0 (pa_cons (pv 1) (pa_cons pe_int (pa_cons pe_int pa_nil)))))
      (pss_cons (ps_set (i := 4) sc_law.nd rfl (Or.inl rfl) (pe_call (ok__law_core T) (hr.mono (by decide)) (by rfl) T.g__law_core T.F__law_core.kp T.b__law_core .nil pass0 (pa_cons (pv 3) pa_nil)))
      (pss_cons (ps_if (pt_not (pt_val (pe_call (ok__law_alike T) (hr.mono (by decide)) (by rfl) T.g__law_alike T.F__law_alike.kp T.b__law_alike .nil pass0 (pa_cons (pe_call (ok_parts T) (hr.mono (by decide)) (by rfl) T.g_parts T.F_parts.kp T.b_parts .nil pass0 (pa_cons (pv 3) pa_nil)) (pa_cons (pe_callTy call_tuple_of (by rfl) T.z_tuple (by decide +kernel) (pa_cons (pe_call (ok__law_parts T) (hr.mono (by decide)) (by rfl) T.g__law_parts T.F__law_parts.kp T.b__law_parts .nil pass0 (pa_cons (pv 3) pa_nil)) pa_nil)) pa_nil))))) (pss_one (ps_ret pe_bl)) pss_nil)
      (pss_cons (ps_set (i := 5) sc_law.nd rfl (Or.inl rfl) (pe_and (pe_cmpR op_gt (pe_ix (ix_seqK K rfl) (pv 4) pe_int (fun _ _ => rfl)) pe_int (nomark _)) (pe_one (pe_cmpR (op_eqK K rfl hr.units) (pe_call (ok__law_parts T) (hr.mono (by decide)) (by rfl) T.g__law_parts T.F__law_parts.kp T.b__law_parts .nil pass0 (pa_cons (pv 4) pa_nil)) (pe_lst (pa_cons (pe_callTy call_tuple_of (by rfl) T.z_tuple (by decide +kernel) (pa_cons (pe_lc rfl sc_law.nd (pi_range1 (by rfl) T.z_range (pa_cons (pe_ix (ix_seqK K rfl) (pv 4) pe_int (fun _ _ => rfl)) pa_nil)) (blkOk_by (own := [("k", 6)]) (N := N_law) (by kernel_rfl)) (fun _ _ _ _ _ => (pg_name (i := 6) sc_law.nd rfl (Or.inl rfl))) (fun _ _ _ _ _ => pts_nil) (fun _ _ _ _ _ => (pv 6))) pa_nil)) pa_nil)) (nomark _)))))
      (pss_one (ps_if (pt_not (pt_val (pe_call (ok__law_alike T) (hr.mono (by decide)) (by rfl) T.g__law_alike T.F__law_alike.kp T.b__law_alike .nil pass0 (pa_cons (pe_call (ok_is_whole T) hr (by rfl) T.g_is_whole T.F_is_whole.kp T.b_is_whole .nil pass0 (pa_cons (pv 3) pa_nil)) (pa_cons (pv 5) pa_nil))))) (pss_one (ps_ret pe_bl)) pss_nil)))))))
      (pss_one (ps_ret pe_bl)))), ?_⟩
    refine qt_row rfl hS fun r H1 e1 w1 => ?_
    have S0 : Src K (iRng1 (tCons (tC (.int 3)) tNil)) (List.set (start N_law [.ref sc]) 1 (some (.ref r))) H H1 ((List.range 3).map fun i => .int (0 + (i : Nat))) := src_rng1 (K := K) (n := 3) eva_int
    refine qt_for (List.range 3) _ (fun B i σ G' H' => Ex B G' ∧ Ex G' H' ∧ RowI K r G' H' ∧ ∃ o2 o3 o4 o5, σ = [some (.ref sc), some (.ref r), o2, o3, o4, o5, none]) e1 S0
      (fun G2 H2 a2 => ⟨Ex.refl _, a2.o, w1.adv a2, none, none, none, none, rfl⟩) (fun B i σ' G' H' p => ⟨p.1, p.2.1⟩) ?_ fun B σ' G' H' p => st_ret (K := K) p.2.1 eva_bl fun v G3 H3 a3 rv => by cases rp_bool rv; exact q H3
    rintro B i tn vt σ' G2 H2 G3 H3 _ ⟨eB, k2, w2, o2, o3, o4, o5, rfl⟩ a3 _
    refine bd_name ?_
    -- web
    have hweb : EvR K r (tCall (WebSp K) [] E0 (tCons (tVar 1) (tCons (tC (.int 8)) (tCons (tC (.int 2)) tNil)))) [some (.ref sc), some (.ref r), some vt, o3, o4, o5, none] G3 H3 (fun d => ∃ x, d = wD x ∧ WebOk x 8 2) := fun G4 H4 a4 w4 Q q =>
      ⟨_, rfl, G4, r, 8, 2, a4.o, rfl, w4, ⟨by decide, by decide⟩, ⟨by decide, by decide⟩, fun x v G5 H5 hx a5 w5 rv => q v _ G5 H5 ⟨x, rfl, hx⟩ a5 w5 rv⟩
    refine qt_asgR a3.o (w2.adv a3) hweb fun vw d G4 H4 hd a4 w4 rw4 => ?_
    obtain ⟨x, rfl, hx⟩ := hd
    have ok := hx.toOkW
    have m0 := ok.m0
    have m8 := hx.most
    have hfew : x.2.length < 64 := by have := hx.few; omega
    have okT := trimW_ok ok
    have hT8 : (trimW x.2).1 ≤ 8 := by
      have := sts_len ok
      show ((sts (core x.2)).length : Int) ≤ 8
      omega
    have hTfew : (trimW x.2).2.length < 64 := by
      show ((core x.2).map (ren (sts (core x.2)))).length < 64
      rw [List.length_map]
      exact Nat.lt_of_le_of_lt (core_sub x.2).length_le hfew
    -- core
    refine qt_asg a4.o (eva_call (evaA_cons (eva_var rfl rw4) evaA_nil) ⟨x, rfl, ok, rfl⟩) fun vc G5 H5 a5 rc => ?_
    have rw5 := rw4.ex a5.g
    refine qt_unless a5.o (evt_is (evt_not (evt_B (eva_call (evaA_cons (eva_call (evaA_cons (eva_var rfl rw5) evaA_nil) ⟨x, rfl, ok, rfl⟩) (evaA_cons (eva_tupleL (eva_call (evaA_cons (eva_var rfl rw5) evaA_nil) ⟨x, rfl, ok, m8, hfew, rfl⟩)) evaA_nil)) ⟨_, rfl, good_parts _ _ (by omega), rfl⟩))) rfl) rfl fun G6 H6 a6 => ?_
    have rc6 := rc.ex a6.g
    have mT := okT.m0
    -- due
    have hu : PyData.tuple (((List.range (trimW x.2).1.toNat).filter fun _ => true).map fun i => .int (i : Nat)) = tD (upTo (trimW x.2).1.toNat) := by rw [filter_yes]; unfold tD upTo; rw [List.map_map]; rfl
    have s2 : SeqAt.shaped (.list [tD (upTo (trimW x.2).1.toNat)]) = true := (Sh.list (n := 1) (ds := [tD (upTo (trimW x.2).1.toNat)]) fun d hd => by rw [List.mem_singleton.mp hd]; exact sh_tD _).ok
    have hall : Eva K (tLst (tCons (tCB (fun xs H Q => ∃ p ys, xs = [.ref p] ∧ ((SqL K H p ys ∧ ∀ l, H l = none → Q (.ref l) (upd H l (.tup ys))) ∨ (SqT K H p ys ∧ Q (.ref p) H))) (tCons (tLc (iRng1 (tCons (tOp (rIx K) (tVar 4) (tC (.int 0))) tNil)) (gName 6) tYes (tVar 6) [6]) tNil)) tNil)) [some (.ref sc), some (.ref r), some vt, some vw, some vc, o5, none] G6 H6 (.list [tD (upTo (trimW x.2).1.toNat)]) :=
      eva_lst (evaA_cons (eva_is (eva_tupleL (evan_eva (evan_lc (List.range (trimW x.2).1.toNat) (fun i => .int (0 + (i : Nat))) (fun _ => true) (fun i => .int (i : Nat)) (src_m rfl rc6 okT.m0 okT.m1) (by rw [List.length_range]; omega) fun i j v G' H' hj a' rv => bd_name ⟨rfl, evt_yes, fun _ => eva_var rfl (by rw [← Int.zero_add ((j : Nat) : Int)]; exact rv)⟩))) hu) evaA_nil)
    refine qt_asg (d := .bool (wholeP (trimW x.2).1.toNat (arr (trimW x.2).2))) a6.o (eva_is (eva_and (c := PyData.eqv (.list ((closedP (trimW x.2).1.toNat (arr (trimW x.2).2)).map tD)) (.list [tD (upTo (trimW x.2).1.toNat)])) (eva_cmp (g := fun i j => decide (j < i)) (i := (trimW x.2).1) (eva_ixT (eva_var rfl rc6) eva_int rfl) eva_int)
      fun _ => eva_eq (eva_call (evaA_cons (eva_var rfl rc6) evaA_nil) ⟨trimW x.2, rfl, okT, hT8, hTfew, rfl⟩) hall (sh_ts _).ok s2) ?_) fun vd G7 H7 a7 rd => ?_
    · rw [eqv_one, ← whole_eq, show (((trimW x.2).1.toNat : Nat) : Int) = (trimW x.2).1 by omega]
      all_goals rfl
    · refine st_unless a7.o (evt_is (evt_not (evt_B (eva_call (evaA_cons (eva_call (evaA_cons (eva_var rfl ((rw5.ex a6.g).ex a7.g)) evaA_nil) ⟨x, rfl, ok, rfl⟩) (evaA_cons (eva_var rfl rd) evaA_nil)) ⟨_, rfl, trivial, rfl⟩))) rfl) rfl fun G8 H8 a8 => ?_
      have A := (a5.trans a6).trans (a7.trans a8)
      exact ⟨G8, eB.trans (a3.g.trans (a4.g.trans A.g)), A.o, w4.adv A, _, _, _, _, rfl⟩
end
/-! ### what the top has written; the head -/
theorem all_mk {l : PySem.W.OpenLaw} {w : World} {K : PySem.W.Frag} {h : Heap} {mg : PySem.Str → Option Value} {fa : Addr} (X : K.In h) (G : h.Ns mainGlobals mg) (hfa : mg "law" = some (.ref fa))
    {f__law_taken : Addr} {od__law_taken an__law_taken : Option Addr} {sl__law_taken : Array (Option Value)} {oc__law_taken kV__law_taken dc__law_taken pm__law_taken cd__law_taken ct__law_taken : Value}
    {f__law_web : Addr} {od__law_web an__law_web : Option Addr} {sl__law_web : Array (Option Value)} {oc__law_web kV__law_web dc__law_web pm__law_web cd__law_web ct__law_web : Value}
    {f__law_core : Addr} {od__law_core an__law_core : Option Addr} {sl__law_core : Array (Option Value)} {oc__law_core kV__law_core dc__law_core pm__law_core cd__law_core ct__law_core : Value}
    {f__law_alike : Addr} {od__law_alike an__law_alike : Option Addr} {sl__law_alike : Array (Option Value)} {oc__law_alike kV__law_alike dc__law_alike pm__law_alike cd__law_alike ct__law_alike : Value}
    {f_is_between : Addr} {od_is_between an_is_between : Option Addr} {sl_is_between : Array (Option Value)} {oc_is_between kV_is_between dc_is_between pm_is_between cd_is_between ct_is_between : Value}
    {f__is_edge : Addr} {od__is_edge an__is_edge : Option Addr} {sl__is_edge : Array (Option Value)} {oc__is_edge kV__is_edge dc__is_edge pm__is_edge cd__is_edge ct__is_edge : Value}
    {f_check_web : Addr} {od_check_web an_check_web : Option Addr} {sl_check_web : Array (Option Value)} {oc_check_web kV_check_web dc_check_web pm_check_web cd_check_web ct_check_web : Value}
    {f_reached : Addr} {od_reached an_reached : Option Addr} {sl_reached : Array (Option Value)} {oc_reached kV_reached dc_reached pm_reached cd_reached ct_reached : Value}
    {f_closed_parts : Addr} {od_closed_parts an_closed_parts : Option Addr} {sl_closed_parts : Array (Option Value)} {oc_closed_parts kV_closed_parts dc_closed_parts pm_closed_parts cd_closed_parts ct_closed_parts : Value}
    {f__arrows : Addr} {od__arrows an__arrows : Option Addr} {sl__arrows : Array (Option Value)} {oc__arrows kV__arrows dc__arrows pm__arrows cd__arrows ct__arrows : Value}
    {f_parts : Addr} {od_parts an_parts : Option Addr} {sl_parts : Array (Option Value)} {oc_parts kV_parts dc_parts pm_parts cd_parts ct_parts : Value}
    {f__law_parts : Addr} {od__law_parts an__law_parts : Option Addr} {sl__law_parts : Array (Option Value)} {oc__law_parts kV__law_parts dc__law_parts pm__law_parts cd__law_parts ct__law_parts : Value}
    {f_trimmed : Addr} {od_trimmed an_trimmed : Option Addr} {sl_trimmed : Array (Option Value)} {oc_trimmed kV_trimmed dc_trimmed pm_trimmed cd_trimmed ct_trimmed : Value}
    {f_essential : Addr} {od_essential an_essential : Option Addr} {sl_essential : Array (Option Value)} {oc_essential kV_essential dc_essential pm_essential cd_essential ct_essential : Value}
    {f_is_one_part : Addr} {od_is_one_part an_is_one_part : Option Addr} {sl_is_one_part : Array (Option Value)} {oc_is_one_part kV_is_one_part dc_is_one_part pm_is_one_part cd_is_one_part ct_is_one_part : Value}
    {f_is_whole : Addr} {od_is_whole an_is_whole : Option Addr} {sl_is_whole : Array (Option Value)} {oc_is_whole kV_is_whole dc_is_whole pm_is_whole cd_is_whole ct_is_whole : Value}
    {f_law : Addr} {od_law an_law : Option Addr} {sl_law : Array (Option Value)} {oc_law kV_law dc_law pm_law cd_law ct_law : Value}
    {t_MOST_STATES : Tok}
    {t_MOST_EDGES : Tok}
    {t_MOST_LABEL : Tok}
    (a__law_taken : PySem.W.nsIn K mainGlobals "_law_taken" = some (some (.ref f__law_taken))) (l__law_taken : K.lookup f__law_taken = some ⟨oc__law_taken, od__law_taken, .func (PySem.W.fnOf "_law_taken" "_law_taken" (defArgs s__law_taken) (defBody s__law_taken) (defScope s__law_taken) .none kV__law_taken dc__law_taken pm__law_taken an__law_taken cd__law_taken ct__law_taken), sl__law_taken⟩) (c__law_taken : PySem.W.codeIn K cd__law_taken "_law_taken" = true) (k__law_taken : PySem.W.keepIn K (.ref f__law_taken) = true)
    (a__law_web : PySem.W.nsIn K mainGlobals "_law_web" = some (some (.ref f__law_web))) (l__law_web : K.lookup f__law_web = some ⟨oc__law_web, od__law_web, .func (PySem.W.fnOf "_law_web" "_law_web" (defArgs s__law_web) (defBody s__law_web) (defScope s__law_web) .none kV__law_web dc__law_web pm__law_web an__law_web cd__law_web ct__law_web), sl__law_web⟩) (c__law_web : PySem.W.codeIn K cd__law_web "_law_web" = true) (k__law_web : PySem.W.keepIn K (.ref f__law_web) = true)
    (a__law_core : PySem.W.nsIn K mainGlobals "_law_core" = some (some (.ref f__law_core))) (l__law_core : K.lookup f__law_core = some ⟨oc__law_core, od__law_core, .func (PySem.W.fnOf "_law_core" "_law_core" (defArgs s__law_core) (defBody s__law_core) (defScope s__law_core) .none kV__law_core dc__law_core pm__law_core an__law_core cd__law_core ct__law_core), sl__law_core⟩) (c__law_core : PySem.W.codeIn K cd__law_core "_law_core" = true) (k__law_core : PySem.W.keepIn K (.ref f__law_core) = true)
    (a__law_alike : PySem.W.nsIn K mainGlobals "_law_alike" = some (some (.ref f__law_alike))) (l__law_alike : K.lookup f__law_alike = some ⟨oc__law_alike, od__law_alike, .func (PySem.W.fnOf "_law_alike" "_law_alike" (defArgs s__law_alike) (defBody s__law_alike) (defScope s__law_alike) .none kV__law_alike dc__law_alike pm__law_alike an__law_alike cd__law_alike ct__law_alike), sl__law_alike⟩) (c__law_alike : PySem.W.codeIn K cd__law_alike "_law_alike" = true) (k__law_alike : PySem.W.keepIn K (.ref f__law_alike) = true)
    (a_is_between : PySem.W.nsIn K mainGlobals "is_between" = some (some (.ref f_is_between))) (l_is_between : K.lookup f_is_between = some ⟨oc_is_between, od_is_between, .func (PySem.W.fnOf "is_between" "is_between" (defArgs s_is_between) (defBody s_is_between) (defScope s_is_between) .none kV_is_between dc_is_between pm_is_between an_is_between cd_is_between ct_is_between), sl_is_between⟩) (c_is_between : PySem.W.codeIn K cd_is_between "is_between" = true) (k_is_between : PySem.W.keepIn K (.ref f_is_between) = true)
    (a__is_edge : PySem.W.nsIn K mainGlobals "_is_edge" = some (some (.ref f__is_edge))) (l__is_edge : K.lookup f__is_edge = some ⟨oc__is_edge, od__is_edge, .func (PySem.W.fnOf "_is_edge" "_is_edge" (defArgs s__is_edge) (defBody s__is_edge) (defScope s__is_edge) .none kV__is_edge dc__is_edge pm__is_edge an__is_edge cd__is_edge ct__is_edge), sl__is_edge⟩) (c__is_edge : PySem.W.codeIn K cd__is_edge "_is_edge" = true) (k__is_edge : PySem.W.keepIn K (.ref f__is_edge) = true)
    (a_check_web : PySem.W.nsIn K mainGlobals "check_web" = some (some (.ref f_check_web))) (l_check_web : K.lookup f_check_web = some ⟨oc_check_web, od_check_web, .func (PySem.W.fnOf "check_web" "check_web" (defArgs s_check_web) (defBody s_check_web) (defScope s_check_web) .none kV_check_web dc_check_web pm_check_web an_check_web cd_check_web ct_check_web), sl_check_web⟩) (c_check_web : PySem.W.codeIn K cd_check_web "check_web" = true) (k_check_web : PySem.W.keepIn K (.ref f_check_web) = true)
    (a_reached : PySem.W.nsIn K mainGlobals "reached" = some (some (.ref f_reached))) (l_reached : K.lookup f_reached = some ⟨oc_reached, od_reached, .func (PySem.W.fnOf "reached" "reached" (defArgs s_reached) (defBody s_reached) (defScope s_reached) .none kV_reached dc_reached pm_reached an_reached cd_reached ct_reached), sl_reached⟩) (c_reached : PySem.W.codeIn K cd_reached "reached" = true) (k_reached : PySem.W.keepIn K (.ref f_reached) = true)
    (a_closed_parts : PySem.W.nsIn K mainGlobals "closed_parts" = some (some (.ref f_closed_parts))) (l_closed_parts : K.lookup f_closed_parts = some ⟨oc_closed_parts, od_closed_parts, .func (PySem.W.fnOf "closed_parts" "closed_parts" (defArgs s_closed_parts) (defBody s_closed_parts) (defScope s_closed_parts) .none kV_closed_parts dc_closed_parts pm_closed_parts an_closed_parts cd_closed_parts ct_closed_parts), sl_closed_parts⟩) (c_closed_parts : PySem.W.codeIn K cd_closed_parts "closed_parts" = true) (k_closed_parts : PySem.W.keepIn K (.ref f_closed_parts) = true)
    (a__arrows : PySem.W.nsIn K mainGlobals "_arrows" = some (some (.ref f__arrows))) (l__arrows : K.lookup f__arrows = some ⟨oc__arrows, od__arrows, .func (PySem.W.fnOf "_arrows" "_arrows" (defArgs s__arrows) (defBody s__arrows) (defScope s__arrows) .none kV__arrows dc__arrows pm__arrows an__arrows cd__arrows ct__arrows), sl__arrows⟩) (c__arrows : PySem.W.codeIn K cd__arrows "_arrows" = true) (k__arrows : PySem.W.keepIn K (.ref f__arrows) = true)
    (a_parts : PySem.W.nsIn K mainGlobals "parts" = some (some (.ref f_parts))) (l_parts : K.lookup f_parts = some ⟨oc_parts, od_parts, .func (PySem.W.fnOf "parts" "parts" (defArgs s_parts) (defBody s_parts) (defScope s_parts) .none kV_parts dc_parts pm_parts an_parts cd_parts ct_parts), sl_parts⟩) (c_parts : PySem.W.codeIn K cd_parts "parts" = true) (k_parts : PySem.W.keepIn K (.ref f_parts) = true)
    (a__law_parts : PySem.W.nsIn K mainGlobals "_law_parts" = some (some (.ref f__law_parts))) (l__law_parts : K.lookup f__law_parts = some ⟨oc__law_parts, od__law_parts, .func (PySem.W.fnOf "_law_parts" "_law_parts" (defArgs s__law_parts) (defBody s__law_parts) (defScope s__law_parts) .none kV__law_parts dc__law_parts pm__law_parts an__law_parts cd__law_parts ct__law_parts), sl__law_parts⟩) (c__law_parts : PySem.W.codeIn K cd__law_parts "_law_parts" = true) (k__law_parts : PySem.W.keepIn K (.ref f__law_parts) = true)
    (a_trimmed : PySem.W.nsIn K mainGlobals "trimmed" = some (some (.ref f_trimmed))) (l_trimmed : K.lookup f_trimmed = some ⟨oc_trimmed, od_trimmed, .func (PySem.W.fnOf "trimmed" "trimmed" (defArgs s_trimmed) (defBody s_trimmed) (defScope s_trimmed) .none kV_trimmed dc_trimmed pm_trimmed an_trimmed cd_trimmed ct_trimmed), sl_trimmed⟩) (c_trimmed : PySem.W.codeIn K cd_trimmed "trimmed" = true) (k_trimmed : PySem.W.keepIn K (.ref f_trimmed) = true)
    (a_essential : PySem.W.nsIn K mainGlobals "essential" = some (some (.ref f_essential))) (l_essential : K.lookup f_essential = some ⟨oc_essential, od_essential, .func (PySem.W.fnOf "essential" "essential" (defArgs s_essential) (defBody s_essential) (defScope s_essential) .none kV_essential dc_essential pm_essential an_essential cd_essential ct_essential), sl_essential⟩) (c_essential : PySem.W.codeIn K cd_essential "essential" = true) (k_essential : PySem.W.keepIn K (.ref f_essential) = true)
    (a_is_one_part : PySem.W.nsIn K mainGlobals "is_one_part" = some (some (.ref f_is_one_part))) (l_is_one_part : K.lookup f_is_one_part = some ⟨oc_is_one_part, od_is_one_part, .func (PySem.W.fnOf "is_one_part" "is_one_part" (defArgs s_is_one_part) (defBody s_is_one_part) (defScope s_is_one_part) .none kV_is_one_part dc_is_one_part pm_is_one_part an_is_one_part cd_is_one_part ct_is_one_part), sl_is_one_part⟩) (c_is_one_part : PySem.W.codeIn K cd_is_one_part "is_one_part" = true) (k_is_one_part : PySem.W.keepIn K (.ref f_is_one_part) = true)
    (a_is_whole : PySem.W.nsIn K mainGlobals "is_whole" = some (some (.ref f_is_whole))) (l_is_whole : K.lookup f_is_whole = some ⟨oc_is_whole, od_is_whole, .func (PySem.W.fnOf "is_whole" "is_whole" (defArgs s_is_whole) (defBody s_is_whole) (defScope s_is_whole) .none kV_is_whole dc_is_whole pm_is_whole an_is_whole cd_is_whole ct_is_whole), sl_is_whole⟩) (c_is_whole : PySem.W.codeIn K cd_is_whole "is_whole" = true) (k_is_whole : PySem.W.keepIn K (.ref f_is_whole) = true)
    (a_law : PySem.W.nsIn K mainGlobals "law" = some (some (.ref f_law))) (l_law : K.lookup f_law = some ⟨oc_law, od_law, .func (PySem.W.fnOf "law" "law" (defArgs s_law) (defBody s_law) (defScope s_law) .none kV_law dc_law pm_law an_law cd_law ct_law), sl_law⟩) (c_law : PySem.W.codeIn K cd_law "law" = true) (k_law : PySem.W.keepIn K (.ref f_law) = true)
    (z_bool : PySem.W.nsIn K mainGlobals "bool" = some none)
    (z_enumerate : PySem.W.nsIn K mainGlobals "enumerate" = some none)
    (z_int : PySem.W.nsIn K mainGlobals "int" = some none)
    (z_isinstance : PySem.W.nsIn K mainGlobals "isinstance" = some none)
    (z_len : PySem.W.nsIn K mainGlobals "len" = some none)
    (z_list : PySem.W.nsIn K mainGlobals "list" = some none)
    (z_range : PySem.W.nsIn K mainGlobals "range" = some none)
    (z_set : PySem.W.nsIn K mainGlobals "set" = some none)
    (z_sorted : PySem.W.nsIn K mainGlobals "sorted" = some none)
    (z_str : PySem.W.nsIn K mainGlobals "str" = some none)
    (z_tuple : PySem.W.nsIn K mainGlobals "tuple" = some none)
    (c_MOST_STATES : PySem.W.nsIn K mainGlobals "MOST_STATES" = some (some (.int 32 t_MOST_STATES)))
    (c_MOST_EDGES : PySem.W.nsIn K mainGlobals "MOST_EDGES" = some (some (.int 100 t_MOST_EDGES)))
    (c_MOST_LABEL : PySem.W.nsIn K mainGlobals "MOST_LABEL" = some (some (.int 3 t_MOST_LABEL))) :
    ∃ fd : FuncData, (∀ (s : Shared) (v : Value), BindsTo s fd ⟨[v], []⟩ [("script", v)]) ∧ ∀ base : Heap, K.In base → base.Ns mainGlobals mg → FnOk l.prog w K mg base CX0 6 fa fd ["script"] (spLaw K) := by
  have e := hfa.symm.trans (PySem.W.mg_of X G a_law)
  cases e
  have F__law_taken := fun_mk (st := s__law_taken) l__law_taken c__law_taken k__law_taken
  have F__law_web := fun_mk (st := s__law_web) l__law_web c__law_web k__law_web
  have F__law_core := fun_mk (st := s__law_core) l__law_core c__law_core k__law_core
  have F__law_alike := fun_mk (st := s__law_alike) l__law_alike c__law_alike k__law_alike
  have F_is_between := fun_mk (st := s_is_between) l_is_between c_is_between k_is_between
  have F__is_edge := fun_mk (st := s__is_edge) l__is_edge c__is_edge k__is_edge
  have F_check_web := fun_mk (st := s_check_web) l_check_web c_check_web k_check_web
  have F_reached := fun_mk (st := s_reached) l_reached c_reached k_reached
  have F_closed_parts := fun_mk (st := s_closed_parts) l_closed_parts c_closed_parts k_closed_parts
  have F__arrows := fun_mk (st := s__arrows) l__arrows c__arrows k__arrows
  have F_parts := fun_mk (st := s_parts) l_parts c_parts k_parts
  have F__law_parts := fun_mk (st := s__law_parts) l__law_parts c__law_parts k__law_parts
  have F_trimmed := fun_mk (st := s_trimmed) l_trimmed c_trimmed k_trimmed
  have F_essential := fun_mk (st := s_essential) l_essential c_essential k_essential
  have F_is_one_part := fun_mk (st := s_is_one_part) l_is_one_part c_is_one_part k_is_one_part
  have F_is_whole := fun_mk (st := s_is_whole) l_is_whole c_is_whole k_is_whole
  have F_law := fun_mk (st := s_law) l_law c_law k_law
  let T : ∀ base : Heap, Tops K mg base := fun base => ⟨_, _, F__law_taken, PySem.W.mg_of X G a__law_taken, F__law_taken.binds (ps := ["row", "many"]) fun _ _ _ _ _ _ us hl => match us, hl with | [_, _], _ => rfl,
    _, _, F__law_web, PySem.W.mg_of X G a__law_web, F__law_web.binds (ps := ["row", "most", "labels"]) fun _ _ _ _ _ _ us hl => match us, hl with | [_, _, _], _ => rfl,
    _, _, F__law_core, PySem.W.mg_of X G a__law_core, F__law_core.binds (ps := ["web"]) fun _ _ _ _ _ _ us hl => match us, hl with | [_], _ => rfl,
    _, _, F__law_alike, PySem.W.mg_of X G a__law_alike, F__law_alike.binds (ps := ["found", "due"]) fun _ _ _ _ _ _ us hl => match us, hl with | [_, _], _ => rfl,
    _, _, F_is_between, PySem.W.mg_of X G a_is_between, F_is_between.binds (ps := ["value", "low", "high"]) fun _ _ _ _ _ _ us hl => match us, hl with | [_, _, _], _ => rfl,
    _, _, F__is_edge, PySem.W.mg_of X G a__is_edge, F__is_edge.binds (ps := ["value", "many"]) fun _ _ _ _ _ _ us hl => match us, hl with | [_, _], _ => rfl,
    _, _, F_check_web, PySem.W.mg_of X G a_check_web, F_check_web.binds (ps := ["web"]) fun _ _ _ _ _ _ us hl => match us, hl with | [_], _ => rfl,
    _, _, F_reached, PySem.W.mg_of X G a_reached, F_reached.binds (ps := ["many", "arrows"]) fun _ _ _ _ _ _ us hl => match us, hl with | [_, _], _ => rfl,
    _, _, F_closed_parts, PySem.W.mg_of X G a_closed_parts, F_closed_parts.binds (ps := ["many", "arrows"]) fun _ _ _ _ _ _ us hl => match us, hl with | [_, _], _ => rfl,
    _, _, F__arrows, PySem.W.mg_of X G a__arrows, F__arrows.binds (ps := ["web"]) fun _ _ _ _ _ _ us hl => match us, hl with | [_], _ => rfl,
    _, _, F_parts, PySem.W.mg_of X G a_parts, F_parts.binds (ps := ["web"]) fun _ _ _ _ _ _ us hl => match us, hl with | [_], _ => rfl,
    _, _, F__law_parts, PySem.W.mg_of X G a__law_parts, F__law_parts.binds (ps := ["web"]) fun _ _ _ _ _ _ us hl => match us, hl with | [_], _ => rfl,
    _, _, F_trimmed, PySem.W.mg_of X G a_trimmed, F_trimmed.binds (ps := ["edges"]) fun _ _ _ _ _ _ us hl => match us, hl with | [_], _ => rfl,
    _, _, F_essential, PySem.W.mg_of X G a_essential, F_essential.binds (ps := ["web"]) fun _ _ _ _ _ _ us hl => match us, hl with | [_], _ => rfl,
    _, _, F_is_one_part, PySem.W.mg_of X G a_is_one_part, F_is_one_part.binds (ps := ["many", "arrows"]) fun _ _ _ _ _ _ us hl => match us, hl with | [_, _], _ => rfl,
    _, _, F_is_whole, PySem.W.mg_of X G a_is_whole, F_is_whole.binds (ps := ["web"]) fun _ _ _ _ _ _ us hl => match us, hl with | [_], _ => rfl,
    _, _, F_law, PySem.W.mg_of X G a_law, F_law.binds (ps := ["script"]) fun _ _ _ _ _ _ us hl => match us, hl with | [_], _ => rfl,
    PySem.W.mg_none_of X G z_bool,
    PySem.W.mg_none_of X G z_enumerate,
    PySem.W.mg_none_of X G z_int,
    PySem.W.mg_none_of X G z_isinstance,
    PySem.W.mg_none_of X G z_len,
    PySem.W.mg_none_of X G z_list,
    PySem.W.mg_none_of X G z_range,
    PySem.W.mg_none_of X G z_set,
    PySem.W.mg_none_of X G z_sorted,
    PySem.W.mg_none_of X G z_str,
    PySem.W.mg_none_of X G z_tuple,
    _, PySem.W.mg_of X G c_MOST_STATES,
    _, PySem.W.mg_of X G c_MOST_EDGES,
    _, PySem.W.mg_of X G c_MOST_LABEL⟩
  exact ⟨_, fun s v => .of_eq rfl, fun base _ _ => ok_law (T base)⟩
end K03
open PySem PySem.W PyProof.Rows
set_option maxHeartbeats 0 in
theorem PySem.Challenge.cw_shiftcore_k03_whole_parts_holds : PySem.Challenge.rw_shiftcore_k03_whole_parts.Holds := by
  w_on; o_law; k_head; (case hw => w_witness2)
  k_fill
  refine L2.walk_of (l := PySem.Challenge.rw_shiftcore_k03_whole_parts) (n := 63) (k := 6) (x := "script") (CX := fun _ => L2.CX0) (sp := fun w => K03.spLaw _) rfl (by decide) rfl ⟨rfl, by decide, by decide⟩ (fun w h Y => PySem.W.kIn_of Y) ?F (fun _ _ a ns hl _ hS => ⟨a, ns, rfl, hS, hl, fun _ => rfl⟩) (fun _ _ _ _ _ h => h)
  case F =>
    intro w mg fa h KX G hmg
    refine' K03.all_mk KX G hmg ?a__law_taken ?l__law_taken ?c__law_taken ?k__law_taken ?a__law_web ?l__law_web ?c__law_web ?k__law_web ?a__law_core ?l__law_core ?c__law_core ?k__law_core ?a__law_alike ?l__law_alike ?c__law_alike ?k__law_alike ?a_is_between ?l_is_between ?c_is_between ?k_is_between ?a__is_edge ?l__is_edge ?c__is_edge ?k__is_edge ?a_check_web ?l_check_web ?c_check_web ?k_check_web ?a_reached ?l_reached ?c_reached ?k_reached ?a_closed_parts ?l_closed_parts ?c_closed_parts ?k_closed_parts ?a__arrows ?l__arrows ?c__arrows ?k__arrows ?a_parts ?l_parts ?c_parts ?k_parts ?a__law_parts ?l__law_parts ?c__law_parts ?k__law_parts ?a_trimmed ?l_trimmed ?c_trimmed ?k_trimmed ?a_essential ?l_essential ?c_essential ?k_essential ?a_is_one_part ?l_is_one_part ?c_is_one_part ?k_is_one_part ?a_is_whole ?l_is_whole ?c_is_whole ?k_is_whole ?a_law ?l_law ?c_law ?k_law ?z_bool ?z_enumerate ?z_int ?z_isinstance ?z_len ?z_list ?z_range ?z_set ?z_sorted ?z_str ?z_tuple ?c_MOST_STATES ?c_MOST_EDGES ?c_MOST_LABEL
    (case a__law_taken => k_is); (case l__law_taken => k_is); (case c__law_taken => k_is); (case k__law_taken => k_is); (case a__law_web => k_is); (case l__law_web => k_is); (case c__law_web => k_is); (case k__law_web => k_is); (case a__law_core => k_is); (case l__law_core => k_is); (case c__law_core => k_is); (case k__law_core => k_is); (case a__law_alike => k_is); (case l__law_alike => k_is); (case c__law_alike => k_is); (case k__law_alike => k_is); (case a_is_between => k_is); (case l_is_between => k_is); (case c_is_between => k_is); (case k_is_between => k_is); (case a__is_edge => k_is); (case l__is_edge => k_is); (case c__is_edge => k_is); (case k__is_edge => k_is); (case a_check_web => k_is); (case l_check_web => k_is); (case c_check_web => k_is); (case k_check_web => k_is); (case a_reached => k_is); (case l_reached => k_is); (case c_reached => k_is); (case k_reached => k_is); (case a_closed_parts => k_is); (case l_closed_parts => k_is); (case c_closed_parts => k_is); (case k_closed_parts => k_is); (case a__arrows => k_is); (case l__arrows => k_is); (case c__arrows => k_is); (case k__arrows => k_is); (case a_parts => k_is); (case l_parts => k_is); (case c_parts => k_is); (case k_parts => k_is); (case a__law_parts => k_is); (case l__law_parts => k_is); (case c__law_parts => k_is); (case k__law_parts => k_is); (case a_trimmed => k_is); (case l_trimmed => k_is); (case c_trimmed => k_is); (case k_trimmed => k_is); (case a_essential => k_is); (case l_essential => k_is); (case c_essential => k_is); (case k_essential => k_is); (case a_is_one_part => k_is); (case l_is_one_part => k_is); (case c_is_one_part => k_is); (case k_is_one_part => k_is); (case a_is_whole => k_is); (case l_is_whole => k_is); (case c_is_whole => k_is); (case k_is_whole => k_is); (case a_law => k_is); (case l_law => k_is); (case c_law => k_is); (case k_law => k_is); (case z_bool => k_is); (case z_enumerate => k_is); (case z_int => k_is); (case z_isinstance => k_is); (case z_len => k_is); (case z_list => k_is); (case z_range => k_is); (case z_set => k_is); (case z_sorted => k_is); (case z_str => k_is); (case z_tuple => k_is); (case c_MOST_STATES => k_is); (case c_MOST_EDGES => k_is); (case c_MOST_LABEL => k_is)

