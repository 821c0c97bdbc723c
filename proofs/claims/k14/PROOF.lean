import PyProof.Rows.All
import Wide.All
import OpenK.AllK
import Wide.FinOn
import HandS.ForMost
import HandS.Walk
import HandS.IsInst
import HandS.CallLocal
import HandS.Defaults
import HandS.Evl
import HandS.WideBits
import HandS.DictComp
import HandS.Style
import PySem.Challenge.RW_firstclause_k14_values_by_name
set_option Elab.async false
set_option linter.all false
set_option maxRecDepth 100000
set_option maxHeartbeats 4000000
/-! Data logic over the hand layer: slots hold data (PyData), a base heap B within the heap H. -/
namespace FC
open PySem PySem.Spec PyProof.Rows L2
open Evl (Ex)

abbrev Dat := PyData
/-! ### data in a heap -/
theorem ex_rd {H H' : Hp} {a : Addr} {u : HO} (e : Ex H H') (h : Rd H a u) : Rd H' a u := by
  rcases h with h | ⟨o, h⟩
  · exact .inl (e a _ h)
  · exact .inr ⟨o, e a _ h⟩
theorem ex_l {K : PySem.W.Frag} {H H' : Hp} {a : Addr} {xs : List V} (e : Ex H H') (h : SqL K H a xs) : SqL K H' a xs := by
  rcases h with h | h
  · exact .inl (ex_rd e h)
  · exact .inr h
theorem ex_t {K : PySem.W.Frag} {H H' : Hp} {a : Addr} {xs : List V} (e : Ex H H') (h : SqT K H a xs) : SqT K H' a xs := by
  rcases h with h | h
  · exact .inl (ex_rd e h)
  · exact .inr h
mutual
theorem dp_ex {K : PySem.W.Frag} {H H' : Hp} (e : Ex H H') : ∀ (d : PyData) (v : V), Dp K H v d → Dp K H' v d
  | .none, _, h => by cases h; exact .non
  | .bool b, _, h => by cases h; exact .bl b
  | .int i, _, h => by cases h; exact .int i
  | .str s, _, h => by cases h; exact .str s
  | .list ds, _, h => by
    cases h with
    | lst hs ha => exact .lst (ex_l e hs) (dps_ex e ds _ ha)
  | .tuple ds, _, h => by
    cases h with
    | tup hs ha => exact .tup (ex_t e hs) (dps_ex e ds _ ha)
  | .dict _, _, h => by cases h
theorem dps_ex {K : PySem.W.Frag} {H H' : Hp} (e : Ex H H') : ∀ (ds : List PyData) (vs : List V), DpAll K H vs ds → DpAll K H' vs ds
  | [], _, h => by cases h; exact .nil
  | d :: ds, _, h => by
    cases h with
    | cons h1 h2 => exact .cons (dp_ex e d _ h1) (dps_ex e ds _ h2)
end
theorem dps_len {K : PySem.W.Frag} {H : Hp} : ∀ {ds : List PyData} {vs : List V}, DpAll K H vs ds → vs.length = ds.length
  | [], _, h => by cases h; rfl
  | _ :: ds, _, h => by
    cases h with
    | cons _ h2 => simp [dps_len h2]
theorem dps_get {K : PySem.W.Frag} {H : Hp} : ∀ {ds : List PyData} {vs : List V} {i : Nat} {d : PyData}, DpAll K H vs ds → ds[i]? = some d → ∃ v, vs[i]? = some v ∧ Dp K H v d
  | [], _, _, _, _, e => by simp at e
  | _ :: _, _, 0, _, h, e => by
    cases h with
    | cons h1 _ =>
      simp at e
      subst e
      exact ⟨_, rfl, h1⟩
  | _ :: ds, _, i + 1, d, h, e => by
    cases h with
    | cons _ h2 =>
      obtain ⟨v, h3, h4⟩ := dps_get (i := i) (d := d) h2 (by simpa using e)
      exact ⟨v, by simpa using h3, h4⟩
theorem dps_snoc {K : PySem.W.Frag} {H : Hp} {v : V} {d : PyData} (r : Dp K H v d) : ∀ {ds : List PyData} {vs : List V}, DpAll K H vs ds → DpAll K H (vs ++ [v]) (ds ++ [d])
  | [], _, h => by cases h; exact .cons r .nil
  | _ :: _, _, h => by
    cases h with
    | cons h1 h2 => exact .cons h1 (dps_snoc r h2)
theorem dps_append {K : PySem.W.Frag} {H : Hp} {es : List PyData} {ws : List V} (r : DpAll K H ws es) : ∀ {ds : List PyData} {vs : List V}, DpAll K H vs ds → DpAll K H (vs ++ ws) (ds ++ es)
  | [], _, h => by cases h; exact r
  | _ :: _, _, h => by
    cases h with
    | cons h1 h2 => exact .cons h1 (dps_append r h2)
/-- the pairs of a dict with texts as keys -/
def KR (K : PySem.W.Frag) (H : Hp) (ks : List (Key × V)) (kvs : List (Str × PyData)) : Prop :=
  Paired (fun (p : Key × V) (q : Str × PyData) => p.1 = Sum.inr q.1 ∧ Dp K H p.2 q.2) ks kvs
def bodyOf (kvs : List (Str × PyData)) : List (PyData × PyData) := kvs.map fun q => (.str q.1, q.2)
/-- a dict, locked or not; one that is not locked; one that is locked, at a -/
def dictOf (kvs : List (Str × PyData)) : PyData := .dict (bodyOf kvs)
def dictU (kvs : List (Str × PyData)) : PyData := .dict ((.none, .none) :: bodyOf kvs)
def dictL (a : Addr) (kvs : List (Str × PyData)) : PyData := .dict ((.int (a : Nat), .none) :: bodyOf kvs)
/-- a list that stands by itself (tracked, not locked) -/
def listX (ds : List PyData) : PyData := .dict [(.bool true, .list ds)]
inductive Rt (K : PySem.W.Frag) (H : Hp) : V → PyData → Prop where
  | d {v : V} {x : PyData} (h : Dp K H v x) : Rt K H v x
  | dict {a : Addr} {ks : List (Key × V)} {kvs : List (Str × PyData)} (e : Rd H a (.dK ks)) (h : KR K H ks kvs) (nd : (kvs.map (·.1)).Nodup) : Rt K H (.ref a) (dictOf kvs)
  | dictU {a : Addr} {ks : List (Key × V)} {kvs : List (Str × PyData)} (e : H a = some (.dK ks)) (h : KR K H ks kvs) (nd : (kvs.map (·.1)).Nodup) : Rt K H (.ref a) (dictU kvs)
  | dictL {a : Addr} {o : Obj} {ks : List (Key × V)} {kvs : List (Str × PyData)} (e : H a = some (.frz o (.dK ks))) (h : KR K H ks kvs) (nd : (kvs.map (·.1)).Nodup) : Rt K H (.ref a) (dictL a kvs)
  | lstX {a : Addr} {vs : List V} {ds : List PyData} (e : H a = some (.lst vs)) (h : DpAll K H vs ds) : Rt K H (.ref a) (listX ds)
theorem kr_ex {K : PySem.W.Frag} {H H' : Hp} (e : Ex H H') : ∀ {ks : List (Key × V)} {kvs : List (Str × PyData)}, KR K H ks kvs → KR K H' ks kvs
  | _, _, .nil => .nil
  | _, _, .cons r t => .cons ⟨r.1, dp_ex e _ _ r.2⟩ (kr_ex e t)
theorem Rt.ex {K : PySem.W.Frag} {H H' : Hp} {v : V} {x : PyData} (e : Ex H H') (h : Rt K H v x) : Rt K H' v x := by
  cases h with
  | d h => exact .d (dp_ex e _ _ h)
  | dict e1 h nd => exact .dict (ex_rd e e1) (kr_ex e h) nd
  | dictU e1 h nd => exact .dictU (e _ _ e1) (kr_ex e h) nd
  | dictL e1 h nd => exact .dictL (e _ _ e1) (kr_ex e h) nd
  | lstX e1 h => exact .lstX (e _ _ e1) (dps_ex e _ _ h)
theorem bodyOf_inj : ∀ {k1 k2 : List (Str × PyData)}, bodyOf k1 = bodyOf k2 → k1 = k2
  | [], [], _ => rfl
  | [], _ :: _, h => by simp [bodyOf] at h
  | _ :: _, [], h => by simp [bodyOf] at h
  | (a, b) :: r, (c, d) :: s, h => by
    simp only [bodyOf, List.map_cons, List.cons.injEq, Prod.mk.injEq, PyData.str.injEq] at h
    obtain ⟨⟨h1, h2⟩, h3⟩ := h
    rw [h1, h2, bodyOf_inj (k1 := r) (k2 := s) h3]
theorem body_ne {kvs : List (Str × PyData)} {x : PyData × PyData} {r : List (PyData × PyData)} (hx : ∀ s, x.1 ≠ .str s) : bodyOf kvs ≠ x :: r := by
  cases kvs with
  | nil => intro h; simp [bodyOf] at h
  | cons q qs =>
    intro h
    simp only [bodyOf, List.map_cons, List.cons.injEq] at h
    exact hx q.1 (by rw [← h.1])
theorem rt_dict {K : PySem.W.Frag} {B : Hp} {v : V} {kvs : List (Str × PyData)} (h : Rt K B v (dictOf kvs)) : ∃ a ks, v = .ref a ∧ Rd B a (.dK ks) ∧ KR K B ks kvs ∧ (kvs.map (·.1)).Nodup := by
  generalize hd : dictOf kvs = dd at h
  cases h with
  | d h =>
    subst hd
    cases h
  | dict e1 h nd =>
    have e := bodyOf_inj (PyData.dict.inj hd)
    subst e
    exact ⟨_, _, rfl, e1, h, nd⟩
  | dictU e1 h nd => exact (body_ne (x := (.none, .none)) (fun s z => by cases z) (PyData.dict.inj hd)).elim
  | @dictL a2 o ks kv2 e1 h nd => exact (body_ne (x := (.int (a2 : Nat), .none)) (fun s z => by cases z) (PyData.dict.inj hd)).elim
  | @lstX a2 vs ds2 e1 h => exact (body_ne (x := (.bool true, .list ds2)) (fun s z => by cases z) (PyData.dict.inj hd)).elim
theorem rt_dictU {K : PySem.W.Frag} {B : Hp} {v : V} {kvs : List (Str × PyData)} (h : Rt K B v (dictU kvs)) : ∃ a ks, v = .ref a ∧ B a = some (.dK ks) ∧ KR K B ks kvs ∧ (kvs.map (·.1)).Nodup := by
  generalize hd : dictU kvs = dd at h
  cases h with
  | d h =>
    subst hd
    cases h
  | dict e1 h nd => exact (body_ne (x := (.none, .none)) (fun s z => by cases z) (PyData.dict.inj hd).symm).elim
  | dictU e1 h nd =>
    have e := bodyOf_inj (List.cons.inj (PyData.dict.inj hd)).2
    subst e
    exact ⟨_, _, rfl, e1, h, nd⟩
  | dictL e1 h nd =>
    have e := (List.cons.inj (PyData.dict.inj hd)).1
    simp at e
  | lstX e1 h =>
    have e := (List.cons.inj (PyData.dict.inj hd)).1
    simp at e
theorem rt_dictL {K : PySem.W.Frag} {B : Hp} {v : V} {a : Addr} {kvs : List (Str × PyData)} (h : Rt K B v (dictL a kvs)) : ∃ o ks, v = .ref a ∧ B a = some (.frz o (.dK ks)) ∧ KR K B ks kvs ∧ (kvs.map (·.1)).Nodup := by
  generalize hd : dictL a kvs = dd at h
  cases h with
  | d h =>
    subst hd
    cases h
  | dict e1 h nd => exact (body_ne (x := (.int (a : Nat), .none)) (fun s z => by cases z) (PyData.dict.inj hd).symm).elim
  | dictU e1 h nd =>
    have e := (List.cons.inj (PyData.dict.inj hd)).1
    simp at e
  | @dictL a2 o ks kv2 e1 h nd =>
    have e := bodyOf_inj (List.cons.inj (PyData.dict.inj hd)).2
    have e2 := (List.cons.inj (PyData.dict.inj hd)).1
    simp only [Prod.mk.injEq, PyData.int.injEq, and_true] at e2
    have e3 : a = a2 := Int.ofNat.inj e2
    subst e e3
    exact ⟨_, _, rfl, e1, h, nd⟩
  | lstX e1 h =>
    have e := (List.cons.inj (PyData.dict.inj hd)).1
    simp at e
theorem rt_listX {K : PySem.W.Frag} {B : Hp} {v : V} {ds : List PyData} (h : Rt K B v (listX ds)) : ∃ a vs, v = .ref a ∧ B a = some (.lst vs) ∧ DpAll K B vs ds := by
  generalize hd : listX ds = dd at h
  cases h with
  | d h =>
    subst hd
    cases h
  | dict e1 h nd => exact (body_ne (x := (.bool true, .list ds)) (fun s z => by cases z) (PyData.dict.inj hd).symm).elim
  | dictU e1 h nd =>
    have e := (List.cons.inj (PyData.dict.inj hd)).1
    simp at e
  | dictL e1 h nd =>
    have e := (List.cons.inj (PyData.dict.inj hd)).1
    simp at e
  | lstX e1 h =>
    have e := (List.cons.inj (PyData.dict.inj hd)).1
    simp only [Prod.mk.injEq, PyData.list.injEq, true_and] at e
    subst e
    exact ⟨_, _, rfl, e1, h⟩
theorem rt_ofX {K : PySem.W.Frag} {B : Hp} {v : V} {ds : List PyData} (h : Rt K B v (listX ds)) : Rt K B v (.list ds) := by
  obtain ⟨a, vs, rfl, e, h⟩ := rt_listX h
  exact .d (.lst (.inl (.inl e)) h)
theorem rt_ofU {K : PySem.W.Frag} {B : Hp} {v : V} {kvs : List (Str × PyData)} (h : Rt K B v (dictU kvs)) : Rt K B v (dictOf kvs) := by
  obtain ⟨a, ks, rfl, e, kr, nd⟩ := rt_dictU h
  exact .dict (.inl e) kr nd
theorem rt_ofL {K : PySem.W.Frag} {B : Hp} {v : V} {a : Addr} {kvs : List (Str × PyData)} (h : Rt K B v (dictL a kvs)) : Rt K B v (dictOf kvs) := by
  obtain ⟨o, ks, rfl, e, kr, nd⟩ := rt_dictL h
  exact .dict (.inr ⟨o, e⟩) kr nd
def plain : PyData → Bool
  | .dict _ => false
  | _ => true
theorem Rt.dp {K : PySem.W.Frag} {H : Hp} {v : V} {x : PyData} (h : Rt K H v x) (p : plain x = true) : Dp K H v x := by
  cases h with
  | d h => exact h
  | dict e1 h nd => simp [plain, dictOf] at p
  | dictU e1 h nd => simp [plain, FC.dictU] at p
  | dictL e1 h nd => simp [plain, FC.dictL] at p
  | lstX e1 h => simp [plain, FC.listX] at p
abbrev RtA (K : PySem.W.Frag) (H : Hp) : List V → List PyData → Prop := Paired (Rt K H)
theorem RtA.ex {K : PySem.W.Frag} {H H' : Hp} (e : Ex H H') : ∀ {vs : List V} {ds : List PyData}, RtA K H vs ds → RtA K H' vs ds
  | _, _, .nil => .nil
  | _, _, .cons r t => .cons (r.ex e) (RtA.ex e t)
theorem RtA.dps {K : PySem.W.Frag} {H : Hp} : ∀ {vs : List V} {ds : List PyData}, RtA K H vs ds → ds.all plain = true → DpAll K H vs ds
  | _, _, .nil, _ => .nil
  | _, _, .cons r t, h => by
    simp only [List.all_cons, Bool.and_eq_true] at h
    exact .cons (r.dp h.1) (RtA.dps t h.2)
/-! ### the slots -/
structure En (K : PySem.W.Frag) (B : Hp) (σ : L2.St) (G : List (Option PyData)) : Prop where
  len : σ.length = G.length
  get : ∀ (i : Nat) (d : PyData), G[i]? = some (some d) → ∃ v, σ[i]? = some (some v) ∧ Rt K B v d
theorem En.ex {K : PySem.W.Frag} {B B' : Hp} {σ : L2.St} {G : List (Option PyData)} (e : Ex B B') (h : En K B σ G) : En K B' σ G :=
  ⟨h.len, fun i d q => by
    obtain ⟨v, h1, h2⟩ := h.get i d q
    exact ⟨v, h1, h2.ex e⟩⟩
theorem En.set {K : PySem.W.Frag} {B : Hp} {σ : L2.St} {G : List (Option PyData)} {v : V} {d : PyData} (j : Nat) (h : En K B σ G) (r : Rt K B v d) : En K B (σ.set j (some v)) (G.set j (some d)) := by
  refine ⟨by rw [List.length_set, List.length_set, h.len], fun i e q => ?_⟩
  by_cases hij : j = i
  · subst hij
    have hl : j < G.length := by
      have := (List.getElem?_eq_some_iff.mp q).1
      simpa using this
    rw [List.getElem?_set_self hl] at q
    cases q
    exact ⟨v, List.getElem?_set_self (by rw [h.len]; exact hl), r⟩
  · rw [List.getElem?_set_ne hij] at q
    obtain ⟨u, h1, h2⟩ := h.get i e q
    exact ⟨u, by rw [List.getElem?_set_ne hij]; exact h1, h2⟩
/-- a slot whose value is not told -/
theorem En.setN {K : PySem.W.Frag} {B : Hp} {σ : L2.St} {G : List (Option PyData)} {x : Option V} (j : Nat) (h : En K B σ G) : En K B (σ.set j x) (G.set j none) := by
  refine ⟨by rw [List.length_set, List.length_set, h.len], fun i e q => ?_⟩
  by_cases hij : j = i
  · subst hij
    have hl : j < G.length := by
      have := (List.getElem?_eq_some_iff.mp q).1
      simpa using this
    rw [List.getElem?_set_self hl] at q
    cases q
  · rw [List.getElem?_set_ne hij] at q
    obtain ⟨u, h1, h2⟩ := h.get i e q
    exact ⟨u, by rw [List.getElem?_set_ne hij]; exact h1, h2⟩
def wipeG (G : List (Option PyData)) : List Nat → List (Option PyData)
  | [] => G
  | v :: vs => (wipeG G vs).set v none
theorem En.wipe {K : PySem.W.Frag} {B : Hp} {σ : L2.St} {G : List (Option PyData)} (h : En K B σ G) : ∀ vs, En K B (wipe σ vs) (wipeG G vs)
  | [] => h
  | v :: vs => (h.wipe vs).setN v
def startG (N : List Str) (ds : List PyData) : List (Option PyData) := ds.map some ++ List.replicate (N.length - ds.length) none
theorem En.start {K : PySem.W.Frag} {B : Hp} {N : List Str} {vs : List V} {ds : List PyData} (h : RtA K B vs ds) : En K B (start N vs) (startG N ds) := by
  have hl : vs.length = ds.length := Paired.length h
  unfold L2.start startG
  refine ⟨by simp [hl], fun i d q => ?_⟩
  rw [List.getElem?_append] at q
  split at q
  · rename_i hi
    rw [List.length_map] at hi
    rw [List.getElem?_map] at q
    have hi' : i < vs.length := by omega
    have e1 : ds[i]? = some d := by
      cases e : ds[i]? with
      | none => rw [e] at q; cases q
      | some x => rw [e] at q; simpa using q
    have key : ∀ {vs : List V} {ds : List PyData} {i : Nat}, RtA K B vs ds → ds[i]? = some d → ∃ v, vs[i]? = some v ∧ Rt K B v d := by
      intro vs ds i h
      induction h generalizing i with
      | nil => intro e; simp at e
      | cons r t ih =>
        intro e
        cases i with
        | zero =>
          simp at e
          subst e
          exact ⟨_, rfl, r⟩
        | succ i => simpa using ih (by simpa using e)
    obtain ⟨v, h1, h2⟩ := key h e1
    refine ⟨v, ?_, h2⟩
    rw [List.getElem?_append_left (by simpa using hi'), List.getElem?_map, h1]
    rfl
  · rename_i hi
    have : ∀ (n j : Nat), (List.replicate n (none : Option PyData))[j]? = some (some d) → False := by
      intro n j e
      rw [List.getElem?_replicate] at e
      split at e <;> simp at e
    exact (this _ _ q).elim
/-! ### steps of (B, H) -/
structure Go (B H B' H' : Hp) : Prop where
  eb : Ex B B'
  eh : Ex H H'
  sub : Ex B' H'
  fr : ∀ a o, H a = some o → B a = none → B' a = none
theorem Go.refl {B H : Hp} (e : Ex B H) : Go B H B H := ⟨Evl.Ex.refl _, Evl.Ex.refl _, e, fun _ _ _ n => n⟩
theorem Go.trans {B H B1 H1 B2 H2 : Hp} (a : Go B H B1 H1) (b : Go B1 H1 B2 H2) : Go B H B2 H2 :=
  ⟨a.eb.trans b.eb, a.eh.trans b.eh, b.sub, fun c o h n => b.fr c o (a.eh c o h) (a.fr c o h n)⟩
theorem sub_none {B H : Hp} {p : Addr} (e : Ex B H) (n : H p = none) : B p = none := Evl.fresh_back e n
theorem Go.new {B H : Hp} {p : Addr} {o : HO} (e : Ex B H) (n : H p = none) : Go B H (upd B p o) (upd H p o) :=
  ⟨Evl.Ex.new (sub_none e n), Evl.Ex.new n, fun a u h => by
    by_cases ha : a = p
    · subst ha
      rw [upd_same] at h ⊢
      exact h
    · rw [upd_ne ha] at h ⊢
      exact e a u h, fun a u h nb => by
    rw [upd_ne (ne_of_none h n)]
    exact nb⟩
/-- a new object that B does not learn of -/
theorem Go.own {B H : Hp} {p : Addr} {o : HO} (e : Ex B H) (n : H p = none) : Go B H B (upd H p o) :=
  ⟨Evl.Ex.refl _, Evl.Ex.new n, e.trans (Evl.Ex.new n), fun _ _ _ nb => nb⟩

/-! ### judgements -/
section
variable (K : PySem.W.Frag)
def DE (te : TE) (G : List (Option PyData)) (d : PyData) : Prop :=
  ∀ σ B H, Ex B H → En K B σ G → ∀ Q : VK, (∀ v B' H', Go B H B' H' → Rt K B' v d → Q v H') → te σ H Q
def DT (tt : TT) (G : List (Option PyData)) (b : Bool) : Prop :=
  ∀ σ B H, Ex B H → En K B σ G → ∀ Q : Bool → Hp → Prop, (∀ B' H', Go B H B' H' → Q b H') → tt σ H Q
def DA (ta : TA) (G : List (Option PyData)) (ds : List PyData) : Prop :=
  ∀ σ B H, Ex B H → En K B σ G → ∀ Q : List V → Hp → Prop, (∀ vs B' H', Go B H B' H' → RtA K B' vs ds → Q vs H') → ta σ H Q
inductive Out where
  | nx (G : List (Option PyData)) | rt (d : PyData)
def Out.Ok (B H : Hp) (D : Ends) : Out → Prop
  | .nx G => ∀ σ' B' H', Go B H B' H' → En K B' σ' G → D.nx σ' H'
  | .rt d => ∀ v B' H', Go B H B' H' → Rt K B' v d → D.rt v H'
def DS (ts : TS) (G : List (Option PyData)) (r : Out) : Prop :=
  ∀ D σ B H, Ex B H → En K B σ G → r.Ok K B H D → ts D σ H
/-- the promise of a def: data in, data out, nothing that stood is changed -/
def spD (n : Nat) (pre : List PyData → Prop) (F : List PyData → PyData) : Sp := fun vs H Q _ =>
  ∃ B ds, Ex B H ∧ RtA K B vs ds ∧ ds.length = n ∧ pre ds ∧ ∀ v B' H', Go B H B' H' → Rt K B' v (F ds) → Q v H'
end
theorem Out.Ok.go {K : PySem.W.Frag} {B H B1 H1 : Hp} {D : Ends} (g : Go B H B1 H1) {r : Out} (h : r.Ok K B H D) : r.Ok K B1 H1 D := by
  cases r with
  | nx G => exact fun σ' B' H' g' e => h σ' B' H' (g.trans g') e
  | rt d => exact fun v B' H' g' e => h v B' H' (g.trans g') e
section
variable {K : PySem.W.Frag} {G : List (Option PyData)} {ta tb te tc : TE} {t u : TT} {d e f : PyData} {b c : Bool}
theorem DE.fin {n : Nat} {pre : List PyData → Prop} {F : List PyData → PyData} {N : List Str} {ts : TS} {vs : List V} {ds : List PyData} {B H : Hp} {Q : VK} (h : DS K ts (startG N ds) (.rt (F ds)))
    (e : Ex B H) (r : RtA K B vs ds) (q : ∀ v B' H', Go B H B' H' → Rt K B' v (F ds) → Q v H') : ts { nx := fun _ H' => Q .non H', rt := Q } (start N vs) H :=
  h _ _ B H e (En.start r) q
theorem de_ofU {kvs : List (Str × PyData)} (h : DE K te G (dictU kvs)) : DE K te G (dictOf kvs) := fun σ B H x en Q q => h σ B H x en _ fun v B' H' g r => q v B' H' g (rt_ofU r)
theorem de_ofL {a : Addr} {kvs : List (Str × PyData)} (h : DE K te G (dictL a kvs)) : DE K te G (dictOf kvs) := fun σ B H x en Q q => h σ B H x en _ fun v B' H' g r => q v B' H' g (rt_ofL r)
theorem de_ofX {ds : List PyData} (h : DE K te G (listX ds)) : DE K te G (.list ds) := fun σ B H x en Q q => h σ B H x en _ fun v B' H' g r => q v B' H' g (rt_ofX r)
theorem de_is (h : DE K te G d) (x : d = e) : DE K te G e := x ▸ h
theorem dt_is (h : DT K t G b) (x : b = c) : DT K t G c := x ▸ h
theorem de_var {i : Nat} (h : G[i]? = some (some d)) : DE K (tVar i) G d := fun σ B H x en Q q => by
  obtain ⟨v, h1, h2⟩ := en.get i d h
  exact ⟨v, h1, q v B H (.refl x) h2⟩
theorem de_int {i : Int} : DE K (tC (.int i)) G (.int i) := fun σ B H x en Q q => q _ B H (.refl x) (.d (.int i))
theorem de_bl {b : Bool} : DE K (tC (.bl b)) G (.bool b) := fun σ B H x en Q q => q _ B H (.refl x) (.d (.bl b))
theorem de_non : DE K (tC .non) G .none := fun σ B H x en Q q => q _ B H (.refl x) (.d .non)
theorem de_str {s : Str} : DE K (tC (.str s)) G (.str s) := fun σ B H x en Q q => q _ B H (.refl x) (.d (.str s))
theorem da_nil : DA K tNil G [] := fun σ B H x en Q q => q [] B H (.refl x) .nil
theorem da_cons {tr : TA} {ds : List PyData} (h : DE K te G d) (hr : DA K tr G ds) : DA K (tCons te tr) G (d :: ds) := fun σ B H x en Q q =>
  h σ B H x en _ fun v B1 H1 g1 r1 => hr σ B1 H1 g1.sub (en.ex g1.eb) _ fun vs B2 H2 g2 r2 => q (v :: vs) B2 H2 (g1.trans g2) (.cons (r1.ex g2.eb) r2)
theorem de_tup {tr : TA} {ds : List PyData} (h : DA K tr G ds) (hp : ds.all plain = true) (hl : ds.length ≤ 1000) : DE K (tTup tr) G (.tuple ds) := fun σ B H x en Q q =>
  h σ B H x en _ fun vs B1 H1 g1 r1 => ⟨by rw [Paired.length r1]; exact Nat.le_trans hl (by decide), fun p hn => by
    have g2 : Go B1 H1 (upd B1 p (.tup vs)) (upd H1 p (.tup vs)) := Go.new g1.sub hn
    exact q _ _ _ (g1.trans g2) (.d (.tup (.inl (.inl upd_same)) ((RtA.ex g2.eb r1).dps hp)))⟩
theorem de_lst {tr : TA} {ds : List PyData} (h : DA K tr G ds) (hp : ds.all plain = true) (hl : ds.length ≤ 1000) : DE K (tLst tr) G (.list ds) := fun σ B H x en Q q =>
  h σ B H x en _ fun vs B1 H1 g1 r1 => ⟨by rw [Paired.length r1]; exact Nat.le_trans hl (by decide), fun p hn => by
    have g2 : Go B1 H1 (upd B1 p (.lst vs)) (upd H1 p (.lst vs)) := Go.new g1.sub hn
    exact q _ _ _ (g1.trans g2) (.d (.lst (.inl (.inl upd_same)) ((RtA.ex g2.eb r1).dps hp)))⟩
theorem de_lstX {tr : TA} {ds : List PyData} (h : DA K tr G ds) (hp : ds.all plain = true) (hl : ds.length ≤ 1000) : DE K (tLst tr) G (listX ds) := fun σ B H x en Q q =>
  h σ B H x en _ fun vs B1 H1 g1 r1 => ⟨by rw [Paired.length r1]; exact Nat.le_trans hl (by decide), fun p hn => by
    have g2 : Go B1 H1 (upd B1 p (.lst vs)) (upd H1 p (.lst vs)) := Go.new g1.sub hn
    exact q _ _ _ (g1.trans g2) (.lstX upd_same ((RtA.ex g2.eb r1).dps hp))⟩
theorem rt_bool {B : Hp} {v : V} (h : Rt K B v (.bool b)) : v = .bl b := by
  have h := h.dp rfl
  cases h
  rfl
theorem rt_int {B : Hp} {v : V} {i : Int} (h : Rt K B v (.int i)) : v = .int i := by
  have h := h.dp rfl
  cases h
  rfl
theorem rt_str {B : Hp} {v : V} {s : Str} (h : Rt K B v (.str s)) : v = .str s := by
  have h := h.dp rfl
  cases h
  rfl
theorem de_and (h1 : DE K ta G (.bool b)) (h2 : b = true → DE K tb G (.bool c)) : DE K (tAndV ta tb) G (.bool (b && c)) := fun σ B H x en Q q =>
  h1 σ B H x en _ fun v B1 H1 g1 r1 => ⟨b, rt_bool r1, by
    cases b with
    | true =>
      rw [if_pos rfl]
      exact h2 rfl σ B1 H1 g1.sub (en.ex g1.eb) _ fun v B2 H2 g2 r2 => q v B2 H2 (g1.trans g2) r2
    | false =>
      rw [if_neg Bool.false_ne_true]
      exact q _ B1 H1 g1 (.d (.bl false))⟩
theorem de_or (h1 : DE K ta G (.bool b)) (h2 : b = false → DE K tb G (.bool c)) : DE K (tOrV ta tb) G (.bool (b || c)) := fun σ B H x en Q q =>
  h1 σ B H x en _ fun v B1 H1 g1 r1 => ⟨b, rt_bool r1, by
    cases b with
    | true =>
      rw [if_pos rfl]
      exact q _ B1 H1 g1 (.d (.bl true))
    | false =>
      rw [if_neg Bool.false_ne_true]
      exact h2 rfl σ B1 H1 g1.sub (en.ex g1.eb) _ fun v B2 H2 g2 r2 => q v B2 H2 (g1.trans g2) r2⟩
theorem de_not (h1 : DE K ta G (.bool b)) : DE K (tNotV ta) G (.bool (!b)) := fun σ B H x en Q q =>
  h1 σ B H x en _ fun v B1 H1 g1 r1 => ⟨b, rt_bool r1, q _ B1 H1 g1 (.d (.bl _))⟩
theorem de_if (h : DT K t G b) (h1 : b = true → DE K ta G d) (h2 : b = false → DE K tb G d) : DE K (tIf t ta tb) G d := fun σ B H x en Q q =>
  h σ B H x en _ fun B1 H1 g1 => by
    cases b with
    | true =>
      rw [if_pos rfl]
      exact h1 rfl σ B1 H1 g1.sub (en.ex g1.eb) _ fun v B2 H2 g2 r2 => q v B2 H2 (g1.trans g2) r2
    | false =>
      rw [if_neg Bool.false_ne_true]
      exact h2 rfl σ B1 H1 g1.sub (en.ex g1.eb) _ fun v B2 H2 g2 r2 => q v B2 H2 (g1.trans g2) r2
theorem dt_B (h : DE K te G (.bool b)) : DT K (tB te) G b := fun σ B H x en Q q => h σ B H x en _ fun v B1 H1 g1 r1 => ⟨b, rt_bool r1, q B1 H1 g1⟩
theorem dt_test (h : DE K te G (.bool b)) : DT K (tTest te) G b := fun σ B H x en Q q => h σ B H x en _ fun v B1 H1 g1 r1 => ⟨b, rt_bool r1, q B1 H1 g1⟩
theorem dt_and (h1 : DT K t G b) (h2 : b = true → DT K u G c) : DT K (tAnd t u) G (b && c) := fun σ B H x en Q q =>
  h1 σ B H x en _ fun B1 H1 g1 => by
    cases b with
    | true =>
      rw [if_pos rfl]
      exact h2 rfl σ B1 H1 g1.sub (en.ex g1.eb) _ fun B2 H2 g2 => q B2 H2 (g1.trans g2)
    | false =>
      rw [if_neg Bool.false_ne_true]
      exact q B1 H1 g1
theorem dt_or (h1 : DT K t G b) (h2 : b = false → DT K u G c) : DT K (tOr t u) G (b || c) := fun σ B H x en Q q =>
  h1 σ B H x en _ fun B1 H1 g1 => by
    cases b with
    | true =>
      rw [if_pos rfl]
      exact q B1 H1 g1
    | false =>
      rw [if_neg Bool.false_ne_true]
      exact h2 rfl σ B1 H1 g1.sub (en.ex g1.eb) _ fun B2 H2 g2 => q B2 H2 (g1.trans g2)
theorem dt_not (h1 : DT K t G b) : DT K (tNot t) G (!b) := fun σ B H x en Q q => h1 σ B H x en _ fun B1 H1 g1 => q B1 H1 g1
/-- a value operation on two data -/
def RD (K : PySem.W.Frag) (r : R2) (d e f : PyData) : Prop := ∀ B H v w, Ex B H → Rt K B v d → Rt K B w e → ∀ Q : VK, (∀ z B' H', Go B H B' H' → Rt K B' z f → Q z H') → r v w H Q
theorem de_op {r : R2} (h1 : DE K ta G d) (h2 : DE K tb G e) (hr : RD K r d e f) : DE K (tOp r ta tb) G f := fun σ B H x en Q q =>
  h1 σ B H x en _ fun v B1 H1 g1 r1 => h2 σ B1 H1 g1.sub (en.ex g1.eb) _ fun w B2 H2 g2 r2 =>
    hr B2 H2 v w g2.sub (r1.ex g2.eb) r2 _ fun z B3 H3 g3 r3 => q z B3 H3 (g1.trans (g2.trans g3)) r3
theorem de_chain {r r' : R2} {e' : PyData} (h1 : DE K ta G d) (h2 : DE K tb G e) (h3 : b = true → DE K tc G e') (hr : RD K r d e (.bool b)) (hr' : b = true → RD K r' e e' (.bool c)) :
    DE K (tChain r r' ta tb tc) G (.bool (b && c)) := fun σ B H x en Q q =>
  h1 σ B H x en _ fun v B1 H1 g1 r1 => h2 σ B1 H1 g1.sub (en.ex g1.eb) _ fun w B2 H2 g2 r2 =>
    hr B2 H2 v w g2.sub (r1.ex g2.eb) r2 _ fun z B3 H3 g3 r3 => ⟨b, rt_bool r3, by
      cases b with
      | true =>
        rw [if_pos rfl]
        exact h3 rfl σ B3 H3 g3.sub (((en.ex g1.eb).ex g2.eb).ex g3.eb) _ fun w' B4 H4 g4 r4 =>
          hr' rfl B4 H4 w w' g4.sub ((r2.ex g3.eb).ex g4.eb) r4 _ fun z5 B5 H5 g5 r5 => q z5 B5 H5 (g1.trans (g2.trans (g3.trans (g4.trans g5)))) r5
      | false =>
        rw [if_neg Bool.false_ne_true]
        exact q _ B3 H3 (g1.trans (g2.trans g3)) (.d (.bl false))⟩
/-- a call's rule on data -/
def CD (K : PySem.W.Frag) (r : List V → Hp → VK → Prop) (ds : List PyData) (f : PyData) : Prop := ∀ B H vs, Ex B H → RtA K B vs ds → ∀ Q : VK, (∀ z B' H', Go B H B' H' → Rt K B' z f → Q z H') → r vs H Q
theorem de_cb {r : List V → Hp → VK → Prop} {tr : TA} {ds : List PyData} (h : DA K tr G ds) (hr : CD K r ds f) : DE K (tCB r tr) G f := fun σ B H x en Q q =>
  h σ B H x en _ fun vs B1 H1 g1 r1 => hr B1 H1 vs g1.sub r1 _ fun z B2 H2 g2 r2 => q z B2 H2 (g1.trans g2) r2
theorem de_call {tr : TA} {ds : List PyData} {n : Nat} {pre : List PyData → Prop} {F : List PyData → PyData} {E : XK} (h : DA K tr G ds) (hn : ds.length = n) (hp : pre ds) : DE K (tCall (spD K n pre F) [] E tr) G (F ds) := fun σ B H x en Q q =>
  h σ B H x en _ fun vs B1 H1 g1 r1 => by
    rw [List.append_nil]
    exact ⟨B1, ds, g1.sub, r1, hn, hp, fun v B' H' g2 r2 => q v B' H' (g1.trans g2) r2⟩
/-! ### statements -/
variable {t1 t2 : TS} {r : Out}
theorem ds_seq {G1 : List (Option PyData)} (h1 : DS K t1 G (.nx G1)) (h2 : DS K t2 G1 r) : DS K (tSeq t1 t2) G r := fun D σ B H x en q =>
  h1 { D with nx := t2 D } σ B H x en fun σ' B' H' g e => h2 D σ' B' H' g.sub e (q.go g)
theorem ds_seqR (h1 : DS K t1 G (.rt d)) : DS K (tSeq t1 t2) G (.rt d) := fun D σ B H x en q => h1 { D with nx := t2 D } σ B H x en q
theorem ds_next : DS K tNext G (.nx G) := fun D σ B H x en q => q σ B H (.refl x) en
theorem ds_ret (h : DE K te G d) : DS K (tRet te) G (.rt d) := fun D σ B H x en q => h σ B H x en _ fun v B' H' g r => q v B' H' g r
theorem ds_set {i : Nat} (h : DE K te G d) : DS K (tAsg te (gName i)) G (.nx (G.set i (some d))) := fun D σ B H x en q =>
  h σ B H x en _ fun v B' H' g r => q _ B' H' g ((en.ex g.eb).set i r)
theorem ds_drop (h : DE K te G d) : DS K (tDrop te) G (.nx G) := fun D σ B H x en q => h σ B H x en _ fun v B' H' g r => q σ B' H' g (en.ex g.eb)
theorem ds_if (h : DT K t G b) (h1 : b = true → DS K t1 G r) (h2 : b = false → DS K t2 G r) : DS K (tIfS t t1 t2) G r := fun D σ B H x en q =>
  h σ B H x en _ fun B1 H1 g1 => by
    cases b with
    | true =>
      rw [if_pos rfl]
      exact h1 rfl D σ B1 H1 g1.sub (en.ex g1.eb) (q.go g1)
    | false =>
      rw [if_neg Bool.false_ne_true]
      exact h2 rfl D σ B1 H1 g1.sub (en.ex g1.eb) (q.go g1)
/-- if .. : return .. ; the rest -/
theorem ds_guard (h : DT K t G b) (h1 : b = true → DS K t1 G (.rt d)) (h2 : b = false → DS K t2 G (.rt d)) : DS K (tSeq (tIfS t t1 tNext) t2) G (.rt d) := fun D σ B H x en q =>
  h σ B H x en _ fun B1 H1 g1 => by
    cases b with
    | true =>
      rw [if_pos rfl]
      exact h1 rfl { D with nx := t2 D } σ B1 H1 g1.sub (en.ex g1.eb) (Out.Ok.go (K := K) (r := .rt d) g1 q)
    | false =>
      rw [if_neg Bool.false_ne_true]
      exact h2 rfl D σ B1 H1 g1.sub (en.ex g1.eb) (Out.Ok.go (K := K) (r := .rt d) g1 q)
end
end FC
/-! Data logic: the operations. -/
namespace FC
open PySem PySem.Spec PyProof.Rows L2
open Evl (Ex)
section
variable {X : Cx}
theorem pe_dead {e : Expr} : PE X e (fun _ _ _ => False) := ⟨fun _ _ _ _ _ _ h => h.elim⟩
theorem pt_dead {e : Expr} : PT X e (fun _ _ _ => False) := ⟨fun _ _ _ _ _ _ h => h.elim⟩
theorem pe_either {e : Expr} {t u : TE} (h : PE X e t) (h2 : PE X e u) : PE X e (fun σ H Q => t σ H Q ∨ u σ H Q) := ⟨fun pins s σ H Q I q => by
  rcases q with q | q
  · exact h.run pins s σ H Q I q
  · exact h2.run pins s σ H Q I q⟩
theorem ps_either {e : Stmt} {t u : TS} (h : PS X e t) (h2 : PS X e u) : PS X e (fun D σ H => t D σ H ∨ u D σ H) := ⟨fun pins s σ H D I q => by
  rcases q with q | q
  · exact h.run pins s σ H D I q
  · exact h2.run pins s σ H D I q⟩
end
/-- a def of the module by its name, its promise on data -/
structure Cl (P : Program) (w : World) (K : PySem.W.Frag) (mg : Str → Option Value) (base : Heap) (k : Nat) (x : Str) (sp : Sp) : Prop where
  ex : ∃ (f : Addr) (fd : FuncData) (ps : List Str), FnOk P w K mg base CX0 k f fd ps sp ∧ mg x = some (.ref f) ∧ PySem.W.keepIn K (.ref f) = true ∧ Binds K fd ps []
section
variable {X : Cx} {k j : Nat} {x : Str} {sp : Sp} {p pos : Pos} {e : Expr} {es : List Expr} {t : TA}
theorem pe_cl (c : Cl X.prog X.w X.K X.mg X.base k x sp) (hr : Room j X.A) (hk : k ≤ j) (hg : Gl X x) (ha : PA X (e :: es) t)
    (hdb : (x == ("__debug__" : Str)) = false := by decide) (he : starEach (e :: es) X.env = (false, eval e X.env) :: starEach es X.env := by rfl) (hpl : (backTo pos (starEach es X.env)).any (·.1) = false := by rfl) :
    PE X (.Call (.Name x p) (e :: es) [] pos) (tCall sp [] E0 t) := by
  obtain ⟨f, fd, ps, F, hm, kp, b⟩ := c.ex
  exact pe_call F (hr.mono hk) hg hm kp b .nil pass0 ha hdb he hpl
end
section
variable {K : PySem.W.Frag} {G : List (Option PyData)} {ta tb te tc : TE} {t u : TT} {d e f : PyData} {b c : Bool}
/-! ### == , is None, <= -/
theorem rd_eq (hd : SeqAt.shaped d = true) (he : SeqAt.shaped e = true) (pd : plain d = true) (pe : plain e = true) : RD K (rEqD K) d e (.bool (PyData.eqv d e)) := fun B H v w x r1 r2 Q q =>
  ⟨d, e, dp_ex x _ _ (r1.dp pd), dp_ex x _ _ (r2.dp pe), hd, he, q _ B H (.refl x) (.d (.bl _))⟩
theorem rd_ne (hd : SeqAt.shaped d = true) (he : SeqAt.shaped e = true) (pd : plain d = true) (pe : plain e = true) : RD K (rNeD K) d e (.bool (!PyData.eqv d e)) := fun B H v w x r1 r2 Q q =>
  ⟨d, e, dp_ex x _ _ (r1.dp pd), dp_ex x _ _ (r2.dp pe), hd, he, q _ B H (.refl x) (.d (.bl _))⟩
def isNon : PyData → Bool
  | .none => true
  | _ => false
theorem rt_isnon {B : Hp} {v : V} (h : Rt K B v d) : decide (v = V.non) = isNon d := by
  cases h with
  | d h => cases h <;> simp [isNon]
  | dict e1 h nd => simp [isNon, dictOf]
  | dictU e1 h nd => simp [isNon, dictU]
  | dictL e1 h nd => simp [isNon, dictL]
  | lstX e1 h => simp [isNon, listX]
theorem de_isN (h : DE K ta G d) : DE K (tIsN ta) G (.bool (isNon d)) := fun σ B H x en Q q => h σ B H x en _ fun v B' H' g r => by
  rw [rt_isnon r]
  exact q _ B' H' g (.d (.bl _))
theorem de_notN (h : DE K ta G d) : DE K (tNotN ta) G (.bool (!isNon d)) := fun σ B H x en Q q => h σ B H x en _ fun v B' H' g r => by
  rw [rt_isnon r]
  exact q _ B' H' g (.d (.bl _))
theorem rd_le {i j : Int} : RD K (rI0 fun i j => .bl (decide (i ≤ j))) (.int i) (.int j) (.bool (decide (i ≤ j))) := fun B H v w x r1 r2 Q q => ⟨i, j, rt_int r1, rt_int r2, q _ B H (.refl x) (.d (.bl _))⟩
theorem rd_ge {i j : Int} : RD K (rI0 fun i j => .bl (decide (j ≤ i))) (.int i) (.int j) (.bool (decide (j ≤ i))) := fun B H v w x r1 r2 Q q => ⟨i, j, rt_int r1, rt_int r2, q _ B H (.refl x) (.d (.bl _))⟩
theorem rd_gt {i j : Int} : RD K (rI0 fun i j => .bl (decide (j < i))) (.int i) (.int j) (.bool (decide (j < i))) := fun B H v w x r1 r2 Q q => ⟨i, j, rt_int r1, rt_int r2, q _ B H (.refl x) (.d (.bl _))⟩
theorem rd_lt {i j : Int} : RD K (rI0 fun i j => .bl (decide (i < j))) (.int i) (.int j) (.bool (decide (i < j))) := fun B H v w x r1 r2 Q q => ⟨i, j, rt_int r1, rt_int r2, q _ B H (.refl x) (.d (.bl _))⟩
theorem rd_add {i j : Int} : RD K (rI0 fun i j => .int (i + j)) (.int i) (.int j) (.int (i + j)) := fun B H v w x r1 r2 Q q => ⟨i, j, rt_int r1, rt_int r2, q _ B H (.refl x) (.d (.int _))⟩
theorem rd_sub {i j : Int} : RD K (rI0 fun i j => .int (i - j)) (.int i) (.int j) (.int (i - j)) := fun B H v w x r1 r2 Q q => ⟨i, j, rt_int r1, rt_int r2, q _ B H (.refl x) (.d (.int _))⟩
def rLeS : R2 := fun x y H Q => ∃ i j, x = .str i ∧ y = .str j ∧ Q (.bl (!decide (j.cps.toList < i.cps.toList))) H
theorem op_leS {X : Cx} : OpR X (compareOp .LtE) rLeS := op_le_str
theorem rd_leS {i j : Str} : RD K rLeS (.str i) (.str j) (.bool (!decide (j.cps.toList < i.cps.toList))) := fun B H v w x r1 r2 Q q => ⟨i, j, rt_str r1, rt_str r2, q _ B H (.refl x) (.d (.bl _))⟩
/-! ### items -/
theorem rd_ixT {ds : List PyData} {i : Int} {j : Nat} (hi : i = (j : Int)) (h : ds[j]? = some d) : RD K (rIxT K) (.tuple ds) (.int i) d := fun B H v w x r1 r2 Q q => by
  have r1 := r1.dp rfl
  cases r1 with
  | tup hs ha =>
    obtain ⟨y, h1, h2⟩ := dps_get ha h
    exact ⟨_, _, i, y, rfl, rt_int r2, ex_t x hs, by rw [hi]; exact atI_nat h1, q y B H (.refl x) (.d h2)⟩
theorem rd_ixL {ds : List PyData} {i : Int} {j : Nat} (hi : i = (j : Int)) (h : ds[j]? = some d) : RD K (rIxL K) (.list ds) (.int i) d := fun B H v w x r1 r2 Q q => by
  have r1 := r1.dp rfl
  cases r1 with
  | lst hs ha =>
    obtain ⟨y, h1, h2⟩ := dps_get ha h
    exact ⟨_, _, i, y, rfl, rt_int r2, ex_l x hs, by rw [hi]; exact atI_nat h1, q y B H (.refl x) (.d h2)⟩
/-! ### isinstance, len, all, any -/
def tyN : PyData → String
  | .none => "NoneType" | .bool _ => "bool" | .int _ => "int" | .str _ => "str" | .list _ => "list" | .tuple _ => "tuple" | .dict ((.bool true, _) :: _) => "list" | .dict _ => "dict"
theorem tyN_dictOf (kvs : List (Str × PyData)) : tyN (dictOf kvs) = "dict" := by
  cases kvs <;> rfl
theorem rt_ty {B H : Hp} {v : V} (x : Ex B H) (h : Rt K B v d) : TyX K H v (.type (tyN d)) := by
  cases h with
  | d h =>
    cases h with
    | non => exact .base .non
    | bl b => exact .base (.bl b)
    | int i => exact .base (.int i)
    | str s => exact .base (.str s)
    | lst hs _ =>
      rcases ex_l x hs with (h | ⟨o, h⟩) | ⟨o, its, n, h, hc, _⟩
      · exact .base (.lst h)
      · exact .base (.frz h)
      · exact .kList h hc
    | tup hs _ =>
      rcases ex_t x hs with (h | ⟨o, h⟩) | ⟨o, its, n, h, hc, _⟩
      · exact .base (.tup h)
      · exact .fTuple h
      · exact .kTuple h hc
  | dict e1 h nd =>
    rw [tyN_dictOf]
    rcases ex_rd x e1 with h | ⟨o, h⟩
    · exact .base (.dK h)
    · exact .fDict h
  | dictU e1 h nd => exact .base (.dK (x _ _ e1))
  | dictL e1 h nd => exact .fDict (x _ _ e1)
  | lstX e1 h => exact .base (.lst (x _ _ e1))
theorem de_isi {n : String} (h : DE K ta G d) (hk : kitB (tyN d) n = some b) : DE K (tCB (rIsi K) (tCons ta (tCons (tC (.ty n)) tNil))) G (.bool b) := fun σ B H x en Q q =>
  h σ B H x en _ fun v B' H' g r => ⟨v, .ty n, .type (tyN d), .type n, b, rfl, .ty n, rt_ty g.sub r, kit_ty hk, q _ B' H' g (.d (.bl b))⟩
theorem de_ty {n m : String} (h : DE K ta G d) (ht : tyN d = m) (hk : kitB m n = some b) : DE K (tCB (rIsi K) (tCons ta (tCons (tC (.ty n)) tNil))) G (.bool b) := de_isi h (by rw [ht]; exact hk)
def rLen (K : PySem.W.Frag) : List V → Hp → VK → Prop := fun xs H Q => ∃ x n, xs = [x] ∧ LenV K x H n ∧ Q (.int n) H
theorem call_lenR {X : Cx} : CallR X (.builtin "len") (rLen X.K) := call_len
theorem cd_lenL {ds : List PyData} : CD K (rLen K) [.list ds] (.int ds.length) := fun B H vs x r Q q => by
  cases r with
  | cons r1 r2 =>
    cases r2
    have r1 := r1.dp rfl
    cases r1 with
    | lst hs ha => exact ⟨_, _, rfl, .inl ⟨_, ex_l x hs, (dps_len ha).symm⟩, q _ B H (.refl x) (.d (.int _))⟩
theorem cd_lenT {ds : List PyData} : CD K (rLen K) [.tuple ds] (.int ds.length) := fun B H vs x r Q q => by
  cases r with
  | cons r1 r2 =>
    cases r2
    have r1 := r1.dp rfl
    cases r1 with
    | tup hs ha => exact ⟨_, _, rfl, .inr ⟨_, ex_t x hs, (dps_len ha).symm⟩, q _ B H (.refl x) (.d (.int _))⟩
theorem cd_lenS {s : Str} (hl : s.length ≤ sizeLine) : CD K (rLen K) [.str s] (.int s.length) := fun B H vs x r Q q => by
  cases r with
  | cons r1 r2 =>
    cases r2
    have r1 := r1.dp rfl
    cases r1
    exact ⟨_, _, rfl, ⟨hl, rfl⟩, q _ B H (.refl x) (.d (.int _))⟩
theorem bools_dp {B : Hp} : ∀ {bs : List Bool} {vs : List V}, DpAll K B vs (bs.map PyData.bool) → vs = bs.map V.bl
  | [], _, h => by cases h; rfl
  | _ :: bs, _, h => by
    cases h with
    | cons h1 h2 =>
      cases h1
      rw [bools_dp h2]
      rfl
theorem cd_all {bs : List Bool} : CD K (rAll K) [.list (bs.map .bool)] (.bool (bs.all id)) := fun B H vs x r Q q => by
  cases r with
  | cons r1 r2 =>
    cases r2
    have r1 := r1.dp rfl
    cases r1 with
    | lst hs ha => exact ⟨_, bs, rfl, by rw [← bools_dp ha]; exact ex_l x hs, q _ B H (.refl x) (.d (.bl _))⟩
theorem cd_any {bs : List Bool} : CD K (rAny K) [.list (bs.map .bool)] (.bool (bs.any id)) := fun B H vs x r Q q => by
  cases r with
  | cons r1 r2 =>
    cases r2
    have r1 := r1.dp rfl
    cases r1 with
    | lst hs ha => exact ⟨_, bs, rfl, by rw [← bools_dp ha]; exact ex_l x hs, q _ B H (.refl x) (.d (.bl _))⟩
end
end FC
/-! Data logic: what is walked; comprehensions, loops; dicts. -/
namespace FC
open PySem PySem.Spec PyProof.Rows L2
open Evl (Ex)
/-- a target's effect on the slots -/
def TgOk (K : PySem.W.Frag) (T : List Nat) (g : TG) (ff : List (Option PyData) → List (Option PyData)) (P : Hp → V → Hp → Prop) : Prop :=
  ∀ B H σ G x H', Ex B H → En K B σ G → P H x H' → ∀ Q : L2.St → Hp → Prop, (∀ σ' B' H2, Go B H B' H2 → En K B' σ' (ff G) → (∀ vs, (∀ j ∈ T, j ∈ vs) → wipe σ' vs = wipe σ vs) → Q σ' H2) → g x σ H' Q
/-- wi gives n turns; turn i sets the slots as ff i says -/
def DIat (K : PySem.W.Frag) (wi : TI) (g : TG) (T : List Nat) (n : Nat) (ff : Nat → List (Option PyData) → List (Option PyData)) (σ : L2.St) (B H : Hp) : Prop :=
  ∀ R : It → Hp → Prop, (∀ J B1 H1 Y, Go B H B1 H1 → Walk J n (fun H2 => Ex B1 H2) Y →
    (∀ i, i < n → ∀ B2 H2 σ2 G2 x H3, Ex B1 B2 → Ex B2 H2 → En K B2 σ2 G2 → Y i H2 x H3 → ∀ Q : L2.St → Hp → Prop, (∀ σ' B' H4, Go B2 H2 B' H4 → En K B' σ' (ff i G2) → (∀ vs, (∀ j ∈ T, j ∈ vs) → wipe σ' vs = wipe σ2 vs) → Q σ' H4) → g x σ2 H3 Q) → R J H1) → wi σ H R
def DI (K : PySem.W.Frag) (wi : TI) (g : TG) (T : List Nat) (G : List (Option PyData)) (n : Nat) (ff : Nat → List (Option PyData) → List (Option PyData)) : Prop :=
  ∀ σ B H, Ex B H → En K B σ G → DIat K wi g T n ff σ B H
theorem wipe_set : ∀ {vs : List Nat} {σ : L2.St} {j : Nat} {x : Option V}, j ∈ vs → wipe (σ.set j x) vs = wipe σ vs
  | [], _, _, _, h => by cases h
  | v :: vs, σ, j, x, h => by
    show (wipe (σ.set j x) vs).set v none = (wipe σ vs).set v none
    by_cases hj : j ∈ vs
    · rw [wipe_set hj]
    · have e : j = v := by
        rcases List.mem_cons.mp h with h | h
        · exact h
        · exact absurd h hj
      subst e
      have key : ∀ (ws : List Nat) (τ : L2.St), j ∉ ws → wipe (τ.set j x) ws = (wipe τ ws).set j x := by
        intro ws
        induction ws with
        | nil => intro τ _; rfl
        | cons w ws ih =>
          intro τ hn
          show (wipe (τ.set j x) ws).set w none = ((wipe τ ws).set w none).set j x
          rw [ih τ (fun z => hn (List.mem_cons_of_mem _ z))]
          exact List.set_comm _ _ (fun z => hn (by rw [z]; exact List.mem_cons_self ..))
      rw [key vs σ hj, List.set_set]
theorem wipe_wipe {σ : L2.St} : ∀ {vs ws : List Nat}, (∀ j ∈ vs, j ∈ ws) → wipe (wipe σ vs) ws = wipe σ ws
  | [], _, _ => rfl
  | v :: vs, ws, h => by
    show wipe ((wipe σ vs).set v none) ws = wipe σ ws
    rw [wipe_set (h v (List.mem_cons_self ..)), wipe_wipe fun j hj => h j (List.mem_cons_of_mem _ hj)]
section
variable {K : PySem.W.Frag} {G : List (Option PyData)} {te td : TE} {tt : TT} {n : Nat} {g : TG} {T : List Nat} {wi : TI} {ff : Nat → List (Option PyData) → List (Option PyData)}
/-- over a list of data, a name as target -/
theorem di_list {ds : List PyData} {j : Nat} (h : DE K te G (.list ds)) : DI K (iList K te) (gName j) [j] G ds.length (fun i G2 => G2.set j ds[i]?) := fun σ B H x en R q =>
  h σ B H x en _ fun v B1 H1 g1 r1 => by
    have r1 := r1.dp rfl
    cases r1 with
    | @lst a xs _ hs ha =>
      refine ⟨a, rfl, ⟨xs, ex_l g1.sub hs⟩, ?_⟩
      have hl := dps_len ha
      refine q (Itl K a) B1 H1 (YAt xs) g1 ?_ fun i hi B2 H2 σ2 G2 y H3 e1 e2 en2 hy Q k => ?_
      · rw [← hl]
        exact walk_list.mono (fun H2 e => ex_l e hs) fun _ _ _ _ _ _ y => y
      · obtain ⟨rfl, hy⟩ := hy
        have hd : ds[i]? = some ds[i] := List.getElem?_eq_getElem hi
        obtain ⟨y', h1, h2⟩ := dps_get ha hd
        have : y = y' := Option.some.inj (hy.symm.trans h1)
        subst this
        refine k _ B2 H3 (.refl e2) ?_ fun vs hv => wipe_set (hv j (List.mem_singleton.mpr rfl))
        show En K B2 _ (G2.set j ds[i]?)
        rw [hd]
        exact en2.set j (.d (dp_ex e1 _ _ h2))
theorem di_tup {ds : List PyData} {j : Nat} (h : DE K te G (.tuple ds)) : DI K (iTup K te) (gName j) [j] G ds.length (fun i G2 => G2.set j ds[i]?) := fun σ B H x en R q =>
  h σ B H x en _ fun v B1 H1 g1 r1 => by
    have r1 := r1.dp rfl
    cases r1 with
    | @tup a xs _ hs ha =>
      refine ⟨a, rfl, ⟨xs, ex_t g1.sub hs⟩, ?_⟩
      have hl := dps_len ha
      refine q (Itt K a) B1 H1 (YAt xs) g1 ?_ fun i hi B2 H2 σ2 G2 y H3 e1 e2 en2 hy Q k => ?_
      · rw [← hl]
        exact walk_tup.mono (fun H2 e => ex_t e hs) fun _ _ _ _ _ _ y => y
      · obtain ⟨rfl, hy⟩ := hy
        have hd : ds[i]? = some ds[i] := List.getElem?_eq_getElem hi
        obtain ⟨y', h1, h2⟩ := dps_get ha hd
        have : y = y' := Option.some.inj (hy.symm.trans h1)
        subst this
        refine k _ B2 H3 (.refl e2) ?_ fun vs hv => wipe_set (hv j (List.mem_singleton.mpr rfl))
        show En K B2 _ (G2.set j ds[i]?)
        rw [hd]
        exact en2.set j (.d (dp_ex e1 _ _ h2))
def sgnsOf (s : Str) : List PyData := s.cps.toList.map fun c => .str ⟨#[c]⟩
theorem di_str {s : Str} {j : Nat} (h : DE K te G (.str s)) : DI K (iStr te) (gName j) [j] G s.cps.size (fun i G2 => G2.set j (sgnsOf s)[i]?) := fun σ B H x en R q =>
  h σ B H x en _ fun v B1 H1 g1 r1 => by
    have e := rt_str r1
    subst e
    refine ⟨s, rfl, ?_⟩
    refine q (Its s) B1 H1 (fun i H v H' => H' = H ∧ ∃ c, s.cps[i]? = some c ∧ v = .str ⟨#[c]⟩) g1 ?_ fun i hi B2 H2 σ2 G2 y H3 e1 e2 en2 hy Q k => ?_
    · exact walk_str.mono (fun _ _ => trivial) fun _ _ _ _ _ _ y => y
    · obtain ⟨rfl, c, hc, rfl⟩ := hy
      have hd : (sgnsOf s)[i]? = some (.str ⟨#[c]⟩) := by
        unfold sgnsOf
        rw [List.getElem?_map, Array.getElem?_toList, hc]
        rfl
      refine k _ B2 H3 (.refl e2) ?_ fun vs hv => wipe_set (hv j (List.mem_singleton.mpr rfl))
      show En K _ _ (G2.set j (sgnsOf s)[i]?)
      rw [hd]
      exact en2.set j (.d (.str _))
/-- enumerate(list), target (name, (name, name)) with the items pairs: slots j, k, l -/
theorem di_enumP {ta : TA} {ps : List (PyData × PyData)} {j k l : Nat} (h : DA K ta G [.list (ps.map fun p => .tuple [p.1, p.2])]) :
    DI K (iEnum K ta) (gTup K 2 (gCons (gName j) (gCons (gTup K 2 (gCons (gName k) (gCons (gName l) gNil))) gNil))) [j, k, l] G ps.length
      (fun i G2 => ((G2.set j (some (.int i))).set k (ps[i]?.map (·.1))).set l (ps[i]?.map (·.2))) := fun σ B H x en R q =>
  h σ B H x en _ fun vs B1 H1 g1 r1 => by
    cases r1 with
    | cons r1 r2 =>
      cases r2
      have r1 := r1.dp rfl
      cases r1 with
      | @lst a xs _ hs ha =>
        refine ⟨a, xs, rfl, ex_l g1.sub hs, ?_⟩
        have hl := dps_len ha
        rw [List.length_map] at hl
        refine q (Ite K a) B1 H1 (YPair (fun i => some (.int (i : Nat))) (fun i => xs[i]?)) g1 ?_ fun i hi B2 H2 σ2 G2 y H3 e1 e2 en2 hy Q kk => ?_
        · rw [← hl]
          exact walk_enum.mono (fun H2 e => ex_l e hs) fun _ _ _ _ _ _ y => y
        · obtain ⟨t, y1, y2, rfl, ht, rfl, h1, h2⟩ := hy
          have hd : (ps.map fun p => PyData.tuple [p.1, p.2])[i]? = some (.tuple [ps[i].1, ps[i].2]) := by
            rw [List.getElem?_map, List.getElem?_eq_getElem hi]
            rfl
          obtain ⟨z, h3, h4⟩ := dps_get ha hd
          have ez : y2 = z := Option.some.inj (h2.symm.trans h3)
          have e1' : y1 = .int (i : Nat) := (Option.some.inj h1).symm
          subst ez e1'
          have h4 := dp_ex e1 _ _ h4
          cases h4 with
          | @tup b zs _ hz hza =>
            cases hza with
            | cons q1 hza =>
              cases hza with
              | cons q2 hza =>
                cases hza
                have gn : Go B2 H2 B2 (upd H2 t (.tup [.int (i : Nat), .ref b])) := Go.own e2 ht
                refine ⟨t, _, rfl, .inl (.inl upd_same), rfl, _, _, rfl, _, _, rfl, ⟨b, _, rfl, ex_t gn.sub hz, rfl, _, _, rfl, _, _, rfl, rfl, ?_⟩⟩
                refine ⟨rfl, ?_⟩
                refine kk _ B2 _ gn ?_ fun vs hv => ?_
                · show En K _ _ (((G2.set j (some (.int i))).set k (ps[i]?.map (·.1))).set l (ps[i]?.map (·.2)))
                  rw [List.getElem?_eq_getElem hi]
                  exact ((en2.set j (.d (.int _))).set k (.d q1)).set l (.d q2)
                · rw [wipe_set (hv l (by simp)), wipe_set (hv k (by simp)), wipe_set (hv j (by simp))]
theorem di_range {ta : TA} {m : Int} {j : Nat} (h : DA K ta G [.int m]) (h0 : 0 ≤ m) (h1 : m ≤ 100000) : DI K (iRng1 ta) (gName j) [j] G m.toNat (fun i G2 => G2.set j (some (.int (i : Nat)))) := fun σ B H x en R q =>
  h σ B H x en _ fun vs B1 H1 g1 r1 => by
    cases r1 with
    | cons r1 r2 =>
      cases r2
      have e := rt_int r1
      subst e
      refine ⟨m, rfl, by omega, by omega, ?_⟩
      refine q (Itr 0 m.toNat) B1 H1 (YFn fun i => .int (0 + (i : Nat))) g1 ?_ fun i hi B2 H2 σ2 G2 y H3 e1 e2 en2 hy Q k => ?_
      · exact walk_range.mono (fun _ _ => trivial) fun _ _ _ _ _ _ y => y
      · obtain ⟨rfl, rfl⟩ := hy
        show gName j (V.int (0 + (i : Int))) σ2 H3 Q
        rw [Int.zero_add]
        exact k _ B2 H3 (.refl e2) (en2.set j (.d (.int _))) fun vs hv => wipe_set (hv j (List.mem_singleton.mpr rfl))
/-- what a comprehension has made -/
def madeG (p : Nat → Bool) (d : Nat → PyData) (i : Nat) : List PyData := ((List.range i).filter p).map d
theorem madeG_yes {p : Nat → Bool} {d : Nat → PyData} {i : Nat} (h : p i = true) : madeG p d (i + 1) = madeG p d i ++ [d i] := by
  unfold madeG
  rw [List.range_succ, List.filter_append, List.map_append, List.filter_cons, if_pos h]
  rfl
theorem madeG_no {p : Nat → Bool} {d : Nat → PyData} {i : Nat} (h : p i = false) : madeG p d (i + 1) = madeG p d i := by
  unfold madeG
  rw [List.range_succ, List.filter_append, List.map_append, List.filter_cons, if_neg (by rw [h]; exact Bool.false_ne_true)]
  exact List.append_nil _
theorem madeG_len (p : Nat → Bool) (d : Nat → PyData) (i : Nat) : (madeG p d i).length ≤ i := by
  unfold madeG
  rw [List.length_map]
  have h := List.length_filter_le p (List.range i)
  rw [List.length_range] at h
  exact h
structure LcI (K : PySem.W.Frag) (B1 H1 : Hp) (D : Addr) (ds : List PyData) (B' H' : Hp) : Prop where
  go : Go B1 H1 B' H'
  nD : B' D = none
  acc : ∃ vs, H' D = some (.lst vs) ∧ DpAll K B' vs ds
theorem LcI.step {B1 H1 B' H' B2 H2 : Hp} {D : Addr} {ds : List PyData} (p : LcI K B1 H1 D ds B' H') (g : Go B' H' B2 H2) : LcI K B1 H1 D ds B2 H2 := by
  obtain ⟨vs, h1, h2⟩ := p.acc
  exact ⟨p.go.trans g, g.fr D _ h1 p.nD, vs, g.eh D _ h1, dps_ex g.eb _ _ h2⟩
theorem LcI.app {B1 H1 B' H' : Hp} {D : Addr} {ds : List PyData} {y : V} {d : PyData} (p : LcI K B1 H1 D ds B' H') (n1 : H1 D = none) (hl : ds.length ≤ 2000) (r : Dp K B' y d) :
    ∃ acc, H' D = some (.lst acc) ∧ acc.length < sizeLine ∧ LcI K B1 H1 D (ds ++ [d]) B' (upd H' D (.lst (acc ++ [y]))) := by
  obtain ⟨vs, h1, h2⟩ := p.acc
  have hlen := dps_len h2
  refine ⟨vs, h1, Nat.lt_of_le_of_lt (by rw [hlen]; exact hl) (by decide), ⟨⟨p.go.eb, Evl.Ex.mut p.go.eh n1, Evl.Ex.mut p.go.sub p.nD, p.go.fr⟩, p.nD, _, upd_same, dps_snoc r h2⟩⟩
theorem de_lcX {vs : List Nat} (p : Nat → Bool) (d : Nat → PyData) (hi : DI K wi g T G n ff) (hT : ∀ j ∈ T, j ∈ vs) (ht : ∀ i, i < n → DT K tt (ff i (wipeG G vs)) (p i)) (he : ∀ i, i < n → p i = true → DE K te (ff i (wipeG G vs)) (d i))
    (hp : ∀ i, i < n → p i = true → plain (d i) = true) (hn : n ≤ 2000) : DE K (tLc wi g tt te vs) G (listX (madeG p d n)) := fun σ B H x en Q q =>
  hi σ B H x en _ fun J B1 H1 Y g1 W turn => fun D hD => by
    refine lc_it W (fun i H' => ∃ B', LcI K B1 H1 D (madeG p d i) B' H') ⟨B1, Go.own g1.sub hD, sub_none g1.sub hD, [], upd_same, .nil⟩ (fun i H' _ ⟨B', p'⟩ => p'.go.eb.trans p'.go.sub) (fun i y H2 H3 hil ⟨B2, p2⟩ hy => ?_) (fun H2 ⟨B2, p2⟩ => ?_)
    · refine turn i hil B2 H2 (wipe σ vs) (wipeG G vs) y H3 p2.go.eb p2.go.sub ((en.ex (g1.eb.trans p2.go.eb)).wipe vs) hy _ fun σ' B3 H4 g3 en3 hw => ⟨?_, ?_⟩
      · exact (hw vs hT).trans (wipe_wipe fun _ h => h)
      · have p3 := p2.step g3
        refine ht i hil σ' B3 H4 g3.sub en3 _ fun B4 H5 g4 => ?_
        have p4 := p3.step g4
        cases hpi : p i with
        | true =>
          rw [if_pos rfl]
          refine he i hil hpi σ' B4 H5 g4.sub (en3.ex g4.eb) _ fun z B5 H6 g5 r5 => ?_
          have p5 := p4.step g5
          obtain ⟨acc, h1, h2, h3⟩ := p5.app hD (Nat.le_trans (madeG_len p d i) (by omega)) (r5.dp (hp i hil hpi))
          refine ⟨acc, h1, h2, B5, ?_⟩
          rw [madeG_yes hpi]
          exact h3
        | false =>
          rw [if_neg Bool.false_ne_true]
          refine ⟨B4, ?_⟩
          rw [madeG_no hpi]
          exact p4
    · obtain ⟨vs', h1, h2⟩ := p2.acc
      have gg : Go B H (upd B2 D (.lst vs')) H2 := by
        have g2 := g1.trans p2.go
        refine ⟨g2.eb.trans (Evl.Ex.new p2.nD), g2.eh, fun a o e => ?_, fun a o e nb => ?_⟩
        · by_cases ha : a = D
          · subst ha
            rw [upd_same] at e
            rw [← e]
            exact h1
          · rw [upd_ne ha] at e
            exact g2.sub a o e
        · have ha : a ≠ D := by
            intro z
            subst z
            have := Evl.fresh_back g1.eh hD
            rw [this] at e
            cases e
          rw [upd_ne ha]
          exact g2.fr a o e nb
      exact q _ _ _ gg (.lstX upd_same (dps_ex (Evl.Ex.new p2.nD) _ _ h2))
theorem de_lc {vs : List Nat} (p : Nat → Bool) (d : Nat → PyData) (hi : DI K wi g T G n ff) (hT : ∀ j ∈ T, j ∈ vs) (ht : ∀ i, i < n → DT K tt (ff i (wipeG G vs)) (p i)) (he : ∀ i, i < n → p i = true → DE K te (ff i (wipeG G vs)) (d i))
    (hp : ∀ i, i < n → p i = true → plain (d i) = true) (hn : n ≤ 2000) : DE K (tLc wi g tt te vs) G (.list (madeG p d n)) := de_ofX (de_lcX p d hi hT ht he hp hn)
theorem dt_yes : DT K tYes G true := fun σ B H x en Q q => q B H (.refl x)
/-- a for: every turn goes on -/
theorem ds_for {tb : TS} (Gs : Nat → List (Option PyData)) (hi : DI K wi g T G n ff) (h0 : Gs 0 = G) (hs : ∀ i, i < n → DS K tb (ff i (Gs i)) (.nx (Gs (i + 1)))) : DS K (tFor wi g tb) G (.nx (Gs n)) := fun D σ B H x en q =>
  hi σ B H x en _ fun J B1 H1 Y g1 W turn => by
    refine for_it W (fun i σ' H' => ∃ B', Go B1 H1 B' H' ∧ En K B' σ' (Gs i)) ⟨B1, .refl g1.sub, by rw [h0]; exact en.ex g1.eb⟩ (fun i σ' H' _ ⟨B', p'⟩ => p'.1.eb.trans p'.1.sub) (fun i y σ2 H2 H3 hil ⟨B2, p2, en2⟩ hy => ?_) (fun σ2 H2 ⟨B2, p2, en2⟩ => ?_)
    · refine turn i hil B2 H2 σ2 (Gs i) y H3 p2.eb p2.sub en2 hy _ fun σ' B3 H4 g3 en3 hw => ?_
      exact hs i hil _ σ' B3 H4 g3.sub en3 fun σ5 B5 H5 g5 en5 => ⟨B5, p2.trans (g3.trans g5), en5⟩
    · exact q σ2 B2 H2 (g1.trans p2) en2
/-- a for that returns at turn m -/
theorem ds_forR {tb : TS} {d : PyData} (m : Nat) (Gs : Nat → List (Option PyData)) (hi : DI K wi g T G n ff) (hm : m < n) (h0 : Gs 0 = G) (hs : ∀ i, i < m → DS K tb (ff i (Gs i)) (.nx (Gs (i + 1)))) (hr : DS K tb (ff m (Gs m)) (.rt d)) : DS K (tFor wi g tb) G (.rt d) := fun D σ B H x en q =>
  hi σ B H x en _ fun J B1 H1 Y g1 W turn => by
    refine for_it W (fun i σ' H' => i ≤ m ∧ ∃ B', Go B1 H1 B' H' ∧ En K B' σ' (Gs i)) ⟨Nat.zero_le _, B1, .refl g1.sub, by rw [h0]; exact en.ex g1.eb⟩ (fun i σ' H' _ ⟨_, B', p'⟩ => p'.1.eb.trans p'.1.sub) (fun i y σ2 H2 H3 hil ⟨him, B2, p2, en2⟩ hy => ?_) (fun σ2 H2 ⟨him, B2, p2, en2⟩ => absurd him (by omega))
    refine turn i hil B2 H2 σ2 (Gs i) y H3 p2.eb p2.sub en2 hy _ fun σ' B3 H4 g3 en3 hw => ?_
    by_cases e : i = m
    · subst e
      exact hr _ σ' B3 H4 g3.sub en3 fun v B5 H5 g5 r5 => q v B5 H5 (g1.trans (p2.trans (g3.trans g5))) r5
    · exact hs i (by omega) _ σ' B3 H4 g3.sub en3 fun σ5 B5 H5 g5 en5 => ⟨by omega, B5, p2.trans (g3.trans g5), en5⟩
end
/-! ### dicts -/
section
variable {K : PySem.W.Frag} {G : List (Option PyData)} {te td : TE} {kvs : List (Str × PyData)}
def look (kvs : List (Str × PyData)) (k : Str) : Option PyData := (kvs.find? fun q => decide (q.1 = k)).map (·.2)
theorem kr_look {B : Hp} {k : Str} : ∀ {ks : List (Key × V)} {kvs : List (Str × PyData)}, KR K B ks kvs → (valV ks (Sum.inr k : Key) = none ∧ look kvs k = none) ∨ ∃ v d, valV ks (Sum.inr k : Key) = some v ∧ look kvs k = some d ∧ Dp K B v d
  | _, _, .nil => .inl ⟨rfl, rfl⟩
  | (a, v) :: ks, (b, d) :: kvs, .cons r t => by
    obtain ⟨r1, r2⟩ := r
    simp only at r1 r2
    subst r1
    unfold valV look
    simp only [List.find?_cons]
    by_cases e : b = k
    · subst e
      refine .inr ⟨v, d, ?_, ?_, r2⟩ <;> simp
    · have e1 : decide ((Sum.inr b : Key) = Sum.inr k) = false := by simp [e]
      have e2 : decide (b = k) = false := by simp [e]
      rw [e1, e2]
      exact kr_look t
theorem de_dget {k : Str} {d : PyData} (h : DE K td G (dictOf kvs)) (hk : DE K te G (.str k)) (hl : look kvs k = some d) : DE K (tDGet td te) G d := fun σ B H x en Q q =>
  h σ B H x en _ fun v B1 H1 g1 r1 => hk σ B1 H1 g1.sub (en.ex g1.eb) _ fun y B2 H2 g2 r2 => by
    obtain ⟨a, ks, rfl, e1, kr, nd⟩ := rt_dict (r1.ex g2.eb)
    have := rt_str r2
    subst this
    rcases kr_look (k := k) kr with ⟨_, e⟩ | ⟨v, d', h1, h2, h3⟩
    · rw [e] at hl; cases hl
    · have : d = d' := Option.some.inj (hl.symm.trans h2)
      subst this
      exact ⟨a, v, rfl, .inl ⟨ks, Sum.inr k, ex_rd g2.sub e1, rfl, h1.symm⟩, q v B2 H2 (g1.trans g2) (.d h3)⟩
theorem de_din {k : Str} (h : DE K td G (dictOf kvs)) (hk : DE K te G (.str k)) : DE K (tDIn te td) G (.bool (look kvs k).isSome) := fun σ B H x en Q q =>
  hk σ B H x en _ fun y B1 H1 g1 r1 => h σ B1 H1 g1.sub (en.ex g1.eb) _ fun v B2 H2 g2 r2 => by
    obtain ⟨a, ks, rfl, e1, kr, nd⟩ := rt_dict r2
    have := rt_str r1
    subst this
    refine ⟨a, valV ks (Sum.inr k : Key), rfl, .inl ⟨ks, Sum.inr k, ex_rd g2.sub e1, rfl, rfl⟩, ?_⟩
    have e : (valV ks (Sum.inr k : Key)).isSome = (look kvs k).isSome := by
      rcases kr_look (k := k) kr with ⟨e1, e2⟩ | ⟨v, d', h1, h2, h3⟩
      · rw [e1, e2]; rfl
      · rw [h1, h2]; rfl
    rw [e]
    exact q _ B2 H2 (g1.trans g2) (.d (.bl _))
end
/-! ### a dict that is locked -/
section
variable {K : PySem.W.Frag} {B H : Hp} {a : Addr} {ks : List (Key × V)} {od : Obj}
theorem rd_lock {b : Addr} {u : HO} (e : B a = some (.dK ks)) (h : Rd B b u) : Rd (upd B a (.frz od (.dK ks))) b u := by
  by_cases hb : b = a
  · subst hb
    rcases h with h | ⟨o, h⟩
    · rw [e] at h
      cases h
      exact .inr ⟨od, upd_same⟩
    · rw [e] at h
      cases h
  · rcases h with h | ⟨o, h⟩
    · exact .inl (by rw [upd_ne hb]; exact h)
    · exact .inr ⟨o, by rw [upd_ne hb]; exact h⟩
theorem rd_unlock {b : Addr} {u : HO} (e : B a = some (.frz od (.dK ks))) (hu : ∀ o w, u ≠ .frz o w) (h : Rd B b u) : Rd (upd B a (.dK ks)) b u := by
  by_cases hb : b = a
  · subst hb
    rcases h with h | ⟨o, h⟩
    · rw [e] at h
      cases h
      exact (hu _ _ rfl).elim
    · rw [e] at h
      cases h
      exact .inl upd_same
  · rcases h with h | ⟨o, h⟩
    · exact .inl (by rw [upd_ne hb]; exact h)
    · exact .inr ⟨o, by rw [upd_ne hb]; exact h⟩
mutual
theorem dp_rd {B B' : Hp} (r : ∀ b u, (∀ o w, u ≠ .frz o w) → Rd B b u → Rd B' b u) : ∀ (d : PyData) (v : V), Dp K B v d → Dp K B' v d
  | .none, _, h => by cases h; exact .non
  | .bool b, _, h => by cases h; exact .bl b
  | .int i, _, h => by cases h; exact .int i
  | .str s, _, h => by cases h; exact .str s
  | .list ds, _, h => by
    cases h with
    | lst hs ha =>
      refine .lst ?_ (dps_rd r ds _ ha)
      rcases hs with hs | hs
      · exact .inl (r _ _ (fun _ _ z => nomatch z) hs)
      · exact .inr hs
  | .tuple ds, _, h => by
    cases h with
    | tup hs ha =>
      refine .tup ?_ (dps_rd r ds _ ha)
      rcases hs with hs | hs
      · exact .inl (r _ _ (fun _ _ z => nomatch z) hs)
      · exact .inr hs
  | .dict _, _, h => by cases h
theorem dps_rd {B B' : Hp} (r : ∀ b u, (∀ o w, u ≠ .frz o w) → Rd B b u → Rd B' b u) : ∀ (ds : List PyData) (vs : List V), DpAll K B vs ds → DpAll K B' vs ds
  | [], _, h => by cases h; exact .nil
  | d :: ds, _, h => by
    cases h with
    | cons h1 h2 => exact .cons (dp_rd r d _ h1) (dps_rd r ds _ h2)
end
theorem kr_rd {B B' : Hp} (r : ∀ b u, (∀ o w, u ≠ .frz o w) → Rd B b u → Rd B' b u) : ∀ {ks : List (Key × V)} {kvs : List (Str × PyData)}, KR K B ks kvs → KR K B' ks kvs
  | _, _, .nil => .nil
  | _, _, .cons q t => .cons ⟨q.1, dp_rd r _ _ q.2⟩ (kr_rd r t)
/-- the slots of which nothing is lost when a dict is locked -/
def keepP : Option PyData → Option PyData
  | some d => if plain d = true then some d else none
  | none => none
theorem en_rd {B B' : Hp} {σ : L2.St} {G : List (Option PyData)} (r : ∀ b u, (∀ o w, u ≠ .frz o w) → Rd B b u → Rd B' b u) (h : En K B σ G) : En K B' σ (G.map keepP) :=
  ⟨by rw [List.length_map, h.len], fun i d q => by
    rw [List.getElem?_map] at q
    cases e : G[i]? with
    | none => rw [e] at q; cases q
    | some od =>
      rw [e] at q
      cases od with
      | none => simp [keepP] at q
      | some x =>
        simp only [Option.map_some, keepP, Option.some.injEq] at q
        split at q
        · rename_i hp
          cases q
          obtain ⟨v, h1, h2⟩ := h.get i d e
          exact ⟨v, h1, .d (dp_rd r _ _ (h2.dp hp))⟩
        · cases q⟩
theorem ex_lock (x : Ex B H) (e : B a = some (.dK ks)) : Ex (upd B a (.frz od (.dK ks))) (upd H a (.frz od (.dK ks))) := fun b o h => by
  by_cases hb : b = a
  · subst hb
    rw [upd_same] at h ⊢
    exact h
  · rw [upd_ne hb] at h ⊢
    exact x b o h
theorem go_unlock {B' H' : Hp} (x : Ex B H) (e : B a = some (.dK ks)) (g : Go (upd B a (.frz od (.dK ks))) (upd H a (.frz od (.dK ks))) B' H') : Go B H (upd B' a (.dK ks)) (upd H' a (.dK ks)) := by
  refine ⟨fun b o h => ?_, fun b o h => ?_, fun b o h => ?_, fun b o h nb => ?_⟩
  · by_cases hb : b = a
    · subst hb
      rw [e] at h
      rw [upd_same]
      exact h
    · rw [upd_ne hb]
      exact g.eb b o (by rw [upd_ne hb]; exact h)
  · by_cases hb : b = a
    · subst hb
      rw [x _ _ e] at h
      rw [upd_same]
      exact h
    · rw [upd_ne hb]
      exact g.eh b o (by rw [upd_ne hb]; exact h)
  · by_cases hb : b = a
    · subst hb
      rw [upd_same] at h ⊢
      exact h
    · rw [upd_ne hb] at h ⊢
      exact g.sub b o h
  · have hb : b ≠ a := by
      intro z
      subst z
      rw [e] at nb
      cases nb
    rw [upd_ne hb]
    exact g.fr b o (by rw [upd_ne hb]; exact h) (by rw [upd_ne hb]; exact nb)
end
section
variable {K : PySem.W.Frag} {G : List (Option PyData)} {te td : TE} {kvs : List (Str × PyData)}
def keyD (kvs : List (Str × PyData)) (i : Nat) : Option PyData := kvs[i]?.map fun q => .str q.1
def valD (kvs : List (Str × PyData)) (i : Nat) : Option PyData := kvs[i]?.map fun q => q.2
theorem kr_get {B : Hp} {ks : List (Key × V)} {kvs : List (Str × PyData)} (h : KR K B ks kvs) : ∀ {i : Nat} {k : Key} {v : V}, ks[i]? = some (k, v) → ∃ s d, kvs[i]? = some (s, d) ∧ k = Sum.inr s ∧ Dp K B v d := by
  induction h with
  | nil => intro i k v e; simp at e
  | @cons p q l1 l2 r t ih =>
    intro i k v e
    cases i with
    | zero =>
      simp at e
      subst e
      exact ⟨q.1, q.2, rfl, r.1, r.2⟩
    | succ i =>
      obtain ⟨s, d, h1, h2, h3⟩ := ih (i := i) (by simpa using e)
      exact ⟨s, d, by simpa using h1, h2, h3⟩
theorem di_keys {a : Addr} {j : Nat} (h : DE K td G (dictL a kvs)) : DI K (iKeys td) (gName j) [j] G kvs.length (fun i G2 => G2.set j (keyD kvs i)) := fun σ B H x en R q =>
  h σ B H x en _ fun v B1 H1 g1 r1 => by
    obtain ⟨o, ks, rfl, e, kr, nd⟩ := rt_dictL r1
    refine ⟨a, o, rfl, .inl ⟨ks, g1.sub _ _ e, ?_⟩⟩
    have hl : ks.length = kvs.length := Paired.length kr
    refine q _ B1 H1 (fun i H x H' => H' = H ∧ ∃ k v, ks[i]? = some (k, v) ∧ x = kV k) g1 ?_ fun i hi B2 H2 σ2 G2 y H3 e1 e2 en2 hy Q k => ?_
    · rw [← hl]
      exact walk_keys.mono (fun H2 ee => ee _ _ e) fun _ _ _ _ _ _ y => y
    · obtain ⟨rfl, ky, v, hk, rfl⟩ := hy
      obtain ⟨s, d, h1, rfl, h3⟩ := kr_get kr hk
      refine k _ B2 H3 (.refl e2) ?_ fun vs hv => wipe_set (hv j (List.mem_singleton.mpr rfl))
      show En K B2 _ (G2.set j (keyD kvs i))
      unfold keyD
      rw [h1]
      exact en2.set j (.d (.str s))
theorem di_vals {a : Addr} {j : Nat} (h : DE K td G (dictL a kvs)) : DI K (iVals td) (gName j) [j] G kvs.length (fun i G2 => G2.set j (valD kvs i)) := fun σ B H x en R q =>
  h σ B H x en _ fun v B1 H1 g1 r1 => by
    obtain ⟨o, ks, rfl, e, kr, nd⟩ := rt_dictL r1
    refine ⟨a, o, ks, rfl, g1.sub _ _ e, ?_⟩
    have hl : ks.length = kvs.length := Paired.length kr
    refine q _ B1 H1 (fun i H x H' => H' = H ∧ ∃ k, ks[i]? = some (k, x)) g1 ?_ fun i hi B2 H2 σ2 G2 y H3 e1 e2 en2 hy Q k => ?_
    · rw [← hl]
      exact walk_values.mono (fun H2 ee => ee _ _ e) fun _ _ _ _ _ _ y => y
    · obtain ⟨rfl, ky, hk⟩ := hy
      obtain ⟨s, d, h1, rfl, h3⟩ := kr_get kr hk
      refine k _ B2 H3 (.refl e2) ?_ fun vs hv => wipe_set (hv j (List.mem_singleton.mpr rfl))
      show En K B2 _ (G2.set j (valD kvs i))
      unfold valD
      rw [h1]
      exact en2.set j (.d (dp_ex e1 _ _ h3))
def lockG (G : List (Option PyData)) (i : Nat) (a : Addr) (kvs : List (Str × PyData)) : List (Option PyData) := (G.map keepP).set i (some (dictL a kvs))
def unlockG (G : List (Option PyData)) (i : Nat) (kvs : List (Str × PyData)) : List (Option PyData) := (G.map keepP).set i (some (dictU kvs))
theorem en_setV {B : Hp} {σ : L2.St} {G : List (Option PyData)} {v : V} {d : PyData} {i : Nat} (h : En K B σ G) (hv : σ[i]? = some (some v)) (r : Rt K B v d) : En K B σ (G.set i (some d)) := by
  refine ⟨by rw [List.length_set, h.len], fun j e q => ?_⟩
  by_cases hij : i = j
  · subst hij
    have hl : i < G.length := by
      have := (List.getElem?_eq_some_iff.mp q).1
      simpa using this
    rw [List.getElem?_set_self hl] at q
    cases q
    exact ⟨v, hv, r⟩
  · rw [List.getElem?_set_ne hij] at q
    exact h.get j e q
theorem go_lock {B H : Hp} {σ : L2.St} {i : Nat} (x : Ex B H) (en : En K B σ G) (hG : G[i]? = some (some (dictU kvs))) :
    ∃ a ks, σ[i]? = some (some (.ref a)) ∧ B a = some (.dK ks) ∧ KR K B ks kvs ∧ (kvs.map (·.1)).Nodup ∧ ∀ od, Ex (upd B a (.frz od (.dK ks))) (upd H a (.frz od (.dK ks))) ∧ En K (upd B a (.frz od (.dK ks))) σ (lockG G i a kvs) := by
  obtain ⟨v, h1, h2⟩ := en.get i _ hG
  obtain ⟨a, ks, rfl, e, kr, nd⟩ := rt_dictU h2
  refine ⟨a, ks, h1, e, kr, nd, fun od => ⟨ex_lock x e, ?_⟩⟩
  have r : ∀ b u, (∀ o w, u ≠ .frz o w) → Rd B b u → Rd (upd B a (.frz od (.dK ks))) b u := fun b u _ h => rd_lock e h
  exact en_setV (en_rd r en) h1 (.dictL upd_same (kr_rd r kr) nd)
theorem de_lock {i : Nat} {t : TE} {d : PyData} (hG : G[i]? = some (some (dictU kvs))) (hp : plain d = true) (h : ∀ a, DE K t (lockG G i a kvs) d) : DE K (tLockE t) G d := fun σ B H x en Q q => by
  obtain ⟨a, ks, hv, e, kr, nd, lk⟩ := go_lock x en hG
  refine ⟨a, .dK ks, x _ _ e, trivial, fun od => ?_⟩
  obtain ⟨x1, en1⟩ := lk od
  refine h a σ _ _ x1 en1 _ fun v B' H' g r => ⟨g.eh _ _ upd_same, ?_⟩
  refine q v _ _ (go_unlock x e g) (.d (dp_rd (fun b u hu hr => rd_unlock (g.eb _ _ upd_same) hu hr) _ _ (r.dp hp)))
theorem ds_lock {i : Nat} {t : TS} {Gn : Addr → List (Option PyData)} {Go' : List (Option PyData)} (hG : G[i]? = some (some (dictU kvs))) (hn : ∀ a, (Gn a)[i]? = some (some (dictL a kvs))) (hu : ∀ a, unlockG (Gn a) i kvs = Go') (h : ∀ a, DS K t (lockG G i a kvs) (.nx (Gn a))) : DS K (tLock t) G (.nx Go') := fun D σ B H x en q => by
  obtain ⟨a, ks, hv, e, kr, nd, lk⟩ := go_lock x en hG
  refine ⟨a, .dK ks, x _ _ e, trivial, fun od => ?_⟩
  obtain ⟨x1, en1⟩ := lk od
  refine h a _ σ _ _ x1 en1 fun σ' B' H' g en' => ⟨g.eh _ _ upd_same, ?_⟩
  have r : ∀ b u, (∀ o w, u ≠ .frz o w) → Rd B' b u → Rd (upd B' a (.dK ks)) b u := fun b u hu hr => rd_unlock (g.eb _ _ upd_same) hu hr
  obtain ⟨v, h1, h2⟩ := en'.get i _ (hn a)
  obtain ⟨o2, ks2, rfl, e2, kr2, _⟩ := rt_dictL h2
  have e3 : B' a = some (.frz od (.dK ks)) := g.eb _ _ upd_same
  rw [e3] at e2
  cases e2
  refine q σ' _ _ (go_unlock x e g) ?_
  rw [← hu a]
  exact en_setV (en_rd r en') h1 (.dictU upd_same (kr_rd r kr2) nd)
/-- truth of a dict -/
theorem dt_dict {ta : TE} (h : DE K ta G (dictU kvs)) : DT K (fun σ H Q => ta σ H fun x H' => ∃ k, TruV K x H' k ∧ Q k H') G (!kvs.isEmpty) := fun σ B H x en Q q => h σ B H x en _ fun v B' H' g r => by
  obtain ⟨a, ks, rfl, e, kr, nd⟩ := rt_dictU r
  refine ⟨!kvs.isEmpty, .inr (.inr ⟨ks, g.sub _ _ e, ?_⟩), q B' H' g⟩
  have hl : ks.length = kvs.length := Paired.length kr
  cases ks <;> cases kvs <;> simp at hl ⊢
end
end FC
namespace FC
open PySem PySem.Spec PyProof.Rows L2
open Evl (Ex)
/-- the promise of a def: R tells which data it hands back for which arguments; nothing that stood is changed -/
def spR (K : PySem.W.Frag) (R : List PyData → PyData → Prop) : Sp := fun vs H Q _ =>
  ∃ B ds out, Ex B H ∧ RtA K B vs ds ∧ R ds out ∧ ∀ v B' H', Go B H B' H' → Rt K B' v out → Q v H'
section
variable {K : PySem.W.Frag} {G : List (Option PyData)} {R : List PyData → PyData → Prop} {ta : TA} {d : PyData} {ds : List PyData} {E : XK}
theorem spR_len {n : Nat} (hn : ∀ ds d, R ds d → ds.length = n) (vs : List V) (H : Hp) (Q : VK) (E : XK) (h : spR K R vs H Q E) : vs.length = n := by
  obtain ⟨B, ds, d, _, r, hR, _⟩ := h
  rw [Paired.length r, hn ds d hR]
theorem de_call' (h : DA K ta G ds) (hR : R ds d) : DE K (tCall (spR K R) [] E ta) G d := fun σ B H x en Q q =>
  h σ B H x en _ fun vs B1 H1 g1 r1 => by
    rw [List.append_nil]
    exact ⟨B1, ds, d, g1.sub, r1, hR, fun v B' H' g2 r2 => q v B' H' (g1.trans g2) r2⟩
theorem fin_rt {N : List Str} {ts : TS} {vs : List V} {B H : Hp} {Q : VK} (h : DS K ts (startG N ds) (.rt d)) (x : Ex B H) (r : RtA K B vs ds) (q : ∀ v B' H', Go B H B' H' → Rt K B' v d → Q v H') :
    ts { nx := fun _ H' => Q .non H', rt := Q } (start N vs) H := h _ _ B H x (En.start r) q
theorem fin_nx {N : List Str} {G' : List (Option PyData)} {ts : TS} {vs : List V} {B H : Hp} {Q : VK} (h : DS K ts (startG N ds) (.nx G')) (x : Ex B H) (r : RtA K B vs ds) (q : ∀ v B' H', Go B H B' H' → Rt K B' v .none → Q v H') :
    ts { nx := fun _ H' => Q .non H', rt := Q } (start N vs) H := h _ _ B H x (En.start r) fun σ' B' H' g _ => q _ B' H' g (.d .non)
theorem ds_is {t : TS} {r r' : Out} (h : DS K t G r) (e : r = r') : DS K t G r' := e ▸ h
end
end FC
namespace FP
open PySem PySem.Spec PyProof.Rows L2 FC
open Evl (Ex)
def topS (i : Nat) : Stmt := PySem.Challenge.pw_firstclause_k14_values_by_name.main.body.getD i (.Pass ⟨0, 0, 0, 0⟩)
abbrev s_is_whole : Stmt := topS 8
abbrev s_is_name : Stmt := topS 10
abbrev s_is_sound : Stmt := topS 13
abbrev s_is_kind : Stmt := topS 15
abbrev s_is_kinds : Stmt := topS 16
abbrev s_is_form : Stmt := topS 17
abbrev s_is_bounds : Stmt := topS 18
abbrev s_all_have_values : Stmt := topS 21
abbrev s_can_be_built : Stmt := topS 22
/-- the built-ins that the module leaves as they are -/
structure Bl (mg : Str → Option Value) : Prop where
  isi : mg "isinstance" = none
  len : mg "len" = none
  all : mg "all" = none
  int : mg "int" = none
  bool : mg "bool" = none
  str : mg "str" = none
  tuple : mg "tuple" = none
  list : mg "list" = none
  dict : mg "dict" = none
  enum : mg "enumerate" = none
  range : mg "range" = none
  max : mg "max" = none
  sum : mg "sum" = none
section
variable {X : Cx} {a e : Expr} {ta te : TE} {p pos pos2 : Pos}
theorem k_isi {T : Str} {n : String} (h : PE X a ta) (hg : Gl X "isinstance") (hm : X.mg "isinstance" = none) (hgT : Gl X T) (hmT : X.mg T = none) (hv : bootBuiltins T = some (.type n)) (hn : T ≠ "__name__") (hdb : (T == ("__debug__" : Str)) = false)
    (hs : starEach [a, .Name T pos2] X.env = (false, eval a X.env) :: starEach [.Name T pos2] X.env := by rfl) (hs2 : starEach [.Name T pos2] X.env = (false, eval (.Name T pos2) X.env) :: starEach [] X.env := by rfl) :
    PE X (.Call (.Name "isinstance" p) [a, .Name T pos2] [] pos) (tCB (rIsi X.K) (tCons ta (tCons (tC (.ty n)) tNil))) :=
  pe_callB call_isi hg hm PyProof.Rows.boot_isinstance (pa_cons h (pa_cons (pe_bltn hgT hmT hv rfl hn hdb) pa_nil hs2) hs) (he := hs)
end
theorem kii : kitB "int" "int" = some true := by decide +kernel
theorem kib : kitB "int" "bool" = some false := by decide +kernel
theorem kbi : kitB "bool" "int" = some true := by decide +kernel
theorem kbb : kitB "bool" "bool" = some true := by decide +kernel
theorem kni : kitB "NoneType" "int" = some false := by decide +kernel
theorem ksi : kitB "str" "int" = some false := by decide +kernel
theorem kli : kitB "list" "int" = some false := by decide +kernel
theorem kti : kitB "tuple" "int" = some false := by decide +kernel
theorem kdi : kitB "dict" "int" = some false := by decide +kernel
theorem kss : kitB "str" "str" = some true := by decide +kernel
theorem ktt : kitB "tuple" "tuple" = some true := by decide +kernel
theorem kll : kitB "list" "list" = some true := by decide +kernel
theorem kdd : kitB "dict" "dict" = some true := by decide +kernel
/-! ### the mirrors -/
def isWhole : PyData → Bool
  | .int _ => true
  | _ => false
def sgn (s : Str) (i : Nat) : Str := ⟨#[s.cps.getD i 0]⟩
def sgnOk (z : Str) : Bool := (!decide (z.cps.toList < ("a" : Str).cps.toList)) && !decide (("z" : Str).cps.toList < z.cps.toList)
def isNameS (s : Str) : Bool := decide ((1 : Int) ≤ s.length) && decide ((s.length : Int) ≤ 10) && ((List.range s.cps.size).map fun i => sgnOk (sgn s i)).all id
/-! ### which data for which arguments -/
def Rw_is_whole : List PyData → PyData → Prop := fun ds o => ∃ d, ds = [d] ∧ o = .bool (isWhole d)
def Rw_is_name : List PyData → PyData → Prop := fun ds o => ∃ s, ds = [.str s] ∧ isNameS s = true ∧ o = .bool true
def Rw_is_kind : List PyData → PyData → Prop := fun ds o => ∃ kvs s, ds = [dictOf kvs, .str s] ∧ o = .bool (look kvs s).isSome
def Rw_is_bounds : List PyData → PyData → Prop := fun ds o => ∃ i j, ds = [.int i, .int j] ∧ o = .bool (decide (i ≤ j))
inductive OkForm (kvs : List (Str × PyData)) : PyData → Prop where
  | nums {lo hi : Int} (h : lo ≤ hi) : OkForm kvs (.tuple [.str "numbers", .int lo, .int hi])
  | rows {s : Str} (h : (look kvs s).isSome = true) : OkForm kvs (.tuple [.str "rows", .str s])
def Rw_is_form : List PyData → PyData → Prop := fun ds o => ∃ kvs d, ds = [dictOf kvs, d] ∧ OkForm kvs d ∧ o = .bool true
structure KindsOk (kvs : List (Str × PyData)) : Prop where
  ne : kvs ≠ []
  few : kvs.length ≤ 100
  nm : ∀ q ∈ kvs, isNameS q.1 = true
  fm : ∀ q ∈ kvs, OkForm kvs q.2
  nd : (kvs.map (·.1)).Nodup
def Rw_is_kinds : List PyData → PyData → Prop := fun ds o => ∃ kvs, ds = [dictU kvs] ∧ KindsOk kvs ∧ o = .bool true
def Rw_all_have_values : List PyData → PyData → Prop := Rw_is_kinds
def Rw_can_be_built : List PyData → PyData → Prop := fun ds o => ∃ kvs d e, ds = [d, e] ∧ OkForm kvs d ∧ o = .bool true
section
variable {P : Program} {w : World} {K : PySem.W.Frag} {mg : Str → Option Value} {base : Heap} {f : Addr} {fd : FuncData}
theorem sc_is_whole : FnScope ["thing"] ["thing"] (defScope s_is_whole) := ⟨rfl, rfl, rfl, by decide +kernel, rfl, by decide +kernel, by decide +kernel⟩
theorem ok_is_whole (F : Fun K "is_whole" "is_whole" s_is_whole f fd) (M : Bl mg) : FnOk P w K mg base CX0 1 f fd ["thing"] (spR K Rw_is_whole) := by
  refine F.ok sc_is_whole (spR_len (by rintro _ _ ⟨d, rfl, _⟩; rfl)) (fun cdv A outer s H vs Q E hr h => ?_)
  obtain ⟨B, ds, o, x, r, ⟨d, rfl, rfl⟩, q⟩ := h
  refine ⟨_, pss_one (ps_ret (pe_and (k_isi (pv 0) (by rfl) M.isi (by rfl) M.int PyProof.Rows.boot_int (by decide) (by decide)) (pe_one (pe_not (k_isi (pv 0) (by rfl) M.isi (by rfl) M.bool PyProof.Rows.boot_bool (by decide) (by decide)))))), ?_⟩
  refine fin_rt (ds_ret ?_) x r q
  show DE K _ [some d] _
  cases d with
  | int i => exact de_is (de_and (de_ty (de_var rfl) rfl kii) fun _ => de_not (de_ty (de_var rfl) rfl kib)) rfl
  | bool b => exact de_is (de_and (de_ty (de_var rfl) rfl kbi) fun _ => de_not (de_ty (de_var rfl) rfl kbb)) rfl
  | none => exact de_is (de_and (c := true) (de_ty (de_var rfl) rfl kni) (fun z => nomatch z)) rfl
  | str s => exact de_is (de_and (c := true) (de_ty (de_var rfl) rfl ksi) (fun z => nomatch z)) rfl
  | list s => exact de_is (de_and (c := true) (de_ty (de_var rfl) rfl kli) (fun z => nomatch z)) rfl
  | tuple s => exact de_is (de_and (c := true) (de_ty (de_var rfl) rfl kti) (fun z => nomatch z)) rfl
  | dict s =>
    have hk : tyN (.dict s) = "dict" ∨ tyN (.dict s) = "list" := by
      unfold tyN
      split <;> simp_all
    rcases hk with e | e
    · exact de_is (de_and (c := true) (de_ty (de_var rfl) e kdi) (fun z => nomatch z)) rfl
    · exact de_is (de_and (c := true) (de_ty (de_var rfl) e kli) (fun z => nomatch z)) rfl
theorem madeG_bools (b : Nat → Bool) (n : Nat) : madeG (fun _ => true) (fun i => .bool (b i)) n = ((List.range n).map b).map PyData.bool := by
  unfold madeG
  rw [List.filter_eq_self.mpr (fun _ _ => rfl), List.map_map]
  rfl
theorem all_true {n : Nat} {b : Nat → Bool} (h : ∀ i, i < n → b i = true) : ((List.range n).map b).all id = true := by
  rw [List.all_eq_true]
  intro x hx
  obtain ⟨i, hi, rfl⟩ := List.mem_map.mp hx
  exact h i (List.mem_range.mp hi)
theorem signs_at {s : Str} {i : Nat} (h : i < s.cps.size) : (sgnsOf s)[i]? = some (PyData.str (sgn s i)) := by
  unfold sgnsOf sgn
  rw [List.getElem?_map, Array.getElem?_toList, Array.getElem?_eq_getElem h]
  simp [Array.getD, h]
theorem sc_is_name : FnScope ["thing", "sign"] ["thing"] (defScope s_is_name) := ⟨rfl, rfl, rfl, by decide +kernel, rfl, by decide +kernel, by decide +kernel⟩
theorem ok_is_name (F : Fun K "is_name" "is_name" s_is_name f fd) (M : Bl mg) : FnOk P w K mg base CX0 1 f fd ["thing"] (spR K Rw_is_name) := by
  refine F.ok sc_is_name (spR_len (by rintro _ _ ⟨d, rfl, _⟩; rfl)) (fun cdv A outer s H vs Q E hr h => ?_)
  obtain ⟨B, ds, o, x, r, ⟨d, rfl, hn, rfl⟩, q⟩ := h
  refine ⟨_, pss_cons (ps_if (pw_or (pt_not (pt_val (k_isi (pv 0) (by rfl) M.isi (by rfl) M.str PyProof.Rows.boot_str (by decide) (by decide)))) (pw_or1 (pt_not (pt_chain op_le op_le pe_int (pe_callB call_lenR (by rfl) M.len PySem.boot_len (pa_cons (pv 0) pa_nil)) pe_int)))).pt (pss_one (ps_ret pe_bl)) pss_nil)
    (pss_one (ps_ret (pe_callB (cr_all rfl) (by rfl) M.all PyProof.Rows.boot_all (pa_cons
      (pe_lc (own := [("sign", 1)]) (g := gName 1) (tt := tYes) rfl sc_is_name.nd (pi_str (pv 0)) (blkOk_by (N := ["thing", "sign"]) (sc := defScope s_is_name) (by decide +kernel)) (fun _ _ _ _ _ => pg_name (i := 1) sc_is_name.nd rfl (Or.inl rfl)) (fun _ _ _ _ _ => pts_nil)
        (fun _ _ _ _ _ => pe_chain op_leS op_leS pe_str (pv 1) pe_str)) pa_nil)))), ?_⟩
  refine fin_rt ?_ x r q
  show DS K _ [some (.str d), none] _
  unfold isNameS at hn
  rw [Bool.and_eq_true, Bool.and_eq_true] at hn
  obtain ⟨⟨h1, h2⟩, h3⟩ := hn
  have hz : (d.length : Int) ≤ 10 := of_decide_eq_true h2
  have hl : d.length ≤ sizeLine := Nat.le_trans (show d.length ≤ 10 by omega) (by decide)
  have hs : d.cps.size ≤ 10 := by
    have : d.length = d.cps.size := rfl
    omega
  refine ds_guard (b := false) (dt_is (dt_or (dt_not (dt_B (de_ty (de_var rfl) rfl kss))) fun _ => dt_not (dt_test (de_chain de_int (de_cb (da_cons (de_var rfl) da_nil) (cd_lenS hl)) (fun _ => de_int) rd_le fun _ => rd_le))) (by rw [h1, h2]; rfl)) (fun z => nomatch z) fun _ => ds_ret (de_is (de_cb (da_cons (de_is (de_lc (fun _ => true) (fun i => .bool (sgnOk (sgn d i))) (di_str (de_var rfl)) (by decide) (fun _ _ => dt_yes) (fun i hi _ => ?_) (fun _ _ _ => rfl) (by omega)) (congrArg PyData.list (madeG_bools _ _))) da_nil) cd_all) (by rw [h3]))
  refine de_chain de_str (de_var (d := .str (sgn d i)) ?_) (fun _ => de_str) rd_leS fun _ => rd_leS
  rw [signs_at hi]
  rfl
end
end FP
namespace FP
open PySem PySem.Spec PyProof.Rows L2 FC
open Evl (Ex)
theorem look_at {kvs : List (Str × PyData)} (nd : (kvs.map (·.1)).Nodup) : ∀ {i : Nat} {s : Str} {d : PyData}, kvs[i]? = some (s, d) → look kvs s = some d := by
  induction kvs with
  | nil => intro i s d h; simp at h
  | cons q qs ih =>
    intro i s d h
    rw [List.map_cons, List.nodup_cons] at nd
    unfold look
    rw [List.find?_cons]
    cases i with
    | zero =>
      simp at h
      subst h
      simp
    | succ i =>
      have h : qs[i]? = some (s, d) := by simpa using h
      have hm : s ∈ qs.map (·.1) := List.mem_map.mpr ⟨(s, d), List.mem_of_getElem? h, rfl⟩
      have hne : ¬ q.1 = s := by
        intro z
        rw [z] at nd
        exact nd.1 hm
      rw [decide_eq_false hne]
      exact ih nd.2 h
section
variable {P : Program} {w : World} {K : PySem.W.Frag} {mg : Str → Option Value} {base : Heap} {f : Addr} {fd : FuncData}
abbrev CL (P : Program) (w : World) (K : PySem.W.Frag) (mg : Str → Option Value) (base : Heap) (k : Nat) (x : Str) (R : List PyData → PyData → Prop) : Prop := Cl P w K mg base k x (spR K R)
theorem sc_is_kind : FnScope ["kinds", "thing"] ["kinds", "thing"] (defScope s_is_kind) := ⟨rfl, rfl, rfl, by decide +kernel, rfl, by decide +kernel, by decide +kernel⟩
theorem ok_is_kind (F : Fun K "is_kind" "is_kind" s_is_kind f fd) (M : Bl mg) : FnOk P w K mg base CX0 1 f fd ["kinds", "thing"] (spR K Rw_is_kind) := by
  refine F.ok sc_is_kind (spR_len (by rintro _ _ ⟨_, _, rfl, _⟩; rfl)) (fun cdv A outer s H vs Q E hr h => ?_)
  obtain ⟨B, ds, o, x, r, ⟨kvs, t, rfl, rfl⟩, q⟩ := h
  have hu := hu_of hr
  refine ⟨_, pss_one (ps_ret (pe_and (k_isi (pv 1) (by rfl) M.isi (by rfl) M.str PyProof.Rows.boot_str (by decide) (by decide)) (pe_one (pe_cmp (pc_din hu (pv 1) (pv 0)))))), ?_⟩
  refine fin_rt ?_ x r q
  show DS K _ [some (dictOf kvs), some (.str t)] _
  exact ds_ret (de_is (de_and (de_ty (de_var (d := .str t) rfl) rfl kss) fun _ => de_din (de_var rfl) (de_var rfl)) rfl)
theorem sc_is_bounds : FnScope ["low", "high"] ["low", "high"] (defScope s_is_bounds) := ⟨rfl, rfl, rfl, by decide +kernel, rfl, by decide +kernel, by decide +kernel⟩
theorem ok_is_bounds (F : Fun K "is_bounds" "is_bounds" s_is_bounds f fd) (M : Bl mg) (cw : CL P w K mg base 1 "is_whole" Rw_is_whole) : FnOk P w K mg base CX0 2 f fd ["low", "high"] (spR K Rw_is_bounds) := by
  refine F.ok sc_is_bounds (spR_len (by rintro _ _ ⟨_, _, rfl, _⟩; rfl)) (fun cdv A outer s H vs Q E hr h => ?_)
  obtain ⟨B, ds, o, x, r, ⟨i, j, rfl, rfl⟩, q⟩ := h
  refine ⟨_, pss_one (ps_ret (pe_and (pe_cl cw hr (by decide) (by rfl) (pa_cons (pv 0) pa_nil)) (pe_and (pe_cl cw hr (by decide) (by rfl) (pa_cons (pv 1) pa_nil)) (pe_one (pe_cmpR op_le (pv 0) (pv 1) (nomark _)))))), ?_⟩
  refine fin_rt ?_ x r q
  show DS K _ [some (.int i), some (.int j)] _
  exact ds_ret (de_is (de_and (de_call' (da_cons (de_var rfl) da_nil) ⟨.int i, rfl, rfl⟩) fun _ => de_and (de_call' (da_cons (de_var rfl) da_nil) ⟨.int j, rfl, rfl⟩) fun _ => de_op (de_var rfl) (de_var rfl) rd_le) rfl)
theorem eq_str {a b : Str} (hb : SeqAt.shaped (.str b) = true) {K : PySem.W.Frag} (ha : SeqAt.shaped (.str a) = true) : RD K (rEqD K) (.str a) (.str b) (.bool (a == b)) := rd_eq ha hb rfl rfl
theorem sc_is_form : FnScope ["kinds", "thing"] ["kinds", "thing"] (defScope s_is_form) := ⟨rfl, rfl, rfl, by decide +kernel, rfl, by decide +kernel, by decide +kernel⟩
theorem ok_is_form (F : Fun K "is_form" "is_form" s_is_form f fd) (M : Bl mg) (cb : CL P w K mg base 2 "is_bounds" Rw_is_bounds) (ck : CL P w K mg base 1 "is_kind" Rw_is_kind) : FnOk P w K mg base CX0 3 f fd ["kinds", "thing"] (spR K Rw_is_form) := by
  refine F.ok sc_is_form (spR_len (by rintro _ _ ⟨_, _, rfl, _⟩; rfl)) (fun cdv A outer s H vs Q E hr h => ?_)
  obtain ⟨B, ds, o, x, r, ⟨kvs, d, rfl, hf, rfl⟩, q⟩ := h
  have hu64 : (A.deeper (envOfC "is_form" (defScope s_is_form) s.heap.objs.size f cdv)).units + 64 < cLine := by have := hr.un; omega
  refine ⟨_, pss_cons (ps_if (pt_not (pt_val (k_isi (pv 1) (by rfl) M.isi (by rfl) M.tuple PyProof.Rows.boot_tuple (by decide) (by decide)))) (pss_one (ps_ret pe_bl)) pss_nil)
    (pss_cons (ps_if (pt_cmpR (op_eqD hu64) (pe_callB call_lenR (by rfl) M.len PySem.boot_len (pa_cons (pv 1) pa_nil)) pe_int (nomark _))
      (pss_one (ps_ret (pe_and (pe_cmpR (op_eqD hu64) (pe_ix ix_tup (pv 1) pe_int (fun _ _ => rfl)) pe_str (nomark _)) (pe_one (pe_cl cb hr (by decide) (by rfl) (pa_cons (pe_ix ix_tup (pv 1) pe_int (fun _ _ => rfl)) (pa_cons (pe_ix ix_tup (pv 1) pe_int (fun _ _ => rfl)) pa_nil))))))) pss_nil)
    (pss_cons (ps_if (pt_cmpR (op_neD hu64) (pe_callB call_lenR (by rfl) M.len PySem.boot_len (pa_cons (pv 1) pa_nil)) pe_int (nomark _)) (pss_one (ps_ret pe_bl)) pss_nil)
    (pss_cons (ps_if (pt_cmpR (op_eqD hu64) (pe_ix ix_tup (pv 1) pe_int (fun _ _ => rfl)) pe_str (nomark _)) pss_never pss_nil)
    (pss_cons (ps_if (pt_cmpR (op_eqD hu64) (pe_ix ix_tup (pv 1) pe_int (fun _ _ => rfl)) pe_str (nomark _)) pss_never pss_nil)
    (pss_one (ps_ret (pe_and (pe_cmpR (op_eqD hu64) (pe_ix ix_tup (pv 1) pe_int (fun _ _ => rfl)) pe_str (nomark _)) (pe_one (pe_cl ck hr (by decide) (by rfl) (pa_cons (pv 0) (pa_cons (pe_ix ix_tup (pv 1) pe_int (fun _ _ => rfl)) pa_nil))))))))))), ?_⟩
  refine fin_rt ?_ x r q
  show DS K _ [some (dictOf kvs), some d] _
  cases hf with
  | @nums lo hi h =>
    refine ds_guard (b := false) (dt_is (dt_not (dt_B (de_ty (de_var rfl) rfl ktt))) rfl) (fun z => nomatch z) fun _ => ?_
    refine ds_guard (b := true) (dt_test (de_op (de_cb (da_cons (de_var rfl) da_nil) cd_lenT) de_int (rd_eq rfl rfl rfl rfl))) (fun _ => ds_ret ?_) (fun z => nomatch z)
    refine de_is (de_and (de_op (de_op (de_var rfl) de_int (rd_ixT (j := 0) rfl rfl)) de_str (rd_eq (by decide +kernel) (by decide +kernel) rfl rfl)) fun _ => de_call' (da_cons (de_op (de_var rfl) de_int (rd_ixT (j := 1) rfl rfl)) (da_cons (de_op (de_var rfl) de_int (rd_ixT (j := 2) rfl rfl)) da_nil)) ⟨lo, hi, rfl, rfl⟩) ?_
    rw [decide_eq_true h]
    exact congrArg PyData.bool (by decide +kernel)
  | @rows t h =>
    refine ds_guard (b := false) (dt_is (dt_not (dt_B (de_ty (de_var rfl) rfl ktt))) rfl) (fun z => nomatch z) fun _ => ?_
    refine ds_guard (b := false) (dt_test (de_op (de_cb (da_cons (de_var rfl) da_nil) cd_lenT) de_int (rd_eq rfl rfl rfl rfl))) (fun z => nomatch z) fun _ => ?_
    refine ds_guard (b := false) (dt_test (de_op (de_cb (da_cons (de_var rfl) da_nil) cd_lenT) de_int (rd_ne rfl rfl rfl rfl))) (fun z => nomatch z) fun _ => ?_
    refine ds_guard (b := false) (dt_is (dt_test (de_op (de_op (de_var rfl) de_int (rd_ixT (j := 0) rfl rfl)) de_str (rd_eq (by decide +kernel) (by decide +kernel) rfl rfl))) (by decide +kernel)) (fun z => nomatch z) fun _ => ?_
    refine ds_guard (b := false) (dt_is (dt_test (de_op (de_op (de_var rfl) de_int (rd_ixT (j := 0) rfl rfl)) de_str (rd_eq (by decide +kernel) (by decide +kernel) rfl rfl))) (by decide +kernel)) (fun z => nomatch z) fun _ => ?_
    refine ds_ret (de_is (de_and (de_op (de_op (de_var rfl) de_int (rd_ixT (j := 0) rfl rfl)) de_str (rd_eq (by decide +kernel) (by decide +kernel) rfl rfl)) fun _ => de_call' (da_cons (de_var rfl) (da_cons (de_op (de_var rfl) de_int (rd_ixT (j := 1) rfl rfl)) da_nil)) ⟨kvs, t, rfl, rfl⟩) ?_)
    rw [h]
    exact congrArg PyData.bool (by decide +kernel)
theorem sc_can_be_built : FnScope ["form", "built", "_", "parts", "part"] ["form", "built"] (defScope s_can_be_built) := ⟨rfl, rfl, rfl, by decide +kernel, rfl, by decide +kernel, by decide +kernel⟩
theorem ok_can_be_built (F : Fun K "can_be_built" "can_be_built" s_can_be_built f fd) (M : Bl mg) : FnOk P w K mg base CX0 1 f fd ["form", "built"] (spR K Rw_can_be_built) := by
  refine F.ok sc_can_be_built (spR_len (by rintro _ _ ⟨_, _, _, rfl, _⟩; rfl)) (fun cdv A outer s H vs Q E hr h => ?_)
  obtain ⟨B, ds, o, x, r, ⟨kvs, d, e, rfl, hf, rfl⟩, q⟩ := h
  have hu64 : (A.deeper (envOfC "can_be_built" (defScope s_can_be_built) s.heap.objs.size f cdv)).units + 64 < cLine := by have := hr.un; omega
  refine ⟨_, pss_cons (ps_if (pt_cmpR (op_neD hu64) (pe_ix ix_tup (pv 0) pe_int (fun _ _ => rfl)) pe_str (nomark _)) (pss_one (ps_ret pe_bl)) pss_nil) pss_never, ?_⟩
  refine fin_rt ?_ x r q
  show DS K _ [some d, some e, none, none, none] _
  cases hf with
  | nums h => exact ds_guard (b := true) (dt_is (dt_test (de_op (de_op (de_var rfl) de_int (rd_ixT (j := 0) rfl rfl)) de_str (rd_ne (by decide +kernel) (by decide +kernel) rfl rfl))) (by decide +kernel)) (fun _ => ds_ret de_bl) (fun z => nomatch z)
  | rows h => exact ds_guard (b := true) (dt_is (dt_test (de_op (de_op (de_var rfl) de_int (rd_ixT (j := 0) rfl rfl)) de_str (rd_ne (by decide +kernel) (by decide +kernel) rfl rfl))) (by decide +kernel)) (fun _ => ds_ret de_bl) (fun z => nomatch z)
end
end FP
namespace FP
open PySem PySem.Spec PyProof.Rows L2 FC
open Evl (Ex)
section
variable {P : Program} {w : World} {K : PySem.W.Frag} {mg : Str → Option Value} {base : Heap} {f : Addr} {fd : FuncData}
def rLenD : List V → Hp → VK → Prop := fun xs H Q => ∃ a kvs, xs = [V.ref a] ∧ H a = some (.dK kvs) ∧ Q (.int (kvs.length : Int)) H
theorem call_lenDR {X : Cx} : CallR X (.builtin "len") rLenD := call_lenD
theorem cd_lenD {kvs : List (Str × PyData)} : CD K rLenD [dictU kvs] (.int kvs.length) := fun B H vs x r Q q => by
  cases r with
  | cons r1 r2 =>
    cases r2
    obtain ⟨a, ks, rfl, e, kr, nd⟩ := rt_dictU r1
    refine ⟨a, ks, rfl, x _ _ e, ?_⟩
    have hl : ks.length = kvs.length := Paired.length kr
    rw [hl]
    exact q _ B H (.refl x) (.d (.int _))
def keyS (kvs : List (Str × PyData)) (m : Nat) : Str := (kvs.getD m (Str.empty, .none)).1
def keysL (kvs : List (Str × PyData)) : List PyData := madeG (fun _ => true) (fun m => .str (keyS kvs m)) kvs.length
theorem keysL_len (kvs : List (Str × PyData)) : (keysL kvs).length = kvs.length := by
  unfold keysL madeG
  rw [List.filter_eq_self.mpr (fun _ _ => rfl), List.length_map, List.length_range]
theorem keyD_at {kvs : List (Str × PyData)} {m : Nat} (h : m < kvs.length) : keyD kvs m = some (.str (keyS kvs m)) := by
  unfold keyD keyS
  rw [List.getElem?_eq_getElem h, List.getD_eq_getElem?_getD, List.getElem?_eq_getElem h]
  rfl
theorem keepP_key (kvs : List (Str × PyData)) (m : Nat) : keepP (keyD kvs m) = keyD kvs m := by
  unfold keyD
  cases kvs[m]? <;> rfl
theorem sc_all_have_values : FnScope ["kinds", "built", "_", "kind"] ["kinds"] (defScope s_all_have_values) := ⟨rfl, rfl, rfl, by decide +kernel, rfl, by decide +kernel, by decide +kernel⟩
theorem ok_all_have_values (F : Fun K "all_have_values" "all_have_values" s_all_have_values f fd) (M : Bl mg) (cb : CL P w K mg base 1 "can_be_built" Rw_can_be_built) : FnOk P w K mg base CX0 2 f fd ["kinds"] (spR K Rw_all_have_values) := by
  refine F.ok sc_all_have_values (spR_len (by rintro _ _ ⟨_, rfl, _⟩; rfl)) (fun cdv A outer s H vs Q E hr h => ?_)
  obtain ⟨B, ds, o, x, r, ⟨kvs, rfl, ok, rfl⟩, q⟩ := h
  have hu := hu_of hr
  have hu64 : (A.deeper (envOfC "all_have_values" (defScope s_all_have_values) s.heap.objs.size f cdv)).units + 64 < cLine := by have := hr.un; omega
  refine ⟨_, pss_cons (ps_set (i := 1) sc_all_have_values.nd rfl (Or.inr rfl) (pe_lst pa_nil))
    (pss_cons (ps_lock (ps_for PassesOwn.never rfl (pi_keys (pv 0)) (pg_name (i := 2) sc_all_have_values.nd rfl (Or.inl rfl))
      (pss_one (ps_set (i := 1) sc_all_have_values.nd rfl (Or.inr rfl)
        (pe_lc (own := [("kind", 3)]) (g := gName 3) rfl sc_all_have_values.nd (pi_keys (pv 0)) (blkOk_by (N := ["kinds", "built", "_", "kind"]) (sc := defScope s_all_have_values) (by decide +kernel)) (fun _ _ _ _ _ => pg_name (i := 3) sc_all_have_values.nd rfl (Or.inl rfl))
          (fun _ _ _ _ _ => pts_one (pt_val (pe_cl cb hr (by decide) (by rfl) (pa_cons (pe_dget hu (pv 0) (pv 3) (fun _ _ => rfl)) (pa_cons (pv 1) pa_nil)))))
          (fun _ _ _ _ _ => pv 3))))))
    (pss_one (ps_ret (pe_cmpR (op_eqD hu64) (pe_callB call_lenR (by rfl) M.len PySem.boot_len (pa_cons (pv 1) pa_nil)) (pe_callB call_lenDR (by rfl) M.len PySem.boot_len (pa_cons (pv 0) pa_nil)) (nomark _))))), ?_⟩
  refine fin_rt ?_ x r q
  show DS K _ [some (dictU kvs), none, none, none] _
  obtain ⟨m, hm⟩ : ∃ m, kvs.length = m + 1 := ⟨kvs.length - 1, by have := ok.ne; cases kvs with | nil => exact absurd rfl this | cons => simp⟩
  refine ds_seq (ds_set (de_lst da_nil rfl (by decide))) (ds_seq (G1 := [some (dictU kvs), some (.list (keysL kvs)), keyD kvs m, none]) (ds_lock (i := 0) (kvs := kvs) (Gn := fun a => [some (dictL a kvs), some (.list (keysL kvs)), keyD kvs m, none]) rfl (fun a => rfl) (fun a => ?_) (fun a => ?_)) (ds_ret ?_))
  · show [some (dictU kvs), some (.list (keysL kvs)), keepP (keyD kvs m), none] = _
    rw [keepP_key]
  · let Gs : Nat → List (Option PyData) := fun i => match i with
      | 0 => [some (dictL a kvs), some (.list []), none, none]
      | i + 1 => [some (dictL a kvs), some (.list (keysL kvs)), keyD kvs i, none]
    refine ds_is (ds_for Gs (di_keys (a := a) (de_var rfl)) rfl fun i hi => ?_) ?_
    rotate_left
    · show Out.nx (Gs kvs.length) = _
      rw [hm]
    · have key : ∀ (e : PyData) (x2 : Option PyData), DS K (tAsg (tLc (iKeys (tVar 0)) (gName 3) (tB (tCall (spR K Rw_can_be_built) [] E0 (tCons (tDGet (tVar 0) (tVar 3)) (tCons (tVar 1) tNil)))) (tVar 3) [3]) (gName 1)) [some (dictL a kvs), some e, x2, none] (.nx [some (dictL a kvs), some (.list (keysL kvs)), x2, none]) := by
        intro e x2
        refine ds_is (ds_set (de_lc (fun _ => true) (fun m => .str (keyS kvs m)) (di_keys (a := a) (de_var rfl)) (by decide) (fun i hi => ?_) (fun i hi _ => ?_) (fun _ _ _ => rfl) (Nat.le_trans ok.few (by decide)))) rfl
        · have hk := keyD_at hi
          show DT K _ [some (dictL a kvs), some e, x2, keyD kvs i] _
          rw [hk]
          have hq : kvs[i]? = some (keyS kvs i, kvs[i].2) := by
            unfold keyS
            rw [List.getD_eq_getElem?_getD, List.getElem?_eq_getElem hi]
            rfl
          exact dt_B (de_call' (da_cons (de_dget (de_ofL (de_var rfl)) (de_var rfl) (look_at ok.nd hq)) (da_cons (de_var rfl) da_nil)) ⟨kvs, _, _, rfl, ok.fm (keyS kvs i, kvs[i].2) (List.mem_of_getElem? hq), rfl⟩)
        · show DE K _ [some (dictL a kvs), some e, x2, keyD kvs i] _
          rw [keyD_at hi]
          exact de_var rfl
      cases i with
      | zero => exact key _ _
      | succ i => exact key _ _
  · refine de_is (de_op (de_cb (da_cons (de_var rfl) da_nil) cd_lenL) (de_cb (da_cons (de_var rfl) da_nil) cd_lenD) (rd_eq rfl rfl rfl rfl)) ?_
    rw [keysL_len]
    show PyData.bool (((kvs.length : Int)) == (kvs.length : Int)) = _
    rw [beq_self_eq_true]
theorem sc_is_kinds : FnScope ["thing", "kind", "form"] ["thing"] (defScope s_is_kinds) := ⟨rfl, rfl, rfl, by decide +kernel, rfl, by decide +kernel, by decide +kernel⟩
theorem ok_is_kinds (F : Fun K "is_kinds" "is_kinds" s_is_kinds f fd) (M : Bl mg) (cn : CL P w K mg base 1 "is_name" Rw_is_name) (cf : CL P w K mg base 3 "is_form" Rw_is_form) (ca : CL P w K mg base 2 "all_have_values" Rw_all_have_values) : FnOk P w K mg base CX0 4 f fd ["thing"] (spR K Rw_is_kinds) := by
  refine F.ok sc_is_kinds (spR_len (by rintro _ _ ⟨_, rfl, _⟩; rfl)) (fun cdv A outer s H vs Q E hr h => ?_)
  obtain ⟨B, ds, o, x, r, ⟨kvs, rfl, ok, rfl⟩, q⟩ := h
  have hu := hu_of hr
  refine ⟨_, pss_cons (ps_if (pw_or (pt_not (pt_val (k_isi (pv 0) (by rfl) M.isi (by rfl) M.dict PyProof.Rows.boot_dict (by decide) (by decide)))) (pw_or1 (pt_not (pt_truth (pv 0) (by intro _; rfl))))).pt (pss_one (ps_ret pe_bl)) pss_nil)
    (pss_cons (ps_if (pt_not (pt_val (pe_callB (cr_all rfl) (by rfl) M.all PyProof.Rows.boot_all (pa_cons (pe_lock
      (pe_lc (own := [("kind", 1)]) (g := gName 1) (tt := tYes) rfl sc_is_kinds.nd (pi_keys (pv 0)) (blkOk_by (N := ["thing", "kind", "form"]) (sc := defScope s_is_kinds) (by decide +kernel)) (fun _ _ _ _ _ => pg_name (i := 1) sc_is_kinds.nd rfl (Or.inl rfl)) (fun _ _ _ _ _ => pts_nil)
        (fun _ _ _ _ _ => pe_cl cn hr (by decide) (by rfl) (pa_cons (pv 1) pa_nil)))) pa_nil)))) (pss_one (ps_ret pe_bl)) pss_nil)
    (pss_cons (ps_if (pt_not (pt_val (pe_callB (cr_all rfl) (by rfl) M.all PyProof.Rows.boot_all (pa_cons (pe_lock
      (pe_lc (own := [("form", 2)]) (g := gName 2) (tt := tYes) rfl sc_is_kinds.nd (pi_values (pv 0)) (blkOk_by (N := ["thing", "kind", "form"]) (sc := defScope s_is_kinds) (by decide +kernel)) (fun _ _ _ _ _ => pg_name (i := 2) sc_is_kinds.nd rfl (Or.inl rfl)) (fun _ _ _ _ _ => pts_nil)
        (fun _ _ _ _ _ => pe_cl cf hr (by decide) (by rfl) (pa_cons (pv 0) (pa_cons (pv 2) pa_nil))))) pa_nil)))) (pss_one (ps_ret pe_bl)) pss_nil)
    (pss_one (ps_ret (pe_cl ca hr (by decide) (by rfl) (pa_cons (pv 0) pa_nil)))))), ?_⟩
  refine fin_rt ?_ x r q
  show DS K _ [some (dictU kvs), none, none] _
  have hne : kvs.isEmpty = false := by
    have := ok.ne
    cases kvs with
    | nil => exact absurd rfl this
    | cons => rfl
  have all1 : ∀ n, ((List.range n).map fun _ => true).all id = true := fun n => all_true fun _ _ => rfl
  refine ds_guard (b := false) (dt_is (dt_or (dt_not (dt_B (de_ty (de_var rfl) rfl kdd))) fun _ => dt_not (dt_dict (de_var rfl))) (by rw [hne]; rfl)) (fun z => nomatch z) fun _ => ?_
  refine ds_guard (b := false) (dt_is (dt_not (dt_B (de_cb (da_cons (de_lock (i := 0) (kvs := kvs) (d := .list (((List.range kvs.length).map fun _ => true).map PyData.bool)) rfl rfl fun a => de_is (de_lc (fun _ => true) (fun _ => .bool true) (di_keys (a := a) (de_var rfl)) (by decide) (fun _ _ => dt_yes) (fun i hi _ => ?_) (fun _ _ _ => rfl) (Nat.le_trans ok.few (by decide))) (congrArg PyData.list (madeG_bools (fun _ => true) _))) da_nil) cd_all))) (by rw [all1]; rfl)) (fun z => nomatch z) fun _ => ?_
  · show DE K _ [some (dictL a kvs), keyD kvs i, none] _
    rw [keyD_at hi]
    refine de_call' (da_cons (de_var rfl) da_nil) ⟨_, rfl, ok.nm (keyS kvs i, kvs[i].2) ?_, rfl⟩
    have hq : kvs[i]? = some (keyS kvs i, kvs[i].2) := by
      unfold keyS
      rw [List.getD_eq_getElem?_getD, List.getElem?_eq_getElem hi]
      rfl
    exact List.mem_of_getElem? hq
  refine ds_guard (b := false) (dt_is (dt_not (dt_B (de_cb (da_cons (de_lock (i := 0) (kvs := kvs) (d := .list (((List.range kvs.length).map fun _ => true).map PyData.bool)) rfl rfl fun a => de_is (de_lc (fun _ => true) (fun _ => .bool true) (di_vals (a := a) (de_var rfl)) (by decide) (fun _ _ => dt_yes) (fun i hi _ => ?_) (fun _ _ _ => rfl) (Nat.le_trans ok.few (by decide))) (congrArg PyData.list (madeG_bools (fun _ => true) _))) da_nil) cd_all))) (by rw [all1]; rfl)) (fun z => nomatch z) fun _ => ?_
  · have hq : kvs[i]? = some (kvs[i].1, kvs[i].2) := List.getElem?_eq_getElem hi
    have hv : valD kvs i = some kvs[i].2 := by
      unfold valD
      rw [hq]
      rfl
    show DE K _ [some (dictL a kvs), none, valD kvs i] _
    rw [hv]
    exact de_call' (da_cons (de_ofL (de_var rfl)) (da_cons (de_var rfl) da_nil)) ⟨kvs, _, rfl, ok.fm _ (List.mem_of_getElem? hq), rfl⟩
  exact ds_ret (de_call' (da_cons (de_var rfl) da_nil) ⟨kvs, rfl, ok, rfl⟩)
end
end FP
namespace FP
open PySem PySem.Spec PyProof.Rows L2 FC
open Evl (Ex)
abbrev s_values_within : Stmt := topS 25
/-! ### a form and all that it holds -/
def pairD (p : PyData × PyData) : PyData := .tuple [p.1, p.2]
inductive Sweep (W : PyData → PyData → PyData → Prop) : Nat → List (PyData × PyData) → Bool → Prop where
  | done (n : Nat) : Sweep W n [] true
  | bad {n : Nat} {ws : List (PyData × PyData)} {k t : PyData} (h : W k t .none) : Sweep W (n + 1) (ws ++ [(k, t)]) false
  | more {n : Nat} {ws held : List (PyData × PyData)} {k t : PyData} {b : Bool} (h : W k t (listX (held.map pairD))) (hl : ws.length + held.length ≤ 100000) (s : Sweep W n (ws ++ held) b) : Sweep W (n + 1) (ws ++ [(k, t)]) b
theorem Sweep.leaf {W : PyData → PyData → PyData → Prop} {k t : PyData} (h : W k t (listX [])) : Sweep W 1 [(k, t)] true :=
  Sweep.more (ws := []) (held := []) (n := 0) h (by decide) (.done 0)
theorem go_mut {B H B' H' : Hp} {l : Addr} {o : HO} (g : Go B H B' H') (n : H l = none) (nb : B' l = none) : Go B H B' (upd H' l o) :=
  ⟨g.eb, Evl.Ex.mut g.eh n, Evl.Ex.mut g.sub nb, g.fr⟩
section
variable {P : Program} {w : World} {K : PySem.W.Frag} {mg : Str → Option Value} {base : Heap} {f : Addr} {fd : FuncData}
def spSound (P : Program) (w : World) (K : PySem.W.Frag) (mg : Str → Option Value) (base : Heap) (kk : Nat) : Sp := fun vs H Q _ =>
  ∃ (B : Hp) (v0 v1 v2 : V) (fw : Addr) (fdw : FuncData) (psw : List Str) (W : List PyData → PyData → Prop) (dk k t : PyData) (b : Bool) (n : Nat),
    Ex B H ∧ FnOk P w K mg base CX0 kk fw fdw psw (spR K W) ∧ PySem.W.keepIn K (.ref fw) = true ∧ Binds K fdw psw [] ∧ vs = [v0, v1, v2, .ref fw] ∧ Rt K B v0 dk ∧ Dp K B v1 k ∧ Dp K B v2 t ∧
    Sweep (fun k t o => W [dk, k, t] o) n [(k, t)] b ∧ ∀ v B' H', Go B H B' H' → Rt K B' v (.bool b) → Q v H'
theorem sc_is_sound : FnScope ["kinds", "kind", "thing", "within", "waiting", "inner_kind", "inner", "held"] ["kinds", "kind", "thing", "within"] (defScope s_is_sound) := ⟨rfl, rfl, rfl, by decide +kernel, rfl, by decide +kernel, by decide +kernel⟩
theorem ok_is_sound {kk : Nat} (F : Fun K "is_sound" "is_sound" s_is_sound f fd) : FnOk P w K mg base CX0 (kk + 1) f fd ["kinds", "kind", "thing", "within"] (spSound P w K mg base kk) := by
  refine F.ok sc_is_sound (by rintro vs H Q E ⟨B, v0, v1, v2, fw, fdw, psw, W, dk, k, t, b, n, _, _, _, _, rfl, _⟩; rfl) (fun cdv A outer s H vs Q E hr h => ?_)
  obtain ⟨B, v0, v1, v2, fw, fdw, psw, W, dk, k, t, b, n, x, Fw, kw, bw, rfl, r0, r1, r2, sw, q⟩ := h
  have nd := sc_is_sound.nd
  refine ⟨_, pss_cons (ps_set (i := 4) nd rfl (Or.inl rfl) (pe_lst (pa_cons (pe_tup (pa_cons (pv 1) (pa_cons (pv 2) pa_nil))) pa_nil)))
    (pss_cons (ps_while PassesOwn.never (pt_truth (pv 4) (by intro _; rfl))
      (pss_cons (ps_asg (pe_bm0 PySem.F.plainAttrs_list PySem.F.slot_list_pop PySem.F.type_list_pop mt_pop (pv 4)) (pg_tup rfl (pgs_cons (pg_name (i := 5) nd rfl (Or.inl rfl)) (pgs_cons (pg_name (i := 6) nd rfl (Or.inl rfl)) pgs_nil))))
      (pss_cons (ps_set (i := 7) nd rfl (Or.inl rfl) (pe_callL (i := 3) Fw hr rfl (Or.inl rfl) kw bw .nil pass0 (pa_cons (pv 0) (pa_cons (pv 5) (pa_cons (pv 6) pa_nil)))))
      (pss_cons (ps_if (pt_cmp (pc_isN (pv 7))) (pss_one (ps_ret pe_bl)) pss_nil)
      (pss_one (ps_expr (pe_bm PySem.F.plainAttrs_list PySem.F.slot_list_extend PySem.F.type_list_extend mt_extend (pv 4) (pa_cons (pv 7) pa_nil))))))))
    (pss_one (ps_ret pe_bl))), ?_⟩
  refine ⟨v1, rfl, v2, rfl, by show 2 ≤ sizeLine; decide, fun p hp => ⟨by show 1 ≤ sizeLine; decide, fun l hl => ?_⟩⟩
  have g1 : Go B H (upd B p (.tup [v1, v2])) (upd H p (.tup [v1, v2])) := Go.new x hp
  have hlH : H l = none := Evl.fresh_back g1.eh hl
  have hlB : (upd B p (.tup [v1, v2])) l = none := sub_none g1.sub hl
  refine ⟨fun m σ Hc => ∃ (B' : Hp) (ws : List (PyData × PyData)) (us : List V) (x5 x6 x7 : Option V), σ = [some v0, some v1, some v2, some (.ref fw), some (.ref l), x5, x6, x7] ∧ Go B H B' Hc ∧ B' l = none ∧ Hc l = some (.lst us) ∧ DpAll K B' us (ws.map pairD) ∧ Sweep (fun k t o => W [dk, k, t] o) m ws b, ⟨n, ?_⟩, ?_⟩
  · refine ⟨_, [(k, t)], [.ref p], none, none, none, rfl, g1.trans (Go.own g1.sub hl), hlB, upd_same, .cons (.tup (.inl (.inl upd_same)) (.cons (dp_ex g1.eb _ _ r1) (.cons (dp_ex g1.eb _ _ r2) .nil))) .nil, sw⟩
  · rintro m σ Hc ⟨B', ws, us, x5, x6, x7, rfl, g, nb, hl', da, sw'⟩
    refine ⟨.ref l, rfl, !us.isEmpty, .inl ⟨us, .inl (.inl hl'), rfl⟩, ?_⟩
    have hlen := dps_len da
    rw [List.length_map] at hlen
    cases sw' with
    | done m =>
      have : us = [] := List.eq_nil_of_length_eq_zero hlen
      subst this
      refine iteF ?_
      exact q _ B' Hc g (.d (.bl true))
    | @bad m ws k' t' hW =>
      rw [List.map_append] at da
      have hne : us.isEmpty = false := by
        cases us with
        | nil => simp at hlen
        | cons => rfl
      rw [hne]
      refine iteT ?_
      obtain ⟨y, hy, dy⟩ := dps_get (i := ws.length) da (d := pairD (k', t')) (by rw [List.getElem?_append_right (by simp)]; simp)
      have hul : us.length - 1 = ws.length := by rw [hlen, List.length_append]; simp
      refine ⟨fun _ _ => False, fun _ _ z => z.elim, .ref l, rfl, .inl ⟨rfl, _, .inl (.inl hl')⟩, l, us, y, rfl, rfl, hl', by rw [hul]; exact hy, ?_⟩
      have g2 := go_mut g hlH nb (o := .lst us.dropLast)
      cases dy with
      | @tup b2 zs _ hz hza =>
        cases hza with
        | cons q1 hza =>
          cases hza with
          | cons q2 hza =>
            cases hza
            refine ⟨b2, _, rfl, ex_t g2.sub hz, rfl, _, _, rfl, _, _, rfl, rfl, ?_⟩
            refine ⟨rfl, _, rfl, _, rfl, _, rfl, ?_⟩
            refine ⟨B', [dk, k', t'], .none, g2.sub, .cons (r0.ex g.eb) (.cons (.d q1) (.cons (.d q2) .nil)), hW, fun v B3 H3 g3 r3 => ?_⟩
            have r3 := r3.dp rfl
            cases r3
            refine ⟨.non, rfl, _, rfl, ?_⟩
            refine iteT ?_
            exact q _ B3 H3 (g2.trans g3) (.d (.bl false))
    | @more m ws held k' t' _ hW hlen2 sw2 =>
      rw [List.map_append] at da
      have hne : us.isEmpty = false := by
        cases us with
        | nil => simp at hlen
        | cons => rfl
      rw [hne]
      refine iteT ?_
      obtain ⟨y, hy, dy⟩ := dps_get (i := ws.length) da (d := pairD (k', t')) (by rw [List.getElem?_append_right (by simp)]; simp)
      have hul : us.length - 1 = ws.length := by rw [hlen, List.length_append]; simp
      refine ⟨fun σ' H' => ∃ (B' : Hp) (us : List V) (x5 x6 x7 : Option V), σ' = [some v0, some v1, some v2, some (.ref fw), some (.ref l), x5, x6, x7] ∧ Go B H B' H' ∧ B' l = none ∧ H' l = some (.lst us) ∧ DpAll K B' us ((ws ++ held).map pairD), ?_, .ref l, rfl, .inl ⟨rfl, _, .inl (.inl hl')⟩, l, us, y, rfl, rfl, hl', by rw [hul]; exact hy, ?_⟩
      · rintro σ' H' ⟨B2, us2, x5, x6, x7, e, g2, nb2, h2, d2⟩
        exact ⟨m, Nat.lt_succ_self m, B2, _, us2, x5, x6, x7, e, g2, nb2, h2, d2, sw2⟩
      have g2 := go_mut g hlH nb (o := .lst us.dropLast)
      have dl : DpAll K B' us.dropLast (ws.map pairD) := by
        have key : ∀ (as : List PyData) (z : PyData) (vs : List V), DpAll K B' vs (as ++ [z]) → DpAll K B' vs.dropLast as := by
          intro as
          induction as with
          | nil =>
            intro z vs h
            cases h with
            | cons h1 h2 =>
              cases h2
              exact .nil
          | cons a as ih =>
            intro z vs h
            cases h with
            | cons h1 h2 =>
              rename_i v vs'
              have hne : vs' ≠ [] := by
                intro e
                subst e
                have := dps_len h2
                simp at this
              rw [List.dropLast_cons_of_ne_nil hne]
              exact .cons h1 (ih z vs' h2)
        exact key _ _ _ da
      cases dy with
      | @tup b2 zs _ hz hza =>
        cases hza with
        | cons q1 hza =>
          cases hza with
          | cons q2 hza =>
            cases hza
            refine ⟨b2, _, rfl, ex_t g2.sub hz, rfl, _, _, rfl, _, _, rfl, rfl, ?_⟩
            refine ⟨rfl, _, rfl, _, rfl, _, rfl, ?_⟩
            refine ⟨B', [dk, k', t'], listX (held.map pairD), g2.sub, .cons (r0.ex g.eb) (.cons (.d q1) (.cons (.d q2) .nil)), hW, fun v B3 H3 g3 r3 => ?_⟩
            obtain ⟨c, zs, rfl, hc, hd⟩ := rt_listX r3
            have hl3 : H3 l = some (.lst us.dropLast) := g3.eh l _ upd_same
            have hlz := dps_len hd
            have hlu := dps_len dl
            rw [List.length_map] at hlz hlu
            refine ⟨.ref c, rfl, _, rfl, ?_⟩
            refine iteF ?_
            refine ⟨.ref l, rfl, .inl ⟨rfl, _, .inl (.inl hl3)⟩, .ref c, rfl, l, c, us.dropLast, zs, rfl, rfl, hl3, g3.sub _ _ hc, by rw [hlz, hlu]; exact Nat.le_trans hlen2 (by decide), ?_⟩
            have nb3 : B3 l = none := g3.fr l _ upd_same nb
            refine ⟨B3, us.dropLast ++ zs, _, _, _, rfl, go_mut (g2.trans g3) hlH nb3, nb3, upd_same, ?_⟩
            rw [List.map_append]
            exact dps_append hd (dps_ex g3.eb _ _ dl)
end
end FP
namespace FP
open PySem PySem.Spec PyProof.Rows L2 FC
open Evl (Ex)
abbrev s_check_kind : Stmt := topS 29
abbrev s_check_value : Stmt := topS 30
/-! ### the mirrors -/
def numsD (lo hi : Int) : PyData := .tuple [.str "numbers", .int lo, .int hi]
def rowsD (c : Str) : PyData := .tuple [.str "rows", .str c]
def fromD (a b : PyData) : PyData := .tuple [.str "from", a, b]
def bnd : PyData → Bool
  | .none => true
  | .int _ => true
  | _ => false
def loB : PyData → Int → Bool
  | .int a, i => decide (a ≤ i)
  | _, _ => true
def hiB : PyData → Int → Bool
  | .int b, i => decide (i ≤ b)
  | _, _ => true
/-- a pattern of numbers -/
inductive OkPat : PyData → Prop where
  | any : OkPat .none
  | range {a b : PyData} (ha : bnd a = true) (hb : bnd b = true) : OkPat (fromD a b)
def fit : PyData → Int → Bool
  | .tuple [_, a, b], i => loB a i && hiB b i
  | _, _ => true
def Rw_is_bound : List PyData → PyData → Prop := fun ds o => ∃ d, ds = [d] ∧ bnd d = true ∧ o = .bool true
def Rw_is_range_pattern : List PyData → PyData → Prop := fun ds o => ∃ a b, ds = [fromD a b] ∧ bnd a = true ∧ bnd b = true ∧ o = .bool true
def Rw_patterns_within : List PyData → PyData → Prop := fun ds o => ∃ kvs k p lo hi, ds = [dictOf kvs, .str k, p] ∧ OkPat p ∧ look kvs k = some (numsD lo hi) ∧ o = listX []
def Rw_is_pattern : List PyData → PyData → Prop := fun ds o => ∃ kvs k p lo hi, ds = [dictOf kvs, .str k, p] ∧ OkPat p ∧ look kvs k = some (numsD lo hi) ∧ o = .bool true
def Rw_pattern_fits : List PyData → PyData → Prop := fun ds o => ∃ p i, ds = [p, .int i] ∧ OkPat p ∧ o = .bool (fit p i)
def clauseD (c : PyData × Str) : PyData := .tuple [c.1, .str c.2]
def OkClause (c : PyData × Str) : Prop := OkPat c.1 ∧ isNameS c.2 = true
def Rw_is_clause : List PyData → PyData → Prop := fun ds o => ∃ kvs k c lo hi, ds = [dictOf kvs, .str k, clauseD c] ∧ OkClause c ∧ look kvs k = some (numsD lo hi) ∧ o = .bool true
def Rw_is_clauses : List PyData → PyData → Prop := fun ds o => ∃ (kvs : List (Str × PyData)) (k : Str) (cs : List (PyData × Str)) (lo hi : Int), ds = [dictOf kvs, .str k, .list (cs.map clauseD)] ∧ (∀ c ∈ cs, OkClause c) ∧ cs.length ≤ 1000 ∧ look kvs k = some (numsD lo hi) ∧ o = .bool true
/-- the place of the first clause that fits -/
def taken (cs : List (PyData × Str)) (i : Int) (o : PyData) : Prop :=
  (∃ m c, cs[m]? = some c ∧ (∀ j c', j < m → cs[j]? = some c' → fit c'.1 i = false) ∧ fit c.1 i = true ∧ o = .int (m : Nat)) ∨ ((∀ c ∈ cs, fit c.1 i = false) ∧ o = .none)
def Rw_first_fitting : List PyData → PyData → Prop := fun ds o => ∃ (cs : List (PyData × Str)) (i : Int), ds = [.list (cs.map clauseD), .int i] ∧ (∀ c ∈ cs, OkClause c) ∧ cs.length ≤ 1000 ∧ taken cs i o
def Rw_values_within : List PyData → PyData → Prop := fun ds o => ∃ kvs k v, ds = [dictOf kvs, .str k, v] ∧
  ((∃ lo hi i, look kvs k = some (numsD lo hi) ∧ v = .int i ∧ lo ≤ i ∧ i ≤ hi ∧ o = listX []) ∨
   (∃ (c : Str) (xs : List PyData), look kvs k = some (rowsD c) ∧ v = .list xs ∧ xs.length ≤ 1000 ∧ xs.all plain = true ∧ o = listX ((xs.map fun d => (PyData.str c, d)).map pairD)))
/-- a value, all that it holds -/
def ValueOk (kvs : List (Str × PyData)) (k : Str) (v : PyData) : Prop := ∃ n, Sweep (fun k t o => Rw_values_within [dictOf kvs, k, t] o) n [(.str k, v)] true
def Rw_check_kind : List PyData → PyData → Prop := fun ds o => ∃ kvs k, ds = [dictU kvs, .str k] ∧ KindsOk kvs ∧ (look kvs k).isSome = true ∧ o = .none
def Rw_check_value : List PyData → PyData → Prop := fun ds o => ∃ kvs k v, ds = [dictOf kvs, .str k, v] ∧ plain v = true ∧ ValueOk kvs k v ∧ o = .none
def Rw_check_pattern : List PyData → PyData → Prop := fun ds o => ∃ kvs k p lo hi, ds = [dictOf kvs, .str k, p] ∧ OkPat p ∧ look kvs k = some (numsD lo hi) ∧ o = .none
def Rw_check_clauses : List PyData → PyData → Prop := fun ds o => ∃ (kvs : List (Str × PyData)) (k : Str) (cs : List (PyData × Str)) (lo hi : Int), ds = [dictOf kvs, .str k, .list (cs.map clauseD)] ∧ (∀ c ∈ cs, OkClause c) ∧ cs.length ≤ 1000 ∧ look kvs k = some (numsD lo hi) ∧ o = .none
def Rw_fits : List PyData → PyData → Prop := fun ds o => ∃ kvs k p lo hi i, ds = [dictU kvs, .str k, p, .int i] ∧ KindsOk kvs ∧ look kvs k = some (numsD lo hi) ∧ OkPat p ∧ lo ≤ i ∧ i ≤ hi ∧ o = .bool (fit p i)
def Rw_taker : List PyData → PyData → Prop := fun ds o => ∃ (kvs : List (Str × PyData)) (k : Str) (cs : List (PyData × Str)) (lo hi i : Int), ds = [dictU kvs, .str k, .list (cs.map clauseD), .int i] ∧ KindsOk kvs ∧ look kvs k = some (numsD lo hi) ∧ (∀ c ∈ cs, OkClause c) ∧ cs.length ≤ 1000 ∧ lo ≤ i ∧ i ≤ hi ∧ taken cs i o
def lab (cs : List (PyData × Str)) : PyData → PyData
  | .int m => match cs[m.toNat]? with
    | some c => .str c.2
    | none => .none
  | _ => .none
def Rw_label : List PyData → PyData → Prop := fun ds o => ∃ (kvs : List (Str × PyData)) (k : Str) (cs : List (PyData × Str)) (lo hi i : Int) (o' : PyData), ds = [dictU kvs, .str k, .list (cs.map clauseD), .int i] ∧ KindsOk kvs ∧ look kvs k = some (numsD lo hi) ∧ (∀ c ∈ cs, OkClause c) ∧ cs.length ≤ 1000 ∧ lo ≤ i ∧ i ≤ hi ∧ taken cs i o' ∧ o = lab cs o'
section
variable {P : Program} {w : World} {K : PySem.W.Frag} {mg : Str → Option Value} {base : Heap} {f : Addr} {fd : FuncData} {G : List (Option PyData)}
theorem dt_tup {ta : TE} {ds : List PyData} (h : DE K ta G (.tuple ds)) : DT K (fun σ H Q => ta σ H fun x H' => ∃ k, TruV K x H' k ∧ Q k H') G (!ds.isEmpty) := fun σ B H x en Q q => h σ B H x en _ fun v B' H' g r => by
  have r := r.dp rfl
  cases r with
  | @tup a vs _ hs ha =>
    refine ⟨!ds.isEmpty, .inr (.inl ⟨vs, ex_t g.sub hs, ?_⟩), q B' H' g⟩
    have hl := dps_len ha
    cases vs <;> cases ds <;> simp at hl ⊢
theorem de_sound {t0 t1 t2 : TE} {fw : Addr} {fdw : FuncData} {psw : List Str} {kk : Nat} {W : List PyData → PyData → Prop} {dk k t : PyData} {b : Bool} {n : Nat}
    (Fw : FnOk P w K mg base CX0 kk fw fdw psw (spR K W)) (kw : PySem.W.keepIn K (.ref fw) = true) (bw : Binds K fdw psw [])
    (h0 : DE K t0 G dk) (h1 : DE K t1 G k) (h2 : DE K t2 G t) (p1 : plain k = true) (p2 : plain t = true) (sw : Sweep (fun k t o => W [dk, k, t] o) n [(k, t)] b) :
    DE K (tCall (spSound P w K mg base kk) [] E0 (tCons t0 (tCons t1 (tCons t2 (tCons (tC (.ref fw)) tNil))))) G (.bool b) := fun σ B H x en Q q =>
  h0 σ B H x en _ fun v0 B1 H1 g1 r0 => h1 σ B1 H1 g1.sub (en.ex g1.eb) _ fun v1 B2 H2 g2 r1 => h2 σ B2 H2 g2.sub ((en.ex g1.eb).ex g2.eb) _ fun v2 B3 H3 g3 r2 => by
    refine ⟨B3, v0, v1, v2, fw, fdw, psw, W, dk, k, t, b, n, g3.sub, Fw, kw, bw, rfl, (r0.ex g2.eb).ex g3.eb, (r1.dp p1 |> dp_ex g3.eb _ _), r2.dp p2, sw, fun v B' H' g r => ?_⟩
    exact q v B' H' (g1.trans (g2.trans (g3.trans g))) r
theorem OkPat.plain {p : PyData} (h : OkPat p) : FC.plain p = true := by
  cases h <;> rfl
end
end FP
namespace FP
open PySem PySem.Spec PyProof.Rows L2 FC
open Evl (Ex)
section
variable {P : Program} {w : World} {K : PySem.W.Frag} {mg : Str → Option Value} {base : Heap} {f : Addr} {fd : FuncData} {G : List (Option PyData)}
theorem sc_values_within : FnScope ["kinds", "kind", "thing", "form", "cell"] ["kinds", "kind", "thing"] (defScope s_values_within) := ⟨rfl, rfl, rfl, by decide +kernel, rfl, by decide +kernel, by decide +kernel⟩
theorem madeG_map (ds : List PyData) (F : PyData → PyData) : madeG (fun _ => true) (fun i => F (ds.getD i .none)) ds.length = ds.map F := by
  unfold madeG
  rw [List.filter_eq_self.mpr (fun _ _ => rfl)]
  refine List.ext_getElem (by simp) fun i h1 h2 => ?_
  have h : i < ds.length := by simpa using h2
  simp [h]
theorem ok_values_within (F : Fun K "values_within" "values_within" s_values_within f fd) (M : Bl mg) (cw : CL P w K mg base 1 "is_whole" Rw_is_whole) : FnOk P w K mg base CX0 2 f fd ["kinds", "kind", "thing"] (spR K Rw_values_within) := by
  refine F.ok sc_values_within (spR_len (by rintro _ _ ⟨_, _, _, rfl, _⟩; rfl)) (fun cdv A outer s H vs Q E hr h => ?_)
  obtain ⟨B, ds, o, x, r, ⟨kvs, k, v, rfl, hv⟩, q⟩ := h
  have hu := hu_of hr
  have hu64 : (A.deeper (envOfC "values_within" (defScope s_values_within) s.heap.objs.size f cdv)).units + 64 < cLine := by have := hr.un; omega
  refine ⟨_, pss_cons (ps_set (i := 3) sc_values_within.nd rfl (Or.inr rfl) (pe_dget hu (pv 0) (pv 1) (fun _ _ => rfl)))
    (pss_cons (ps_if (pt_cmpR (op_eqD hu64) (pe_ix ix_tup (pv 3) pe_int (fun _ _ => rfl)) pe_str (nomark _)) (pss_one (ps_ret (pe_ifExp (pw_and (pt_val (pe_cl cw hr (by decide) (by rfl) (pa_cons (pv 2) pa_nil))) (pw_and1 (pt_chain op_le op_le (pe_ix ix_tup (pv 3) pe_int (fun _ _ => rfl)) (pv 2) (pe_ix ix_tup (pv 3) pe_int (fun _ _ => rfl))))).pt (pe_lst pa_nil) pe_dead))) pss_nil)
    (pss_cons (ps_if (pt_cmpR (op_eqD hu64) (pe_ix ix_tup (pv 3) pe_int (fun _ _ => rfl)) pe_str (nomark _)) pss_never pss_nil)
    (pss_cons (ps_if (pt_cmpR (op_eqD hu64) (pe_ix ix_tup (pv 3) pe_int (fun _ _ => rfl)) pe_str (nomark _)) pss_never pss_nil)
    (pss_one (ps_ret (pe_ifExp (pt_val (k_isi (pv 2) (by rfl) M.isi (by rfl) M.list PyProof.Rows.boot_list (by decide) (by decide)))
      (pe_lc (own := [("cell", 4)]) (g := gName 4) (tt := tYes) rfl sc_values_within.nd (pi_list (pv 2)) (blkOk_by (N := ["kinds", "kind", "thing", "form", "cell"]) (sc := defScope s_values_within) (by decide +kernel)) (fun _ _ _ _ _ => pg_name (i := 4) sc_values_within.nd rfl (Or.inl rfl)) (fun _ _ _ _ _ => pts_nil)
        (fun _ _ _ _ _ => pe_tup (pa_cons (pe_ix (r := rIxT K) ix_tup (pv 3) pe_int (fun _ _ => rfl)) (pa_cons (pv 4) pa_nil)))) pe_dead)))))), ?_⟩
  refine fin_rt ?_ x r q
  show DS K _ [some (dictOf kvs), some (.str k), some v, none, none] _
  rcases hv with ⟨lo, hi, i, hk, rfl, h1, h2, rfl⟩ | ⟨c, xs, hk, rfl, hl, hp, rfl⟩
  · refine ds_seq (ds_set (de_dget (de_var rfl) (de_var rfl) hk)) ?_
    show DS K _ [some (dictOf kvs), some (.str k), some (.int i), some (numsD lo hi), none] _
    refine ds_guard (b := true) (dt_is (dt_test (de_op (de_op (de_var rfl) de_int (rd_ixT (j := 0) rfl rfl)) de_str (rd_eq (by decide +kernel) (by decide +kernel) rfl rfl))) (by decide +kernel)) (fun _ => ds_ret ?_) (fun z => nomatch z)
    refine de_if (b := true) (dt_is (dt_and (dt_B (de_call' (da_cons (de_var rfl) da_nil) ⟨.int i, rfl, rfl⟩)) fun _ => dt_test (de_chain (de_op (de_var rfl) de_int (rd_ixT (j := 1) rfl rfl)) (de_var rfl) (fun _ => de_op (de_var rfl) de_int (rd_ixT (j := 2) rfl rfl)) rd_le fun _ => rd_le)) ?_) (fun _ => de_lstX da_nil rfl (by decide)) (fun z => nomatch z)
    rw [decide_eq_true h1, decide_eq_true h2]
    rfl
  · refine ds_seq (ds_set (de_dget (de_var rfl) (de_var rfl) hk)) ?_
    show DS K _ [some (dictOf kvs), some (.str k), some (.list xs), some (rowsD c), none] _
    refine ds_guard (b := false) (dt_is (dt_test (de_op (de_op (de_var rfl) de_int (rd_ixT (j := 0) rfl rfl)) de_str (rd_eq (by decide +kernel) (by decide +kernel) rfl rfl))) (by decide +kernel)) (fun z => nomatch z) fun _ => ?_
    refine ds_guard (b := false) (dt_is (dt_test (de_op (de_op (de_var rfl) de_int (rd_ixT (j := 0) rfl rfl)) de_str (rd_eq (by decide +kernel) (by decide +kernel) rfl rfl))) (by decide +kernel)) (fun z => nomatch z) fun _ => ?_
    refine ds_guard (b := false) (dt_is (dt_test (de_op (de_op (de_var rfl) de_int (rd_ixT (j := 0) rfl rfl)) de_str (rd_eq (by decide +kernel) (by decide +kernel) rfl rfl))) (by decide +kernel)) (fun z => nomatch z) fun _ => ?_
    refine ds_ret (de_if (b := true) (dt_B (de_ty (de_var rfl) rfl kll)) (fun _ => de_is (de_lcX (fun _ => true) (fun i => .tuple [.str c, xs.getD i .none]) (di_list (de_var rfl)) (by decide) (fun _ _ => dt_yes) (fun i hi _ => ?_) (fun _ _ _ => rfl) (by omega)) ?_) (fun z => nomatch z))
    · show DE K _ [some (dictOf kvs), some (.str k), some (.list xs), some (rowsD c), xs[i]?] _
      have e : xs[i]? = some (xs.getD i .none) := by
        rw [List.getElem?_eq_getElem hi, List.getD_eq_getElem?_getD, List.getElem?_eq_getElem hi]
        rfl
      have hpl : plain (xs.getD i .none) = true := by
        rw [List.getD_eq_getElem?_getD, List.getElem?_eq_getElem hi]
        exact List.all_eq_true.mp hp _ (List.getElem_mem hi)
      rw [e]
      exact de_tup (da_cons (de_op (de_var rfl) de_int (rd_ixT (j := 1) rfl rfl)) (da_cons (de_var rfl) da_nil)) (by simp only [List.all_cons, hpl]; rfl) (by show 2 ≤ 1000; decide)
    · rw [madeG_map xs (fun d => .tuple [.str c, d]), List.map_map]
      rfl
end
end FP
namespace FP
open PySem PySem.Spec PyProof.Rows L2 FC
open Evl (Ex)
section
variable {P : Program} {w : World} {K : PySem.W.Frag} {mg : Str → Option Value} {base : Heap} {f : Addr} {fd : FuncData} {G : List (Option PyData)}
theorem sc_check_kind : FnScope ["kinds", "kind"] ["kinds", "kind"] (defScope s_check_kind) := ⟨rfl, rfl, rfl, by decide +kernel, rfl, by decide +kernel, by decide +kernel⟩
theorem ok_check_kind (F : Fun K "check_kind" "check_kind" s_check_kind f fd) (c1 : CL P w K mg base 4 "is_kinds" Rw_is_kinds) (c2 : CL P w K mg base 1 "is_kind" Rw_is_kind) : FnOk P w K mg base CX0 5 f fd ["kinds", "kind"] (spR K Rw_check_kind) := by
  refine F.ok sc_check_kind (spR_len (by rintro _ _ ⟨_, _, rfl, _⟩; rfl)) (fun cdv A outer s H vs Q E hr h => ?_)
  obtain ⟨B, ds, o, x, r, ⟨kvs, k, rfl, ok, hk, rfl⟩, q⟩ := h
  refine ⟨_, pss_cons (ps_if (pt_not (pt_val (pe_cl c1 hr (by decide) (by rfl) (pa_cons (pv 0) pa_nil)))) pss_never pss_nil)
    (pss_one (ps_if (pt_not (pt_val (pe_cl c2 hr (by decide) (by rfl) (pa_cons (pv 0) (pa_cons (pv 1) pa_nil))))) pss_never pss_nil)), ?_⟩
  refine fin_nx (G' := [some (dictU kvs), some (.str k)]) ?_ x r q
  show DS K _ [some (dictU kvs), some (.str k)] _
  refine ds_seq (ds_if (b := false) (dt_is (dt_not (dt_B (de_call' (da_cons (de_var rfl) da_nil) ⟨kvs, rfl, ok, rfl⟩))) rfl) (fun z => nomatch z) fun _ => ds_next) ?_
  exact ds_if (b := false) (dt_is (dt_not (dt_B (de_call' (da_cons (de_ofU (de_var rfl)) (da_cons (de_var rfl) da_nil)) ⟨kvs, k, rfl, rfl⟩))) (by rw [hk]; rfl)) (fun z => nomatch z) fun _ => ds_next
theorem sc_check_value : FnScope ["kinds", "kind", "value"] ["kinds", "kind", "value"] (defScope s_check_value) := ⟨rfl, rfl, rfl, by decide +kernel, rfl, by decide +kernel, by decide +kernel⟩
theorem ok_check_value (F : Fun K "check_value" "check_value" s_check_value f fd) (cs : Cl P w K mg base 5 "is_sound" (spSound P w K mg base 4)) (cv : CL P w K mg base 4 "values_within" Rw_values_within) : FnOk P w K mg base CX0 6 f fd ["kinds", "kind", "value"] (spR K Rw_check_value) := by
  refine F.ok sc_check_value (spR_len (by rintro _ _ ⟨_, _, _, rfl, _⟩; rfl)) (fun cdv A outer s H vs Q E hr h => ?_)
  obtain ⟨B, ds, o, x, r, ⟨kvs, k, v, rfl, hp, ⟨n, hs⟩, rfl⟩, q⟩ := h
  obtain ⟨fw, fdw, psw, Fw, mw, kw, bw⟩ := cv.ex
  refine ⟨_, pss_one (ps_if (pt_not (pt_val (pe_cl cs hr (by decide) (by rfl) (pa_cons (pv 0) (pa_cons (pv 1) (pa_cons (pv 2) (pa_cons (pe_glob (v := .ref fw) (by rfl) mw rfl) pa_nil))))))) pss_never pss_nil), ?_⟩
  refine fin_nx (G' := [some (dictOf kvs), some (.str k), some v]) ?_ x r q
  show DS K _ [some (dictOf kvs), some (.str k), some v] _
  exact ds_if (b := false) (dt_is (dt_not (dt_B (de_sound Fw kw bw (de_var rfl) (de_var rfl) (de_var rfl) rfl hp hs))) rfl) (fun z => nomatch z) fun _ => ds_next
theorem value_int {kvs : List (Str × PyData)} {k : Str} {lo hi i : Int} (hk : look kvs k = some (numsD lo hi)) (h1 : lo ≤ i) (h2 : i ≤ hi) : ValueOk kvs k (.int i) :=
  ⟨1, Sweep.leaf ⟨kvs, k, .int i, rfl, .inl ⟨lo, hi, i, hk, rfl, h1, h2, rfl⟩⟩⟩
end
end FP
namespace FV
open PySem PySem.Spec PyProof.Rows L2 FC FP
open Evl (Ex)
abbrev s_is_count : Stmt := topS 9
abbrev s_size_of_tree : Stmt := topS 27
abbrev s_check_size : Stmt := topS 31
abbrev s_check_number : Stmt := topS 32
abbrev s_chain_init : Stmt := inClass (topS 34) 0
abbrev s_chain_of_cells : Stmt := topS 36
abbrev s_opening_chains : Stmt := topS 37
abbrev s_sizes_init : Stmt := inClass (topS 38) 0
abbrev s_add_size : Stmt := inClass (topS 38) 1
abbrev s_count_of : Stmt := inClass (topS 38) 2
abbrev s_add_ways : Stmt := inClass (topS 38) 3
abbrev s_count_ways : Stmt := inClass (topS 38) 4
abbrev s_value_at : Stmt := inClass (topS 38) 5
abbrev s_chain_at : Stmt := inClass (topS 38) 6
abbrev s_parts_at : Stmt := inClass (topS 38) 7
abbrev s_place_of : Stmt := inClass (topS 38) 8
abbrev s_place_of_parts : Stmt := inClass (topS 38) 9
/-! ### fields -/
theorem lk_hd {f : Str} {v : V} {r : List (Str × V)} : List.lookup f ((f, v) :: r) = some v := by simp
theorem lk_tl {f g : Str} {v : V} {r : List (Str × V)} (h : (f == g) = false) : List.lookup f ((g, v) :: r) = List.lookup f r := by
  rw [List.lookup_cons, h]
theorem pf_hd {f : Str} {u v : V} {r : List (Str × V)} : putF f v ((f, u) :: r) = (f, v) :: r := by
  show (if f = f then (f, v) :: r else (f, u) :: putF f v r) = (f, v) :: r
  rw [if_pos rfl]
theorem pf_tl {f g : Str} {u v : V} {r : List (Str × V)} (h : ¬ g = f) : putF f v ((g, u) :: r) = (g, u) :: putF f v r := by
  show (if g = f then (g, v) :: r else (g, u) :: putF f v r) = (g, u) :: putF f v r
  rw [if_neg h]
theorem pf_nil {f : Str} {v : V} : putF f v [] = [(f, v)] := rfl
def chF (vp vb ve vw : V) : List (Str × V) := [("part", vp), ("behind", vb), ("can_end", ve), ("ways", vw)]
structure KC (K : PySem.W.Frag) (C : Addr) : Prop where
  cl : Cls K C
  nP : NoAttr K C "part"
  nB : NoAttr K C "behind"
  nE : NoAttr K C "can_end"
  nW : NoAttr K C "ways"
theorem chF_part {a b c d : V} : (chF a b c d).lookup ("part" : Str) = some a := lk_hd
theorem chF_behind {a b c d : V} : (chF a b c d).lookup ("behind" : Str) = some b := (lk_tl (by decide +kernel)).trans lk_hd
theorem chF_can_end {a b c d : V} : (chF a b c d).lookup ("can_end" : Str) = some c := (lk_tl (by decide +kernel)).trans ((lk_tl (by decide +kernel)).trans lk_hd)
theorem chF_ways {a b c d : V} : (chF a b c d).lookup ("ways" : Str) = some d := (lk_tl (by decide +kernel)).trans ((lk_tl (by decide +kernel)).trans ((lk_tl (by decide +kernel)).trans lk_hd))
section
variable {P : Program} {w : World} {K : PySem.W.Frag} {mg : Str → Option Value} {base : Heap} {f : Addr} {fd : FuncData}
def spCI (C : Addr) : Sp := fun vs H Q _ => ∃ (x dx : Addr) (vp ve : V), vs = [.ref x, vp, ve] ∧ H x = some (.ins C dx []) ∧
  ∀ (l : Addr) (H' : Hp), H l = none → H' l = some (.lst []) → H' x = some (.ins C dx (chF vp .non ve (.ref l))) → (∀ b o, H b = some o → b ≠ x → H' b = some o) → Q .non H'
theorem sc_chain_init : FnScope ["self", "part", "can_end"] ["self", "part", "can_end"] (defScope s_chain_init) := ⟨rfl, rfl, rfl, by decide +kernel, rfl, by decide +kernel, by decide +kernel⟩
theorem ok_chain_init {C : Addr} (F : Fun K "__init__" "Chain.__init__" s_chain_init f fd) (T : KC K C) : FnOk P w K mg base CX0 1 f fd ["self", "part", "can_end"] (spCI C) := by
  refine F.ok sc_chain_init (by rintro vs H Q E ⟨_, _, _, _, rfl, _⟩; rfl) (fun cdv A outer s H vs Q E hr h => ?_)
  obtain ⟨x, dx, vp, ve, rfl, hx, q⟩ := h
  refine ⟨_, pss_cons (ps_fld (pv 0) (pv 1) rfl) (pss_cons (ps_fld (pv 0) pe_non rfl) (pss_cons (ps_fld (pv 0) (pv 2) rfl) (pss_one (ps_fld (pv 0) (pe_lst pa_nil) rfl)))), ?_⟩
  refine ⟨vp, rfl, .ref x, rfl, x, C, dx, [], rfl, hx, T.cl, T.nP, (by show 0 < 1000; decide), ?_⟩
  refine ⟨.ref x, rfl, x, C, dx, _, rfl, upd_same, T.cl, T.nB, (by show 1 < 1000; decide), ?_⟩
  rw [pf_nil, pf_tl (by decide +kernel), pf_nil, upd_upd]
  refine ⟨ve, rfl, .ref x, rfl, x, C, dx, _, rfl, upd_same, T.cl, T.nE, (by show 2 < 1000; decide), ?_⟩
  rw [pf_tl (by decide +kernel), pf_tl (by decide +kernel), pf_nil, upd_upd]
  refine ⟨Nat.zero_le _, fun l hl => ?_⟩
  have hxl : x ≠ l := by
    intro z
    subst z
    rw [upd_same] at hl
    cases hl
  refine ⟨.ref x, rfl, x, C, dx, _, rfl, (by rw [upd_ne hxl]; exact upd_same), T.cl, T.nW, (by show 3 < 1000; decide), ?_⟩
  rw [pf_tl (by decide +kernel), pf_tl (by decide +kernel), pf_tl (by decide +kernel), pf_nil]
  have hlH : H l = none := by
    rw [upd_ne (fun z => hxl z.symm)] at hl
    exact hl
  refine q l _ hlH (by rw [upd_ne (fun z => hxl z.symm), upd_same]) upd_same fun b o hb hbx => ?_
  rw [upd_ne hbx, upd_ne (ne_of_none hb hlH), upd_ne hbx]
  exact hb
/-! ### a chain of cells -/
def spCells (C : Addr) : Sp := fun vs H Q _ => ∃ v, vs = [v] ∧ ∀ (c dx l : Addr) (H' : Hp), H c = none → H l = none → c ≠ l → H' c = some (.ins C dx (chF v (.ref c) (.bl true) (.ref l))) → H' l = some (.lst []) → Ex H H' → Q (.ref c) H'
theorem sc_chain_of_cells : FnScope ["cell", "chain"] ["cell"] (defScope s_chain_of_cells) := ⟨rfl, rfl, rfl, by decide +kernel, rfl, by decide +kernel, by decide +kernel⟩
theorem ok_chain_of_cells {C fI : Addr} {fdI : FuncData} (F : Fun K "chain_of_cells" "chain_of_cells" s_chain_of_cells f fd) (T : KC K C) (M : Mk K C fI) (GI : FnOk P w K mg base CX0 1 fI fdI ["self", "part", "can_end"] (spCI C)) (bI : Binds K fdI ["self", "part", "can_end"] []) (mC : mg "Chain" = some (.ref C)) : FnOk P w K mg base CX0 3 f fd ["cell"] (spCells C) := by
  refine F.ok sc_chain_of_cells (by rintro vs H Q E ⟨_, rfl, _⟩; rfl) (fun cdv A outer s H vs Q E hr h => ?_)
  obtain ⟨v, rfl, q⟩ := h
  refine ⟨_, pss_cons (ps_set (i := 1) sc_chain_of_cells.nd rfl (Or.inl rfl) (pe_make M GI hr (by rfl) mC bI .nil pass0 (pa_cons (pv 0) (pa_cons pe_bl pa_nil))))
    (pss_cons (ps_fld (pv 1) (pv 1) rfl) (pss_one (ps_ret (pv 1)))), ?_⟩
  refine ⟨v, rfl, fun c dx nc ndx nex => ?_⟩
  have hne : dx ≠ c := nex
  refine ⟨c, dx, v, .bl true, rfl, upd_same, fun l H1 hl hl1 hc1 hk => ⟨rfl, ?_⟩⟩
  have hcl : c ≠ l := by
    intro z
    subst z
    rw [upd_same] at hl
    cases hl
  have hlH : H l = none := by
    rw [upd_ne (fun z => hcl z.symm)] at hl
    by_cases e : l = dx
    · subst e
      rw [upd_same] at hl
      cases hl
    · rw [upd_ne e] at hl
      exact hl
  refine ⟨.ref c, rfl, .ref c, rfl, c, C, dx, _, rfl, hc1, T.cl, T.nB, (by show 4 < 1000; decide), ?_⟩
  unfold chF
  rw [pf_tl (by decide +kernel), pf_hd]
  refine ⟨.ref c, rfl, ?_⟩
  refine q c dx l _ nc hlH hcl upd_same (by rw [upd_ne (fun z => hcl z.symm)]; exact hl1) fun b o hb => ?_
  have hbc : b ≠ c := ne_of_none hb nc
  rw [upd_ne hbc]
  refine hk b o ?_ hbc
  rw [upd_ne hbc, upd_ne (ne_of_none hb ndx)]
  exact hb
end
end FV
namespace FV
open PySem PySem.Spec PyProof.Rows L2 FC FP
open Evl (Ex)
/-! ### the state of the sizes of rows of numbers -/
structure SA where
  (s dxs kd dc dch lr lc chr chc t c dxc w fr fc : Addr)
def szF (A : SA) : List (Str × V) := [("kinds", .ref A.kd), ("counts", .ref A.dc), ("chains", .ref A.dch)]
theorem szF_kinds {A : SA} : (szF A).lookup ("kinds" : Str) = some (.ref A.kd) := lk_hd
theorem szF_counts {A : SA} : (szF A).lookup ("counts" : Str) = some (.ref A.dc) := (lk_tl (by decide +kernel)).trans lk_hd
theorem szF_chains {A : SA} : (szF A).lookup ("chains" : Str) = some (.ref A.dch) := (lk_tl (by decide +kernel)).trans ((lk_tl (by decide +kernel)).trans lk_hd)
theorem szF_no {A : SA} {m : Str} (h1 : (m == ("kinds" : Str)) = false) (h2 : (m == ("counts" : Str)) = false) (h3 : (m == ("chains" : Str)) = false) : (szF A).lookup m = none := by
  unfold szF
  rw [lk_tl h1, lk_tl h2, lk_tl h3]
  rfl
def kR : Key := Sum.inr "row"
def kC : Key := Sum.inr "cell"
structure KS (K : PySem.W.Frag) (C : Addr) : Prop where
  cl : Cls K C
  nK : NoAttr K C "kinds"
  nC : NoAttr K C "counts"
  nH : NoAttr K C "chains"
/-- what does not change -/
structure SzFix (K : PySem.W.Frag) (CS CC : Addr) (A : SA) (hi : Int) (H : Hp) : Prop where
  ob : H A.s = some (.ins CS A.dxs (szF A))
  kd : Rd H A.kd (.dK [(kR, .ref A.fr), (kC, .ref A.fc)])
  fr : SqT K H A.fr [.str "rows", .str "cell"]
  fc : SqT K H A.fc [.str "numbers", .int 0, .int hi]
  dc : H A.dc = some (.dK [(kR, .ref A.lr), (kC, .ref A.lc)])
  dch : H A.dch = some (.dK [(kR, .ref A.chr), (kC, .ref A.chc)])
  chr : H A.chr = some (.lst [.ref A.t])
  chc : H A.chc = some (.lst [])
  t : H A.t = some (.tup [.non, .ref A.c])
  c : H A.c = some (.ins CC A.dxc (chF (.str "cell") (.ref A.c) (.bl true) (.ref A.w)))
  d1 : A.lr ≠ A.lc
  d2 : A.lr ≠ A.w
  d3 : A.lc ≠ A.w
  d4 : A.chr ≠ A.lr ∧ A.chr ≠ A.lc ∧ A.chr ≠ A.w
  d5 : A.chc ≠ A.lr ∧ A.chc ≠ A.lc ∧ A.chc ≠ A.w
  d6 : A.kd ≠ A.dc ∧ A.kd ≠ A.dch
  hi0 : 0 ≤ hi ∧ hi ≤ 1000
def vR (m : Int) (n : Nat) : Int := if n = 0 then 0 else m ^ (n - 1)
def vC (m : Int) (n : Nat) : Int := if n = 1 then m else 0
def vW (m : Int) (n : Nat) : Int := m ^ n
def seqV (g : Nat → Int) (n : Nat) : List V := (List.range n).map fun i => .int (g i)
theorem seqV_len (g : Nat → Int) (n : Nat) : (seqV g n).length = n := by simp [seqV]
theorem seqV_get {g : Nat → Int} {n i : Nat} (h : i < n) : (seqV g n)[i]? = some (.int (g i)) := by
  unfold seqV
  rw [List.getElem?_map, List.getElem?_range h]
  rfl
theorem seqV_succ (g : Nat → Int) (n : Nat) : seqV g (n + 1) = seqV g n ++ [.int (g n)] := by
  unfold seqV
  rw [List.range_succ, List.map_append]
  rfl
theorem SzFix.ex {K : PySem.W.Frag} {CS CC : Addr} {A : SA} {hi : Int} {H H' : Hp} (z : SzFix K CS CC A hi H) (e : Ex H H') : SzFix K CS CC A hi H' :=
  ⟨e _ _ z.ob, ex_rd e z.kd, ex_t e z.fr, ex_t e z.fc, e _ _ z.dc, e _ _ z.dch, e _ _ z.chr, e _ _ z.chc, e _ _ z.t, e _ _ z.c, z.d1, z.d2, z.d3, z.d4, z.d5, z.d6, z.hi0⟩
theorem rd_lst_ne {H : Hp} {a b : Addr} {o u : HO} {xs : List V} (h : Rd H a o) (hb : H b = some (.lst xs)) (n1 : o ≠ .lst xs) : a ≠ b := by
  rintro rfl
  rcases h with h | ⟨p, h⟩
  · rw [hb] at h
    exact n1 (Option.some.inj h).symm
  · rw [hb] at h
    cases h
/-- a list of the three is lengthened -/
theorem SzFix.grow {K : PySem.W.Frag} {CS CC : Addr} {A : SA} {hi : Int} {H : Hp} {l : Addr} {xs ys : List V} (z : SzFix K CS CC A hi H) (hl : H l = some (.lst xs)) (h1 : A.chr ≠ l) (h2 : A.chc ≠ l) : SzFix K CS CC A hi (upd H l (.lst ys)) := by
  have ne : ∀ {a : Addr} {o : HO}, H a = some o → (∀ vs, o ≠ .lst vs) → a ≠ l := fun ha hn e => by
    subst e
    rw [hl] at ha
    exact hn xs (Option.some.inj ha).symm
  have rd : ∀ {a : Addr} {o : HO}, Rd H a o → (∀ vs, o ≠ .lst vs) → Rd (upd H l (.lst ys)) a o := fun {a o} ha hn => by
    rcases ha with ha | ⟨p, ha⟩
    · exact .inl (by rw [upd_ne (ne ha hn)]; exact ha)
    · exact .inr ⟨p, by rw [upd_ne (ne ha (fun _ z => nomatch z))]; exact ha⟩
  have sq : ∀ {a : Addr} {vs : List V}, SqT K H a vs → SqT K (upd H l (.lst ys)) a vs := fun ha => by
    rcases ha with ha | ha
    · exact .inl (rd ha fun _ z => nomatch z)
    · exact .inr ha
  exact ⟨by rw [upd_ne (ne z.ob (fun _ z => nomatch z))]; exact z.ob, rd z.kd (fun _ z => nomatch z), sq z.fr, sq z.fc, by rw [upd_ne (ne z.dc (fun _ z => nomatch z))]; exact z.dc, by rw [upd_ne (ne z.dch (fun _ z => nomatch z))]; exact z.dch,
    by rw [upd_ne h1]; exact z.chr, by rw [upd_ne h2]; exact z.chc, by rw [upd_ne (ne z.t (fun _ z => nomatch z))]; exact z.t, by rw [upd_ne (ne z.c (fun _ z => nomatch z))]; exact z.c, z.d1, z.d2, z.d3, z.d4, z.d5, z.d6, z.hi0⟩
section
variable {P : Program} {w : World} {K : PySem.W.Frag} {mg : Str → Option Value} {base : Heap} {f : Addr} {fd : FuncData}
theorem val_row {x y : V} : valV [(kR, x), (kC, y)] (Sum.inr "row" : Key) = some x := by
  unfold valV kR
  simp
theorem val_cell {x y : V} : valV [(kR, x), (kC, y)] (Sum.inr "cell" : Key) = some y := by
  have h : ("row" : Str) ≠ "cell" := by decide +kernel
  unfold valV kR kC
  simp [h]
inductive IsKind : Str → Prop where
  | row : IsKind "row"
  | cell : IsKind "cell"
def vOf (m : Int) (k : Str) (n : Nat) : Int := if k = "row" then vR m n else vC m n
theorem cell_ne_row : ¬ ("cell" : Str) = "row" := by decide +kernel
theorem dget {H : Hp} {a : Addr} {ks : List (Key × V)} {k : Str} {v : V} (h : Rd H a (.dK ks)) (e : valV ks (Sum.inr k : Key) = some v) : DGet H a (.str k) (some v) := .inl ⟨ks, Sum.inr k, h, rfl, e.symm⟩
/-- counting the values of one kind and size: the ways of all lesser sizes are known -/
def spCountOf (K : PySem.W.Frag) (CS CC : Addr) : Sp := fun vs H Q _ => ∃ (A : SA) (hi : Int) (k : Str) (n : Nat) (g : Nat), vs = [.ref A.s, .str k, .int (n : Nat)] ∧ SzFix K CS CC A hi H ∧ H A.w = some (.lst (seqV (vW (hi + 1)) g)) ∧ n ≤ g ∧ n ≤ 100 ∧ IsKind k ∧
  ∀ H', Ex H H' → Q (.int (vOf (hi + 1) k n)) H'
theorem sc_count_of : FnScope ["self", "kind", "size", "form", "_", "chain"] ["self", "kind", "size"] (defScope s_count_of) := ⟨rfl, rfl, rfl, by decide +kernel, rfl, by decide +kernel, by decide +kernel⟩
theorem ok_count_of {CS CC : Addr} (F : Fun K "count_of" "Sizes.count_of" s_count_of f fd) (M : Bl mg) (TS : KS K CS) (TC : KC K CC) : FnOk P w K mg base CX0 1 f fd ["self", "kind", "size"] (spCountOf K CS CC) := by
  refine F.ok sc_count_of (by rintro vs H Q E ⟨_, _, _, _, _, rfl, _⟩; rfl) (fun cdv A0 outer s H vs Q E hr h => ?_)
  obtain ⟨A, hi, k, n, g, rfl, z, hw, hng, hn, hk, q⟩ := h
  have hu := hu_of hr
  have nd := sc_count_of.nd
  refine ⟨_, pss_cons (ps_set (i := 3) nd rfl (Or.inl rfl) (pe_dget hu (pe_fld (pv 0) rfl) (pv 1) (fun _ _ => rfl)))
    (pss_cons (ps_if (pt_cmpR op_eq (pv 2) pe_int (nomark _)) (pss_one (ps_ret pe_int)) pss_nil)
    (pss_cons (ps_if (pt_cmpR op_eq (pe_ix ix_tup (pv 3) pe_int (fun _ _ => rfl)) pe_str (nomark _)) (pss_one (ps_ret (pe_ifExp (pt_cmpR op_eq (pv 2) pe_int (nomark _)) (pe_op op_add (pe_op op_sub (pe_ix ix_tup (pv 3) pe_int (fun _ _ => rfl)) (pe_ix ix_tup (pv 3) pe_int (fun _ _ => rfl))) pe_int) pe_int))) pss_nil)
    (pss_cons (ps_if (pt_cmpR op_eq (pe_ix ix_tup (pv 3) pe_int (fun _ _ => rfl)) pe_str (nomark _)) pss_never pss_nil)
    (pss_one (ps_ret (pe_callB (cr_sum rfl) (by rfl) M.sum PyProof.Rows.boot_sum (pa_cons
      (pe_lc (own := [("_", 4), ("chain", 5)]) (g := gTup K 2 (gCons (gName 4) (gCons (gName 5) gNil))) (tt := tYes) (te := tOp (rIxL K) (tFld K (tVar 5) "ways") (tOp (rI0 fun i j => .int (i - j)) (tVar 2) (tC (.int 1)))) rfl nd (pi_list (pe_dget hu (pe_fld (pv 0) rfl) (pv 1) (fun _ _ => rfl))) (blkOk_by (N := ["self", "kind", "size", "form", "_", "chain"]) (sc := defScope s_count_of) (by decide +kernel))
        (fun _ _ _ _ _ => pg_tup rfl (pgs_cons (pg_name (i := 4) nd rfl (Or.inl rfl)) (pgs_cons (pg_name (i := 5) nd rfl (Or.inl rfl)) pgs_nil))) (fun _ _ _ _ _ => pts_nil)
        (fun _ _ _ _ _ => pe_ix ix_list (pe_fld (pv 5) rfl) (pe_op op_sub (pv 2) pe_int) (fun _ _ => rfl))) pa_nil))))))), ?_⟩
  have hm : ∀ (x : Int), (x == 0) = decide (x = 0) := fun x => by
    by_cases e : x = 0 <;> simp [e]
  -- form = self.kinds[kind]
  have hform : ∃ fa : Addr, valV [(kR, V.ref A.fr), (kC, V.ref A.fc)] (Sum.inr k : Key) = some (.ref fa) ∧ ((k = "row" ∧ fa = A.fr) ∨ (k = "cell" ∧ fa = A.fc)) := by
    cases hk with
    | row => exact ⟨A.fr, val_row, .inl ⟨rfl, rfl⟩⟩
    | cell => exact ⟨A.fc, val_cell, .inr ⟨rfl, rfl⟩⟩
  obtain ⟨fa, hv, hcase⟩ := hform
  refine ⟨.ref A.s, rfl, A.s, CS, A.dxs, _, _, rfl, z.ob, TS.cl, TS.nK, szF_kinds, .str k, rfl, A.kd, .ref fa, rfl, dget z.kd hv, ?_⟩
  -- if size == 0
  refine ⟨_, rfl, rfl, _, rfl, ite2 (fun e => ?_) (fun e => ?_)⟩
  · have e0 : (n : Int) = 0 := V.int.inj (of_decide_eq_true e)
    have e1 : n = 0 := by omega
    subst e1
    have : vOf (hi + 1) k 0 = 0 := by
      unfold vOf vR vC
      split <;> rfl
    have q0 := q H (Evl.Ex.refl H)
    rw [this] at q0
    exact q0
  · have n0 : n ≠ 0 := fun z => e (by subst z; exact decide_eq_true rfl)
    rcases hcase with ⟨rfl, rfl⟩ | ⟨rfl, rfl⟩
    · -- a row
      refine ⟨_, rfl, A.fr, _, 0, _, rfl, rfl, z.fr, atI_nat (j := 0) rfl, rfl, _, rfl, ite2 (fun e => absurd (of_decide_eq_true e) (by decide +kernel)) (fun _ => ?_)⟩
      refine ⟨_, rfl, A.fr, _, 0, _, rfl, rfl, z.fr, atI_nat (j := 0) rfl, rfl, _, rfl, ite2 (fun e => absurd (of_decide_eq_true e) (by decide +kernel)) (fun _ => ?_)⟩
      refine ⟨.ref A.s, rfl, A.s, CS, A.dxs, _, _, rfl, z.ob, TS.cl, TS.nH, szF_chains, .str "row", rfl, A.dch, .ref A.chr, rfl, dget (.inl z.dch) val_row, ?_⟩
      refine ⟨A.chr, rfl, ⟨_, .inl (.inl z.chr)⟩, fun D hD => ?_⟩
      refine lc_list (xs := [.ref A.t]) (fun i H' => (i = 0 ∧ H' = upd H D (.lst [])) ∨ (i = 1 ∧ Ex H H' ∧ H' D = some (.lst [.int (hi + 1 |> fun m => m ^ (n - 1))]))) (.inl ⟨rfl, rfl⟩) (fun i H' _ hp => ?_) (fun i x H' hx hp => ?_) (fun H' hp => ?_)
      · have e : Ex H H' := by
          rcases hp with ⟨_, rfl⟩ | ⟨_, e, _⟩
          · exact Evl.Ex.new hD
          · exact e
        exact .inl (.inl (e _ _ z.chr))
      · rcases hp with ⟨rfl, rfl⟩ | ⟨rfl, _⟩
        · have ex : x = .ref A.t := (Option.some.inj hx).symm
          subst ex
          have e : Ex H (upd H D (.lst [])) := Evl.Ex.new hD
          refine ⟨A.t, _, rfl, .inl (.inl (e _ _ z.t)), rfl, .non, _, rfl, .ref A.c, [], rfl, rfl, ?_⟩
          refine ⟨rfl, ?_⟩
          dsimp only [tYes]
          rw [if_pos rfl]
          refine ⟨.ref A.c, rfl, A.c, CC, A.dxc, _, .ref A.w, rfl, e _ _ z.c, TC.cl, TC.nW, chF_ways, .int n, rfl, n, 1, rfl, rfl, A.w, _, (n : Int) - 1, .int ((hi + 1) ^ (n - 1)), rfl, rfl, .inl (.inl (e _ _ hw)), ?_, ?_⟩
          · have e2 : (n : Int) - 1 = ((n - 1 : Nat) : Int) := by omega
            rw [e2]
            exact atI_nat (seqV_get (g := vW (hi + 1)) (by omega))
          · exact ⟨[], upd_same, by decide, .inr ⟨rfl, Evl.Ex.mut e hD, upd_same⟩⟩
        · simp at hx
      · rcases hp with ⟨h, _⟩ | ⟨_, e, hl⟩
        · simp at h
        · refine ⟨D, [(hi + 1) ^ (n - 1)], rfl, .inl (.inl hl), ?_⟩
          have q0 := q H' e
          have ev : vOf (hi + 1) "row" n = (hi + 1) ^ (n - 1) := by
            unfold vOf vR
            rw [if_pos rfl, if_neg n0]
          rw [ev] at q0
          have es : ([(hi + 1) ^ (n - 1)] : List Int).sum = (hi + 1) ^ (n - 1) := by simp
          rw [es]
          exact q0
    · -- a cell
      refine ⟨_, rfl, A.fc, _, 0, _, rfl, rfl, z.fc, atI_nat (j := 0) rfl, rfl, _, rfl, ite2 (fun _ => ?_) (fun e => absurd (decide_eq_true rfl) e)⟩
      have q0 := q H (Evl.Ex.refl H)
      refine ⟨_, rfl, rfl, _, rfl, ite2 (fun e => ?_) (fun e => ?_)⟩
      · have e1 : n = 1 := by
          have : (n : Int) = 1 := V.int.inj (of_decide_eq_true e)
          omega
        refine ⟨_, rfl, A.fc, _, 2, _, rfl, rfl, z.fc, atI_nat (j := 2) rfl, _, rfl, A.fc, _, 1, _, rfl, rfl, z.fc, atI_nat (j := 1) rfl, hi, 0, rfl, rfl, hi - 0, 1, rfl, rfl, ?_⟩
        have ev : vOf (hi + 1) "cell" n = hi - 0 + 1 := by
          unfold vOf vC
          rw [if_neg cell_ne_row, if_pos e1]
          omega
        rw [ev] at q0
        exact q0
      · have ev : vOf (hi + 1) "cell" n = 0 := by
          unfold vOf vC
          rw [if_neg cell_ne_row, if_neg (fun z => e (by subst z; exact decide_eq_true rfl))]
        rw [ev] at q0
        exact q0
end
end FV
namespace FV
open PySem PySem.Spec PyProof.Rows L2 FC FP
open Evl (Ex)
/-- the products that are summed for the ways of size n -/
def prod (m : Int) (n j : Nat) : Int := vC m (1 + j) * vW m (n - (1 + j))
theorem sum_zero {g : Nat → Int} : ∀ k : Nat, (∀ j, j < k → g j = 0) → ((List.range k).map g).sum = 0
  | 0, _ => rfl
  | k + 1, h => by
    rw [List.range_succ, List.map_append, List.sum_append, sum_zero k (fun j hj => h j (by omega))]
    simp [h k (by omega)]
theorem prod_sum {m : Int} {n : Nat} (hn : n ≠ 0) : ((List.range n).map (prod m n)).sum = vW m n := by
  obtain ⟨k, rfl⟩ : ∃ k, n = k + 1 := ⟨n - 1, by omega⟩
  rw [List.range_succ_eq_map, List.map_cons, List.sum_cons, List.map_map]
  rw [sum_zero (g := prod m (k + 1) ∘ Nat.succ) k (fun j _ => by
    show vC m (1 + (j + 1)) * _ = 0
    unfold vC
    rw [if_neg (by omega)]
    exact Int.zero_mul _)]
  show vC m (1 + 0) * vW m (k + 1 - (1 + 0)) + 0 = vW m (k + 1)
  unfold vC vW
  rw [if_pos (by omega), Int.add_zero, show k + 1 - (1 + 0) = k by omega, Int.pow_succ, Int.mul_comm]
section
variable {P : Program} {w : World} {K : PySem.W.Frag} {mg : Str → Option Value} {base : Heap} {f : Addr} {fd : FuncData}
def spCountWays (K : PySem.W.Frag) (CS CC : Addr) : Sp := fun vs H Q _ => ∃ (A : SA) (hi : Int) (n : Nat), vs = [.ref A.s, .ref A.c, .int (n : Nat)] ∧ SzFix K CS CC A hi H ∧ H A.w = some (.lst (seqV (vW (hi + 1)) n)) ∧ H A.lc = some (.lst (seqV (vC (hi + 1)) (n + 1))) ∧ n ≤ 100 ∧
  ∀ H', Ex H H' → Q (.int (vW (hi + 1) n)) H'
theorem sc_count_ways : FnScope ["self", "chain", "size", "counts", "first"] ["self", "chain", "size"] (defScope s_count_ways) := ⟨rfl, rfl, rfl, by decide +kernel, rfl, by decide +kernel, by decide +kernel⟩
theorem ok_count_ways {CS CC : Addr} (F : Fun K "count_ways" "Sizes.count_ways" s_count_ways f fd) (M : Bl mg) (TS : KS K CS) (TC : KC K CC) : FnOk P w K mg base CX0 1 f fd ["self", "chain", "size"] (spCountWays K CS CC) := by
  refine F.ok sc_count_ways (by rintro vs H Q E ⟨_, _, _, rfl, _⟩; rfl) (fun cdv A0 outer s H vs Q E hr h => ?_)
  obtain ⟨A, hi, n, rfl, z, hw, hlc, hn, q⟩ := h
  have hu := hu_of hr
  have nd := sc_count_ways.nd
  refine ⟨_, pss_cons (ps_if (pt_cmpR op_eq (pv 2) pe_int (nomark _)) (pss_one (ps_ret (pe_ifExp (pt_val (pe_fld (pv 1) rfl)) pe_int pe_int))) pss_nil)
    (pss_cons (ps_if (pt_cmp (pc_isN (pe_fld (pv 1) rfl))) (pss_one (ps_ret pe_int)) pss_nil)
    (pss_cons (ps_set (i := 3) nd rfl (Or.inr rfl) (pe_dget hu (pe_fld (pv 0) rfl) (pe_fld (pv 1) rfl) (fun _ _ => rfl)))
    (pss_one (ps_ret (pe_callB (cr_sum rfl) (by rfl) M.sum PyProof.Rows.boot_sum (pa_cons
      (pe_lc (own := [("first", 4)]) (g := gName 4) (tt := tYes) (te := tOp (rI CMul fun i j => .int (i * j)) (tOp (rIxL K) (tVar 3) (tVar 4)) (tOp (rIxL K) (tFld K (tFld K (tVar 1) "behind") "ways") (tOp (rI0 fun i j => .int (i - j)) (tVar 2) (tVar 4)))) rfl nd
        (pi_range2 (by rfl) M.range (pa_cons pe_int (pa_cons (pe_op op_add (pv 2) pe_int) pa_nil))) (blkOk_by (N := ["self", "chain", "size", "counts", "first"]) (sc := defScope s_count_ways) (by decide +kernel))
        (fun _ _ _ _ _ => pg_name (i := 4) nd rfl (Or.inl rfl)) (fun _ _ _ _ _ => pts_nil)
        (fun _ _ _ _ _ => pe_op op_mul (pe_ix ix_list (pv 3) (pv 4) (fun _ _ => rfl)) (pe_ix ix_list (pe_fld (pe_fld (pv 1) rfl) rfl) (pe_op op_sub (pv 2) (pv 4)) (fun _ _ => rfl)))) pa_nil)))))), ?_⟩
  refine ⟨_, rfl, rfl, _, rfl, ite2 (fun e => ?_) (fun e => ?_)⟩
  · have e1 : n = 0 := by
      have : (n : Int) = 0 := V.int.inj (of_decide_eq_true e)
      omega
    subst e1
    refine ⟨.ref A.c, rfl, A.c, CC, A.dxc, _, .bl true, rfl, z.c, TC.cl, TC.nE, chF_can_end, true, rfl, iteT ?_⟩
    have q0 := q H (Evl.Ex.refl H)
    rw [show vW (hi + 1) 0 = 1 from Int.pow_zero _] at q0
    exact q0
  · have n0 : n ≠ 0 := fun z => e (by subst z; exact decide_eq_true rfl)
    refine ⟨.ref A.c, rfl, A.c, CC, A.dxc, _, .str "cell", rfl, z.c, TC.cl, TC.nP, chF_part, _, rfl, iteF ?_⟩
    refine ⟨.ref A.s, rfl, A.s, CS, A.dxs, _, _, rfl, z.ob, TS.cl, TS.nC, szF_counts, .ref A.c, rfl, A.c, CC, A.dxc, _, .str "cell", rfl, z.c, TC.cl, TC.nP, chF_part, A.dc, .ref A.lc, rfl, dget (.inl z.dc) val_cell, ?_⟩
    refine ⟨.int n, rfl, n, 1, rfl, rfl, 1, (n : Int) + 1, rfl, ⟨by omega, by omega, by omega, by omega⟩, fun D hD => ?_⟩
    have hnn : ((n : Int) + 1 - 1).toNat = n := by omega
    rw [hnn]
    refine lc_range (lo := 1) (n := n) (fun i H' => Ex H H' ∧ H' D = some (.lst (((List.range i).map (prod (hi + 1) n)).map V.int))) ⟨Evl.Ex.new hD, upd_same⟩ (fun i H' hil hp => ?_) (fun H' hp => ?_)
    · obtain ⟨e1, hD1⟩ := hp
      refine ⟨rfl, ?_⟩
      dsimp only [tYes]
      rw [if_pos rfl]
      have e2 : (1 : Int) + (i : Int) = ((1 + i : Nat) : Int) := by omega
      have e3 : (n : Int) - (1 + (i : Int)) = ((n - (1 + i) : Nat) : Int) := by omega
      refine ⟨.ref A.lc, rfl, _, rfl, A.lc, _, 1 + (i : Int), .int (vC (hi + 1) (1 + i)), rfl, rfl, .inl (.inl (e1 _ _ hlc)), by rw [e2]; exact atI_nat (seqV_get (by omega)), ?_⟩
      refine ⟨.ref A.c, rfl, A.c, CC, A.dxc, _, .ref A.c, rfl, e1 _ _ z.c, TC.cl, TC.nB, chF_behind, A.c, CC, A.dxc, _, .ref A.w, rfl, e1 _ _ z.c, TC.cl, TC.nW, chF_ways, .int n, rfl, .int (1 + (i : Int)), rfl, n, 1 + (i : Int), rfl, rfl, A.w, _, (n : Int) - (1 + (i : Int)), .int (vW (hi + 1) (n - (1 + i))), rfl, rfl, .inl (.inl (e1 _ _ hw)), by rw [e3]; exact atI_nat (seqV_get (by omega)), ?_⟩
      have hb : -(2 ^ 64) < vC (hi + 1) (1 + i) ∧ vC (hi + 1) (1 + i) < 2 ^ 64 := by
        have := z.hi0
        unfold vC
        split <;> omega
      refine ⟨_, _, rfl, rfl, .inl hb, _, hD1, ?_, Evl.Ex.mut e1 hD, ?_⟩
      · rw [List.length_map, List.length_map, List.length_range]
        exact small1000 (by omega)
      · rw [upd_same, List.range_succ, List.map_append, List.map_append]
        rfl
    · obtain ⟨e1, hD1⟩ := hp
      refine ⟨D, _, rfl, .inl (.inl hD1), ?_⟩
      rw [prod_sum n0]
      exact q H' e1
/-! ### the chain's ways of one more size -/
def spAddWays (K : PySem.W.Frag) (CS CC : Addr) : Sp := fun vs H Q _ => ∃ (A : SA) (hi : Int) (n : Nat), vs = [.ref A.s, .ref A.c, .int (n : Nat)] ∧ SzFix K CS CC A hi H ∧ H A.w = some (.lst (seqV (vW (hi + 1)) n)) ∧ H A.lc = some (.lst (seqV (vC (hi + 1)) (n + 1))) ∧ n ≤ 100 ∧
  ∀ H', H' A.w = some (.lst (seqV (vW (hi + 1)) (n + 1))) → (∀ b o, b ≠ A.w → H b = some o → H' b = some o) → Q .non H'
theorem sc_add_ways : FnScope ["self", "chain", "size"] ["self", "chain", "size"] (defScope s_add_ways) := ⟨rfl, rfl, rfl, by decide +kernel, rfl, by decide +kernel, by decide +kernel⟩
theorem ok_add_ways {CS CC g : Addr} {gd : FuncData} (F : Fun K "add_ways" "Sizes.add_ways" s_add_ways f fd) (M : Bl mg) (TS : KS K CS) (TC : KC K CC) (mW : Meth K CS "count_ways" g) (GW : FnOk P w K mg base CX0 1 g gd ["self", "chain", "size"] (spCountWays K CS CC)) (bW : Binds K gd ["self", "chain", "size"] []) : FnOk P w K mg base CX0 2 f fd ["self", "chain", "size"] (spAddWays K CS CC) := by
  refine F.ok sc_add_ways (by rintro vs H Q E ⟨_, _, _, rfl, _⟩; rfl) (fun cdv A0 outer s H vs Q E hr h => ?_)
  obtain ⟨A, hi, n, rfl, z, hw, hlc, hn, q⟩ := h
  have nd := sc_add_ways.nd
  refine ⟨_, pss_one (ps_while PassesOwn.never (pw_and (pt_cmp (pc_notN (pv 1))) (pw_and1 (pt_cmpR op_eq (pe_callB call_lenR (by rfl) M.len PySem.boot_len (pa_cons (pe_fld (pv 1) rfl) pa_nil)) (pv 2) (nomark _)))).pt
    (pss_cons (ps_expr (pe_bm PySem.F.plainAttrs_list PySem.F.slot_list_append PySem.F.type_list_append mt_append (pe_fld (pv 1) rfl) (pa_cons (pe_meth (pv 0) TS.cl mW GW hr bW .nil pass0 (pa_cons (pv 1) (pa_cons (pv 2) pa_nil))) pa_nil)))
    (pss_one (ps_set (i := 1) nd rfl (Or.inl rfl) (pe_fld (pv 1) rfl))))), ?_⟩
  refine ⟨fun m σ H' => (m = 1 ∧ σ = [some (.ref A.s), some (.ref A.c), some (.int (n : Nat))] ∧ H' = H) ∨ (m = 0 ∧ σ = [some (.ref A.s), some (.ref A.c), some (.int (n : Nat))] ∧ SzFix K CS CC A hi H' ∧ H' A.w = some (.lst (seqV (vW (hi + 1)) (n + 1))) ∧ (∀ b o, b ≠ A.w → H b = some o → H' b = some o)), ⟨1, .inl ⟨rfl, rfl, rfl⟩⟩, ?_⟩
  rintro m σ H' (⟨rfl, rfl, rfl⟩ | ⟨rfl, rfl, z', hw', hk⟩)
  · refine ⟨.ref A.c, rfl, _, rfl, ?_⟩
    refine iteT ?_
    refine ⟨.ref A.c, rfl, A.c, CC, A.dxc, _, .ref A.w, rfl, z.c, TC.cl, TC.nW, chF_ways, _, _, rfl, .inl ⟨_, .inl (.inl hw), rfl⟩, .int n, rfl, rfl, _, rfl, ?_⟩
    rw [seqV_len, decide_eq_true (rfl : V.int (n : Int) = V.int (n : Int))]
    refine iteT ?_
    refine ⟨fun σ' H2 => σ' = [some (.ref A.s), some (.ref A.c), some (.int (n : Nat))] ∧ SzFix K CS CC A hi H2 ∧ H2 A.w = some (.lst (seqV (vW (hi + 1)) (n + 1))) ∧ (∀ b o, b ≠ A.w → H' b = some o → H2 b = some o), fun σ' H2 h => ⟨0, by decide, .inr ⟨rfl, h⟩⟩, ?_⟩
    refine ⟨.ref A.c, rfl, A.c, CC, A.dxc, _, .ref A.w, rfl, z.c, TC.cl, TC.nW, chF_ways, .inl ⟨rfl, _, .inl (.inl hw)⟩, ?_⟩
    refine ⟨.ref A.s, rfl, A.s, A.dxs, _, rfl, z.ob, szF_no (by decide +kernel) (by decide +kernel) (by decide +kernel), .ref A.c, rfl, .int n, rfl, A, hi, n, rfl, z, hw, hlc, hn, fun H2 e2 => ?_⟩
    refine ⟨A.w, _, _, rfl, rfl, e2 _ _ hw, by rw [seqV_len]; exact small1000 (by omega), ?_⟩
    have z2 := z.ex e2
    have z3 : SzFix K CS CC A hi (upd H2 A.w (.lst (seqV (vW (hi + 1)) n ++ [.int (vW (hi + 1) n)]))) := z2.grow (e2 _ _ hw) z.d4.2.2 z.d5.2.2
    refine ⟨.ref A.c, rfl, A.c, CC, A.dxc, _, .ref A.c, rfl, z3.c, TC.cl, TC.nB, chF_behind, rfl, z3, ?_, fun b o hb h => ?_⟩
    · rw [upd_same, seqV_succ]
    · rw [upd_ne hb]
      exact e2 _ _ h
  · refine ⟨.ref A.c, rfl, _, rfl, ?_⟩
    refine iteT ?_
    refine ⟨.ref A.c, rfl, A.c, CC, A.dxc, _, .ref A.w, rfl, z'.c, TC.cl, TC.nW, chF_ways, _, _, rfl, .inl ⟨_, .inl (.inl hw'), rfl⟩, .int n, rfl, rfl, _, rfl, ?_⟩
    rw [seqV_len]
    have hne : decide (V.int ((n + 1 : Nat) : Int) = V.int (n : Int)) = false := decide_eq_false fun e => by
      have := V.int.inj e
      omega
    rw [hne]
    refine iteF ?_
    exact q H' hw' hk
end
end FV
namespace FV
open PySem PySem.Spec PyProof.Rows L2 FC FP
open Evl (Ex)
def kdV (A : SA) : List (Key × V) := [(kR, .ref A.fr), (kC, .ref A.fc)]
theorem sz_upd {K : PySem.W.Frag} {CS CC : Addr} {A : SA} {hi : Int} {H : Hp} {u u' : HO} (z : SzFix K CS CC A hi H) (hk : H A.kd = some u) (h1 : u = .dK (kdV A) ∨ ∃ o, u = .frz o (.dK (kdV A))) (h2 : u' = .dK (kdV A) ∨ ∃ o, u' = .frz o (.dK (kdV A))) : SzFix K CS CC A hi (upd H A.kd u') := by
  have ne : ∀ {a : Addr} {o : HO}, H a = some o → (∀ vs, o ≠ .dK vs) → (∀ p vs, o ≠ .frz p (.dK vs)) → a ≠ A.kd := fun ha n1 n2 e => by
    subst e
    rw [hk] at ha
    cases Option.some.inj ha
    rcases h1 with rfl | ⟨o, rfl⟩
    · exact n1 _ rfl
    · exact n2 _ _ rfl
  have rd : ∀ {a : Addr} {vs : List V}, Rd H a (.tup vs) → Rd (upd H A.kd u') a (.tup vs) := fun {a vs} ha => by
    rcases ha with ha | ⟨p, ha⟩
    · exact .inl (by rw [upd_ne (ne ha (fun _ z => nomatch z) fun _ _ z => nomatch z)]; exact ha)
    · exact .inr ⟨p, by rw [upd_ne (ne ha (fun _ z => nomatch z) fun _ _ z => nomatch z)]; exact ha⟩
  have sq : ∀ {a : Addr} {vs : List V}, SqT K H a vs → SqT K (upd H A.kd u') a vs := fun ha => by
    rcases ha with ha | ha
    · exact .inl (rd ha)
    · exact .inr ha
  refine ⟨by rw [upd_ne (ne z.ob (fun _ z => nomatch z) fun _ _ z => nomatch z)]; exact z.ob, ?_, sq z.fr, sq z.fc, by rw [upd_ne z.d6.1.symm]; exact z.dc, by rw [upd_ne z.d6.2.symm]; exact z.dch, by rw [upd_ne (ne z.chr (fun _ z => nomatch z) fun _ _ z => nomatch z)]; exact z.chr,
    by rw [upd_ne (ne z.chc (fun _ z => nomatch z) fun _ _ z => nomatch z)]; exact z.chc, by rw [upd_ne (ne z.t (fun _ z => nomatch z) fun _ _ z => nomatch z)]; exact z.t, by rw [upd_ne (ne z.c (fun _ z => nomatch z) fun _ _ z => nomatch z)]; exact z.c, z.d1, z.d2, z.d3, z.d4, z.d5, z.d6, z.hi0⟩
  rcases h2 with rfl | ⟨o, rfl⟩
  · exact .inl upd_same
  · exact .inr ⟨o, upd_same⟩
theorem sz_w {K : PySem.W.Frag} {CS CC : Addr} {A : SA} {hi : Int} {H H' : Hp} {xs : List V} (z : SzFix K CS CC A hi H) (hl : H A.w = some (.lst xs)) (fr : ∀ b o, b ≠ A.w → H b = some o → H' b = some o) : SzFix K CS CC A hi H' := by
  have ne : ∀ {a : Addr} {o : HO}, H a = some o → (∀ vs, o ≠ .lst vs) → a ≠ A.w := fun ha hn e => by
    subst e
    rw [hl] at ha
    exact hn xs (Option.some.inj ha).symm
  have rd : ∀ {a : Addr} {o : HO}, Rd H a o → (∀ vs, o ≠ .lst vs) → Rd H' a o := fun {a o} ha hn => by
    rcases ha with ha | ⟨p, ha⟩
    · exact .inl (fr _ _ (ne ha hn) ha)
    · exact .inr ⟨p, fr _ _ (ne ha (fun _ z => nomatch z)) ha⟩
  have sq : ∀ {a : Addr} {vs : List V}, SqT K H a vs → SqT K H' a vs := fun ha => by
    rcases ha with ha | ha
    · exact .inl (rd ha fun _ z => nomatch z)
    · exact .inr ha
  exact ⟨fr _ _ (ne z.ob (fun _ z => nomatch z)) z.ob, rd z.kd (fun _ z => nomatch z), sq z.fr, sq z.fc, fr _ _ (ne z.dc (fun _ z => nomatch z)) z.dc, fr _ _ (ne z.dch (fun _ z => nomatch z)) z.dch,
    fr _ _ z.d4.2.2 z.chr, fr _ _ z.d5.2.2 z.chc, fr _ _ (ne z.t (fun _ z => nomatch z)) z.t, fr _ _ (ne z.c (fun _ z => nomatch z)) z.c, z.d1, z.d2, z.d3, z.d4, z.d5, z.d6, z.hi0⟩
section
variable {P : Program} {w : World} {K : PySem.W.Frag} {mg : Str → Option Value} {base : Heap} {f : Addr} {fd : FuncData}
def spOpen (K : PySem.W.Frag) (CC : Addr) : Sp := fun vs H Q _ => ∃ fa : Addr, vs = [.ref fa] ∧
  ((SqT K H fa [.str "rows", .str "cell"] ∧ ∀ (r t c dx l : Addr) (H' : Hp), H r = none → H t = none → H c = none → H l = none → r ≠ l → H' r = some (.lst [.ref t]) → H' t = some (.tup [.non, .ref c]) → H' c = some (.ins CC dx (chF (.str "cell") (.ref c) (.bl true) (.ref l))) → H' l = some (.lst []) → Ex H H' → Q (.ref r) H') ∨
   (∃ hi : Int, SqT K H fa [.str "numbers", .int 0, .int hi] ∧ ∀ (r : Addr) (H' : Hp), H r = none → H' r = some (.lst []) → Ex H H' → Q (.ref r) H'))
theorem sc_opening_chains : FnScope ["form", "maker", "parts"] ["form"] (defScope s_opening_chains) := ⟨rfl, rfl, rfl, by decide +kernel, rfl, by decide +kernel, by decide +kernel⟩
theorem ok_opening_chains {CC : Addr} (F : Fun K "opening_chains" "opening_chains" s_opening_chains f fd) (cc : Cl P w K mg base 3 "chain_of_cells" (spCells CC)) : FnOk P w K mg base CX0 4 f fd ["form"] (spOpen K CC) := by
  refine F.ok sc_opening_chains (by rintro vs H Q E ⟨_, rfl, _⟩; rfl) (fun cdv A0 outer s H vs Q E hr h => ?_)
  obtain ⟨fa, rfl, h⟩ := h
  have nd := sc_opening_chains.nd
  refine ⟨_, pss_cons (ps_if (pt_cmpR op_eq (pe_ix ix_tup (pv 0) pe_int (fun _ _ => rfl)) pe_str (nomark _)) pss_never pss_nil)
    (pss_cons (ps_if (pt_cmpR op_eq (pe_ix ix_tup (pv 0) pe_int (fun _ _ => rfl)) pe_str (nomark _)) (pss_one (ps_ret (pe_lst (pa_cons (pe_tup (pa_cons pe_non (pa_cons (pe_cl cc hr (by decide) (by rfl) (pa_cons (pe_ix ix_tup (pv 0) pe_int (fun _ _ => rfl)) pa_nil)) pa_nil))) pa_nil)))) pss_nil)
    (pss_one (ps_ret (pe_lst pa_nil)))), ?_⟩
  rcases h with ⟨hs, q⟩ | ⟨hi, hs, q⟩
  · refine ⟨_, rfl, fa, _, 0, _, rfl, rfl, hs, atI_nat (j := 0) rfl, rfl, _, rfl, ite2 (fun e => absurd (of_decide_eq_true e) (by decide +kernel)) (fun _ => ?_)⟩
    refine ⟨_, rfl, fa, _, 0, _, rfl, rfl, hs, atI_nat (j := 0) rfl, rfl, _, rfl, ite2 (fun _ => ?_) (fun e => absurd (decide_eq_true rfl) e)⟩
    refine ⟨_, rfl, fa, _, 1, _, rfl, rfl, hs, atI_nat (j := 1) rfl, .str "cell", rfl, fun c dx l H1 nc nl hcl hc hl e1 => ?_⟩
    refine ⟨by show 2 ≤ sizeLine; decide, fun t ht => ⟨by show 1 ≤ sizeLine; decide, fun r hr0 => ?_⟩⟩
    have e2 : Ex H1 (upd H1 t (.tup [.non, .ref c])) := Evl.Ex.new ht
    have e3 : Ex (upd H1 t (.tup [.non, .ref c])) (upd (upd H1 t (.tup [.non, .ref c])) r (.lst [.ref t])) := Evl.Ex.new hr0
    have e23 := e2.trans e3
    refine q r t c dx l _ (Evl.fresh_back (e1.trans e2) hr0) (Evl.fresh_back e1 ht) nc nl ?_ upd_same (e3 _ _ upd_same) (e23 _ _ hc) (e23 _ _ hl) (e1.trans e23)
    intro z
    subst z
    have := e2 _ _ hl
    rw [hr0] at this
    cases this
  · refine ⟨_, rfl, fa, _, 0, _, rfl, rfl, hs, atI_nat (j := 0) rfl, rfl, _, rfl, ite2 (fun e => absurd (of_decide_eq_true e) (by decide +kernel)) (fun _ => ?_)⟩
    refine ⟨_, rfl, fa, _, 0, _, rfl, rfl, hs, atI_nat (j := 0) rfl, rfl, _, rfl, ite2 (fun e => absurd (of_decide_eq_true e) (by decide +kernel)) (fun _ => ?_)⟩
    exact ⟨Nat.zero_le _, fun r hr0 => q r _ hr0 upd_same (Evl.Ex.new hr0)⟩
/-! ### one more size -/
structure SzVar (A : SA) (m : Int) (a b g : Nat) (H : Hp) : Prop where
  r : H A.lr = some (.lst (seqV (vR m) a))
  c : H A.lc = some (.lst (seqV (vC m) b))
  w : H A.w = some (.lst (seqV (vW m) g))
def Fr3 (A : SA) (H H' : Hp) : Prop := ∀ b o, b ≠ A.lr → b ≠ A.lc → b ≠ A.w → H b = some o → H' b = some o
theorem Fr3.refl (A : SA) (H : Hp) : Fr3 A H H := fun _ _ _ _ _ h => h
theorem Fr3.trans {A : SA} {H H1 H2 : Hp} (a : Fr3 A H H1) (b : Fr3 A H1 H2) : Fr3 A H H2 := fun x o h1 h2 h3 h => b x o h1 h2 h3 (a x o h1 h2 h3 h)
theorem Fr3.ex {A : SA} {H H1 : Hp} (e : Ex H H1) : Fr3 A H H1 := fun x o _ _ _ h => e x o h
def spAddSize (K : PySem.W.Frag) (CS CC : Addr) : Sp := fun vs H Q _ => ∃ (A : SA) (hi : Int) (n : Nat), vs = [.ref A.s, .int (n : Nat)] ∧ SzFix K CS CC A hi H ∧ H A.kd = some (.dK (kdV A)) ∧ SzVar A (hi + 1) n n n H ∧ n ≤ 99 ∧
  ∀ H', SzFix K CS CC A hi H' → H' A.kd = some (.dK (kdV A)) → SzVar A (hi + 1) (n + 1) (n + 1) (n + 1) H' → Fr3 A H H' → Q .non H'
theorem sc_add_size : FnScope ["self", "size", "kind", "_", "chain"] ["self", "size"] (defScope s_add_size) := ⟨rfl, rfl, rfl, by decide +kernel, rfl, by decide +kernel, by decide +kernel⟩
theorem ok_add_size {CS CC g1 g2 : Addr} {gd1 gd2 : FuncData} (F : Fun K "add_size" "Sizes.add_size" s_add_size f fd) (TS : KS K CS) (TC : KC K CC) (m1 : Meth K CS "count_of" g1) (G1 : FnOk P w K mg base CX0 2 g1 gd1 ["self", "kind", "size"] (spCountOf K CS CC)) (b1 : Binds K gd1 ["self", "kind", "size"] [])
    (m2 : Meth K CS "add_ways" g2) (G2 : FnOk P w K mg base CX0 2 g2 gd2 ["self", "chain", "size"] (spAddWays K CS CC)) (b2 : Binds K gd2 ["self", "chain", "size"] []) : FnOk P w K mg base CX0 3 f fd ["self", "size"] (spAddSize K CS CC) := by
  refine F.ok sc_add_size (by rintro vs H Q E ⟨_, _, _, rfl, _⟩; rfl) (fun cdv A0 outer s H vs Q E hr h => ?_)
  obtain ⟨A, hi, n, rfl, z, hkd, sv, hn, q⟩ := h
  have hu := hu_of hr
  have nd := sc_add_size.nd
  refine ⟨_, pss_cons (ps_lock (ps_for PassesOwn.never rfl (pi_keys (pe_fld (pv 0) rfl)) (pg_name (i := 2) nd rfl (Or.inl rfl))
      (pss_one (ps_expr (pe_bm PySem.F.plainAttrs_list PySem.F.slot_list_append PySem.F.type_list_append mt_append (pe_dget hu (pe_fld (pv 0) rfl) (pv 2) (fun _ _ => rfl)) (pa_cons (pe_meth (pv 0) TS.cl m1 G1 hr b1 .nil pass0 (pa_cons (pv 2) (pa_cons (pv 1) pa_nil))) pa_nil))))))
    (pss_one (ps_lock (ps_for PassesOwn.never rfl (pi_keys (pe_fld (pv 0) rfl)) (pg_name (i := 2) nd rfl (Or.inl rfl))
      (pss_one (ps_for PassesOwn.never rfl (pi_list (pe_dget hu (pe_fld (pv 0) rfl) (pv 2) (fun _ _ => rfl))) (pg_tup rfl (pgs_cons (pg_name (i := 3) nd rfl (Or.inl rfl)) (pgs_cons (pg_name (i := 4) nd rfl (Or.inl rfl)) pgs_nil)))
        (pss_one (ps_expr (pe_meth (pv 0) TS.cl m2 G2 hr b2 .nil pass0 (pa_cons (pv 4) (pa_cons (pv 1) pa_nil)))))))))), ?_⟩
  refine ⟨A.kd, .dK (kdV A), hkd, trivial, fun od => ?_⟩
  have zL : SzFix K CS CC A hi (upd H A.kd (.frz od (.dK (kdV A)))) := sz_upd z hkd (.inl rfl) (.inr ⟨_, rfl⟩)
  have neK : ∀ {xs : List V} {l : Addr}, H l = some (.lst xs) → l ≠ A.kd := fun hl e => by
    subst e
    rw [hkd] at hl
    cases hl
  have svL : SzVar A (hi + 1) n n n (upd H A.kd (.frz od (.dK (kdV A)))) := ⟨by rw [upd_ne (neK sv.r)]; exact sv.r, by rw [upd_ne (neK sv.c)]; exact sv.c, by rw [upd_ne (neK sv.w)]; exact sv.w⟩
  generalize hHL : upd H A.kd (.frz od (.dK (kdV A))) = HL at zL svL
  have hkL : HL A.kd = some (.frz od (.dK (kdV A))) := by rw [← hHL]; exact upd_same
  refine ⟨_, rfl, A.s, CS, A.dxs, _, _, rfl, zL.ob, TS.cl, TS.nK, szF_kinds, A.kd, od, rfl, .inl ⟨kdV A, hkL, ?_⟩⟩
  refine for_it (walk_keys (d := A.kd) (o := od) (kvs := kdV A)) (fun i σ H' => ∃ x2, σ = [some (.ref A.s), some (.int (n : Nat)), x2, none, none] ∧ SzFix K CS CC A hi H' ∧ H' A.kd = some (.frz od (.dK (kdV A))) ∧ SzVar A (hi + 1) (if 1 ≤ i then n + 1 else n) (if 2 ≤ i then n + 1 else n) n H' ∧ Fr3 A HL H') ⟨none, rfl, zL, hkL, svL, Fr3.refl A HL⟩ (fun i σ H' _ ⟨_, _, _, h, _⟩ => h) ?_ ?_
  · rintro i x σ H' H2 hi2 ⟨x2, rfl, z1, k1, s1, fr1⟩ ⟨rfl, ky, v, hkv, rfl⟩
    have step : ∀ (k : Str) (l : Addr) (gg : Nat → Int), IsKind k → valV [(kR, V.ref A.lr), (kC, V.ref A.lc)] (Sum.inr k : Key) = some (.ref l) → H2 l = some (.lst (seqV gg n)) → gg n = vOf (hi + 1) k n → ∀ D : Ends,
        (∀ H3, Ex H2 H3 → D.nx [some (.ref A.s), some (.int (n : Nat)), some (.str k), none, none] (upd H3 l (.lst (seqV gg (n + 1))))) →
        tDrop (tBM K "list" rAppend (tDGet (tFld K (tVar 0) "counts") (tVar 2)) (tCons (tMeth CS "count_of" (spCountOf K CS CC) [] E0 (tVar 0) (tCons (tVar 2) (tCons (tVar 1) tNil))) tNil)) D [some (.ref A.s), some (.int (n : Nat)), some (.str k), none, none] H2 := by
      intro k l gg hk hv hl hg D hN
      refine ⟨.ref A.s, rfl, A.s, CS, A.dxs, _, _, rfl, z1.ob, TS.cl, TS.nC, szF_counts, .str k, rfl, A.dc, .ref l, rfl, dget (.inl z1.dc) hv, .inl ⟨rfl, _, .inl (.inl hl)⟩, ?_⟩
      refine ⟨.ref A.s, rfl, A.s, A.dxs, _, rfl, z1.ob, szF_no (by decide +kernel) (by decide +kernel) (by decide +kernel), _, rfl, _, rfl, A, hi, k, n, n, rfl, z1, s1.w, Nat.le_refl _, by omega, hk, fun H3 e3 => ?_⟩
      refine ⟨l, _, _, rfl, rfl, e3 _ _ hl, by rw [seqV_len]; exact small1000 (by omega), ?_⟩
      have := hN H3 e3
      rw [seqV_succ, hg] at this
      exact this
    have hi3 : i = 0 ∨ i = 1 := by
      have : i < 2 := hi2
      omega
    rcases hi3 with rfl | rfl
    · have e := Option.some.inj hkv
      have e1 : ky = kR := (congrArg Prod.fst e).symm
      subst e1
      refine step "row" A.lr (vR (hi + 1)) .row val_row s1.r (by unfold vOf; rw [if_pos rfl]) _ fun H3 e3 => ?_
      refine ⟨_, rfl, (z1.ex e3).grow (e3 _ _ s1.r) z.d4.1 z.d5.1, ?_, ⟨upd_same, ?_, ?_⟩, ?_⟩
      · rw [upd_ne (neK sv.r).symm]
        exact e3 _ _ k1
      · rw [upd_ne z.d1.symm]
        exact e3 _ _ s1.c
      · rw [upd_ne z.d2.symm]
        exact e3 _ _ s1.w
      · intro b o h1 h2 h3 h
        rw [upd_ne h1]
        exact e3 _ _ (fr1 _ _ h1 h2 h3 h)
    · have e := Option.some.inj hkv
      have e1 : ky = kC := (congrArg Prod.fst e).symm
      subst e1
      refine step "cell" A.lc (vC (hi + 1)) .cell val_cell s1.c (by unfold vOf; rw [if_neg cell_ne_row]) _ fun H3 e3 => ?_
      refine ⟨_, rfl, (z1.ex e3).grow (e3 _ _ s1.c) z.d4.2.1 z.d5.2.1, ?_, ⟨?_, upd_same, ?_⟩, ?_⟩
      · rw [upd_ne (neK sv.c).symm]
        exact e3 _ _ k1
      · rw [upd_ne z.d1]
        exact e3 _ _ s1.r
      · rw [upd_ne z.d3.symm]
        exact e3 _ _ s1.w
      · intro b o h1 h2 h3 h
        rw [upd_ne h2]
        exact e3 _ _ (fr1 _ _ h1 h2 h3 h)
  · rintro σ H1 ⟨x2, rfl, z1, k1, s1, fr1⟩
    refine ⟨k1, ?_⟩
    have s1' : SzVar A (hi + 1) (n + 1) (n + 1) n H1 := s1
    clear s1
    have z2 : SzFix K CS CC A hi (upd H1 A.kd (.dK (kdV A))) := sz_upd z1 k1 (.inr ⟨_, rfl⟩) (.inl rfl)
    have fr2 : Fr3 A H (upd H1 A.kd (.dK (kdV A))) := fun b o h1 h2 h3 h => by
      by_cases e : b = A.kd
      · subst e
        rw [upd_same, ← hkd]
        exact h
      · rw [upd_ne e]
        refine fr1 _ _ h1 h2 h3 ?_
        rw [← hHL, upd_ne e]
        exact h
    have s2 : SzVar A (hi + 1) (n + 1) (n + 1) n (upd H1 A.kd (.dK (kdV A))) := ⟨by rw [upd_ne (neK sv.r)]; exact s1'.r, by rw [upd_ne (neK sv.c)]; exact s1'.c, by rw [upd_ne (neK sv.w)]; exact s1'.w⟩
    have k2 : (upd H1 A.kd (.dK (kdV A))) A.kd = some (.dK (kdV A)) := upd_same
    generalize upd H1 A.kd (.dK (kdV A)) = Hm at z2 fr2 s2 k2
    refine ⟨A.kd, .dK (kdV A), k2, trivial, fun oe => ?_⟩
    have z3 : SzFix K CS CC A hi (upd Hm A.kd (.frz oe (.dK (kdV A)))) := sz_upd z2 k2 (.inl rfl) (.inr ⟨_, rfl⟩)
    have s3 : SzVar A (hi + 1) (n + 1) (n + 1) n (upd Hm A.kd (.frz oe (.dK (kdV A)))) := ⟨by rw [upd_ne (neK sv.r)]; exact s2.r, by rw [upd_ne (neK sv.c)]; exact s2.c, by rw [upd_ne (neK sv.w)]; exact s2.w⟩
    have k3 : (upd Hm A.kd (.frz oe (.dK (kdV A)))) A.kd = some (.frz oe (.dK (kdV A))) := upd_same
    have fr3 : Fr3 A Hm (upd (upd Hm A.kd (.frz oe (.dK (kdV A)))) A.kd (.dK (kdV A))) := fun b o h1 h2 h3 h => by
      by_cases e : b = A.kd
      · subst e
        rw [upd_same, ← k2]
        exact h
      · rw [upd_ne e, upd_ne e]
        exact h
    generalize hHN : upd Hm A.kd (.frz oe (.dK (kdV A))) = HN at z3 s3 k3 fr3
    refine ⟨_, rfl, A.s, CS, A.dxs, _, _, rfl, z3.ob, TS.cl, TS.nK, szF_kinds, A.kd, oe, rfl, .inl ⟨kdV A, k3, ?_⟩⟩
    refine for_it (walk_keys (d := A.kd) (o := oe) (kvs := kdV A)) (fun i σ H' => ∃ x2 x3 x4, σ = [some (.ref A.s), some (.int (n : Nat)), x2, x3, x4] ∧ SzFix K CS CC A hi H' ∧ H' A.kd = some (.frz oe (.dK (kdV A))) ∧ SzVar A (hi + 1) (n + 1) (n + 1) (if 1 ≤ i then n + 1 else n) H' ∧ Fr3 A HN H') ⟨_, _, _, rfl, z3, k3, s3, Fr3.refl A HN⟩ (fun i σ H' _ ⟨_, _, _, _, _, h, _⟩ => h) ?_ ?_
    · rintro i x σ H' H2 hi2 ⟨x2, x3, x4, rfl, z4, k4, s4, fr4⟩ ⟨rfl, ky, v, hkv, rfl⟩
      have hi3 : i = 0 ∨ i = 1 := by
        have : i < 2 := hi2
        omega
      rcases hi3 with rfl | rfl
      · have e := Option.some.inj hkv
        have e1 : ky = kR := (congrArg Prod.fst e).symm
        subst e1
        refine ⟨.ref A.s, rfl, A.s, CS, A.dxs, _, _, rfl, z4.ob, TS.cl, TS.nH, szF_chains, .str "row", rfl, A.dch, .ref A.chr, rfl, dget (.inl z4.dch) val_row, ?_⟩
        refine ⟨A.chr, rfl, ⟨_, .inl (.inl z4.chr)⟩, ?_⟩
        refine for_it (walk_list (K := K) (a := A.chr) (xs := [.ref A.t])) (fun i σ H' => ∃ x3 x4, σ = [some (.ref A.s), some (.int (n : Nat)), some (.str "row"), x3, x4] ∧ SzFix K CS CC A hi H' ∧ H' A.kd = some (.frz oe (.dK (kdV A))) ∧ SzVar A (hi + 1) (n + 1) (n + 1) (if 1 ≤ i then n + 1 else n) H' ∧ Fr3 A HN H') ⟨_, _, rfl, z4, k4, s4, fr4⟩ (fun i σ H' _ ⟨_, _, _, h, _⟩ => .inl (.inl h.chr)) ?_ ?_
        · rintro j x σ H' H3 hj ⟨x3, x4, rfl, z5, k5, s5, fr5⟩ ⟨rfl, hx⟩
          have hj0 : j = 0 := by
            have : j < 1 := hj
            omega
          subst hj0
          have ex : x = .ref A.t := (Option.some.inj hx).symm
          subst ex
          refine ⟨A.t, _, rfl, .inl (.inl z5.t), rfl, .non, _, rfl, .ref A.c, [], rfl, rfl, ?_⟩
          refine ⟨.ref A.s, rfl, A.s, A.dxs, _, rfl, z5.ob, szF_no (by decide +kernel) (by decide +kernel) (by decide +kernel), _, rfl, _, rfl, A, hi, n, rfl, z5, s5.w, s5.c, by omega, fun H4 hw4 fr => ?_⟩
          have wne : A.kd ≠ A.w := fun e => by
            have h1 := s5.w
            rw [← e, k5] at h1
            cases h1
          refine ⟨_, _, rfl, sz_w z5 s5.w fr, fr _ _ wne k5, ⟨fr _ _ z5.d2 s5.r, fr _ _ z5.d3 s5.c, hw4⟩, fun b o h1 h2 h3 h => fr _ _ h3 (fr5 _ _ h1 h2 h3 h)⟩
        · rintro σ H4 ⟨x3, x4, rfl, z5, k5, s5, fr5⟩
          exact ⟨_, _, _, rfl, z5, k5, s5, fr5⟩
      · have e := Option.some.inj hkv
        have e1 : ky = kC := (congrArg Prod.fst e).symm
        subst e1
        refine ⟨.ref A.s, rfl, A.s, CS, A.dxs, _, _, rfl, z4.ob, TS.cl, TS.nH, szF_chains, .str "cell", rfl, A.dch, .ref A.chc, rfl, dget (.inl z4.dch) val_cell, ?_⟩
        refine ⟨A.chc, rfl, ⟨_, .inl (.inl z4.chc)⟩, ?_⟩
        refine for_it (walk_list (K := K) (a := A.chc) (xs := [])) (fun i σ H' => ∃ x3 x4, σ = [some (.ref A.s), some (.int (n : Nat)), some (.str "cell"), x3, x4] ∧ SzFix K CS CC A hi H' ∧ H' A.kd = some (.frz oe (.dK (kdV A))) ∧ SzVar A (hi + 1) (n + 1) (n + 1) (n + 1) H' ∧ Fr3 A HN H') ⟨_, _, rfl, z4, k4, s4, fr4⟩ (fun i σ H' _ ⟨_, _, _, h, _⟩ => .inl (.inl h.chc)) ?_ ?_
        · rintro j x σ H' H3 hj
          exact absurd hj (Nat.not_lt_zero _)
        · rintro σ H4 ⟨x3, x4, rfl, z5, k5, s5, fr5⟩
          exact ⟨_, _, _, rfl, z5, k5, s5, fr5⟩
    · rintro σ H1 ⟨x2, x3, x4, rfl, z4, k4, s4, fr4⟩
      refine ⟨k4, ?_⟩
      have s4' : SzVar A (hi + 1) (n + 1) (n + 1) (n + 1) H1 := s4
      have z6 : SzFix K CS CC A hi (upd H1 A.kd (.dK (kdV A))) := sz_upd z4 k4 (.inr ⟨_, rfl⟩) (.inl rfl)
      refine q _ z6 upd_same ⟨by rw [upd_ne (neK sv.r)]; exact s4'.r, by rw [upd_ne (neK sv.c)]; exact s4'.c, by rw [upd_ne (neK sv.w)]; exact s4'.w⟩ fun b o h1 h2 h3 h => ?_
      by_cases e : b = A.kd
      · subst e
        rw [upd_same, ← hkd]
        exact h
      · rw [upd_ne e]
        refine fr4 _ _ h1 h2 h3 ?_
        rw [← hHN, upd_ne e]
        exact fr2 _ _ h1 h2 h3 h
end
end FV
namespace FV
open PySem PySem.Spec PyProof.Rows L2 FC FP
open Evl (Ex)
theorem dc_it {J : It} {n : Nat} {G : Hp → Prop} {Y : Nat → Hp → V → Hp → Prop} (w : Walk J n G Y) {g : TG} {tt : TT} {tk tv : TE} {vs : List Nat} {σ : L2.St} {H1 : Hp} {D : Addr} {Qd : Hp → Prop} (Pv : Nat → Hp → Prop) (h0 : Pv 0 (upd H1 D (.dK []))) (hG : ∀ i H, i ≤ n → Pv i H → G H)
    (hs : ∀ i x H H', i < n → Pv i H → Y i H x H' → g x (wipe σ vs) H' fun σ2 H2 => wipe σ2 vs = wipe σ vs ∧ tt σ2 H2 fun b H3 =>
      if b = true then tk σ2 H3 fun y H4 => tv σ2 H4 fun z H5 => ∃ kvs k, y = kV k ∧ H5 D = some (.dK kvs) ∧ kvs.length < sizeLine ∧ Pv (i + 1) (upd H5 D (.dK (putK kvs k z))) else Pv (i + 1) H3) (hd : ∀ H, Pv n H → Qd H) :
    ∃ W : Nat → Nat → Hp → Prop, (∃ m, W 0 m (upd H1 D (.dK []))) ∧ ∀ i m H, W i m H →
      (J.stop i H ∧ Qd H) ∨ (J.go i H ∧ ∃ Nx : Hp → Prop, (∀ H', Nx H' → ∃ m', m' < m ∧ W (i + 1) m' H') ∧ ∀ x H', J.yld i H x H' → g x (wipe σ vs) H' fun σ2 H2 => wipe σ2 vs = wipe σ vs ∧ tt σ2 H2 fun b H3 =>
        if b = true then tk σ2 H3 fun y H4 => tv σ2 H4 fun z H5 => ∃ kvs k, y = kV k ∧ H5 D = some (.dK kvs) ∧ kvs.length < sizeLine ∧ Nx (upd H5 D (.dK (putK kvs k z))) else Nx H3) := by
  refine ⟨fun i m H => m = n - i ∧ i ≤ n ∧ Pv i H, ⟨n, by simp, Nat.zero_le _, h0⟩, ?_⟩
  rintro i m H ⟨rfl, hi, p⟩
  have q := hG i H hi p
  by_cases hlt : i < n
  · refine .inr ⟨w.goes i H hlt q, Pv (i + 1), fun H' p' => ⟨n - (i + 1), by omega, rfl, hlt, p'⟩, fun x H' y => hs i x H H' hlt p (w.yields i H x H' hlt q y)⟩
  · have e : i = n := by omega
    subst e
    exact .inl ⟨w.stops H q, hd H p⟩
/-- what a new Sizes object is given -/
structure SI (K : PySem.W.Frag) (CS : Addr) (s kd fr fc dxs : Addr) (hi : Int) (H : Hp) : Prop where
  ob : H s = some (.ins CS dxs [])
  kd : H kd = some (.dK [(kR, .ref fr), (kC, .ref fc)])
  fr : SqT K H fr [.str "rows", .str "cell"]
  fc : SqT K H fc [.str "numbers", .int 0, .int hi]
  hi0 : 0 ≤ hi ∧ hi ≤ 1000
theorem lock_ex {H H' : Hp} {d : Addr} {u x : HO} (e : Ex (upd H d x) H') (hd : H d = some u) : Ex H (upd H' d u) := fun b o h => by
  by_cases z : b = d
  · subst z
    rw [upd_same, ← hd]
    exact h
  · rw [upd_ne z]
    refine e _ _ ?_
    rw [upd_ne z]
    exact h
theorem fresh_ne {H : Hp} {a b : Addr} {o : HO} (ha : H a = none) (hb : H b = some o) : a ≠ b := fun e => by
  rw [e, hb] at ha
  cases ha
theorem fresh_upd {H : Hp} {a d : Addr} {x : HO} (h : (upd H d x) a = none) : a ≠ d ∧ H a = none := by
  have n : a ≠ d := fun e => by
    rw [e, upd_same] at h
    cases h
  exact ⟨n, by rw [upd_ne n] at h; exact h⟩
theorem put1 {x : V} : putK ([] : List (Key × V)) kR x = [(kR, x)] := rfl
theorem put2 {x y : V} : putK [(kR, x)] kC y = [(kR, x), (kC, y)] := by
  have h : ("row" : Str) ≠ "cell" := by decide +kernel
  unfold putK kR kC
  simp [h]
theorem sq_fr {K : PySem.W.Frag} {H H' : Hp} {p a : Addr} {o : HO} {vs : List V} (hp : H p = some o) (n1 : ∀ vs, o ≠ .tup vs) (n2 : ∀ q vs, o ≠ .frz q (.tup vs)) (fr : ∀ b o, b ≠ p → H b = some o → H' b = some o) (h : SqT K H a vs) : SqT K H' a vs := by
  have ne : ∀ {x : HO}, H a = some x → (x = .tup vs ∨ ∃ q, x = .frz q (.tup vs)) → a ≠ p := fun ha hx e => by
    subst e
    rw [hp] at ha
    cases Option.some.inj ha
    rcases hx with rfl | ⟨q, rfl⟩
    · exact n1 _ rfl
    · exact n2 _ _ rfl
  rcases h with (h | ⟨q, h⟩) | h
  · exact .inl (.inl (fr _ _ (ne h (.inl rfl)) h))
  · exact .inl (.inr ⟨q, fr _ _ (ne h (.inr ⟨q, rfl⟩)) h⟩)
  · exact .inr h
section
variable {P : Program} {w : World} {K : PySem.W.Frag} {mg : Str → Option Value} {base : Heap} {f : Addr} {fd : FuncData}
def spInit (K : PySem.W.Frag) (CS CC : Addr) : Sp := fun vs H Q _ => ∃ (s kd fr fc dxs : Addr) (hi : Int) (g : Nat), vs = [.ref s, .ref kd, .int (g : Nat)] ∧ SI K CS s kd fr fc dxs hi H ∧ g ≤ 99 ∧
  ∀ (A : SA) (H' : Hp), A.s = s → A.kd = kd → A.dxs = dxs → SzFix K CS CC A hi H' → SzVar A (hi + 1) (g + 1) (g + 1) (g + 1) H' → (∀ b o, b ≠ s → H b = some o → H' b = some o) → Q .non H'
theorem sc_init : FnScope ["self", "kinds", "greatest", "size", "kind"] ["self", "kinds", "greatest"] (defScope s_sizes_init) := ⟨rfl, rfl, rfl, by decide +kernel, rfl, by decide +kernel, by decide +kernel⟩
theorem ok_init {CS CC g1 : Addr} {gd1 : FuncData} (F : Fun K "__init__" "Sizes.__init__" s_sizes_init f fd) (M : Bl mg) (TS : KS K CS) (TC : KC K CC) (co : Cl P w K mg base 4 "opening_chains" (spOpen K CC)) (m1 : Meth K CS "add_size" g1) (G1 : FnOk P w K mg base CX0 3 g1 gd1 ["self", "size"] (spAddSize K CS CC)) (b1 : Binds K gd1 ["self", "size"] []) : FnOk P w K mg base CX0 5 f fd ["self", "kinds", "greatest"] (spInit K CS CC) := by
  refine F.ok sc_init (by rintro vs H Q E ⟨_, _, _, _, _, _, _, rfl, _⟩; rfl) (fun cdv A0 outer s0 H vs Q E hr h => ?_)
  obtain ⟨s, kd, fr, fc, dxs, hi, g, rfl, z, hg, q⟩ := h
  have hu := hu_of hr
  have nd := sc_init.nd
  refine ⟨_, pss_cons (ps_fld (pv 0) (pv 1) rfl)
    (pss_cons (ps_fld (pv 0) (pe_lock (pe_dc (own := [("kind", 4)]) (g := gName 4) (tt := tYes) (tk := tVar 4) (tv := tLst tNil) rfl nd (pi_keys (pv 1)) (blkOk_by (N := ["self", "kinds", "greatest", "size", "kind"]) (sc := defScope s_sizes_init) (by decide +kernel))
        (fun _ _ _ _ _ => pg_name (i := 4) nd rfl (Or.inl rfl)) (fun _ _ _ _ _ => pts_nil) (fun _ _ _ _ _ => pv 4) (fun _ _ _ _ _ => pe_lst pa_nil))) rfl)
    (pss_cons (ps_fld (pv 0) (pe_lock (pe_dc (own := [("kind", 4)]) (g := gName 4) (tt := tYes) (tk := tVar 4) (tv := tCall (spOpen K CC) [] E0 (tCons (tDGet (tVar 1) (tVar 4)) tNil)) rfl nd (pi_keys (pv 1)) (blkOk_by (N := ["self", "kinds", "greatest", "size", "kind"]) (sc := defScope s_sizes_init) (by decide +kernel))
        (fun _ _ _ _ _ => pg_name (i := 4) nd rfl (Or.inl rfl)) (fun _ _ _ _ _ => pts_nil) (fun _ _ _ _ _ => pv 4) (fun _ _ _ _ _ => pe_cl co hr (by decide) (by rfl) (pa_cons (pe_dget hu (pv 1) (pv 4) (fun _ _ => rfl)) pa_nil)))) rfl)
    (pss_one (ps_for PassesOwn.never rfl (pi_range1 (by rfl) M.range (pa_cons (pe_op op_add (pv 2) pe_int) pa_nil)) (pg_name (i := 3) nd rfl (Or.inl rfl))
      (pss_one (ps_expr (pe_meth (pv 0) TS.cl m1 G1 (hr.mono (by decide)) b1 .nil pass0 (pa_cons (pv 3) pa_nil)))))))), ?_⟩
  refine ⟨.ref kd, rfl, .ref s, rfl, s, CS, dxs, [], rfl, z.ob, TS.cl, TS.nK, (by show 0 < 1000; decide), ?_⟩
  rw [pf_nil]
  have ksn : kd ≠ s := fun e => by
    have h1 := z.kd
    rw [e, z.ob] at h1
    cases h1
  have F1 : ∀ b o, b ≠ s → H b = some o → (upd H s (.ins CS dxs [("kinds", .ref kd)])) b = some o := fun b o hb h => by
    rw [upd_ne hb]
    exact h
  have o1 : (upd H s (.ins CS dxs [("kinds", .ref kd)])) s = some (.ins CS dxs [("kinds", .ref kd)]) := upd_same
  have B1 : ∀ b, (upd H s (.ins CS dxs [("kinds", .ref kd)])) b = none → H b = none := fun b h => (fresh_upd h).2
  generalize upd H s (.ins CS dxs [("kinds", .ref kd)]) = H1 at F1 o1 B1
  have k1 := F1 _ _ ksn z.kd
  -- counts
  refine ⟨kd, _, k1, trivial, fun od => ?_⟩
  have kL : (upd H1 kd (.frz od (.dK [(kR, V.ref fr), (kC, V.ref fc)]))) kd = some (.frz od (.dK [(kR, V.ref fr), (kC, V.ref fc)])) := upd_same
  refine ⟨.ref kd, rfl, kd, od, rfl, .inl ⟨_, kL, fun dc hdc => ?_⟩⟩
  obtain ⟨dck, dc1⟩ := fresh_upd hdc
  have X1 : ∀ {H'}, Ex (upd H1 kd (.frz od (.dK [(kR, V.ref fr), (kC, V.ref fc)]))) H' → Ex H1 (upd H' kd (.dK [(kR, V.ref fr), (kC, V.ref fc)])) := fun e => lock_ex e k1
  have N1 : ∀ {a}, (upd H1 kd (.frz od (.dK [(kR, V.ref fr), (kC, V.ref fc)]))) a = none → H1 a = none := fun h => (fresh_upd h).2
  generalize upd H1 kd (.frz od (.dK [(kR, V.ref fr), (kC, V.ref fc)])) = HL at kL hdc X1 N1
  refine dc_it (walk_keys (d := kd) (o := od) (kvs := [(kR, V.ref fr), (kC, V.ref fc)])) (fun i H' => Ex HL H' ∧ ((i = 0 ∧ H' dc = some (.dK [])) ∨ (i = 1 ∧ ∃ lr, HL lr = none ∧ H' lr = some (.lst []) ∧ H' dc = some (.dK [(kR, .ref lr)])) ∨
      (i = 2 ∧ ∃ lr lc, HL lr = none ∧ HL lc = none ∧ lr ≠ lc ∧ H' lr = some (.lst []) ∧ H' lc = some (.lst []) ∧ H' dc = some (.dK [(kR, .ref lr), (kC, .ref lc)])))) ⟨Evl.Ex.new hdc, .inl ⟨rfl, upd_same⟩⟩ (fun i H' _ h => h.1 _ _ kL) ?_ ?_
  · rintro i x H' H2 hi2 ⟨e, hp⟩ ⟨rfl, ky, v, hkv, rfl⟩
    refine ⟨rfl, ?_⟩
    dsimp only [tYes]
    rw [if_pos rfl]
    rcases hp with ⟨rfl, hd⟩ | ⟨rfl, lr, n1, h1, hd⟩ | ⟨rfl, _⟩
    · have e1 : ky = kR := (congrArg Prod.fst (Option.some.inj hkv)).symm
      subst e1
      refine ⟨.str "row", rfl, Nat.zero_le _, fun r hr0 => ?_⟩
      have rdc : r ≠ dc := fresh_ne hr0 hd
      refine ⟨[], kR, rfl, by rw [upd_ne rdc.symm]; exact hd, by decide, Evl.Ex.mut (e.trans (Evl.Ex.new hr0)) hdc, .inr (.inl ⟨rfl, r, Evl.fresh_back e hr0, by rw [upd_ne rdc]; exact upd_same, ?_⟩)⟩
      rw [upd_same, put1]
    · have e1 : ky = kC := (congrArg Prod.fst (Option.some.inj hkv)).symm
      subst e1
      refine ⟨.str "cell", rfl, Nat.zero_le _, fun r hr0 => ?_⟩
      have rdc : r ≠ dc := fresh_ne hr0 hd
      have rlr : r ≠ lr := fresh_ne hr0 h1
      have lrd : lr ≠ dc := fun e => by
        rw [e, hd] at h1
        cases h1
      refine ⟨_, kC, rfl, by rw [upd_ne rdc.symm]; exact hd, by show 1 < sizeLine; decide, Evl.Ex.mut (e.trans (Evl.Ex.new hr0)) hdc, .inr (.inr ⟨rfl, lr, r, n1, Evl.fresh_back e hr0, rlr.symm, ?_, by rw [upd_ne rdc]; exact upd_same, ?_⟩)⟩
      · rw [upd_ne lrd, upd_ne rlr.symm]
        exact h1
      · rw [upd_same, put2]
    · exact absurd hi2 (by show ¬ 2 < 2; decide)
  rintro H' ⟨e, hp⟩
  rcases hp with ⟨h, _⟩ | ⟨h, _⟩ | ⟨_, lr, lc, nlr, nlc, rc, hlr, hlc, hdc2⟩
  · exact absurd h (by show ¬ 2 = 0; decide)
  · exact absurd h (by show ¬ 2 = 1; decide)
  refine ⟨e _ _ kL, ?_⟩
  have e2 := X1 e
  have lk : ∀ {a : Addr} {xs}, H' a = some (.lst xs) → a ≠ kd := fun h z => by
    have h2 := e _ _ kL
    rw [← z, h] at h2
    cases h2
  have hlr2 : (upd H' kd (.dK [(kR, V.ref fr), (kC, V.ref fc)])) lr = some (.lst []) := by rw [upd_ne (lk hlr)]; exact hlr
  have hlc2 : (upd H' kd (.dK [(kR, V.ref fr), (kC, V.ref fc)])) lc = some (.lst []) := by rw [upd_ne (lk hlc)]; exact hlc
  have hdc3 : (upd H' kd (.dK [(kR, V.ref fr), (kC, V.ref fc)])) dc = some (.dK [(kR, .ref lr), (kC, .ref lc)]) := by rw [upd_ne dck]; exact hdc2
  have nlr1 := N1 nlr
  have nlc1 := N1 nlc
  generalize upd H' kd (.dK [(kR, V.ref fr), (kC, V.ref fc)]) = H2 at e2 hlr2 hlc2 hdc3
  refine ⟨.ref s, rfl, s, CS, dxs, _, rfl, e2 _ _ o1, TS.cl, TS.nC, (by show 1 < 1000; decide), ?_⟩
  rw [pf_tl (by decide +kernel), pf_nil]
  have sne : ∀ {a : Addr}, H1 a = none → a ≠ s := fun h => fresh_ne h o1
  have F2 : ∀ b o, b ≠ s → H b = some o → (upd H2 s (.ins CS dxs [("kinds", .ref kd), ("counts", .ref dc)])) b = some o := fun b o hb h => by
    rw [upd_ne hb]
    exact e2 _ _ (F1 _ _ hb h)
  have o2 : (upd H2 s (.ins CS dxs [("kinds", .ref kd), ("counts", .ref dc)])) s = some (.ins CS dxs [("kinds", .ref kd), ("counts", .ref dc)]) := upd_same
  have glr : (upd H2 s (.ins CS dxs [("kinds", .ref kd), ("counts", .ref dc)])) lr = some (.lst []) := by rw [upd_ne (sne nlr1)]; exact hlr2
  have glc : (upd H2 s (.ins CS dxs [("kinds", .ref kd), ("counts", .ref dc)])) lc = some (.lst []) := by rw [upd_ne (sne nlc1)]; exact hlc2
  have gdc : (upd H2 s (.ins CS dxs [("kinds", .ref kd), ("counts", .ref dc)])) dc = some (.dK [(kR, .ref lr), (kC, .ref lc)]) := by rw [upd_ne (sne dc1)]; exact hdc3
  have B2 : ∀ b, (upd H2 s (.ins CS dxs [("kinds", .ref kd), ("counts", .ref dc)])) b = none → H b = none := fun b h => B1 _ (Evl.fresh_back e2 (fresh_upd h).2)
  generalize upd H2 s (.ins CS dxs [("kinds", .ref kd), ("counts", .ref dc)]) = H3 at F2 o2 glr glc gdc B2
  have k3 := F2 _ _ ksn z.kd
  clear hdc3 hlr2 hlc2 e2 hlr hlc hdc2 e X1 N1 kL hdc nlr nlc
  have q3r : SqT K H3 fr [.str "rows", .str "cell"] := sq_fr z.ob (fun _ z => nomatch z) (fun _ _ z => nomatch z) F2 z.fr
  have q3c : SqT K H3 fc [.str "numbers", .int 0, .int hi] := sq_fr z.ob (fun _ z => nomatch z) (fun _ _ z => nomatch z) F2 z.fc
  -- chains
  refine ⟨kd, _, k3, trivial, fun oe => ?_⟩
  have kM : (upd H3 kd (.frz oe (.dK [(kR, V.ref fr), (kC, V.ref fc)]))) kd = some (.frz oe (.dK [(kR, V.ref fr), (kC, V.ref fc)])) := upd_same
  refine ⟨.ref kd, rfl, kd, oe, rfl, .inl ⟨_, kM, fun dch hdch => ?_⟩⟩
  obtain ⟨dchk, dch3⟩ := fresh_upd hdch
  have X3 : ∀ {H'}, Ex (upd H3 kd (.frz oe (.dK [(kR, V.ref fr), (kC, V.ref fc)]))) H' → Ex H3 (upd H' kd (.dK [(kR, V.ref fr), (kC, V.ref fc)])) := fun e => lock_ex e k3
  have N3 : ∀ {a}, (upd H3 kd (.frz oe (.dK [(kR, V.ref fr), (kC, V.ref fc)]))) a = none → H3 a = none := fun h => (fresh_upd h).2
  have qMr : SqT K (upd H3 kd (.frz oe (.dK [(kR, V.ref fr), (kC, V.ref fc)]))) fr [.str "rows", .str "cell"] := sq_fr k3 (fun _ z => nomatch z) (fun _ _ z => nomatch z) (fun b o hb h => by rw [upd_ne hb]; exact h) q3r
  have qMc : SqT K (upd H3 kd (.frz oe (.dK [(kR, V.ref fr), (kC, V.ref fc)]))) fc [.str "numbers", .int 0, .int hi] := sq_fr k3 (fun _ z => nomatch z) (fun _ _ z => nomatch z) (fun b o hb h => by rw [upd_ne hb]; exact h) q3c
  generalize upd H3 kd (.frz oe (.dK [(kR, V.ref fr), (kC, V.ref fc)])) = HM at kM hdch X3 N3 qMr qMc
  refine dc_it (walk_keys (d := kd) (o := oe) (kvs := [(kR, V.ref fr), (kC, V.ref fc)])) (fun i H' => Ex HM H' ∧ ((i = 0 ∧ H' dch = some (.dK [])) ∨
      (i = 1 ∧ ∃ chr t c dx l, HM chr = none ∧ HM t = none ∧ HM c = none ∧ HM l = none ∧ H' chr = some (.lst [.ref t]) ∧ H' t = some (.tup [.non, .ref c]) ∧ H' c = some (.ins CC dx (chF (.str "cell") (.ref c) (.bl true) (.ref l))) ∧ H' l = some (.lst []) ∧ H' dch = some (.dK [(kR, .ref chr)])) ∨
      (i = 2 ∧ ∃ chr t c dx l chc, HM chr = none ∧ HM t = none ∧ HM c = none ∧ HM l = none ∧ HM chc = none ∧ chc ≠ chr ∧ chc ≠ l ∧ H' chr = some (.lst [.ref t]) ∧ H' t = some (.tup [.non, .ref c]) ∧ H' c = some (.ins CC dx (chF (.str "cell") (.ref c) (.bl true) (.ref l))) ∧ H' l = some (.lst []) ∧ H' chc = some (.lst []) ∧ H' dch = some (.dK [(kR, .ref chr), (kC, .ref chc)])))) ⟨Evl.Ex.new hdch, .inl ⟨rfl, upd_same⟩⟩ (fun i H' _ h => h.1 _ _ kM) ?_ ?_
  · rintro i x H' H4 hi2 ⟨e, hp⟩ ⟨rfl, ky, v, hkv, rfl⟩
    refine ⟨rfl, ?_⟩
    dsimp only [tYes]
    rw [if_pos rfl]
    rcases hp with ⟨rfl, hd⟩ | ⟨rfl, chr, t, c, dx, l, n1, n2, n3, n4, h1, h2, h3, h4, hd⟩ | ⟨rfl, _⟩
    · have e1 : ky = kR := (congrArg Prod.fst (Option.some.inj hkv)).symm
      subst e1
      refine ⟨.str "row", rfl, .ref kd, rfl, .str "row", rfl, kd, .ref fr, rfl, dget (.inr ⟨oe, e _ _ kM⟩) val_row, fr, rfl, .inl ⟨ex_t e qMr, fun r t c dx l H5 nr nt nc nl rt hr1 ht1 hc1 hl1 e5 => ?_⟩⟩
      have hd5 := e5 _ _ hd
      have ne : ∀ {a : Addr} {o}, H5 a = some o → (∀ ks, o ≠ .dK ks) → a ≠ dch := fun h n e => by
        rw [e, hd5] at h
        cases Option.some.inj h
        exact n _ rfl
      refine ⟨[], kR, rfl, hd5, by decide, Evl.Ex.mut (e.trans e5) hdch, .inr (.inl ⟨rfl, r, t, c, dx, l, Evl.fresh_back e nr, Evl.fresh_back e nt, Evl.fresh_back e nc, Evl.fresh_back e nl, ?_, ?_, ?_, ?_, ?_⟩)⟩
      · rw [upd_ne (ne hr1 (fun _ z => nomatch z))]; exact hr1
      · rw [upd_ne (ne ht1 (fun _ z => nomatch z))]; exact ht1
      · rw [upd_ne (ne hc1 (fun _ z => nomatch z))]; exact hc1
      · rw [upd_ne (ne hl1 (fun _ z => nomatch z))]; exact hl1
      · rw [upd_same, put1]
    · have e1 : ky = kC := (congrArg Prod.fst (Option.some.inj hkv)).symm
      subst e1
      refine ⟨.str "cell", rfl, .ref kd, rfl, .str "cell", rfl, kd, .ref fc, rfl, dget (.inr ⟨oe, e _ _ kM⟩) val_cell, fc, rfl, .inr ⟨hi, ex_t e qMc, fun r H5 nr hr1 e5 => ?_⟩⟩
      have hd5 := e5 _ _ hd
      have ne : ∀ {a : Addr} {o}, H5 a = some o → (∀ ks, o ≠ .dK ks) → a ≠ dch := fun h n e => by
        rw [e, hd5] at h
        cases Option.some.inj h
        exact n _ rfl
      refine ⟨_, kC, rfl, hd5, by show 1 < sizeLine; decide, Evl.Ex.mut (e.trans e5) hdch, .inr (.inr ⟨rfl, chr, t, c, dx, l, r, n1, n2, n3, n4, Evl.fresh_back e nr, fresh_ne nr h1, fresh_ne nr h4, ?_, ?_, ?_, ?_, ?_, ?_⟩)⟩
      · rw [upd_ne (ne (e5 _ _ h1) (fun _ z => nomatch z))]; exact e5 _ _ h1
      · rw [upd_ne (ne (e5 _ _ h2) (fun _ z => nomatch z))]; exact e5 _ _ h2
      · rw [upd_ne (ne (e5 _ _ h3) (fun _ z => nomatch z))]; exact e5 _ _ h3
      · rw [upd_ne (ne (e5 _ _ h4) (fun _ z => nomatch z))]; exact e5 _ _ h4
      · rw [upd_ne (ne hr1 (fun _ z => nomatch z))]; exact hr1
      · rw [upd_same, put2]
    · exact absurd hi2 (by show ¬ 2 < 2; decide)
  rintro H' ⟨e, hp⟩
  rcases hp with ⟨h, _⟩ | ⟨h, _⟩ | ⟨_, chr, t, c, dxc, l, chc, n1, n2, n3, n4, n5, d1, d2, h1, h2, h3, h4, h5, hdch2⟩
  · exact absurd h (by show ¬ 2 = 0; decide)
  · exact absurd h (by show ¬ 2 = 1; decide)
  refine ⟨e _ _ kM, ?_⟩
  have e4 := X3 e
  have m1' := N3 n1
  have m2' := N3 n2
  have m3' := N3 n3
  have m4' := N3 n4
  have m5' := N3 n5
  have lk : ∀ {a : Addr} {o : HO}, H' a = some o → (∀ p ks, o ≠ .frz p ks) → (upd H' kd (.dK [(kR, V.ref fr), (kC, V.ref fc)])) a = some o := fun {a o} h n => by
    rw [upd_ne (fun z => ?_)]
    · exact h
    · have h2 := e _ _ kM
      rw [← z, h] at h2
      exact n _ _ (Option.some.inj h2)
  have w1 := lk h1 (fun _ _ z => nomatch z)
  have w2 := lk h2 (fun _ _ z => nomatch z)
  have w3 := lk h3 (fun _ _ z => nomatch z)
  have w4 := lk h4 (fun _ _ z => nomatch z)
  have w5 := lk h5 (fun _ _ z => nomatch z)
  have w6 := lk hdch2 (fun _ _ z => nomatch z)
  generalize upd H' kd (.dK [(kR, V.ref fr), (kC, V.ref fc)]) = H4 at e4 w1 w2 w3 w4 w5 w6
  refine ⟨.ref s, rfl, s, CS, dxs, _, rfl, e4 _ _ o2, TS.cl, TS.nH, (by show 2 < 1000; decide), ?_⟩
  rw [pf_tl (by decide +kernel), pf_tl (by decide +kernel), pf_nil]
  have sn3 : ∀ {a : Addr}, H3 a = none → a ≠ s := fun h => fresh_ne h o2
  have up : ∀ {a : Addr} {o x : HO}, a ≠ s → H4 a = some o → (upd H4 s x) a = some o := fun hn h => by
    rw [upd_ne hn]
    exact h
  have F3 : ∀ b o, b ≠ s → H b = some o → (upd H4 s (.ins CS dxs [("kinds", .ref kd), ("counts", .ref dc), ("chains", .ref dch)])) b = some o := fun b o hb h => by
    rw [upd_ne hb]
    exact e4 _ _ (F2 _ _ hb h)
  have lrs : lr ≠ s := sne nlr1
  have lcs : lc ≠ s := sne nlc1
  have A' : ∃ A : SA, A = ⟨s, dxs, kd, dc, dch, lr, lc, chr, chc, t, c, dxc, l, fr, fc⟩ := ⟨_, rfl⟩
  obtain ⟨A, hA⟩ := A'
  have zz : SzFix K CS CC A hi (upd H4 s (.ins CS dxs [("kinds", .ref kd), ("counts", .ref dc), ("chains", .ref dch)])) := by
    subst hA
    refine ⟨upd_same, .inl (F3 _ _ ksn z.kd), sq_fr z.ob (fun _ z => nomatch z) (fun _ _ z => nomatch z) F3 z.fr, sq_fr z.ob (fun _ z => nomatch z) (fun _ _ z => nomatch z) F3 z.fc, up (sne dc1) (e4 _ _ gdc), up (sn3 dch3) w6, up (sn3 m1') w1, up (sn3 m5') w5, up (sn3 m2') w2, up (sn3 m3') w3, rc, (fresh_ne m4' glr).symm, (fresh_ne m4' glc).symm, ⟨fresh_ne m1' glr, fresh_ne m1' glc, fun e => ?_⟩, ⟨fresh_ne m5' glr, fresh_ne m5' glc, d2⟩, ⟨dck.symm, dchk.symm⟩, z.hi0⟩
    have e : chr = l := e
    rw [e, w4] at w1
    cases w1
  have sv : SzVar A (hi + 1) 0 0 0 (upd H4 s (.ins CS dxs [("kinds", .ref kd), ("counts", .ref dc), ("chains", .ref dch)])) := by
    subst hA
    exact ⟨up lrs (e4 _ _ glr), up lcs (e4 _ _ glc), up (sn3 m4') w4⟩
  have kz : (upd H4 s (.ins CS dxs [("kinds", .ref kd), ("counts", .ref dc), ("chains", .ref dch)])) A.kd = some (.dK (kdV A)) := by
    subst hA
    exact F3 _ _ ksn z.kd
  have fA : A.s = s ∧ A.kd = kd ∧ A.dxs = dxs ∧ H A.lr = none ∧ H A.lc = none ∧ H A.w = none := by
    subst hA
    exact ⟨rfl, rfl, rfl, B1 _ nlr1, B1 _ nlc1, B2 _ m4'⟩
  generalize upd H4 s (.ins CS dxs [("kinds", .ref kd), ("counts", .ref dc), ("chains", .ref dch)]) = H5 at F3 zz sv kz
  obtain ⟨fs, fk, fx, f1, f2, f3⟩ := fA
  refine ⟨.int g, rfl, g, 1, rfl, rfl, (g : Int) + 1, rfl, ?_, ?_, ?_⟩
  · omega
  · omega
  rw [show ((g : Int) + 1).toNat = g + 1 by omega]
  refine for_it (walk_range (lo := 0) (n := g + 1)) (fun i σ H' => ∃ x3, σ = [some (.ref s), some (.ref kd), some (.int (g : Nat)), x3, none] ∧ SzFix K CS CC A hi H' ∧ H' A.kd = some (.dK (kdV A)) ∧ SzVar A (hi + 1) i i i H' ∧ Fr3 A H5 H') ⟨none, rfl, zz, kz, sv, Fr3.refl A H5⟩ (fun _ _ _ _ _ => trivial) ?_ ?_
  · rintro i x σ H' H6 hi6 ⟨x3, rfl, z6, k6, s6, fr6⟩ ⟨rfl, rfl⟩
    dsimp only
    rw [show (0 : Int) + (i : Int) = (i : Int) by omega]
    refine ⟨.ref s, rfl, s, dxs, szF A, rfl, ?_, szF_no (by decide +kernel) (by decide +kernel) (by decide +kernel), .int (i : Nat), rfl, A, hi, i, (by rw [fs]; rfl), z6, k6, s6, by omega, fun H7 z7 k7 s7 fr7 => ⟨_, rfl, z7, k7, s7, fr6.trans fr7⟩⟩
    rw [← fs, ← fx]
    exact z6.ob
  · rintro σ H6 ⟨x3, rfl, z6, k6, s6, fr6⟩
    exact q A H6 fs fk fx z6 s6 fun b o hb h => fr6 _ _ (ne_of_none h f1) (ne_of_none h f2) (ne_of_none h f3) (F3 _ _ hb h)
end
end FV
namespace FV
open PySem PySem.Spec PyProof.Rows L2 FC FP
open Evl (Ex)
def Rw_is_count : List PyData → PyData → Prop := fun ds o => ∃ i : Int, ds = [.int i] ∧ 0 ≤ i ∧ o = .bool true
def Rw_check_count : List PyData → PyData → Prop := fun ds o => ∃ i : Int, ds = [.int i] ∧ 0 ≤ i ∧ o = .none
def Rw_size_of_tree : List PyData → PyData → Prop := fun ds o => (∃ i : Int, ds = [.int i] ∧ o = .int 1) ∨ ∃ i j : Int, ds = [listX [.int i, .int j]] ∧ o = .int 3
theorem go_own {B H H' : Hp} (x : Ex B H) (e : Ex H H') : Go B H B H' := ⟨Evl.Ex.refl _, e, x.trans e, fun _ _ _ h => h⟩
section
variable {P : Program} {w : World} {K : PySem.W.Frag} {mg : Str → Option Value} {base : Heap} {f : Addr} {fd : FuncData}
theorem sc_is_count : FnScope ["thing"] ["thing"] (defScope s_is_count) := ⟨rfl, rfl, rfl, by decide +kernel, rfl, by decide +kernel, by decide +kernel⟩
theorem ok_is_count (F : Fun K "is_count" "is_count" s_is_count f fd) (cw : CL P w K mg base 1 "is_whole" Rw_is_whole) : FnOk P w K mg base CX0 2 f fd ["thing"] (spR K Rw_is_count) := by
  refine F.ok sc_is_count (spR_len (by rintro _ _ ⟨_, rfl, _⟩; rfl)) (fun cdv A outer s H vs Q E hr h => ?_)
  obtain ⟨B, ds, o, x, r, ⟨i, rfl, hi, rfl⟩, q⟩ := h
  refine ⟨_, pss_one (ps_ret (pe_and (pe_cl cw hr (by decide) (by rfl) (pa_cons (pv 0) pa_nil)) (pe_one (pe_cmpR op_ge (pv 0) pe_int (nomark _))))), ?_⟩
  refine fin_rt ?_ x r q
  show DS K _ [some (.int i)] _
  exact ds_ret (de_is (de_and (de_call' (da_cons (de_var rfl) da_nil) ⟨.int i, rfl, rfl⟩) fun _ => de_op (de_var rfl) de_int rd_ge) (by rw [show isWhole (.int i) = true from rfl, decide_eq_true hi]; rfl))
theorem sc_check_size : FnScope ["size"] ["size"] (defScope s_check_size) := ⟨rfl, rfl, rfl, by decide +kernel, rfl, by decide +kernel, by decide +kernel⟩
theorem ok_check_size (F : Fun K "check_size" "check_size" s_check_size f fd) (cw : CL P w K mg base 2 "is_count" Rw_is_count) : FnOk P w K mg base CX0 3 f fd ["size"] (spR K Rw_check_count) := by
  refine F.ok sc_check_size (spR_len (by rintro _ _ ⟨_, rfl, _⟩; rfl)) (fun cdv A outer s H vs Q E hr h => ?_)
  obtain ⟨B, ds, o, x, r, ⟨i, rfl, hi, rfl⟩, q⟩ := h
  refine ⟨_, pss_one (ps_if (pt_not (pt_val (pe_cl cw hr (by decide) (by rfl) (pa_cons (pv 0) pa_nil)))) pss_never pss_nil), ?_⟩
  refine fin_nx (G' := [some (.int i)]) ?_ x r q
  show DS K _ [some (.int i)] _
  exact ds_if (b := false) (dt_is (dt_not (dt_B (de_call' (da_cons (de_var rfl) da_nil) ⟨i, rfl, hi, rfl⟩))) rfl) (fun z => nomatch z) fun _ => ds_next
theorem sc_check_number : FnScope ["number"] ["number"] (defScope s_check_number) := ⟨rfl, rfl, rfl, by decide +kernel, rfl, by decide +kernel, by decide +kernel⟩
theorem ok_check_number (F : Fun K "check_number" "check_number" s_check_number f fd) (cw : CL P w K mg base 2 "is_count" Rw_is_count) : FnOk P w K mg base CX0 3 f fd ["number"] (spR K Rw_check_count) := by
  refine F.ok sc_check_number (spR_len (by rintro _ _ ⟨_, rfl, _⟩; rfl)) (fun cdv A outer s H vs Q E hr h => ?_)
  obtain ⟨B, ds, o, x, r, ⟨i, rfl, hi, rfl⟩, q⟩ := h
  refine ⟨_, pss_one (ps_if (pt_not (pt_val (pe_cl cw hr (by decide) (by rfl) (pa_cons (pv 0) pa_nil)))) pss_never pss_nil), ?_⟩
  refine fin_nx (G' := [some (.int i)]) ?_ x r q
  show DS K _ [some (.int i)] _
  exact ds_if (b := false) (dt_is (dt_not (dt_B (de_call' (da_cons (de_var rfl) da_nil) ⟨i, rfl, hi, rfl⟩))) rfl) (fun z => nomatch z) fun _ => ds_next
/-! ### size_of_tree -/
theorem sc_size_of_tree : FnScope ["value", "size", "waiting", "inner"] ["value"] (defScope s_size_of_tree) := ⟨rfl, rfl, rfl, by decide +kernel, rfl, by decide +kernel, by decide +kernel⟩
theorem kit_i : kitB "int" "tuple" = some false := by decide +kernel
theorem kil_i : kitB "int" "list" = some false := by decide +kernel
theorem klt : kitB "list" "tuple" = some false := by decide +kernel
theorem ok_size_of_tree (F : Fun K "size_of_tree" "size_of_tree" s_size_of_tree f fd) (M : Bl mg) : FnOk P w K mg base CX0 1 f fd ["value"] (spR K Rw_size_of_tree) := by
  refine F.ok sc_size_of_tree (spR_len (by rintro _ _ (⟨_, rfl, _⟩ | ⟨_, _, rfl, _⟩) <;> rfl)) (fun cdv A outer s H vs Q E hr h => ?_)
  obtain ⟨B, ds, o, x, r, hds, q⟩ := h
  have nd := sc_size_of_tree.nd
  refine ⟨_, pss_cons (ps_set (i := 1) nd rfl (Or.inl rfl) pe_int) (pss_cons (ps_set (i := 2) nd rfl (Or.inl rfl) (pe_lst (pa_cons (pv 0) pa_nil)))
    (pss_cons (ps_while PassesOwn.never (pt_truth (pv 2) (by intro _; rfl))
      (pss_cons (ps_set (i := 3) nd rfl (Or.inl rfl) (pe_bm0 PySem.F.plainAttrs_list PySem.F.slot_list_pop PySem.F.type_list_pop mt_pop (pv 2)))
      (pss_cons (ps_aug (i := 1) nd rfl (Or.inl rfl) pe_int ip_add)
      (pss_one (ps_if (pt_val (k_isi (pv 3) (by rfl) M.isi (by rfl) M.tuple PyProof.Rows.boot_tuple (by decide) (by decide))) pss_never
        (pss_one (ps_if (pt_val (k_isi (pv 3) (by rfl) M.isi (by rfl) M.list PyProof.Rows.boot_list (by decide) (by decide))) (pss_one (ps_expr (pe_bm PySem.F.plainAttrs_list PySem.F.slot_list_extend PySem.F.type_list_extend mt_extend (pv 2) (pa_cons (pv 3) pa_nil)))) pss_nil)))))))
    (pss_one (ps_ret (pv 1))))), ?_⟩
  -- the things to go through
  have hv : ∃ (v : V) (T : Nat), vs = [v] ∧ ((T = 1 ∧ ∃ i, v = .int i) ∨ (T = 3 ∧ ∃ a i j, v = .ref a ∧ H a = some (.lst [.int i, .int j]))) ∧ ∀ H', Ex H H' → Q (.int (T : Nat)) H' := by
    rcases hds with ⟨i, rfl, rfl⟩ | ⟨i, j, rfl, rfl⟩
    · cases r with
      | cons r1 r2 =>
        cases r2
        cases rt_int r1
        exact ⟨_, 1, rfl, .inl ⟨rfl, i, rfl⟩, fun H' e => q _ B H' (go_own x e) (.d (.int _))⟩
    · cases r with
      | cons r1 r2 =>
        cases r2
        obtain ⟨a, us, rfl, ha, hd⟩ := rt_listX r1
        cases hd with
        | cons h1 hd =>
          cases hd with
          | cons h2 hd =>
            cases hd
            cases h1
            cases h2
            exact ⟨_, 3, rfl, .inr ⟨rfl, a, i, j, rfl, x _ _ ha⟩, fun H' e => q _ B H' (go_own x e) (.d (.int _))⟩
  clear r hds q
  obtain ⟨v, T, rfl, hc, q⟩ := hv
  refine ⟨v, rfl, by show 1 ≤ sizeLine; decide, fun l hl => ?_⟩
  refine ⟨fun m σ H' => ∃ (us : List V) (n : Nat) (x3 : Option V), σ = [some v, some (.int (n : Nat)), some (.ref l), x3] ∧ Ex H H' ∧ H' l = some (.lst us) ∧ ((∃ js : List Int, us = js.map V.int ∧ js.length ≤ 2 ∧ n + js.length = T ∧ m = js.length) ∨ (∃ a i j, us = [.ref a] ∧ n = 0 ∧ T = 3 ∧ m = 4 ∧ H a = some (.lst [.int i, .int j]))), ?_, ?_⟩
  · rcases hc with ⟨rfl, i, rfl⟩ | ⟨rfl, a, i, j, rfl, ha⟩
    · exact ⟨1, _, 0, none, rfl, Evl.Ex.new hl, upd_same, .inl ⟨[i], rfl, by show 1 ≤ 2; decide, rfl, rfl⟩⟩
    · exact ⟨4, _, 0, none, rfl, Evl.Ex.new hl, upd_same, .inr ⟨a, i, j, rfl, rfl, rfl, rfl, ha⟩⟩
  rintro m σ H' ⟨us, n, x3, rfl, e, hl', hcase⟩
  refine ⟨.ref l, rfl, !us.isEmpty, .inl ⟨us, .inl (.inl hl'), rfl⟩, ?_⟩
  have int1 : ∀ (b : Int) (rest : List Int), us = (rest ++ [b]).map V.int → rest.length ≤ 1 → n + (rest.length + 1) = T → m = rest.length + 1 → (!us.isEmpty) = true →
      ∃ N : L2.St → Hp → Prop, (∀ σ' H2, N σ' H2 → ∃ m', m' < m ∧ (∃ (us : List V) (n : Nat) (x3 : Option V), σ' = [some v, some (.int (n : Nat)), some (.ref l), x3] ∧ Ex H H2 ∧ H2 l = some (.lst us) ∧ ((∃ js : List Int, us = js.map V.int ∧ js.length ≤ 2 ∧ n + js.length = T ∧ m' = js.length) ∨ (∃ a i j, us = [.ref a] ∧ n = 0 ∧ T = 3 ∧ m' = 4 ∧ H a = some (.lst [.int i, .int j]))))) ∧
        N [some v, some (.int ((n : Int) + 1)), some (.ref l), some (.int b)] (upd H' l (.lst us.dropLast)) ∧ us[us.length - 1]? = some (.int b) := by
    intro b rest hus hr1 hT hm _
    refine ⟨fun σ' H2 => σ' = [some v, some (.int ((n : Int) + 1)), some (.ref l), some (.int b)] ∧ H2 = upd H' l (.lst us.dropLast), ?_, ⟨rfl, rfl⟩, ?_⟩
    · rintro σ' H2 ⟨rfl, rfl⟩
      refine ⟨rest.length, by omega, us.dropLast, n + 1, _, rfl, Evl.Ex.mut e hl, upd_same, .inl ⟨rest, ?_, by omega, by omega, rfl⟩⟩
      rw [hus, List.map_append]
      simp
    · rw [hus]
      simp
  rcases hcase with ⟨js, hus, hj2, hT, hm⟩ | ⟨a, i, j, hus, h0, hT, hm, ha⟩
  · rcases List.eq_nil_or_concat js with rfl | ⟨rest, b, rfl⟩
    · subst hus
      refine iteF ?_
      have : n = T := by simpa using hT
      subst this
      exact ⟨_, rfl, q H' e⟩
    · rw [List.concat_eq_append] at hus hj2 hT hm
      rw [List.length_append] at hj2 hT hm
      have hne : (!us.isEmpty) = true := by
        rw [hus]
        simp
      obtain ⟨N, hN, hN2, hlast⟩ := int1 b rest hus (by simpa using hj2) hT hm hne
      rw [hne]
      refine iteT ?_
      refine ⟨N, hN, .ref l, rfl, .inl ⟨rfl, _, .inl (.inl hl')⟩, l, us, .int b, rfl, rfl, hl', hlast, ?_⟩
      refine ⟨_, rfl, n, 1, rfl, rfl, ?_⟩
      refine ⟨.int b, rfl, .int b, .ty "tuple", .type "int", .type "tuple", false, rfl, .ty _, .base (.int _), kit_ty kit_i, false, rfl, iteF ?_⟩
      refine ⟨.int b, rfl, .int b, .ty "list", .type "int", .type "list", false, rfl, .ty _, .base (.int _), kit_ty kil_i, false, rfl, iteF ?_⟩
      exact hN2
  · subst hus
    refine iteT ?_
    subst h0 hT hm
    refine ⟨fun σ' H2 => σ' = [some v, some (.int 1), some (.ref l), some (.ref a)] ∧ H2 = upd (upd H' l (.lst [])) l (.lst [.int i, .int j]), ?_, .ref l, rfl, .inl ⟨rfl, _, .inl (.inl hl')⟩, l, [.ref a], .ref a, rfl, rfl, hl', rfl, ?_⟩
    · rintro σ' H2 ⟨rfl, rfl⟩
      rw [upd_upd]
      exact ⟨2, by decide, _, 1, _, rfl, Evl.Ex.mut e hl, upd_same, .inl ⟨[i, j], rfl, by show 2 ≤ 2; decide, rfl, rfl⟩⟩
    have hal : a ≠ l := ne_of_none ha hl
    have ha' : (upd H' l (.lst [])) a = some (.lst [.int i, .int j]) := by
      rw [upd_ne hal]
      exact e _ _ ha
    refine ⟨_, rfl, 0, 1, rfl, rfl, ?_⟩
    refine ⟨.ref a, rfl, .ref a, .ty "tuple", .type "list", .type "tuple", false, rfl, .ty _, .base (.lst ha'), kit_ty klt, false, rfl, iteF ?_⟩
    refine ⟨.ref a, rfl, .ref a, .ty "list", .type "list", .type "list", true, rfl, .ty _, .base (.lst ha'), kit_ty kll, true, rfl, iteT ?_⟩
    refine ⟨.ref l, rfl, .inl ⟨rfl, _, .inl (.inl upd_same)⟩, .ref a, rfl, l, a, [], _, rfl, rfl, upd_same, ha', by show 0 + 2 ≤ sizeLine; decide, rfl, rfl⟩
end
end FV
namespace FV
open PySem PySem.Spec PyProof.Rows L2 FC FP
open Evl (Ex)
structure Szs (K : PySem.W.Frag) (CS CC : Addr) (A : SA) (hi : Int) (H : Hp) : Prop where
  z : SzFix K CS CC A hi H
  v : SzVar A (hi + 1) 4 4 4 H
theorem Szs.ex {K : PySem.W.Frag} {CS CC : Addr} {A : SA} {hi : Int} {H H' : Hp} (z : Szs K CS CC A hi H) (e : Ex H H') : Szs K CS CC A hi H' := ⟨z.z.ex e, ⟨e _ _ z.v.r, e _ _ z.v.c, e _ _ z.v.w⟩⟩
section
variable {P : Program} {w : World} {K : PySem.W.Frag} {mg : Str → Option Value} {base : Heap} {f : Addr} {fd : FuncData}
abbrev nsValueAt : List Str := ["self", "kind", "size", "number", "form", "maker", "chain", "left", "parts"]
def spValC (K : PySem.W.Frag) (CS CC : Addr) : Sp := fun vs H Q _ => ∃ (A : SA) (hi j : Int), vs = [.ref A.s, .str "cell", .int 1, .int j] ∧ SzFix K CS CC A hi H ∧ Q (.int j) H
theorem sc_value_at : FnScope nsValueAt ["self", "kind", "size", "number"] (defScope s_value_at) := ⟨rfl, rfl, rfl, by decide +kernel, rfl, by decide +kernel, by decide +kernel⟩
theorem ok_value_at_cell {CS CC : Addr} (F : Fun K "value_at" "Sizes.value_at" s_value_at f fd) (TS : KS K CS) : FnOk P w K mg base CX0 1 f fd ["self", "kind", "size", "number"] (spValC K CS CC) := by
  refine F.ok sc_value_at (by rintro vs H Q E ⟨_, _, _, rfl, _⟩; rfl) (fun cdv A0 outer s H vs Q E hr h => ?_)
  obtain ⟨A, hi, j, rfl, z, q⟩ := h
  have hu := hu_of hr
  have nd := sc_value_at.nd
  refine ⟨_, pss_cons (ps_set (i := 4) nd rfl (Or.inl rfl) (pe_dget hu (pe_fld (pv 0) rfl) (pv 1) (fun _ _ => rfl)))
    (pss_cons (ps_if (pt_cmpR op_eq (pe_ix ix_tup (pv 4) pe_int (fun _ _ => rfl)) pe_str (nomark _)) (pss_one (ps_ret (pe_op op_add (pe_ix ix_tup (pv 4) pe_int (fun _ _ => rfl)) (pv 3)))) pss_nil)
    pss_never), ?_⟩
  refine ⟨.ref A.s, rfl, A.s, CS, A.dxs, _, _, rfl, z.ob, TS.cl, TS.nK, szF_kinds, .str "cell", rfl, A.kd, .ref A.fc, rfl, dget z.kd val_cell, ?_⟩
  refine ⟨_, rfl, A.fc, _, 0, _, rfl, rfl, z.fc, atI_nat (j := 0) rfl, rfl, _, rfl, ite2 (fun _ => ?_) (fun e => absurd (decide_eq_true rfl) e)⟩
  refine ⟨_, rfl, A.fc, _, 1, _, rfl, rfl, z.fc, atI_nat (j := 1) rfl, .int j, rfl, 0, j, rfl, rfl, ?_⟩
  show Q (.int (0 + j)) H
  rw [Int.zero_add]
  exact q
/-! ### chain_at -/
def spChainAt (K : PySem.W.Frag) (CS CC : Addr) : Sp := fun vs H Q _ => ∃ (A : SA) (hi j : Int), vs = [.ref A.s, .str "row", .int 2, .int j] ∧ Szs K CS CC A hi H ∧ j < (hi + 1) ^ 2 ∧ ∀ p H', H' p = some (.tup [.non, .ref A.c, .int j]) → Ex H H' → Q (.ref p) H'
theorem sc_chain_at : FnScope ["self", "kind", "size", "number", "at", "maker", "chain"] ["self", "kind", "size", "number"] (defScope s_chain_at) := ⟨rfl, rfl, rfl, by decide +kernel, rfl, by decide +kernel, by decide +kernel⟩
theorem ok_chain_at {CS CC : Addr} (F : Fun K "chain_at" "Sizes.chain_at" s_chain_at f fd) (TS : KS K CS) (TC : KC K CC) : FnOk P w K mg base CX0 1 f fd ["self", "kind", "size", "number"] (spChainAt K CS CC) := by
  refine F.ok sc_chain_at (by rintro vs H Q E ⟨_, _, _, rfl, _⟩; rfl) (fun cdv A0 outer s H vs Q E hr h => ?_)
  obtain ⟨A, hi, j, rfl, z, hj, q⟩ := h
  have hu := hu_of hr
  have nd := sc_chain_at.nd
  refine ⟨_, pss_cons (ps_set (i := 4) nd rfl (Or.inl rfl) pe_int)
    (pss_cons (ps_while PassesOwn.never (pt_cmpR op_ge (pv 3) (pe_ix ix_list (pe_fld (pe_ix ix_tup (pe_ix ix_list (pe_dget hu (pe_fld (pv 0) rfl) (pv 1) (fun _ _ => rfl)) (pv 4) (fun _ _ => rfl)) pe_int (fun _ _ => rfl)) rfl) (pv 2) (fun _ _ => rfl)) (nomark _)) pss_never)
    (pss_cons (ps_asg (pe_ix ix_list (pe_dget hu (pe_fld (pv 0) rfl) (pv 1) (fun _ _ => rfl)) (pv 4) (fun _ _ => rfl)) (pg_tup rfl (pgs_cons (pg_name (i := 5) nd rfl (Or.inl rfl)) (pgs_cons (pg_name (i := 6) nd rfl (Or.inl rfl)) pgs_nil))))
    (pss_one (ps_ret (pe_tup (pa_cons (pv 5) (pa_cons (pv 6) (pa_cons (pv 3) pa_nil)))))))), ?_⟩
  refine ⟨fun m σ H' => σ = [some (.ref A.s), some (.str "row"), some (.int 2), some (.int j), some (.int 0), none, none] ∧ H' = H, ⟨0, rfl, rfl⟩, ?_⟩
  rintro m σ H' ⟨rfl, rfl⟩
  refine ⟨.int j, rfl, .ref A.s, rfl, A.s, CS, A.dxs, _, _, rfl, z.z.ob, TS.cl, TS.nH, szF_chains, .str "row", rfl, A.dch, .ref A.chr, rfl, dget (.inl z.z.dch) val_row, .int 0, rfl, A.chr, _, 0, _, rfl, rfl, .inl (.inl z.z.chr), atI_nat (j := 0) rfl,
    A.t, _, 1, _, rfl, rfl, .inl (.inl z.z.t), atI_nat (j := 1) rfl, A.c, CC, A.dxc, _, .ref A.w, rfl, z.z.c, TC.cl, TC.nW, chF_ways, .int 2, rfl, A.w, _, 2, _, rfl, rfl, .inl (.inl z.v.w), atI_nat (j := 2) (seqV_get (by decide)), j, vW (hi + 1) 2, rfl, rfl, _, rfl, ?_⟩
  rw [decide_eq_false (show ¬ vW (hi + 1) 2 ≤ j by unfold vW; omega)]
  refine iteF ?_
  refine ⟨.ref A.s, rfl, A.s, CS, A.dxs, _, _, rfl, z.z.ob, TS.cl, TS.nH, szF_chains, .str "row", rfl, A.dch, .ref A.chr, rfl, dget (.inl z.z.dch) val_row, .int 0, rfl, A.chr, _, 0, _, rfl, rfl, .inl (.inl z.z.chr), atI_nat (j := 0) rfl, ?_⟩
  refine ⟨A.t, _, rfl, .inl (.inl z.z.t), rfl, .non, _, rfl, .ref A.c, [], rfl, rfl, ?_⟩
  refine ⟨_, rfl, _, rfl, _, rfl, by show 3 ≤ sizeLine; decide, fun p hp => ?_⟩
  exact q p _ upd_same (Evl.Ex.new hp)
/-! ### parts_at -/
def spPartsAt (K : PySem.W.Frag) (CS CC : Addr) : Sp := fun vs H Q _ => ∃ (A : SA) (hi j : Int), vs = [.ref A.s, .ref A.c, .int 2, .int j] ∧ Szs K CS CC A hi H ∧ 0 ≤ j ∧ j < (hi + 1) ^ 2 ∧ ∀ p H', H p = none → H' p = some (.lst [.int (j / (hi + 1)), .int (j % (hi + 1))]) → Ex H H' → Q (.ref p) H'
theorem sc_parts_at : FnScope ["self", "chain", "size", "number", "parts", "counts", "ways", "first", "ahead"] ["self", "chain", "size", "number"] (defScope s_parts_at) := ⟨rfl, rfl, rfl, by decide +kernel, rfl, by decide +kernel, by decide +kernel⟩
theorem ok_parts_at {CS CC g1 : Addr} {gd1 : FuncData} (F : Fun K "parts_at" "Sizes.parts_at" s_parts_at f fd) (hdm : mg "divmod" = none) (TS : KS K CS) (TC : KC K CC) (m1 : Meth K CS "value_at" g1) (G1 : FnOk P w K mg base CX0 1 g1 gd1 ["self", "kind", "size", "number"] (spValC K CS CC)) (b1 : Binds K gd1 ["self", "kind", "size", "number"] []) :
    FnOk P w K mg base CX0 2 f fd ["self", "chain", "size", "number"] (spPartsAt K CS CC) := by
  refine F.ok sc_parts_at (by rintro vs H Q E ⟨_, _, _, rfl, _⟩; rfl) (fun cdv A0 outer s H vs Q E hr h => ?_)
  obtain ⟨A, hi, j, rfl, z, hj0, hj, q⟩ := h
  have hu := hu_of hr
  have nd := sc_parts_at.nd
  refine ⟨_, pss_cons (ps_set (i := 4) nd rfl (Or.inl rfl) (pe_lst pa_nil))
    (pss_cons (ps_while PassesOwn.never (pt_cmpR op_gt (pv 2) pe_int (nomark _))
      (pss_cons (ps_set (i := 5) nd rfl (Or.inl rfl) (pe_dget hu (pe_fld (pv 0) rfl) (pe_fld (pv 1) rfl) (fun _ _ => rfl)))
      (pss_cons (ps_set (i := 6) nd rfl (Or.inl rfl) (pe_fld (pe_fld (pv 1) rfl) rfl))
      (pss_cons (ps_set (i := 7) nd rfl (Or.inl rfl) pe_int)
      (pss_cons (ps_while PassesOwn.never (pt_cmpR op_ge (pv 3) (pe_op op_mul (pe_ix ix_list (pv 5) (pv 7) (fun _ _ => rfl)) (pe_ix ix_list (pv 6) (pe_op op_sub (pv 2) (pv 7)) (fun _ _ => rfl))) (nomark _)) pss_never)
      (pss_cons (ps_aug (i := 2) nd rfl (Or.inl rfl) (pv 7) ip_sub)
      (pss_cons (ps_asg (pe_callB call_divmod (by rfl) hdm PyProof.Rows.boot_divmod (pa_cons (pv 3) (pa_cons (pe_ix ix_list (pv 6) (pv 2) (fun _ _ => rfl)) pa_nil))) (pg_tup rfl (pgs_cons (pg_name (i := 8) nd rfl (Or.inl rfl)) (pgs_cons (pg_name (i := 3) nd rfl (Or.inl rfl)) pgs_nil))))
      (pss_cons (ps_expr (pe_bm PySem.F.plainAttrs_list PySem.F.slot_list_append PySem.F.type_list_append mt_append (pv 4) (pa_cons (pe_meth (pv 0) TS.cl m1 G1 hr b1 .nil pass0 (pa_cons (pe_fld (pv 1) rfl) (pa_cons (pv 7) (pa_cons (pv 8) pa_nil)))) pa_nil)))
      (pss_one (ps_set (i := 1) nd rfl (Or.inl rfl) (pe_fld (pv 1) rfl)))))))))))
    (pss_one (ps_ret (pv 4)))), ?_⟩
  have hm0 : 0 < hi + 1 := by have := z.z.hi0; omega
  have hm1 : hi + 1 ≤ 1001 := by have := z.z.hi0; omega
  refine ⟨Nat.zero_le _, fun p hp => ?_⟩
  refine ⟨fun k σ H' => ∃ (jk : Int) (acc : List Int) (x5 x6 x7 x8 : Option V), σ = [some (.ref A.s), some (.ref A.c), some (.int (k : Nat)), some (.int jk), some (.ref p), x5, x6, x7, x8] ∧ Ex H H' ∧ H' p = some (.lst (acc.map V.int)) ∧
    ((k = 2 ∧ jk = j ∧ acc = []) ∨ (k = 1 ∧ jk = j % (hi + 1) ∧ acc = [j / (hi + 1)]) ∨ (k = 0 ∧ acc = [j / (hi + 1), j % (hi + 1)])), ⟨2, j, [], none, none, none, none, rfl, Evl.Ex.new hp, upd_same, .inl ⟨rfl, rfl, rfl⟩⟩, ?_⟩
  rintro k σ H' ⟨jk, acc, x5, x6, x7, x8, rfl, e, hp', hc⟩
  refine ⟨_, rfl, (k : Int), 0, rfl, rfl, _, rfl, ?_⟩
  by_cases hk0 : k = 0
  · subst hk0
    refine iteF ?_
    rcases hc with ⟨h, _⟩ | ⟨h, _⟩ | ⟨_, rfl⟩
    · cases h
    · cases h
    · exact ⟨_, rfl, q p H' hp hp' e⟩
  obtain ⟨n, rfl⟩ : ∃ n, k = n + 1 := ⟨k - 1, by omega⟩
  -- the digit and what is left
  have hd : 0 ≤ jk ∧ jk < (hi + 1) ^ (n + 1) ∧ n ≤ 1 ∧ acc.length ≤ 1 ∧ ((n = 1 ∧ jk % (hi + 1) ^ n = j % (hi + 1) ∧ acc ++ [jk / (hi + 1) ^ n] = [j / (hi + 1)]) ∨ (n = 0 ∧ acc ++ [jk / (hi + 1) ^ n] = [j / (hi + 1), j % (hi + 1)])) := by
    rcases hc with ⟨h, rfl, rfl⟩ | ⟨h, rfl, rfl⟩ | ⟨h, _⟩
    · have : n = 1 := by omega
      subst this
      refine ⟨hj0, hj, by omega, by simp, .inl ⟨rfl, ?_, ?_⟩⟩
      · rw [Int.pow_one]
      · rw [Int.pow_one]
        rfl
    · have : n = 0 := by omega
      subst this
      refine ⟨Int.emod_nonneg _ (by omega), ?_, by omega, by simp, .inr ⟨rfl, ?_⟩⟩
      · rw [show (hi + 1) ^ (0 + 1) = hi + 1 from Int.pow_one _]
        exact Int.emod_lt_of_pos _ hm0
      · rw [Int.pow_zero, Int.ediv_one]
        rfl
    · cases h
  clear hc
  obtain ⟨hjk0, hjk, hn1, hacc, hcase⟩ := hd
  have hpow : 0 < (hi + 1) ^ n ∧ (hi + 1) ^ n < 1073741824 := by
    rcases Nat.le_one_iff_eq_zero_or_eq_one.mp hn1 with rfl | rfl
    · rw [Int.pow_zero]
      omega
    · rw [Int.pow_one]
      omega
  rw [decide_eq_true (show (0 : Int) < ((n + 1 : Nat) : Int) by omega)]
  refine iteT ?_
  have z1 := z.ex e
  refine ⟨fun σ' H2 => ∃ (x5 x6 x7 x8 : Option V), σ' = [some (.ref A.s), some (.ref A.c), some (.int (n : Nat)), some (.int (jk % (hi + 1) ^ n)), some (.ref p), x5, x6, x7, x8] ∧ Ex H H2 ∧ H2 p = some (.lst ((acc ++ [jk / (hi + 1) ^ n]).map V.int)), ?_, ?_⟩
  · rintro σ' H2 ⟨y5, y6, y7, y8, rfl, e2, hp2⟩
    refine ⟨n, Nat.lt_succ_self n, _, _, y5, y6, y7, y8, rfl, e2, hp2, ?_⟩
    rcases hcase with ⟨rfl, h1, h2⟩ | ⟨rfl, h2⟩
    · exact .inr (.inl ⟨rfl, h1, h2⟩)
    · exact .inr (.inr ⟨rfl, h2⟩)
  refine ⟨.ref A.s, rfl, A.s, CS, A.dxs, _, _, rfl, z1.z.ob, TS.cl, TS.nC, szF_counts, .ref A.c, rfl, A.c, CC, A.dxc, _, .str "cell", rfl, z1.z.c, TC.cl, TC.nP, chF_part, A.dc, .ref A.lc, rfl, dget (.inl z1.z.dc) val_cell, ?_⟩
  refine ⟨.ref A.c, rfl, A.c, CC, A.dxc, _, .ref A.c, rfl, z1.z.c, TC.cl, TC.nB, chF_behind, A.c, CC, A.dxc, _, .ref A.w, rfl, z1.z.c, TC.cl, TC.nW, chF_ways, ?_⟩
  have e1 : ((n + 1 : Nat) : Int) - 1 = (n : Int) := by omega
  have hwn : atI (seqV (vW (hi + 1)) 4) ((n + 1 : Nat) - 1 : Int) = some (.int ((hi + 1) ^ n)) := by
    rw [e1]
    exact atI_nat (seqV_get (g := vW (hi + 1)) (by omega))
  have hwn' : atI (seqV (vW (hi + 1)) 4) (n : Int) = some (.int ((hi + 1) ^ n)) := atI_nat (seqV_get (g := vW (hi + 1)) (by omega))
  refine ⟨fun m σ' H2 => σ' = [some (.ref A.s), some (.ref A.c), some (.int ((n + 1 : Nat) : Int)), some (.int jk), some (.ref p), some (.ref A.lc), some (.ref A.w), some (.int 1), x8] ∧ H2 = H', ⟨0, rfl, rfl⟩, ?_⟩
  rintro m σ' H2 ⟨rfl, rfl⟩
  refine ⟨.int jk, rfl, .ref A.lc, rfl, .int 1, rfl, A.lc, _, 1, .int (vC (hi + 1) 1), rfl, rfl, .inl (.inl z1.v.c), atI_nat (j := 1) (seqV_get (by decide)), .ref A.w, rfl, _, rfl, .int 1, rfl, ((n + 1 : Nat) : Int), 1, rfl, rfl, A.w, _, ((n + 1 : Nat) : Int) - 1, .int ((hi + 1) ^ n), rfl, rfl, .inl (.inl z1.v.w), hwn, ?_⟩
  have hv1 : vC (hi + 1) 1 = hi + 1 := rfl
  refine ⟨vC (hi + 1) 1, (hi + 1) ^ n, rfl, rfl, .inl (by rw [hv1]; omega), jk, vC (hi + 1) 1 * (hi + 1) ^ n, rfl, rfl, _, rfl, ?_⟩
  rw [decide_eq_false (show ¬ vC (hi + 1) 1 * (hi + 1) ^ n ≤ jk by
    rw [hv1, Int.mul_comm, ← Int.pow_succ]
    exact Int.not_le.mpr hjk)]
  refine iteF ?_
  refine ⟨_, rfl, _, rfl, _, _, rfl, rfl, ?_⟩
  refine ⟨_, rfl, _, rfl, _, rfl, A.w, _, ((n + 1 : Nat) : Int) - 1, .int ((hi + 1) ^ n), rfl, rfl, .inl (.inl z1.v.w), hwn, jk, (hi + 1) ^ n, rfl, hpow, fun p2 hp2 => ?_⟩
  have e2 : Ex H2 (upd H2 p2 (.tup [.int (jk / (hi + 1) ^ n), .int (jk % (hi + 1) ^ n)])) := Evl.Ex.new hp2
  refine ⟨p2, _, rfl, .inl (.inl upd_same), rfl, .int (jk / (hi + 1) ^ n), _, rfl, .int (jk % (hi + 1) ^ n), [], rfl, rfl, ?_⟩
  have z2 := z1.ex e2
  refine ⟨_, rfl, .inl ⟨rfl, _, .inl (.inl (e2 _ _ hp'))⟩, ?_⟩
  refine ⟨.ref A.s, rfl, A.s, A.dxs, _, rfl, z2.z.ob, szF_no (by decide +kernel) (by decide +kernel) (by decide +kernel), .ref A.c, rfl, A.c, CC, A.dxc, _, .str "cell", rfl, z2.z.c, TC.cl, TC.nP, chF_part, _, rfl, _, rfl, A, hi, jk / (hi + 1) ^ n, rfl, z2.z, ?_⟩
  refine ⟨p, _, _, rfl, rfl, e2 _ _ hp', by rw [List.length_map]; exact small1000 (by omega), ?_⟩
  have hpn : H p = none := hp
  have e3 : Ex H (upd (upd H2 p2 (.tup [.int (jk / (hi + 1) ^ n), .int (jk % (hi + 1) ^ n)])) p (.lst (acc.map V.int ++ [.int (jk / (hi + 1) ^ n)]))) := Evl.Ex.mut (e.trans e2) hpn
  refine ⟨.ref A.c, rfl, A.c, CC, A.dxc, _, .ref A.c, rfl, (z.ex e3).z.c, TC.cl, TC.nB, chF_behind, ?_⟩
  refine ⟨some (.ref A.lc), some (.ref A.w), some (.int 1), some (.int (jk / (hi + 1) ^ n)), ?_, e3, ?_⟩
  · show [some (V.ref A.s), some (V.ref A.c), some (V.int (((n + 1 : Nat) : Int) - 1)), some (V.int (jk % (hi + 1) ^ n)), some (V.ref p), some (V.ref A.lc), some (V.ref A.w), some (V.int 1), some (V.int (jk / (hi + 1) ^ n))] = _
    rw [e1]
  · rw [upd_same, List.map_append]
    rfl
end
end FV
namespace FV
open PySem PySem.Spec PyProof.Rows L2 FC FP
open Evl (Ex)
section
variable {P : Program} {w : World} {K : PySem.W.Frag} {mg : Str → Option Value} {base : Heap} {f : Addr} {fd : FuncData}
def spValR (K : PySem.W.Frag) (CS CC : Addr) : Sp := fun vs H Q _ => ∃ (A : SA) (hi j : Int), vs = [.ref A.s, .str "row", .int 3, .int j] ∧ Szs K CS CC A hi H ∧ 0 ≤ j ∧ j < (hi + 1) ^ 2 ∧ ∀ p H', H p = none → H' p = some (.lst [.int (j / (hi + 1)), .int (j % (hi + 1))]) → Ex H H' → Q (.ref p) H'
theorem ok_value_at_row {CS CC g1 g2 : Addr} {gd1 gd2 : FuncData} (F : Fun K "value_at" "Sizes.value_at" s_value_at f fd) (TS : KS K CS) (m1 : Meth K CS "chain_at" g1) (G1 : FnOk P w K mg base CX0 1 g1 gd1 ["self", "kind", "size", "number"] (spChainAt K CS CC)) (b1 : Binds K gd1 ["self", "kind", "size", "number"] [])
    (m2 : Meth K CS "parts_at" g2) (G2 : FnOk P w K mg base CX0 2 g2 gd2 ["self", "chain", "size", "number"] (spPartsAt K CS CC)) (b2 : Binds K gd2 ["self", "chain", "size", "number"] []) : FnOk P w K mg base CX0 3 f fd ["self", "kind", "size", "number"] (spValR K CS CC) := by
  refine F.ok sc_value_at (by rintro vs H Q E ⟨_, _, _, rfl, _⟩; rfl) (fun cdv A0 outer s H vs Q E hr h => ?_)
  obtain ⟨A, hi, j, rfl, z, hj0, hj, q⟩ := h
  have hu := hu_of hr
  have nd := sc_value_at.nd
  refine ⟨_, pss_cons (ps_set (i := 4) nd rfl (Or.inl rfl) (pe_dget hu (pe_fld (pv 0) rfl) (pv 1) (fun _ _ => rfl)))
    (pss_cons (ps_if (pt_cmpR op_eq (pe_ix ix_tup (pv 4) pe_int (fun _ _ => rfl)) pe_str (nomark _)) pss_never pss_nil)
    (pss_cons (ps_if (pt_cmpR op_eq (pe_ix ix_tup (pv 4) pe_int (fun _ _ => rfl)) pe_str (nomark _)) pss_never pss_nil)
    (pss_cons (ps_asg (pe_meth (pv 0) TS.cl m1 G1 (hr.mono (by decide)) b1 .nil pass0 (pa_cons (pv 1) (pa_cons (pe_op op_sub (pv 2) pe_int) (pa_cons (pv 3) pa_nil)))) (pg_tup rfl (pgs_cons (pg_name (i := 5) nd rfl (Or.inl rfl)) (pgs_cons (pg_name (i := 6) nd rfl (Or.inl rfl)) (pgs_cons (pg_name (i := 7) nd rfl (Or.inl rfl)) pgs_nil)))))
    (pss_cons (ps_set (i := 8) nd rfl (Or.inl rfl) (pe_meth (pv 0) TS.cl m2 G2 hr b2 .nil pass0 (pa_cons (pv 6) (pa_cons (pe_op op_sub (pv 2) pe_int) (pa_cons (pv 7) pa_nil)))))
    (pss_one (ps_ret (pe_ifExp (pt_cmp (pc_isN (pv 5))) (pv 8) pe_dead))))))), ?_⟩
  refine ⟨.ref A.s, rfl, A.s, CS, A.dxs, _, _, rfl, z.z.ob, TS.cl, TS.nK, szF_kinds, .str "row", rfl, A.kd, .ref A.fr, rfl, dget z.z.kd val_row, ?_⟩
  refine ⟨_, rfl, A.fr, _, 0, _, rfl, rfl, z.z.fr, atI_nat (j := 0) rfl, rfl, _, rfl, ite2 (fun e => absurd (of_decide_eq_true e) (by decide +kernel)) (fun _ => ?_)⟩
  refine ⟨_, rfl, A.fr, _, 0, _, rfl, rfl, z.z.fr, atI_nat (j := 0) rfl, rfl, _, rfl, ite2 (fun e => absurd (of_decide_eq_true e) (by decide +kernel)) (fun _ => ?_)⟩
  refine ⟨.ref A.s, rfl, A.s, A.dxs, _, rfl, z.z.ob, szF_no (by decide +kernel) (by decide +kernel) (by decide +kernel), .str "row", rfl, .int 3, rfl, 3, 1, rfl, rfl, .int j, rfl, A, hi, j, rfl, z, hj, fun p1 H1 hp1 e1 => ?_⟩
  refine ⟨p1, _, rfl, .inl (.inl hp1), rfl, .non, _, rfl, .ref A.c, _, rfl, .int j, [], rfl, rfl, ?_⟩
  have z1 := z.ex e1
  refine ⟨.ref A.s, rfl, A.s, A.dxs, _, rfl, z1.z.ob, szF_no (by decide +kernel) (by decide +kernel) (by decide +kernel), .ref A.c, rfl, .int 3, rfl, 3, 1, rfl, rfl, .int j, rfl, A, hi, j, rfl, z1, hj0, hj, fun p2 H2 hp2 hl2 e2 => ?_⟩
  refine ⟨.non, rfl, _, rfl, ?_⟩
  refine iteT ?_
  exact ⟨_, rfl, q p2 H2 (Evl.fresh_back e1 hp2) hl2 (e1.trans e2)⟩
/-! ### places -/
abbrev nsPlaceOf : List Str := ["self", "kind", "value", "form", "maker", "parts", "size", "ahead", "at"]
def spPlC (K : PySem.W.Frag) (CS CC : Addr) : Sp := fun vs H Q _ => ∃ (A : SA) (hi j : Int), vs = [.ref A.s, .str "cell", .int j] ∧ SzFix K CS CC A hi H ∧ Q (.int (j - 0)) H
theorem sc_place_of : FnScope nsPlaceOf ["self", "kind", "value"] (defScope s_place_of) := ⟨rfl, rfl, rfl, by decide +kernel, rfl, by decide +kernel, by decide +kernel⟩
theorem ok_place_of_cell {CS CC : Addr} (F : Fun K "place_of" "Sizes.place_of" s_place_of f fd) (TS : KS K CS) : FnOk P w K mg base CX0 1 f fd ["self", "kind", "value"] (spPlC K CS CC) := by
  refine F.ok sc_place_of (by rintro vs H Q E ⟨_, _, _, rfl, _⟩; rfl) (fun cdv A0 outer s H vs Q E hr h => ?_)
  obtain ⟨A, hi, j, rfl, z, q⟩ := h
  have hu := hu_of hr
  have nd := sc_place_of.nd
  refine ⟨_, pss_cons (ps_set (i := 3) nd rfl (Or.inl rfl) (pe_dget hu (pe_fld (pv 0) rfl) (pv 1) (fun _ _ => rfl)))
    (pss_cons (ps_if (pt_cmpR op_eq (pe_ix ix_tup (pv 3) pe_int (fun _ _ => rfl)) pe_str (nomark _)) (pss_one (ps_ret (pe_op op_sub (pv 2) (pe_ix ix_tup (pv 3) pe_int (fun _ _ => rfl))))) pss_nil)
    pss_never), ?_⟩
  refine ⟨.ref A.s, rfl, A.s, CS, A.dxs, _, _, rfl, z.ob, TS.cl, TS.nK, szF_kinds, .str "cell", rfl, A.kd, .ref A.fc, rfl, dget z.kd val_cell, ?_⟩
  refine ⟨_, rfl, A.fc, _, 0, _, rfl, rfl, z.fc, atI_nat (j := 0) rfl, rfl, _, rfl, ite2 (fun _ => ?_) (fun e => absurd (decide_eq_true rfl) e)⟩
  exact ⟨.int j, rfl, _, rfl, A.fc, _, 1, _, rfl, rfl, z.fc, atI_nat (j := 1) rfl, j, 0, rfl, rfl, q⟩
def plc (m a b : Int) : Nat → Int
  | 0 => 0
  | 1 => 0 + 0 + (a - 0) * m ^ 1
  | _ => 0 + 0 + (a - 0) * m ^ 1 + 0 + (b - 0) * m ^ 0
def spPlP (K : PySem.W.Frag) (CS CC : Addr) : Sp := fun vs H Q _ => ∃ (A : SA) (hi a b : Int) (l : Addr), vs = [.ref A.s, .ref A.c, .int 2, .ref l] ∧ Szs K CS CC A hi H ∧ H l = some (.lst [.int a, .int b]) ∧ ∀ H', Ex H H' → Q (.int (plc (hi + 1) a b 2)) H'
theorem sc_place_of_parts : FnScope ["self", "chain", "size", "parts", "ahead", "part", "counts", "ways", "own", "first"] ["self", "chain", "size", "parts"] (defScope s_place_of_parts) := ⟨rfl, rfl, rfl, by decide +kernel, rfl, by decide +kernel, by decide +kernel⟩
theorem ok_place_of_parts {CS CC g1 : Addr} {gd1 : FuncData} (F : Fun K "place_of_parts" "Sizes.place_of_parts" s_place_of_parts f fd) (M : Bl mg) (TS : KS K CS) (TC : KC K CC) (cs : CL P w K mg base 1 "size_of_tree" Rw_size_of_tree) (m1 : Meth K CS "place_of" g1) (G1 : FnOk P w K mg base CX0 1 g1 gd1 ["self", "kind", "value"] (spPlC K CS CC)) (b1 : Binds K gd1 ["self", "kind", "value"] []) :
    FnOk P w K mg base CX0 2 f fd ["self", "chain", "size", "parts"] (spPlP K CS CC) := by
  refine F.ok sc_place_of_parts (by rintro vs H Q E ⟨_, _, _, _, _, rfl, _⟩; rfl) (fun cdv A0 outer s H vs Q E hr h => ?_)
  obtain ⟨A, hi, a, b, l, rfl, z, hl, q⟩ := h
  have hu := hu_of hr
  have nd := sc_place_of_parts.nd
  refine ⟨_, pss_cons (ps_set (i := 4) nd rfl (Or.inl rfl) pe_int)
    (pss_cons (ps_for PassesOwn.never rfl (pi_list (pv 3)) (pg_name (i := 5) nd rfl (Or.inl rfl))
      (pss_cons (ps_set (i := 6) nd rfl (Or.inr rfl) (pe_dget hu (pe_fld (pv 0) rfl) (pe_fld (pv 1) rfl) (fun _ _ => rfl)))
      (pss_cons (ps_set (i := 7) nd rfl (Or.inr rfl) (pe_fld (pe_fld (pv 1) rfl) rfl))
      (pss_cons (ps_set (i := 8) nd rfl (Or.inl rfl) (pe_cl cs hr (by decide) (by rfl) (pa_cons (pv 5) pa_nil)))
      (pss_cons (ps_aug (i := 4) nd rfl (Or.inl rfl) (pe_callB (cr_sum rfl) (by rfl) M.sum PyProof.Rows.boot_sum (pa_cons
        (pe_lc (own := [("first", 9)]) (g := gName 9) (tt := tYes) (te := fun _ _ _ => False) rfl nd
        (pi_range2 (by rfl) M.range (pa_cons pe_int (pa_cons (pv 8) pa_nil))) (blkOk_by (N := ["self", "chain", "size", "parts", "ahead", "part", "counts", "ways", "own", "first"]) (sc := defScope s_place_of_parts) (by decide +kernel))
        (fun _ _ _ _ _ => pg_name (i := 9) nd rfl (Or.inl rfl)) (fun _ _ _ _ _ => pts_nil)
        (fun _ _ _ _ _ => pe_dead)) pa_nil)) ip_add)
      (pss_cons (ps_aug (i := 2) nd rfl (Or.inr rfl) (pv 8) ip_sub)
      (pss_cons (ps_aug (i := 4) nd rfl (Or.inl rfl) (pe_op op_mul (pe_meth (pv 0) TS.cl m1 G1 hr b1 .nil pass0 (pa_cons (pe_fld (pv 1) rfl) (pa_cons (pv 5) pa_nil))) (pe_ix ix_list (pv 7) (pv 2) (fun _ _ => rfl))) ip_add)
      (pss_one (ps_set (i := 1) nd rfl (Or.inl rfl) (pe_fld (pv 1) rfl))))))))))
    (pss_one (ps_ret (pv 4)))), ?_⟩
  refine ⟨.ref l, rfl, l, rfl, ⟨_, .inl (.inl hl)⟩, ?_⟩
  have hm := z.z.hi0
  refine for_it (walk_list (K := K) (a := l) (xs := [.int a, .int b])) (fun i σ H' => ∃ (x5 x6 x7 x8 : Option V), σ = [some (.ref A.s), some (.ref A.c), some (.int ((2 - i : Nat) : Int)), some (.ref l), some (.int (plc (hi + 1) a b i)), x5, x6, x7, x8, none] ∧ Ex H H') ⟨none, none, none, none, rfl, Evl.Ex.refl H⟩ (fun i σ H' _ ⟨_, _, _, _, _, e⟩ => .inl (.inl (e _ _ hl))) ?_ ?_
  · rintro i x σ H1 H2 hi2 ⟨x5, x6, x7, x8, rfl, e⟩ ⟨rfl, hx⟩
    have hi2 : i < 2 := hi2
    have hxi : x = .int (if i = 0 then a else b) := by
      have : i = 0 ∨ i = 1 := by omega
      rcases this with rfl | rfl
      · exact (Option.some.inj hx).symm
      · exact (Option.some.inj hx).symm
    subst hxi
    have hpl : plc (hi + 1) a b i + 0 + ((if i = 0 then a else b) - 0) * vW (hi + 1) (2 - (i + 1)) = plc (hi + 1) a b (i + 1) := by
      have : i = 0 ∨ i = 1 := by omega
      rcases this with rfl | rfl <;> rfl
    generalize (if i = 0 then a else b) = v at hpl
    have z1 := z.ex e
    refine ⟨.ref A.s, rfl, A.s, CS, A.dxs, _, _, rfl, z1.z.ob, TS.cl, TS.nC, szF_counts, .ref A.c, rfl, A.c, CC, A.dxc, _, .str "cell", rfl, z1.z.c, TC.cl, TC.nP, chF_part, A.dc, .ref A.lc, rfl, dget (.inl z1.z.dc) val_cell, ?_⟩
    refine ⟨.ref A.c, rfl, A.c, CC, A.dxc, _, .ref A.c, rfl, z1.z.c, TC.cl, TC.nB, chF_behind, A.c, CC, A.dxc, _, .ref A.w, rfl, z1.z.c, TC.cl, TC.nW, chF_ways, ?_⟩
    refine ⟨.int v, rfl, H2, [.int v], .int 1, Evl.Ex.refl H2, .cons (.d (.int v)) .nil, .inl ⟨v, rfl, rfl⟩, fun u B3 H3 g3 r3 => ?_⟩
    cases rt_int r3
    have e3 : Ex H H3 := e.trans g3.eh
    refine ⟨_, rfl, .int 1, rfl, 1, 1, rfl, ⟨by decide, by decide, by decide, by decide⟩, fun D hD => ?_⟩
    have e4 : Ex H3 (upd H3 D (.lst [])) := Evl.Ex.new hD
    rw [show ((1 : Int) - 1).toNat = 0 from rfl]
    refine lc_range (te := fun _ _ _ => False) (lo := 1) (n := 0) (fun i H' => H' = upd H3 D (.lst [])) rfl (fun i H' hil => absurd hil (Nat.not_lt_zero i)) (fun H4 hH4 => ?_)
    subst hH4
    refine ⟨D, [], rfl, .inl (.inl upd_same), ?_⟩
    refine ⟨_, _, rfl, rfl, ?_⟩
    have e5 : Ex H (upd H3 D (.lst [])) := e3.trans e4
    have z5 := z.ex e5
    generalize upd H3 D (.lst []) = H5 at e5 z5
    have e1 : ((2 - i : Nat) : Int) - 1 = ((2 - (i + 1) : Nat) : Int) := by omega
    refine ⟨_, rfl, .int 1, rfl, ((2 - i : Nat) : Int), 1, rfl, rfl, ?_⟩
    dsimp only
    rw [e1]
    refine ⟨_, rfl, .ref A.s, rfl, A.s, A.dxs, _, rfl, z5.z.ob, szF_no (by decide +kernel) (by decide +kernel) (by decide +kernel), .ref A.c, rfl, A.c, CC, A.dxc, _, .str "cell", rfl, z5.z.c, TC.cl, TC.nP, chF_part, .int v, rfl, A, hi, v, rfl, z5.z, ?_⟩
    refine ⟨.ref A.w, rfl, _, rfl, A.w, _, ((2 - (i + 1) : Nat) : Int), .int (vW (hi + 1) (2 - (i + 1))), rfl, rfl, .inl (.inl z5.v.w), atI_nat (seqV_get (by omega)), v - 0, vW (hi + 1) (2 - (i + 1)), rfl, rfl, .inr ?_, ?_⟩
    · have : i = 0 ∨ i = 1 := by omega
      rcases this with rfl | rfl
      · rw [show vW (hi + 1) (2 - (0 + 1)) = hi + 1 from Int.pow_one _]
        omega
      · rw [show vW (hi + 1) (2 - (1 + 1)) = 1 from Int.pow_zero _]
        omega
    refine ⟨_, _, rfl, rfl, ?_⟩
    refine ⟨.ref A.c, rfl, A.c, CC, A.dxc, _, .ref A.c, rfl, z5.z.c, TC.cl, TC.nB, chF_behind, ?_⟩
    refine ⟨some (.int v), some (.ref A.lc), some (.ref A.w), some (.int 1), ?_, e5⟩
    rw [← hpl]
    rfl
  · rintro σ H1 ⟨x5, x6, x7, x8, rfl, e⟩
    exact ⟨_, rfl, q H1 e⟩
end
end FV
namespace FV
open PySem PySem.Spec PyProof.Rows L2 FC FP
open Evl (Ex)
section
variable {P : Program} {w : World} {K : PySem.W.Frag} {mg : Str → Option Value} {base : Heap} {f : Addr} {fd : FuncData}
def spPlR (K : PySem.W.Frag) (CS CC : Addr) : Sp := fun vs H Q _ => ∃ (A : SA) (hi a b : Int) (l : Addr), vs = [.ref A.s, .str "row", .ref l] ∧ Szs K CS CC A hi H ∧ H l = some (.lst [.int a, .int b]) ∧ ∀ H', Ex H H' → Q (.int (0 + plc (hi + 1) a b 2)) H'
theorem ok_place_of_row {CS CC g1 : Addr} {gd1 : FuncData} (F : Fun K "place_of" "Sizes.place_of" s_place_of f fd) (TS : KS K CS) (cs : CL P w K mg base 1 "size_of_tree" Rw_size_of_tree) (m1 : Meth K CS "place_of_parts" g1) (G1 : FnOk P w K mg base CX0 2 g1 gd1 ["self", "chain", "size", "parts"] (spPlP K CS CC)) (b1 : Binds K gd1 ["self", "chain", "size", "parts"] []) :
    FnOk P w K mg base CX0 3 f fd ["self", "kind", "value"] (spPlR K CS CC) := by
  refine F.ok sc_place_of (by rintro vs H Q E ⟨_, _, _, _, _, rfl, _⟩; rfl) (fun cdv A0 outer s H vs Q E hr h => ?_)
  obtain ⟨A, hi, a, b, l, rfl, z, hl, q⟩ := h
  have hu := hu_of hr
  have nd := sc_place_of.nd
  refine ⟨_, pss_cons (ps_set (i := 3) nd rfl (Or.inl rfl) (pe_dget hu (pe_fld (pv 0) rfl) (pv 1) (fun _ _ => rfl)))
    (pss_cons (ps_if (pt_cmpR op_eq (pe_ix ix_tup (pv 3) pe_int (fun _ _ => rfl)) pe_str (nomark _)) pss_never pss_nil)
    (pss_cons (ps_if (pt_cmpR op_eq (pe_ix ix_tup (pv 3) pe_int (fun _ _ => rfl)) pe_str (nomark _)) pss_never pss_nil)
    (pss_cons (ps_asg (pe_ifExp (pt_cmpR op_eq (pe_ix ix_tup (pv 3) pe_int (fun _ _ => rfl)) pe_str (nomark _)) (pe_tup (pa_cons pe_non (pa_cons (pv 2) pa_nil))) pe_dead) (pg_tup rfl (pgs_cons (pg_name (i := 4) nd rfl (Or.inl rfl)) (pgs_cons (pg_name (i := 5) nd rfl (Or.inl rfl)) pgs_nil))))
    (pss_cons (ps_set (i := 6) nd rfl (Or.inl rfl) (pe_op op_sub (pe_cl cs hr (by decide) (by rfl) (pa_cons (pv 2) pa_nil)) pe_int))
    (pss_cons (ps_set (i := 7) nd rfl (Or.inl rfl) pe_int)
    (pss_cons (ps_set (i := 8) nd rfl (Or.inl rfl) pe_int)
    (pss_cons (ps_while PassesOwn.never (pt_cmpR op_ne (pe_ix ix_tup (pe_ix ix_list (pe_dget hu (pe_fld (pv 0) rfl) (pv 1) (fun _ _ => rfl)) (pv 8) (fun _ _ => rfl)) pe_int (fun _ _ => rfl)) (pv 4) (nomark _)) pss_never)
    (pss_one (ps_ret (pe_op op_add (pv 7) (pe_meth (pv 0) TS.cl m1 G1 hr b1 .nil pass0 (pa_cons (pe_ix ix_tup (pe_ix ix_list (pe_dget hu (pe_fld (pv 0) rfl) (pv 1) (fun _ _ => rfl)) (pv 8) (fun _ _ => rfl)) pe_int (fun _ _ => rfl)) (pa_cons (pv 6) (pa_cons (pv 5) pa_nil)))))))))))))), ?_⟩
  refine ⟨.ref A.s, rfl, A.s, CS, A.dxs, _, _, rfl, z.z.ob, TS.cl, TS.nK, szF_kinds, .str "row", rfl, A.kd, .ref A.fr, rfl, dget z.z.kd val_row, ?_⟩
  refine ⟨_, rfl, A.fr, _, 0, _, rfl, rfl, z.z.fr, atI_nat (j := 0) rfl, rfl, _, rfl, ite2 (fun e => absurd (of_decide_eq_true e) (by decide +kernel)) (fun _ => ?_)⟩
  refine ⟨_, rfl, A.fr, _, 0, _, rfl, rfl, z.z.fr, atI_nat (j := 0) rfl, rfl, _, rfl, ite2 (fun e => absurd (of_decide_eq_true e) (by decide +kernel)) (fun _ => ?_)⟩
  refine ⟨_, rfl, A.fr, _, 0, _, rfl, rfl, z.z.fr, atI_nat (j := 0) rfl, rfl, _, rfl, ite2 (fun _ => ?_) (fun e => absurd (decide_eq_true rfl) e)⟩
  refine ⟨.ref l, rfl, by show 2 ≤ sizeLine; decide, fun p hp => ?_⟩
  have e1 : Ex H (upd H p (.tup [.non, .ref l])) := Evl.Ex.new hp
  refine ⟨p, _, rfl, .inl (.inl upd_same), rfl, .non, _, rfl, .ref l, [], rfl, rfl, ?_⟩
  have z1 := z.ex e1
  have hl1 := e1 _ _ hl
  generalize upd H p (.tup [.non, .ref l]) = H1 at e1 z1 hl1
  refine ⟨_, rfl, H1, [listX [.int a, .int b]], .int 3, Evl.Ex.refl H1, .cons (.lstX hl1 (.cons (.int a) (.cons (.int b) .nil))) .nil, .inr ⟨a, b, rfl, rfl⟩, fun u B3 H3 g3 r3 => ?_⟩
  cases rt_int r3
  have e3 : Ex H H3 := e1.trans g3.eh
  have z3 := z.ex e3
  refine ⟨3, 1, rfl, rfl, ?_⟩
  refine ⟨fun m σ H' => σ = [some (.ref A.s), some (.str "row"), some (.ref l), some (.ref A.fr), some .non, some (.ref l), some (.int (3 - 1)), some (.int 0), some (.int 0)] ∧ H' = H3, ⟨0, rfl, rfl⟩, ?_⟩
  rintro m σ H' ⟨rfl, rfl⟩
  refine ⟨.ref A.s, rfl, A.s, CS, A.dxs, _, _, rfl, z3.z.ob, TS.cl, TS.nH, szF_chains, .str "row", rfl, A.dch, .ref A.chr, rfl, dget (.inl z3.z.dch) val_row, .int 0, rfl, A.chr, _, 0, _, rfl, rfl, .inl (.inl z3.z.chr), atI_nat (j := 0) rfl,
    A.t, _, 0, _, rfl, rfl, .inl (.inl z3.z.t), atI_nat (j := 0) rfl, .non, rfl, rfl, _, rfl, ?_⟩
  refine iteF ?_
  refine ⟨_, rfl, .ref A.s, rfl, A.s, A.dxs, _, rfl, z3.z.ob, szF_no (by decide +kernel) (by decide +kernel) (by decide +kernel), .ref A.s, rfl, A.s, CS, A.dxs, _, _, rfl, z3.z.ob, TS.cl, TS.nH, szF_chains, .str "row", rfl, A.dch, .ref A.chr, rfl, dget (.inl z3.z.dch) val_row, .int 0, rfl, A.chr, _, 0, _, rfl, rfl, .inl (.inl z3.z.chr), atI_nat (j := 0) rfl,
    A.t, _, 1, _, rfl, rfl, .inl (.inl z3.z.t), atI_nat (j := 1) rfl, _, rfl, .ref l, rfl, A, hi, a, b, l, rfl, z3, e3 _ _ hl, fun H4 e4 => ?_⟩
  exact ⟨0, _, rfl, rfl, q H4 (e3.trans e4)⟩
end
end FV
namespace FV
open PySem PySem.Spec PyProof.Rows L2 FC FP
open Evl (Ex)
abbrev s_is_value : Stmt := topS 40
abbrev s_size_of : Stmt := topS 41
abbrev s_count_values : Stmt := topS 42
abbrev s_nth_value : Stmt := topS 43
abbrev s_place : Stmt := topS 44
def rowK (hi : Int) : List (Str × PyData) := [("row", .tuple [.str "rows", .str "cell"]), ("cell", numsD 0 hi)]
theorem look_row {hi : Int} : look (rowK hi) "row" = some (.tuple [.str "rows", .str "cell"]) := by
  unfold look rowK
  simp
theorem look_cell {hi : Int} : look (rowK hi) "cell" = some (numsD 0 hi) := by
  have h : ("row" : Str) ≠ "cell" := by decide +kernel
  unfold look rowK
  simp [h]
theorem rowK_ok {hi : Int} (h : 0 ≤ hi) : KindsOk (rowK hi) where
  ne := by unfold rowK; simp
  few := by unfold rowK; simp
  nm := fun q hq => by
    cases hq with
    | head => show isNameS "row" = true; decide +kernel
    | tail _ h => cases h with
      | head => show isNameS "cell" = true; decide +kernel
      | tail _ h => cases h
  fm := fun q hq => by
    cases hq with
    | head => exact .rows (by rw [look_cell]; rfl)
    | tail _ h2 => cases h2 with
      | head => exact .nums h
      | tail _ h => cases h
  nd := by
    have h : ("row" : Str) ≠ "cell" := by decide +kernel
    unfold rowK
    simp [h]
theorem dp_tup {K : PySem.W.Frag} {B : Hp} {v : V} {ds : List PyData} (h : Dp K B v (.tuple ds)) : ∃ a vs, v = .ref a ∧ SqT K B a vs ∧ DpAll K B vs ds := by
  cases h with
  | tup hs ha => exact ⟨_, _, rfl, hs, ha⟩
theorem rowK_heap {K : PySem.W.Frag} {B : Hp} {v : V} {hi : Int} (h : Rt K B v (dictU (rowK hi))) : ∃ kd fr fc, v = .ref kd ∧ B kd = some (.dK [(kR, .ref fr), (kC, .ref fc)]) ∧ SqT K B fr [.str "rows", .str "cell"] ∧ SqT K B fc [.str "numbers", .int 0, .int hi] := by
  obtain ⟨a, ks, rfl, e, kr, _⟩ := rt_dictU h
  cases kr with
  | @cons p _ ps _ h1 kr =>
    cases kr with
    | @cons q _ qs _ h2 kr =>
      cases kr
      obtain ⟨k1, v1⟩ := p
      obtain ⟨k2, v2⟩ := q
      obtain ⟨e1, d1⟩ := h1
      obtain ⟨e2, d2⟩ := h2
      cases e1
      cases e2
      obtain ⟨fr, vs, rfl, s1, a1⟩ := dp_tup d1
      obtain ⟨fc, us, rfl, s2, a2⟩ := dp_tup d2
      refine ⟨a, fr, fc, rfl, e, ?_, ?_⟩
      · cases a1 with
        | cons x1 a1 => cases a1 with
          | cons x2 a1 =>
            cases a1
            cases x1
            cases x2
            exact s1
      · cases a2 with
        | cons x1 a2 => cases a2 with
          | cons x2 a2 => cases a2 with
            | cons x3 a2 =>
              cases a2
              cases x1
              cases x2
              cases x3
              exact s2
theorem mk_sizes {K : PySem.W.Frag} {CS CC : Addr} {H : Hp} {kd fr fc x dx : Addr} {hi : Int} (hk : H kd = some (.dK [(kR, .ref fr), (kC, .ref fc)])) (h1 : SqT K H fr [.str "rows", .str "cell"]) (h2 : SqT K H fc [.str "numbers", .int 0, .int hi]) (h0 : 0 ≤ hi ∧ hi ≤ 1000) (hx : H x = none) (hdx : H dx = none) (hne : dx ≠ x) {Q : VK}
    (q : ∀ (A : SA) H', A.s = x → Szs K CS CC A hi H' → Ex H H' → Q .non H') : spInit K CS CC (.ref x :: ([.ref kd, .int 3] ++ [])) (upd (upd H dx (.own x)) x (.ins CS dx [])) Q E0 := by
  have hx2 : (upd H dx (.own x)) x = none := by
    rw [upd_ne (fun z => hne z.symm)]
    exact hx
  have e : Ex H (upd (upd H dx (.own x)) x (.ins CS dx [])) := (Evl.Ex.new hdx).trans (Evl.Ex.new hx2)
  refine ⟨x, kd, fr, fc, dx, hi, 3, rfl, ⟨upd_same, e _ _ hk, ex_t e h1, ex_t e h2, h0⟩, by decide, fun A H' hs _ _ z sv fr => ?_⟩
  exact q A H' hs ⟨z, sv⟩ fun b o h => fr b o (ne_of_none h hx) (e _ _ h)
section
variable {P : Program} {w : World} {K : PySem.W.Frag} {mg : Str → Option Value} {base : Heap} {f : Addr} {fd : FuncData}
/-! ### is_value, size_of -/
def Rw_is_value : List PyData → PyData → Prop := fun ds o => ∃ kvs k v, ds = [dictU kvs, .str k, v] ∧ KindsOk kvs ∧ (look kvs k).isSome = true ∧ plain v = true ∧ ValueOk kvs k v ∧ o = .bool true
theorem sc_is_value : FnScope ["kinds", "kind", "value"] ["kinds", "kind", "value"] (defScope s_is_value) := ⟨rfl, rfl, rfl, by decide +kernel, rfl, by decide +kernel, by decide +kernel⟩
theorem ok_is_value (F : Fun K "is_value" "is_value" s_is_value f fd) (ck : CL P w K mg base 5 "check_kind" Rw_check_kind) (cs : Cl P w K mg base 5 "is_sound" (spSound P w K mg base 4)) (cv : CL P w K mg base 4 "values_within" Rw_values_within) : FnOk P w K mg base CX0 6 f fd ["kinds", "kind", "value"] (spR K Rw_is_value) := by
  refine F.ok sc_is_value (spR_len (by rintro _ _ ⟨_, _, _, rfl, _⟩; rfl)) (fun cdv A outer s H vs Q E hr h => ?_)
  obtain ⟨B, ds, o, x, r, ⟨kvs, k, v, rfl, ok, hk, hp, ⟨n, hs⟩, rfl⟩, q⟩ := h
  obtain ⟨fw, fdw, psw, Fw, mw, kw, bw⟩ := cv.ex
  refine ⟨_, pss_cons (ps_expr (pe_cl ck hr (by decide) (by rfl) (pa_cons (pv 0) (pa_cons (pv 1) pa_nil))))
    (pss_one (ps_ret (pe_cl cs hr (by decide) (by rfl) (pa_cons (pv 0) (pa_cons (pv 1) (pa_cons (pv 2) (pa_cons (pe_glob (v := .ref fw) (by rfl) mw rfl) pa_nil))))))), ?_⟩
  refine fin_rt ?_ x r q
  show DS K _ [some (dictU kvs), some (.str k), some v] _
  refine ds_seq (ds_drop (de_call' (da_cons (de_var rfl) (da_cons (de_var rfl) da_nil)) ⟨kvs, k, rfl, ok, hk, rfl⟩)) ?_
  exact ds_ret (de_sound Fw kw bw (de_ofU (de_var rfl)) (de_var rfl) (de_var rfl) rfl hp hs)
def Rw_size_of : List PyData → PyData → Prop := fun ds o => ∃ kvs k a b, ds = [dictU kvs, .str k, listX [.int a, .int b]] ∧ KindsOk kvs ∧ (look kvs k).isSome = true ∧ ValueOk kvs k (.list [.int a, .int b]) ∧ o = .int 3
theorem sc_size_of : FnScope ["kinds", "kind", "value"] ["kinds", "kind", "value"] (defScope s_size_of) := ⟨rfl, rfl, rfl, by decide +kernel, rfl, by decide +kernel, by decide +kernel⟩
theorem ok_size_of (F : Fun K "size_of" "size_of" s_size_of f fd) (ck : CL P w K mg base 5 "check_kind" Rw_check_kind) (cv : CL P w K mg base 6 "check_value" Rw_check_value) (cs : CL P w K mg base 1 "size_of_tree" Rw_size_of_tree) : FnOk P w K mg base CX0 7 f fd ["kinds", "kind", "value"] (spR K Rw_size_of) := by
  refine F.ok sc_size_of (spR_len (by rintro _ _ ⟨_, _, _, _, rfl, _⟩; rfl)) (fun cdv A outer s H vs Q E hr h => ?_)
  obtain ⟨B, ds, o, x, r, ⟨kvs, k, a, b, rfl, ok, hk, hv, rfl⟩, q⟩ := h
  refine ⟨_, pss_cons (ps_expr (pe_cl ck hr (by decide) (by rfl) (pa_cons (pv 0) (pa_cons (pv 1) pa_nil))))
    (pss_cons (ps_expr (pe_cl cv hr (by decide) (by rfl) (pa_cons (pv 0) (pa_cons (pv 1) (pa_cons (pv 2) pa_nil)))))
    (pss_one (ps_ret (pe_cl cs hr (by decide) (by rfl) (pa_cons (pv 2) pa_nil))))), ?_⟩
  refine fin_rt ?_ x r q
  show DS K _ [some (dictU kvs), some (.str k), some (listX [.int a, .int b])] _
  refine ds_seq (ds_drop (de_call' (da_cons (de_var rfl) (da_cons (de_var rfl) da_nil)) ⟨kvs, k, rfl, ok, hk, rfl⟩)) ?_
  refine ds_seq (ds_drop (de_call' (da_cons (de_ofU (de_var rfl)) (da_cons (de_var rfl) (da_cons (de_ofX (de_var rfl)) da_nil))) ⟨kvs, k, _, rfl, rfl, hv, rfl⟩)) ?_
  exact ds_ret (de_call' (da_cons (de_var rfl) da_nil) (.inr ⟨a, b, rfl, rfl⟩))
theorem value_row {hi a b : Int} (a0 : 0 ≤ a) (a1 : a ≤ hi) (b0 : 0 ≤ b) (b1 : b ≤ hi) : ValueOk (rowK hi) "row" (.list [.int a, .int b]) := by
  refine ⟨3, ?_⟩
  refine Sweep.more (ws := []) (held := [(.str "cell", .int a), (.str "cell", .int b)]) (n := 2) ⟨rowK hi, "row", _, rfl, .inr ⟨"cell", _, look_row, rfl, by show 2 ≤ 1000; decide, rfl, rfl⟩⟩ (by show 0 + 2 ≤ 100000; decide) ?_
  show Sweep _ 2 ([(.str "cell", .int a)] ++ [(.str "cell", .int b)]) true
  refine Sweep.more (ws := [(.str "cell", .int a)]) (held := []) (n := 1) ⟨rowK hi, "cell", _, rfl, .inl ⟨0, hi, b, look_cell, rfl, b0, b1, rfl⟩⟩ (by show 1 + 0 ≤ 100000; decide) ?_
  exact Sweep.leaf ⟨rowK hi, "cell", _, rfl, .inl ⟨0, hi, a, look_cell, rfl, a0, a1, rfl⟩⟩
end
end FV
namespace FV
open PySem PySem.Spec PyProof.Rows L2 FC FP
open Evl (Ex)
section
variable {P : Program} {w : World} {K : PySem.W.Frag} {mg : Str → Option Value} {base : Heap} {f : Addr} {fd : FuncData}
theorem en_at {B : Hp} {σ : L2.St} {G : List (Option PyData)} {i : Nat} {d : PyData} (en : En K B σ G) (h : G[i]? = some (some d)) : ∃ v, σ[i]? = some (some v) ∧ Rt K B v d := en.get i d h
def Rw_count_values : List PyData → PyData → Prop := fun ds o => ∃ hi : Int, 0 ≤ hi ∧ hi ≤ 1000 ∧ ds = [dictU (rowK hi), .str "row", .int 3] ∧ o = .int (vR (hi + 1) 3)
theorem sc_count_values : FnScope ["kinds", "kind", "size"] ["kinds", "kind", "size"] (defScope s_count_values) := ⟨rfl, rfl, rfl, by decide +kernel, rfl, by decide +kernel, by decide +kernel⟩
theorem ok_count_values {CS CC gI : Addr} {gdI : FuncData} (F : Fun K "count_values" "count_values" s_count_values f fd) (ck : CL P w K mg base 5 "check_kind" Rw_check_kind) (cz : CL P w K mg base 3 "check_size" Rw_check_count) (TS : KS K CS)
    (M : Mk K CS gI) (GI : FnOk P w K mg base CX0 5 gI gdI ["self", "kinds", "greatest"] (spInit K CS CC)) (bI : Binds K gdI ["self", "kinds", "greatest"] []) (mC : mg "Sizes" = some (.ref CS)) : FnOk P w K mg base CX0 7 f fd ["kinds", "kind", "size"] (spR K Rw_count_values) := by
  refine F.ok sc_count_values (spR_len (by rintro _ _ ⟨_, _, _, rfl, _⟩; rfl)) (fun cdv A0 outer s H vs Q E hr h => ?_)
  obtain ⟨B, ds, o, x, r, ⟨hi, h0, h1, rfl, rfl⟩, q⟩ := h
  have hu := hu_of hr
  refine ⟨_, pss_cons (ps_expr (pe_cl ck hr (by decide) (by rfl) (pa_cons (pv 0) (pa_cons (pv 1) pa_nil))))
    (pss_cons (ps_expr (pe_cl cz hr (by decide) (by rfl) (pa_cons (pv 2) pa_nil)))
    (pss_one (ps_ret (pe_ix ix_list (pe_dget hu (pe_fld (pe_make M GI hr (by rfl) mC bI .nil pass0 (pa_cons (pv 0) (pa_cons (pv 2) pa_nil))) rfl) (pv 1) (fun _ _ => rfl)) (pv 2) (fun _ _ => rfl))))), ?_⟩
  refine fin_rt ?_ x r q
  show DS K _ [some (dictU (rowK hi)), some (.str "row"), some (.int 3)] _
  refine ds_seq (ds_drop (de_call' (da_cons (de_var rfl) (da_cons (de_var rfl) da_nil)) ⟨rowK hi, "row", rfl, rowK_ok h0, by rw [look_row]; rfl, rfl⟩)) ?_
  refine ds_seq (ds_drop (de_call' (da_cons (de_var rfl) da_nil) ⟨3, rfl, by decide, rfl⟩)) ?_
  refine ds_ret fun σ B H x en Q q => ?_
  obtain ⟨v0, hv0, r0⟩ := en_at en (i := 0) rfl
  obtain ⟨v1, hv1, r1⟩ := en_at en (i := 1) rfl
  obtain ⟨v2, hv2, r2⟩ := en_at en (i := 2) rfl
  obtain ⟨kd, fr, fc, rfl, hk, s1, s2⟩ := rowK_heap r0
  cases rt_str r1
  cases rt_int r2
  refine ⟨_, hv0, _, hv2, ?_⟩
  intro sx dx nx ndx hne
  refine mk_sizes (x _ _ hk) (ex_t x s1) (ex_t x s2) ⟨h0, h1⟩ nx ndx hne fun A H' hs z e => ⟨rfl, ?_⟩
  subst hs
  refine ⟨A.s, CS, A.dxs, _, _, rfl, z.z.ob, TS.cl, TS.nC, szF_counts, _, hv1, A.dc, .ref A.lr, rfl, dget (.inl z.z.dc) val_row, _, hv2, A.lr, _, 3, .int (vR (hi + 1) 3), rfl, rfl, .inl (.inl z.v.r), atI_nat (j := 3) (seqV_get (by decide)), ?_⟩
  exact q _ B H' (go_own x e) (.d (.int _))
/-! ### nth_value -/
def Rw_nth_value : List PyData → PyData → Prop := fun ds o => ∃ hi j : Int, 0 ≤ hi ∧ hi ≤ 1000 ∧ 0 ≤ j ∧ j < (hi + 1) ^ 2 ∧ ds = [dictU (rowK hi), .str "row", .int 3, .int j] ∧ o = .list [.int (j / (hi + 1)), .int (j % (hi + 1))]
theorem sc_nth_value : FnScope ["kinds", "kind", "size", "number", "sizes"] ["kinds", "kind", "size", "number"] (defScope s_nth_value) := ⟨rfl, rfl, rfl, by decide +kernel, rfl, by decide +kernel, by decide +kernel⟩
theorem ok_nth_value {CS CC gI g1 : Addr} {gdI gd1 : FuncData} (F : Fun K "nth_value" "nth_value" s_nth_value f fd) (ck : CL P w K mg base 5 "check_kind" Rw_check_kind) (cz : CL P w K mg base 3 "check_size" Rw_check_count) (cn : CL P w K mg base 3 "check_number" Rw_check_count) (TS : KS K CS)
    (M : Mk K CS gI) (GI : FnOk P w K mg base CX0 5 gI gdI ["self", "kinds", "greatest"] (spInit K CS CC)) (bI : Binds K gdI ["self", "kinds", "greatest"] []) (mC : mg "Sizes" = some (.ref CS))
    (m1 : Meth K CS "value_at" g1) (G1 : FnOk P w K mg base CX0 3 g1 gd1 ["self", "kind", "size", "number"] (spValR K CS CC)) (b1 : Binds K gd1 ["self", "kind", "size", "number"] []) : FnOk P w K mg base CX0 7 f fd ["kinds", "kind", "size", "number"] (spR K Rw_nth_value) := by
  refine F.ok sc_nth_value (spR_len (by rintro _ _ ⟨_, _, _, _, _, _, rfl, _⟩; rfl)) (fun cdv A0 outer s H vs Q E hr h => ?_)
  obtain ⟨B, ds, o, x, r, ⟨hi, j, h0, h1, hj0, hj, rfl, rfl⟩, q⟩ := h
  have hu := hu_of hr
  have nd := sc_nth_value.nd
  refine ⟨_, pss_cons (ps_expr (pe_cl ck hr (by decide) (by rfl) (pa_cons (pv 0) (pa_cons (pv 1) pa_nil))))
    (pss_cons (ps_expr (pe_cl cz hr (by decide) (by rfl) (pa_cons (pv 2) pa_nil)))
    (pss_cons (ps_expr (pe_cl cn hr (by decide) (by rfl) (pa_cons (pv 3) pa_nil)))
    (pss_cons (ps_set (i := 4) nd rfl (Or.inl rfl) (pe_make M GI hr (by rfl) mC bI .nil pass0 (pa_cons (pv 0) (pa_cons (pv 2) pa_nil))))
    (pss_cons (ps_if (pt_cmpR op_ge (pv 3) (pe_ix ix_list (pe_dget hu (pe_fld (pv 4) rfl) (pv 1) (fun _ _ => rfl)) (pv 2) (fun _ _ => rfl)) (nomark _)) pss_never pss_nil)
    (pss_one (ps_ret (pe_meth (pv 4) TS.cl m1 G1 (hr.mono (by decide)) b1 .nil pass0 (pa_cons (pv 1) (pa_cons (pv 2) (pa_cons (pv 3) pa_nil)))))))))), ?_⟩
  refine fin_rt ?_ x r q
  show DS K _ [some (dictU (rowK hi)), some (.str "row"), some (.int 3), some (.int j), none] _
  refine ds_seq (ds_drop (de_call' (da_cons (de_var rfl) (da_cons (de_var rfl) da_nil)) ⟨rowK hi, "row", rfl, rowK_ok h0, by rw [look_row]; rfl, rfl⟩)) ?_
  refine ds_seq (ds_drop (de_call' (da_cons (de_var rfl) da_nil) ⟨3, rfl, by decide, rfl⟩)) ?_
  refine ds_seq (ds_drop (de_call' (da_cons (de_var rfl) da_nil) ⟨j, rfl, hj0, rfl⟩)) ?_
  intro D σ B H x en q
  have len : σ.length = 5 := en.len
  obtain ⟨v0, hv0, r0⟩ := en_at en (i := 0) rfl
  obtain ⟨v1, hv1, r1⟩ := en_at en (i := 1) rfl
  obtain ⟨v2, hv2, r2⟩ := en_at en (i := 2) rfl
  obtain ⟨v3, hv3, r3⟩ := en_at en (i := 3) rfl
  obtain ⟨kd, fr, fc, rfl, hk, s1, s2⟩ := rowK_heap r0
  cases rt_str r1
  cases rt_int r2
  cases rt_int r3
  refine ⟨_, hv0, _, hv2, ?_⟩
  intro sx dx nx ndx hne
  refine mk_sizes (x _ _ hk) (ex_t x s1) (ex_t x s2) ⟨h0, h1⟩ nx ndx hne fun A H' hs z e => ⟨rfl, ?_⟩
  subst hs
  have w1 : (σ.set 4 (some (.ref A.s)))[1]? = some (some (.str "row")) := by rw [List.getElem?_set_ne (by decide)]; exact hv1
  have w2 : (σ.set 4 (some (.ref A.s)))[2]? = some (some (.int 3)) := by rw [List.getElem?_set_ne (by decide)]; exact hv2
  have w3 : (σ.set 4 (some (.ref A.s)))[3]? = some (some (.int j)) := by rw [List.getElem?_set_ne (by decide)]; exact hv3
  have w4 : (σ.set 4 (some (.ref A.s)))[4]? = some (some (.ref A.s)) := List.getElem?_set_self (by omega)
  dsimp only [gName]
  generalize σ.set 4 (some (.ref A.s)) = σ1 at w1 w2 w3 w4
  refine ⟨_, w3, _, w4, A.s, CS, A.dxs, _, _, rfl, z.z.ob, TS.cl, TS.nC, szF_counts, _, w1, A.dc, .ref A.lr, rfl, dget (.inl z.z.dc) val_row, _, w2, A.lr, _, 3, .int (vR (hi + 1) 3), rfl, rfl, .inl (.inl z.v.r), atI_nat (j := 3) (seqV_get (by decide)), j, vR (hi + 1) 3, rfl, rfl, _, rfl, ?_⟩
  have hv : vR (hi + 1) 3 = (hi + 1) ^ 2 := by
    unfold vR
    rw [if_neg (by decide)]
  rw [decide_eq_false (show ¬ vR (hi + 1) 3 ≤ j by rw [hv]; exact Int.not_le.mpr hj)]
  refine iteF ?_
  refine ⟨_, w4, A.s, A.dxs, _, rfl, z.z.ob, szF_no (by decide +kernel) (by decide +kernel) (by decide +kernel), _, w1, _, w2, _, w3, A, hi, j, rfl, z, hj0, hj, fun p H2 hp hl e2 => ?_⟩
  have e3 := e.trans e2
  have nH : H p = none := Evl.fresh_back e hp
  have nB : B p = none := sub_none x nH
  refine q _ (upd B p (.lst [.int (j / (hi + 1)), .int (j % (hi + 1))])) H2 ⟨Evl.Ex.new nB, e3, fun a o h => ?_, fun a o h nb => ?_⟩ (.d (.lst (.inl (.inl upd_same)) (.cons (.int _) (.cons (.int _) .nil))))
  · by_cases ha : a = p
    · subst ha
      rw [upd_same] at h
      rw [hl]
      exact h
    · rw [upd_ne ha] at h
      exact e3 _ _ (x _ _ h)
  · rw [upd_ne (ne_of_none h nH)]
    exact nb
/-! ### place -/
def Rw_place : List PyData → PyData → Prop := fun ds o => ∃ hi a b : Int, 0 ≤ hi ∧ hi ≤ 1000 ∧ 0 ≤ a ∧ a ≤ hi ∧ 0 ≤ b ∧ b ≤ hi ∧ ds = [dictU (rowK hi), .str "row", listX [.int a, .int b]] ∧ o = .int (0 + plc (hi + 1) a b 2)
theorem sc_place : FnScope ["kinds", "kind", "value"] ["kinds", "kind", "value"] (defScope s_place) := ⟨rfl, rfl, rfl, by decide +kernel, rfl, by decide +kernel, by decide +kernel⟩
theorem ok_place {CS CC gI g1 : Addr} {gdI gd1 : FuncData} (F : Fun K "place" "place" s_place f fd) (ck : CL P w K mg base 5 "check_kind" Rw_check_kind) (cv : CL P w K mg base 6 "check_value" Rw_check_value) (cs : CL P w K mg base 1 "size_of_tree" Rw_size_of_tree) (TS : KS K CS)
    (M : Mk K CS gI) (GI : FnOk P w K mg base CX0 5 gI gdI ["self", "kinds", "greatest"] (spInit K CS CC)) (bI : Binds K gdI ["self", "kinds", "greatest"] []) (mC : mg "Sizes" = some (.ref CS))
    (m1 : Meth K CS "place_of" g1) (G1 : FnOk P w K mg base CX0 3 g1 gd1 ["self", "kind", "value"] (spPlR K CS CC)) (b1 : Binds K gd1 ["self", "kind", "value"] []) : FnOk P w K mg base CX0 7 f fd ["kinds", "kind", "value"] (spR K Rw_place) := by
  refine F.ok sc_place (spR_len (by rintro _ _ ⟨_, _, _, _, _, _, _, _, _, rfl, _⟩; rfl)) (fun cdv A0 outer s H vs Q E hr h => ?_)
  obtain ⟨B, ds, o, x, r, ⟨hi, a, b, h0, h1, a0, a1, b0, b1', rfl, rfl⟩, q⟩ := h
  have hu := hu_of hr
  refine ⟨_, pss_cons (ps_expr (pe_cl ck hr (by decide) (by rfl) (pa_cons (pv 0) (pa_cons (pv 1) pa_nil))))
    (pss_cons (ps_expr (pe_cl cv hr (by decide) (by rfl) (pa_cons (pv 0) (pa_cons (pv 1) (pa_cons (pv 2) pa_nil)))))
    (pss_one (ps_ret (pe_meth (pe_make M GI hr (by rfl) mC bI .nil pass0 (pa_cons (pv 0) (pa_cons (pe_cl cs hr (by decide) (by rfl) (pa_cons (pv 2) pa_nil)) pa_nil))) TS.cl m1 G1 (hr.mono (by decide)) b1 .nil pass0 (pa_cons (pv 1) (pa_cons (pv 2) pa_nil)))))), ?_⟩
  refine fin_rt ?_ x r q
  show DS K _ [some (dictU (rowK hi)), some (.str "row"), some (listX [.int a, .int b])] _
  refine ds_seq (ds_drop (de_call' (da_cons (de_var rfl) (da_cons (de_var rfl) da_nil)) ⟨rowK hi, "row", rfl, rowK_ok h0, by rw [look_row]; rfl, rfl⟩)) ?_
  refine ds_seq (ds_drop (de_call' (da_cons (de_ofU (de_var rfl)) (da_cons (de_var rfl) (da_cons (de_ofX (de_var rfl)) da_nil))) ⟨rowK hi, "row", _, rfl, rfl, value_row a0 a1 b0 b1', rfl⟩)) ?_
  refine ds_ret fun σ B H x en Q q => ?_
  obtain ⟨v0, hv0, r0⟩ := en_at en (i := 0) rfl
  obtain ⟨v1, hv1, r1⟩ := en_at en (i := 1) rfl
  obtain ⟨v2, hv2, r2⟩ := en_at en (i := 2) rfl
  obtain ⟨kd, fr, fc, rfl, hk, s1, s2⟩ := rowK_heap r0
  cases rt_str r1
  have r2' := r2
  obtain ⟨l, us, rfl, hl, hd⟩ := rt_listX r2
  cases hd with
  | cons d1 hd => cases hd with
    | cons d2 hd =>
      cases hd
      cases d1
      cases d2
      refine ⟨_, hv0, _, hv2, B, [listX [.int a, .int b]], .int 3, x, .cons r2' .nil, .inr ⟨a, b, rfl, rfl⟩, fun u B3 H3 g3 r3 => ?_⟩
      cases rt_int r3
      intro sx dx nx ndx hne
      refine mk_sizes (g3.eh _ _ (x _ _ hk)) (ex_t g3.eh (ex_t x s1)) (ex_t g3.eh (ex_t x s2)) ⟨h0, h1⟩ nx ndx hne fun A H' hs z e => ⟨rfl, ?_⟩
      subst hs
      have e1 := g3.eh.trans e
      refine ⟨A.s, A.dxs, _, rfl, z.z.ob, szF_no (by decide +kernel) (by decide +kernel) (by decide +kernel), _, hv1, _, hv2, A, hi, a, b, l, rfl, z, e1 _ _ (x _ _ hl), fun H4 e4 => ?_⟩
      exact q _ B H4 (go_own x (e1.trans e4)) (.d (.int _))
end
end FV
namespace FV
open PySem PySem.Spec PyProof.Rows L2 FC FP
open Evl (Ex)
abbrev s_purse : Stmt := topS 46
abbrev s_mixed : Stmt := topS 47
abbrev s_draw : Stmt := topS 48
abbrev s_purses : Stmt := topS 49
abbrev s_law : Stmt := topS 50
/-! ### a call with keywords alone -/
section
variable {X : Cx} {k j : Nat} {f : Addr} {fd : FuncData} {ps ks : List Str} {sp : Sp} {x : Str} {p pos : Pos} {kws : List Keyword} {tk : TA}
def tCallW (sp : Sp) (m : Nat) (g : List V → List V) (tk : TA) : TE := fun σ H Q => tk σ H fun zs H2 => zs.length = m ∧ sp (g zs) H2 Q E0
theorem pe_clW (F : FnOk X.prog X.w X.K X.mg X.base CX0 k f fd ps sp) (hr : Room j X.A) (hkj : k ≤ j) (hg : Gl X x) (hm : X.mg x = some (.ref f)) (hk : PySem.W.keepIn X.K (.ref f) = true)
    (g : {α : Type} → List α → List α) (hb : ∀ (s : Shared) (ws : List Value), ws.length = ks.length → BindsTo s fd ⟨[], ks.zip ws⟩ (ps.zip (g ws))) (rel : ∀ {zs : List V} {ws : List Value}, zs.length = ks.length → Vals zs ws → Vals (g zs) (g ws))
    (hkw : PK X kws tk) (hall : (backToKw pos (keywordEach kws X.env)).all (·.1.isSome) = true := by rfl) (hks : (backToKw pos (keywordEach kws X.env)).filterMap (·.1) = ks := by rfl) (hdb : (x == ("__debug__" : Str)) = false := by decide)
    (hpl : ((backTo pos (starEach [] X.env)).any (·.1) || (backToKw pos (keywordEach kws X.env)).any (·.1.isNone)) = false := by rfl) : PE X (.Call (.Name x p) [] kws pos) (tCallW sp ks.length (g (α := V)) tk) := by
  refine ⟨fun pins s σ H Q I h => ?_⟩
  refine wpAny_Call_Name_kw (ld_glob I hg hm ?_ hdb)
  refine PySem.W.callWith_KW0 (h₀ := X.base) I.ok.mod.kin hk hall ?_ hpl
  refine thn (hkw.run pos pins s σ H _ I h) fun ws s2 q0 => ?_
  obtain ⟨zs, H2, I2, rz, hl, hsp⟩ := q0
  refine ⟨I2.kIn, ?_⟩
  rw [hks]
  have hwl : ws.length = ks.length := rz.length.symm.trans hl
  refine wpAny_call (codeAny_mono ((F.mono hkj).run X.A X.stack s2 H2 ⟨[], ks.zip ws⟩ (g ws) (g zs) Q E0 hr I2.env0 (hb s2 ws hwl) (rel hl rz) hsp) fun r s' hq => ?_)
  cases r with
  | error e => exact pass0 pins σ H2 s2 e s' I2 hq
  | ok fl =>
    cases fl with
    | ret u => exact I2.after hq
    | next => exact hq.elim
    | brk => exact hq.elim
    | cont => exact hq.elim
end
section
variable {X : Cx}
def CBig (i j : Int) : Prop := 0 ≤ j ∧ (Builtin.Int.intBits i : Int) * j ≤ 2 ^ 27
theorem big18 : CBig 10 18 := by unfold CBig; decide +kernel
theorem big60 : CBig 10 60 := by unfold CBig; decide +kernel
theorem big8 : CBig (10 ^ Int.toNat 60) 8 := by unfold CBig; decide +kernel
theorem pos8 : (0 : Int) < (10 ^ Int.toNat 60) ^ Int.toNat 8 := by decide +kernel
theorem op_powW : OpR X (binaryOp .Pow) (rI CBig fun i j => .int (i ^ j.toNat)) := opI fun _ _ _ _ _ _ _ hc q => PyProof.Rows.pow_int hc.1 hc.2 q
end

section
variable {P : Program} {w : World} {K : PySem.W.Frag} {mg : Str → Option Value} {base : Heap} {f : Addr} {fd : FuncData} {G : List (Option PyData)}
def spMixed : Sp := fun vs H Q _ => ∃ s t a : Int, vs = [.int s, .int t, .int a] ∧ 0 ≤ s ∧ s < 2 ^ 32 ∧ 0 ≤ t ∧ t ≤ 10000000 ∧ 0 ≤ a ∧ a ≤ 1000 ∧ ∀ r : Int, 0 ≤ r → r < 2147483587 → Q (.int r) H
theorem sc_mixed : FnScope ["seed", "turn", "at", "mixed"] ["seed", "turn", "at"] (defScope s_mixed) := ⟨rfl, rfl, rfl, by decide +kernel, rfl, by decide +kernel, by decide +kernel⟩
theorem ok_mixed (F : Fun K "_law_mixed" "_law_mixed" s_mixed f fd) : FnOk P w K mg base CX0 1 f fd ["seed", "turn", "at"] spMixed := by
  refine F.ok sc_mixed (by rintro vs H Q E ⟨s, t, a, rfl, _⟩; rfl) (fun cdv A outer s H vs Q E hr h => ?_)
  obtain ⟨sd, t, a, rfl, h1, h2, h3, h4, h5, h6, q⟩ := h
  refine ⟨_, pss_cons (ps_set (i := 3) sc_mixed.nd rfl (Or.inl rfl) (pe_op op_add (pe_op op_mul (pv 0) pe_int) (pe_op op_mul (pe_op op_mul pe_int (pv 1)) (pv 1))))
    (pss_cons (ps_set (i := 3) sc_mixed.nd rfl (Or.inl rfl) (pe_op op_mod (pe_op op_add (pe_op op_add (pv 3) (pe_op op_mul pe_int (pv 2))) (pv 1)) pe_int))
    (pss_cons (ps_set (i := 3) sc_mixed.nd rfl (Or.inl rfl) (pe_op op_mod (pe_op op_add (pe_op op_mul (pv 3) (pv 3)) pe_int) pe_int))
    (pss_one (ps_ret (pe_op op_mod (pe_op op_mul (pv 3) pe_int) pe_int))))), ?_⟩
  refine ⟨_, rfl, _, _, rfl, rfl, .inr (by decide), _, rfl, _, _, rfl, rfl, .inl (by decide), _, rfl, _, _, rfl, rfl, .inr ⟨by omega, by omega⟩, _, _, rfl, rfl, ?_⟩
  refine ⟨_, rfl, _, rfl, _, _, rfl, rfl, .inl (by decide), _, _, rfl, rfl, _, rfl, _, _, rfl, rfl, _, _, rfl, rfl, (by show (0 : Int) < 2147483647; decide), ?_⟩
  generalize he : (sd * 69069 + 104729 * t * t + 7919 * a + t) % 2147483647 = e
  have e0 : 0 ≤ e := by rw [← he]; exact Int.emod_nonneg _ (by decide)
  have e1 : e < 2147483647 := by rw [← he]; exact Int.emod_lt_of_pos _ (by decide)
  refine ⟨_, rfl, _, rfl, _, _, rfl, rfl, .inl ⟨by omega, by omega⟩, _, _, rfl, rfl, _, _, rfl, rfl, (by show (0 : Int) < 2147483629; decide), ?_⟩
  generalize (e * e + 40503) % 2147483629 = e2
  refine ⟨_, rfl, _, _, rfl, rfl, .inr (by decide), _, _, rfl, rfl, (by show (0 : Int) < 2147483587; decide), ?_⟩
  exact q _ (Int.emod_nonneg _ (by decide)) (Int.emod_lt_of_pos _ (by decide))
def purseV (a b c d : Int) : List V := [.int a, .int b, .int c, .int d]
/-- a purse of which at most n draws were made -/
def Purse (H : Hp) (n : Int) (p : Addr) : Prop := ∃ a b c d : Int, H p = some (.lst (purseV a b c d)) ∧ 0 ≤ a ∧ 0 ≤ b ∧ b < 2147483629 ∧ 0 ≤ c ∧ c ≤ n ∧ 0 ≤ d ∧ d ≤ 1000
def spPurse (K : PySem.W.Frag) : Sp := fun vs H Q _ => ∃ (a : Addr) (ns : List Int) (i : Int), vs = [.ref a, .int i] ∧ SqL K H a (ns.map V.int) ∧ 0 ≤ i ∧ i ≤ 1000 ∧
  ∀ p H', Ex H H' → H p = none → Purse H' 0 p → Q (.ref p) H'
theorem sc_purse : FnScope ["script", "at", "seed"] ["script", "at"] (defScope s_purse) := ⟨rfl, rfl, rfl, by decide +kernel, rfl, by decide +kernel, by decide +kernel⟩
theorem ok_purse (F : Fun K "_law_purse" "_law_purse" s_purse f fd) (M : Bl mg) : FnOk P w K mg base CX0 1 f fd ["script", "at"] (spPurse K) := by
  refine F.ok sc_purse (by rintro vs H Q E ⟨s, t, i, rfl, _⟩; rfl) (fun cdv A outer s H vs Q E hr h => ?_)
  obtain ⟨a, ns, i, rfl, hS, h1, h2, q⟩ := h
  refine ⟨_, pss_cons (ps_set (i := 2) sc_purse.nd rfl (Or.inl rfl) (pe_callB (cr_sum rfl) (by rfl) M.sum PyProof.Rows.boot_sum (pa_cons (pe_slice sl_list (pv 0) (po_some (pv 1)) (po_some (pe_op op_add (pv 1) pe_int))) pa_nil)))
    (pss_one (ps_ret (pe_lst (pa_cons (pe_op op_mod (pe_callB (call_max2 rfl) (by rfl) M.max PyProof.Rows.boot_max (pa_cons (pe_op op_sub (pv 2) (pe_op op_powW pe_int pe_int)) (pa_cons pe_int pa_nil))) (pe_op op_powW (pe_op op_powW pe_int pe_int) pe_int))
      (pa_cons (pe_op op_mod (pv 2) pe_int) (pa_cons pe_int (pa_cons (pv 1) pa_nil))))))), ?_⟩
  refine ⟨.ref a, rfl, .int i, rfl, i, rfl, .int i, rfl, i, 1, rfl, rfl, i + 1, rfl, a, ns.map V.int, rfl, hS, fun c hc => ?_⟩
  have ec : ∃ ms : List Int, cutV (ns.map V.int) (some i) (some (i + 1)) = ms.map V.int := by
    unfold cutV
    rw [← List.map_drop, ← List.map_take]
    exact ⟨_, rfl⟩
  obtain ⟨ms, ec⟩ := ec
  rw [ec]
  refine ⟨c, ms, rfl, .inl (.inl upd_same), ?_⟩
  refine ⟨_, rfl, _, _, rfl, rfl, big18, _, _, rfl, rfl, _, _, rfl, ?_⟩
  generalize (if (0 : Int) > ms.sum - 10 ^ (18 : Int).toNat then (0 : Int) else ms.sum - 10 ^ (18 : Int).toNat) = mx
  refine ⟨_, _, rfl, rfl, big60, _, _, rfl, rfl, big8, _, _, rfl, rfl, pos8, ?_⟩
  refine ⟨_, rfl, _, _, rfl, rfl, (by show (0 : Int) < 2147483629; decide), _, rfl, (by show 4 ≤ sizeLine; decide), fun p hp => ?_⟩
  have e1 : Ex H (upd H c (.lst (ms.map V.int))) := Evl.Ex.new hc
  exact q p _ (e1.trans (Evl.Ex.new hp)) (Evl.fresh_back e1 hp) ⟨_, _, 0, i, upd_same, Int.emod_nonneg _ (Int.ne_of_gt pos8), Int.emod_nonneg _ (by decide), Int.emod_lt_of_pos _ (by decide), by decide, by decide, h1, h2⟩
def spDraw : Sp := fun vs H Q _ => ∃ (p : Addr) (m n : Int), vs = [.ref p, .int m] ∧ 1 ≤ m ∧ m ≤ 1000 ∧ Purse H n p ∧ n ≤ 9000000 ∧
  ∀ (r : Int) (H' : Hp), 0 ≤ r → r < m → Purse H' (n + 1) p → (∀ q o, q ≠ p → H q = some o → H' q = some o) → Q (.int r) H'
theorem bits28 {m : Int} (h1 : 1 ≤ m) (h2 : m ≤ 1000) : ((Builtin.Int.intBits m : Nat) : Int) / 28 = 0 := by
  have key : ∀ n : Nat, n ≤ 1000 → Builtin.Int.intBits (n : Int) ≤ 10 := by
    intro n hn
    have := (by decide +kernel : ∀ n : Fin 1001, Builtin.Int.intBits ((n.val : Nat) : Int) ≤ 10)
    exact this ⟨n, by omega⟩
  have h := key m.toNat (by omega)
  rw [Int.toNat_of_nonneg (by omega)] at h
  omega

theorem sc_draw : FnScope ["purse", "many", "drawn", "found", "piece"] ["purse", "many"] (defScope s_draw) := ⟨rfl, rfl, rfl, by decide +kernel, rfl, by decide +kernel, by decide +kernel⟩
theorem ok_draw (F : Fun K "_law_draw" "_law_draw" s_draw f fd) (M : Bl mg) (cm : Cl P w K mg base 1 "_law_mixed" spMixed) : FnOk P w K mg base CX0 2 f fd ["purse", "many"] spDraw := by
  refine F.ok sc_draw (by rintro vs H Q E ⟨p, m, n, rfl, _⟩; rfl) (fun cdv A outer s H vs Q E hr h => ?_)
  obtain ⟨p, m, n, rfl, m1, m2, ⟨a, b, c, d, hp, a0, b0, b1, c0, c1, d0, d1⟩, hn, q⟩ := h
  have nd := sc_draw.nd
  refine ⟨_, pss_cons (ps_if (pt_cmpR op_gt (pe_ix ix_list (pv 0) pe_int (fun _ _ => rfl)) pe_int (nomark _))
      (pss_cons (ps_set (i := 2) nd rfl (Or.inl rfl) (pe_op op_mod (pe_ix ix_list (pv 0) pe_int (fun _ _ => rfl)) (pv 1)))
      (pss_cons (ps_asg (pe_op op_fdiv (pe_ix ix_list (pv 0) pe_int (fun _ _ => rfl)) (pv 1)) (pg_sub (pv 0) pe_int set_list))
      (pss_one (ps_ret (pv 2))))) pss_nil)
    (pss_cons (ps_set (i := 3) nd rfl (Or.inl rfl) pe_int)
    (pss_cons (ps_for PassesOwn.never rfl (pi_range1 (by rfl) M.range (pa_cons (pe_op op_add pe_int (pe_op op_fdiv (pe_bits (pv 1)) pe_int)) pa_nil)) (pg_name (i := 4) nd rfl (Or.inl rfl))
      (pss_cons (ps_asg (pe_op op_add (pe_ix ix_list (pv 0) pe_int (fun _ _ => rfl)) pe_int) (pg_sub (pv 0) pe_int set_list))
      (pss_one (ps_set (i := 3) nd rfl (Or.inl rfl) (pe_op op_add (pe_op op_mul (pv 3) pe_int) (pe_cl cm hr (by decide) (by rfl) (pa_cons (pe_ix ix_list (pv 0) pe_int (fun _ _ => rfl)) (pa_cons (pe_ix ix_list (pv 0) pe_int (fun _ _ => rfl)) (pa_cons (pe_ix ix_list (pv 0) pe_int (fun _ _ => rfl)) pa_nil)))))))))
    (pss_one (ps_ret (pe_op op_mod (pv 3) (pv 1)))))), ?_⟩
  have hL : ∀ H', H' p = some (.lst (purseV a b c d)) → SqL K H' p (purseV a b c d) := fun H' h => .inl (.inl h)
  refine ⟨.ref p, rfl, p, _, 0, .int a, rfl, rfl, hL _ hp, atI_nat (j := 0) rfl, a, 0, rfl, rfl, _, rfl, ite2 (fun ha => ?_) (fun ha => ?_)⟩
  · refine ⟨.ref p, rfl, p, _, 0, .int a, rfl, rfl, hL _ hp, atI_nat (j := 0) rfl, .int m, rfl, a, m, rfl, rfl, (by show (0 : Int) < m; omega), ?_⟩
    refine ⟨.ref p, rfl, p, _, 0, .int a, rfl, rfl, hL _ hp, atI_nat (j := 0) rfl, .int m, rfl, a, m, rfl, rfl, ⟨by omega, by omega⟩, .ref p, rfl, p, purseV a b c d, 0, 0, rfl, rfl, hp, rfl, ?_⟩
    refine ⟨_, rfl, ?_⟩
    exact q _ _ (Int.emod_nonneg _ (by omega)) (Int.emod_lt_of_pos _ (by omega)) ⟨a / m, b, c, d, upd_same, Int.ediv_nonneg a0 (by omega), b0, b1, c0, by omega, d0, d1⟩ (fun r o hr h => by rw [upd_ne hr]; exact h)
  · refine ⟨.int m, rfl, m, rfl, _, _, rfl, rfl, ⟨by decide, by decide⟩, 1, _, rfl, rfl, 1 + ((Builtin.Int.intBits m : Nat) : Int) / 28, rfl, ?_, ?_, ?_⟩
    · rw [bits28 m1 m2]; decide
    · rw [bits28 m1 m2]; decide
    · rw [bits28 m1 m2]
      refine for_range (lo := 0) (n := 1) (fun i σ H' => (i = 0 ∧ σ = [some (.ref p), some (.int m), none, some (.int 0), none] ∧ H' = H) ∨ (i = 1 ∧ ∃ (e : Int) (x4 : Option V), σ = [some (.ref p), some (.int m), none, some (.int e), x4] ∧ H' = upd H p (.lst (purseV a b (c + 1) d)))) (.inl ⟨rfl, rfl, rfl⟩) ?_ ?_
      · rintro i σ H' hi (⟨rfl, rfl, rfl⟩ | ⟨rfl, _⟩)
        · refine ⟨.ref p, rfl, p, _, 2, .int c, rfl, rfl, hL _ hp, atI_nat (j := 2) rfl, c, 1, rfl, rfl, .ref p, rfl, p, purseV a b c d, 2, 2, rfl, rfl, hp, rfl, ?_⟩
          have hp2 : (upd H' p (.lst (purseV a b (c + 1) d))) p = some (.lst (purseV a b (c + 1) d)) := upd_same
          refine ⟨.int 0, rfl, 0, 2147483587, rfl, rfl, .inl (by decide), .ref p, rfl, p, _, 1, .int b, rfl, rfl, .inl (.inl hp2), atI_nat (j := 1) rfl, .ref p, rfl, p, _, 2, .int (c + 1), rfl, rfl, .inl (.inl hp2), atI_nat (j := 2) rfl, .ref p, rfl, p, _, 3, .int d, rfl, rfl, .inl (.inl hp2), atI_nat (j := 3) rfl, b, c + 1, d, rfl, b0, by omega, by omega, by omega, d0, d1, fun r r0 r1 => ?_⟩
          exact ⟨_, r, rfl, rfl, .inr ⟨rfl, _, _, rfl, rfl⟩⟩
        · omega
      · rintro σ H' (⟨h, _⟩ | ⟨_, e, x4, rfl, rfl⟩)
        · omega
        · refine ⟨.int e, rfl, .int m, rfl, e, m, rfl, rfl, (by show (0 : Int) < m; omega), ?_⟩
          exact q _ _ (Int.emod_nonneg _ (by omega)) (Int.emod_lt_of_pos _ (by omega)) ⟨a, b, c + 1, d, upd_same, a0, b0, b1, by omega, by omega, d0, d1⟩ (fun r o hr h => by rw [upd_ne hr]; exact h)
end
end FV
namespace FV
open PySem PySem.Spec PyProof.Rows L2 FC FP
open Evl (Ex)
theorem Purse.ex {H H' : Hp} {n : Int} {p : Addr} (h : Purse H n p) (e : Ex H H') : Purse H' n p := by
  obtain ⟨a, b, c, d, hp, r⟩ := h
  exact ⟨a, b, c, d, e _ _ hp, r⟩
theorem Purse.at {H H' : Hp} {n : Int} {p : Addr} (h : Purse H n p) (e : ∀ o, H p = some o → H' p = some o) : Purse H' n p := by
  obtain ⟨a, b, c, d, hp, r⟩ := h
  exact ⟨a, b, c, d, e _ hp, r⟩
theorem Purse.up {H : Hp} {n m : Int} {p : Addr} (h : Purse H n p) (e : n ≤ m) : Purse H m p := by
  obtain ⟨a, b, c, d, hp, r1, r2, r3, r4, r5, r6⟩ := h
  exact ⟨a, b, c, d, hp, r1, r2, r3, r4, Int.le_trans r5 e, r6⟩
section
variable {P : Program} {w : World} {K : PySem.W.Frag} {mg : Str → Option Value} {base : Heap} {f : Addr} {fd : FuncData} {G : List (Option PyData)}
def spPurses (K : PySem.W.Frag) : Sp := fun vs H Q _ => ∃ (a : Addr) (ns : List Int), vs = [.ref a, .int 12] ∧ SqL K H a (ns.map V.int) ∧ ns.length ≤ 63 ∧
  ∀ (p : Addr) (ps : List Addr) (H' : Hp), H' p = some (.lst (ps.map V.ref)) → (∀ q ∈ ps, q ≠ p ∧ Purse H' 0 q) → ps.length ≤ 63 → Q (.ref p) H'
theorem sc_purses : FnScope ["script", "few", "at"] ["script", "few"] (defScope s_purses) := ⟨rfl, rfl, rfl, by decide +kernel, rfl, by decide +kernel, by decide +kernel⟩
theorem ok_purses (F : Fun K "_law_purses" "_law_purses" s_purses f fd) (M : Bl mg) (hmin : mg "min" = none) (cp : Cl P w K mg base 1 "_law_purse" (spPurse K)) : FnOk P w K mg base CX0 2 f fd ["script", "few"] (spPurses K) := by
  refine F.ok sc_purses (by rintro vs H Q E ⟨_, _, rfl, _⟩; rfl) (fun cdv A0 outer s H vs Q E hr h => ?_)
  obtain ⟨a, ns, rfl, hS, hn, q⟩ := h
  have nd := sc_purses.nd
  refine ⟨_, pss_one (ps_ret (pe_lc (own := [("at", 2)]) (g := gName 2) (tt := tYes) (te := tCall (spPurse K) [] E0 (tCons (tVar 0) (tCons (tVar 2) tNil))) rfl nd
    (pi_range1 (by rfl) M.range (pa_cons (pe_callB (call_max2 rfl) (by rfl) M.max PyProof.Rows.boot_max (pa_cons pe_int (pa_cons (pe_callB (call_min2 rfl) (by rfl) hmin PyProof.Rows.boot_min (pa_cons (pv 1) (pa_cons (pe_callB call_lenR (by rfl) M.len PySem.boot_len (pa_cons (pv 0) pa_nil)) pa_nil))) pa_nil))) pa_nil))
    (blkOk_by (N := ["script", "few", "at"]) (sc := defScope s_purses) (by decide +kernel))
    (fun _ _ _ _ _ => pg_name (i := 2) nd rfl (Or.inl rfl)) (fun _ _ _ _ _ => pts_nil)
    (fun _ _ _ _ _ => pe_cl cp hr (by decide) (by rfl) (pa_cons (pv 0) (pa_cons (pv 2) pa_nil))))), ?_⟩
  refine ⟨.int 12, rfl, .ref a, rfl, _, _, rfl, .inl ⟨_, hS, rfl⟩, _, _, rfl, _, _, rfl, ?_⟩
  have hmx : ∀ m : Int, m = (if (if ((ns.map V.int).length : Int) < 12 then ((ns.map V.int).length : Int) else 12) > 1 then (if ((ns.map V.int).length : Int) < 12 then ((ns.map V.int).length : Int) else 12) else 1) → 1 ≤ m ∧ m ≤ 63 := by
    intro m hm
    rw [List.length_map] at hm
    split at hm <;> split at hm <;> omega
  generalize hm : (if (if ((ns.map V.int).length : Int) < 12 then ((ns.map V.int).length : Int) else 12) > 1 then (if ((ns.map V.int).length : Int) < 12 then ((ns.map V.int).length : Int) else 12) else 1) = m
  obtain ⟨m1, m2⟩ := hmx m hm.symm
  refine ⟨m, rfl, by omega, by omega, fun D hD => ?_⟩
  refine lc_it (walk_range (lo := 0) (n := m.toNat)) (te := tCall (spPurse K) [] E0 (tCons (tVar 0) (tCons (tVar 2) tNil))) (fun i H' => Ex H H' ∧ ∃ ps : List Addr, H' D = some (.lst (ps.map V.ref)) ∧ ps.length = i ∧ ∀ q ∈ ps, q ≠ D ∧ Purse H' 0 q) ⟨Evl.Ex.new hD, [], upd_same, rfl, fun _ h => by cases h⟩ (fun _ _ _ _ => trivial) ?_ ?_
  · rintro i x H' H2 hi ⟨e, ps, hd, hlen, hps⟩ ⟨rfl, rfl⟩
    refine ⟨rfl, ?_⟩
    dsimp only [tYes]
    rw [if_pos rfl]
    refine ⟨_, rfl, _, rfl, a, ns, 0 + (i : Int), rfl, ex_l e hS, by omega, by omega, fun p H3 e3 hp pu => ?_⟩
    have hpD : p ≠ D := fresh_ne hp hd
    refine ⟨_, e3 _ _ hd, by rw [List.length_map]; exact small1000 (by omega), Evl.Ex.mut (e.trans e3) hD, ps ++ [p], ?_, by rw [List.length_append, hlen]; rfl, fun q hq => ?_⟩
    · rw [upd_same, List.map_append]
      rfl
    · rcases List.mem_append.mp hq with hq | hq
      · obtain ⟨h1, h2⟩ := hps q hq
        exact ⟨h1, (h2.ex e3).at fun o ho => by rw [upd_ne h1]; exact ho⟩
      · have : q = p := by simpa using hq
        subst this
        exact ⟨hpD, pu.at fun o ho => by rw [upd_ne hpD]; exact ho⟩
  · rintro H' ⟨e, ps, hd, hlen, hps⟩
    exact q D ps H' hd hps (by omega)
end
end FV
namespace FV
open PySem PySem.Spec PyProof.Rows L2 FC FP
open Evl (Ex)
/-- how a def binds its keywords told from behind -/
def rvs {α : Type} : List α → List α
  | [a, b, c, d] => [d, c, b, a]
  | [a, b, c] => [c, b, a]
  | l => l
structure ClW (P : Program) (w : World) (K : PySem.W.Frag) (mg : Str → Option Value) (base : Heap) (k : Nat) (x : Str) (ps : List Str) (sp : Sp) : Prop where
  ex : ∃ (f : Addr) (fd : FuncData), FnOk P w K mg base CX0 k f fd ps sp ∧ mg x = some (.ref f) ∧ PySem.W.keepIn K (.ref f) = true ∧ Binds K fd ps [] ∧ ∀ (s : Shared) (ws : List Value), ws.length = ps.length → BindsTo s fd ⟨[], ps.reverse.zip ws⟩ (ps.zip (rvs ws))
section
variable {P : Program} {w : World} {K : PySem.W.Frag} {mg : Str → Option Value} {base : Heap} {f : Addr} {fd : FuncData} {G G' : List (Option PyData)}
theorem ClW.cl {k : Nat} {x : Str} {ps : List Str} {sp : Sp} (c : ClW P w K mg base k x ps sp) : Cl P w K mg base k x sp := by
  obtain ⟨f, fd, F, m, kp, b, _⟩ := c.ex
  exact ⟨f, fd, ps, F, m, kp, b⟩
theorem vals_rvs4 {zs : List V} {ws : List Value} (hl : zs.length = 4) (r : Vals zs ws) : Vals (rvs zs) (rvs ws) := by
  match zs, hl with
  | [_, _, _, _], _ =>
    cases r with
    | cons r1 r => cases r with
      | cons r2 r => cases r with
        | cons r3 r => cases r with
          | cons r4 r =>
            cases r
            exact .cons r4 (.cons r3 (.cons r2 (.cons r1 .nil)))
theorem vals_rvs3 {zs : List V} {ws : List Value} (hl : zs.length = 3) (r : Vals zs ws) : Vals (rvs zs) (rvs ws) := by
  match zs, hl with
  | [_, _, _], _ =>
    cases r with
    | cons r1 r => cases r with
      | cons r2 r => cases r with
        | cons r3 r =>
          cases r
          exact .cons r3 (.cons r2 (.cons r1 .nil))
theorem de_callW4 {tk : TA} {a b c d o : PyData} {R : List PyData → PyData → Prop} (h : DA K tk G [a, b, c, d]) (hR : R [d, c, b, a] o) : DE K (tCallW (spR K R) 4 rvs tk) G o := fun σ B H x en Q q =>
  h σ B H x en _ fun vs B1 H1 g1 r1 => by
    cases r1 with
    | cons r1 r => cases r with
      | cons r2 r => cases r with
        | cons r3 r => cases r with
          | cons r4 r =>
            cases r
            exact ⟨rfl, B1, [d, c, b, a], o, g1.sub, .cons r4 (.cons r3 (.cons r2 (.cons r1 .nil))), hR, fun v B' H' g2 r2 => q v B' H' (g1.trans g2) r2⟩
theorem de_callW3 {tk : TA} {a b c o : PyData} {R : List PyData → PyData → Prop} (h : DA K tk G [a, b, c]) (hR : R [c, b, a] o) : DE K (tCallW (spR K R) 3 rvs tk) G o := fun σ B H x en Q q =>
  h σ B H x en _ fun vs B1 H1 g1 r1 => by
    cases r1 with
    | cons r1 r => cases r with
      | cons r2 r => cases r with
        | cons r3 r =>
          cases r
          exact ⟨rfl, B1, [c, b, a], o, g1.sub, .cons r3 (.cons r2 (.cons r1 .nil)), hR, fun v B' H' g2 r2 => q v B' H' (g1.trans g2) r2⟩
theorem rd_notBl {a b : Bool} : RD K rNotB (.bool a) (.bool b) (.bool (!decide (a = b))) := fun B H v w x r1 r2 Q q => ⟨a, b, rt_bool r1, rt_bool r2, q _ B H (.refl x) (.d (.bl _))⟩
theorem par_step {i j : Nat} {t1 t2 : TE} {u : TS} {D : Ends} {σ : L2.St} {H : Hp} (h : t1 σ H fun x H1 => t2 σ H1 fun y H2 => ∃ v w, [x, y] = [v, w] ∧ u D ((σ.set i (some v)).set j (some w)) H2) : tSeq (tPar i j (tCons t1 (tCons t2 tNil))) u D σ H := h
theorem ds_use {ts : TS} {σ : L2.St} {B H : Hp} {D : Ends} (h : DS K ts G (.nx G')) (x : Ex B H) (en : En K B σ G) (q : ∀ σ' B' H', Go B H B' H' → En K B' σ' G' → D.nx σ' H') : ts D σ H := h D σ B H x en q
theorem ints_dp {B : Hp} : ∀ (ns : List Int), DpAll K B (ns.map V.int) (ns.map PyData.int)
  | [] => .nil
  | n :: ns => .cons (.int n) (ints_dp ns)
/-- the purses, of which at most n draws were made from each -/
def Pu (p : Addr) (ps : List Addr) (n : Int) (H : Hp) : Prop := H p = some (.lst (ps.map V.ref)) ∧ ∀ q ∈ ps, q ≠ p ∧ Purse H n q
theorem Pu.ex {p : Addr} {ps : List Addr} {n : Int} {H H' : Hp} (h : Pu p ps n H) (e : Ex H H') : Pu p ps n H' := ⟨e _ _ h.1, fun q hq => ⟨(h.2 q hq).1, (h.2 q hq).2.ex e⟩⟩
theorem Pu.upd {p a : Addr} {ps : List Addr} {n : Int} {H : Hp} {o : HO} (h : Pu p ps n H) (hn : ∀ xs, H a ≠ some (.lst xs)) : Pu p ps n (upd H a o) := by
  refine ⟨by rw [upd_ne (fun z => hn _ (z ▸ h.1))]; exact h.1, fun q hq => ⟨(h.2 q hq).1, ?_⟩⟩
  obtain ⟨_, hq2⟩ := h.2 q hq
  obtain ⟨x, y, c, d, hl, _⟩ := id hq2
  exact hq2.at fun o ho => by rw [upd_ne (fun z => hn _ (z ▸ hl))]; exact ho
theorem Pu.draw {p q : Addr} {ps : List Addr} {n : Int} {H H' : Hp} (h : Pu p ps n H) (hq : q ∈ ps) (pu : Purse H' (n + 1) q) (fr : ∀ a o, a ≠ q → H a = some o → H' a = some o) : Pu p ps (n + 1) H' := by
  refine ⟨fr _ _ (h.2 q hq).1.symm h.1, fun q' hq' => ⟨(h.2 q' hq').1, ?_⟩⟩
  by_cases e : q' = q
  · subst e
    exact pu
  · exact ((h.2 q' hq').2.at fun o ho => fr _ _ e ho).up (by omega)
theorem purse_ne {H : Hp} {n : Int} {q a : Addr} {o : HO} (h : Purse H n q) (ha : H a = some o) (hn : ∀ x y c d : Int, o ≠ .lst (purseV x y c d)) : a ≠ q := fun z => by
  obtain ⟨x, y, c, d, hl, _⟩ := h
  rw [← z, ha] at hl
  exact hn _ _ _ _ (Option.some.inj hl)
theorem merge2 {x y : V} : mergeK ([] : List (Key × V)) [(kR, x), (kC, y)] = [(kR, x), (kC, y)] := by
  show putK (putK [] kR x) kC y = _
  rw [put1, put2]
def spLaw (K : PySem.W.Frag) : Sp := fun vs H Q _ => ∃ (a : Addr) (ns : List Int), vs = [.ref a] ∧ SqL K H a (ns.map V.int) ∧ ns.length ≤ 63 ∧ ∀ H', Q (.bl true) H'
theorem sc_law : FnScope ["script", "purse", "some", "line", "many"] ["script"] (defScope s_law) := ⟨rfl, rfl, rfl, by decide +kernel, rfl, by decide +kernel, by decide +kernel⟩
theorem ok_law (F : Fun K "law" "law" s_law f fd) (M : Bl mg) (cps : Cl P w K mg base 2 "_law_purses" (spPurses K)) (cd : Cl P w K mg base 2 "_law_draw" spDraw)
    (c1 : ClW P w K mg base 6 "is_value" ["kinds", "kind", "value"] (spR K Rw_is_value)) (c2 : ClW P w K mg base 7 "size_of" ["kinds", "kind", "value"] (spR K Rw_size_of)) (c3 : ClW P w K mg base 7 "count_values" ["kinds", "kind", "size"] (spR K Rw_count_values))
    (c4 : ClW P w K mg base 7 "nth_value" ["kinds", "kind", "size", "number"] (spR K Rw_nth_value)) (c5 : ClW P w K mg base 7 "place" ["kinds", "kind", "value"] (spR K Rw_place)) :
    FnOk P w K mg base CX0 12 f fd ["script"] (spLaw K) := by
  refine F.ok sc_law (by rintro vs H Q E ⟨a, ns, rfl, _⟩; rfl) (fun cdv A0 outer s H vs Q E hr h => ?_)
  obtain ⟨a, ns, rfl, hS, hlen, q⟩ := h
  have nd := sc_law.nd
  have hu64 : (A0.deeper (envOfC "law" (defScope s_law) s.heap.objs.size f cdv)).units + 64 < cLine := by have := hr.un; omega
  obtain ⟨f1, fd1, F1, m1, k1, b1, w1⟩ := c1.ex
  obtain ⟨f2, fd2, F2, m2, k2, b2, w2⟩ := c2.ex
  obtain ⟨f3, fd3, F3, m3, k3, b3, w3⟩ := c3.ex
  obtain ⟨f4, fd4, F4, m4, k4, b4, w4⟩ := c4.ex
  obtain ⟨f5, fd5, F5, m5, k5, b5, w5⟩ := c5.ex
  refine ⟨_, pss_cons (ps_for PassesOwn.never rfl (pi_list (pe_cl cps hr (by decide) (by rfl) (pa_cons (pv 0) (pa_cons pe_int pa_nil)))) (pg_name (i := 1) nd rfl (Or.inl rfl))
      (pss_cons (ps_set (i := 2) nd rfl (Or.inl rfl) (pe_disp (pps_cons pe_str (pe_tup (pa_cons pe_str (pa_cons pe_str pa_nil))) (pps_cons pe_str (pe_tup (pa_cons pe_str (pa_cons pe_int (pa_cons (pe_op op_add pe_int (pe_cl cd hr (by decide) (by rfl) (pa_cons (pv 1) (pa_cons pe_int pa_nil)))) pa_nil)))) pps_nil)) rfl rfl (by simp) (by show 2 ≤ 15; decide)))
      (pss_cons (ps_par (i := 3) (j := 4) rfl nd rfl rfl (by decide) rfl rfl (pa_cons (pe_lst (pa_cons (pe_cl cd hr (by decide) (by rfl) (pa_cons (pv 1) (pa_cons pe_int pa_nil))) (pa_cons (pe_cl cd hr (by decide) (by rfl) (pa_cons (pv 1) (pa_cons pe_int pa_nil))) pa_nil))) (pa_cons (pe_cl cd hr (by decide) (by rfl) (pa_cons (pv 1) (pa_cons pe_int pa_nil))) pa_nil)) rfl)
      (pss_cons (ps_if (pw_or (pt_cmpR op_notBl (pe_clW (ks := ["value", "kind", "kinds"]) F1 hr (by decide) (by rfl) m1 k1 rvs w1 vals_rvs3 (pk_cons (pv 3) (pk_cons pe_str (pk_cons (pv 2) pk_nil)))) pe_bl (nomark _)) (pw_or1 (pt_cmpR (op_neD hu64) (pe_clW (ks := ["value", "kind", "kinds"]) F2 hr (by decide) (by rfl) m2 k2 rvs w2 vals_rvs3 (pk_cons (pv 3) (pk_cons pe_str (pk_cons (pv 2) pk_nil)))) pe_int (nomark _)))).pt (pss_one (ps_ret pe_bl)) pss_nil)
      (pss_cons (ps_if (pt_cmpR (op_neD hu64) (pe_clW (ks := ["size", "kind", "kinds"]) F3 hr (by decide) (by rfl) m3 k3 rvs w3 vals_rvs3 (pk_cons pe_int (pk_cons pe_str (pk_cons (pv 2) pk_nil)))) (pe_cl c3.cl hr (by decide) (by rfl) (pa_cons (pv 2) (pa_cons pe_str (pa_cons pe_int pa_nil)))) (nomark _)) (pss_one (ps_ret pe_bl)) pss_nil)
      (pss_cons (ps_if (pt_cmpR (op_neD hu64) (pe_clW (ks := ["number", "size", "kind", "kinds"]) F4 hr (by decide) (by rfl) m4 k4 rvs w4 vals_rvs4 (pk_cons (pv 4) (pk_cons pe_int (pk_cons pe_str (pk_cons (pv 2) pk_nil))))) (pe_cl c4.cl hr (by decide) (by rfl) (pa_cons (pv 2) (pa_cons pe_str (pa_cons pe_int (pa_cons (pv 4) pa_nil))))) (nomark _)) (pss_one (ps_ret pe_bl)) pss_nil)
      (pss_one (ps_if (pt_cmpR (op_neD hu64) (pe_clW (ks := ["value", "kind", "kinds"]) F5 hr (by decide) (by rfl) m5 k5 rvs w5 vals_rvs3 (pk_cons (pv 3) (pk_cons pe_str (pk_cons (pv 2) pk_nil)))) (pe_cl c5.cl hr (by decide) (by rfl) (pa_cons (pv 2) (pa_cons pe_str (pa_cons (pv 3) pa_nil)))) (nomark _)) (pss_one (ps_ret pe_bl)) pss_nil))))))))
    (pss_one (ps_ret pe_bl)), ?_⟩
  refine ⟨.ref a, rfl, a, ns, rfl, hS, hlen, fun p ps H0 hp hps hl => ?_⟩
  refine ⟨p, rfl, ⟨_, .inl (.inl hp)⟩, ?_⟩
  refine for_it (walk_list (K := K) (a := p) (xs := ps.map V.ref)) (fun i σ H' => σ.length = 5 ∧ Pu p ps (4 * (i : Int)) H') ⟨rfl, hp, fun q hq => ⟨(hps q hq).1, (hps q hq).2.up (by decide)⟩⟩ (fun i σ H' _ h => .inl (.inl h.2.1)) ?_ ?_
  · rintro i x σ H1 H1' hi ⟨len, hpu⟩ ⟨rfl, hx⟩
    have hil : i < 63 := by
      have : i < (ps.map V.ref).length := hi
      rw [List.length_map] at this
      omega
    rw [List.getElem?_map] at hx
    obtain ⟨q0, hq0, rfl⟩ := Option.map_eq_some_iff.mp hx
    have hmem : q0 ∈ ps := List.mem_of_getElem? hq0
    match σ, len with
    | [x0, x1, x2, x3, x4], _ =>
    intro pd hpd
    have pu1 : Pu p ps (4 * (i : Int)) (upd H1' pd (.dK [])) := hpu.ex (Evl.Ex.new hpd)
    have hd1 : (upd H1' pd (.dK [])) pd = some (.dK []) := upd_same
    generalize upd H1' pd (.dK []) = Ha at pu1 hd1
    refine ⟨by show 2 ≤ sizeLine; decide, fun t1 ht1 => ?_⟩
    have eb : Ex Ha (upd Ha t1 (.tup [.str "rows", .str "cell"])) := Evl.Ex.new ht1
    have hb1 : (upd Ha t1 (.tup [.str "rows", .str "cell"])) t1 = some (.tup [.str "rows", .str "cell"]) := upd_same
    generalize upd Ha t1 (.tup [.str "rows", .str "cell"]) = Hb at eb hb1
    have pu2 := pu1.ex eb
    have hd2 := eb _ _ hd1
    refine ⟨_, rfl, q0, 9, _, rfl, by decide, by decide, (pu2.2 q0 hmem).2, by omega, fun r Hc r0 r1 pu fr => ?_⟩
    have pu3 := pu2.draw hmem pu fr
    have hd3 := fr _ _ (purse_ne (pu2.2 q0 hmem).2 hd2 (fun _ _ _ _ z => nomatch z)) hd2
    have hb3 := fr _ _ (purse_ne (pu2.2 q0 hmem).2 hb1 (fun _ _ _ _ z => nomatch z)) hb1
    refine ⟨2, r, rfl, rfl, by show 3 ≤ sizeLine; decide, fun t2 ht2 => ?_⟩
    have e4 : Ex Hc (upd Hc t2 (.tup [.str "numbers", .int 0, .int (2 + r)])) := Evl.Ex.new ht2
    refine ⟨e4 _ _ hd3, [(kR, .ref t1), (kC, .ref t2)], rfl, by show 2 ≤ 15; decide, ?_⟩
    rw [merge2]
    have hc4 : (upd Hc t2 (.tup [.str "numbers", .int 0, .int (2 + r)])) t2 = some (.tup [.str "numbers", .int 0, .int (2 + r)]) := upd_same
    have pu4 := pu3.ex e4
    have hd4 := e4 _ _ hd3
    have hb4 := e4 _ _ hb3
    generalize upd Hc t2 (.tup [.str "numbers", .int 0, .int (2 + r)]) = Hd at pu4 hd4 hb4 hc4
    have tne : ∀ {t : Addr} {vs : List V}, Hd t = some (.tup vs) → t ≠ pd := fun h z => by
      rw [z, hd4] at h
      cases h
    have pu5 : Pu p ps (4 * (i : Int) + 1) (upd Hd pd (.dK [(kR, .ref t1), (kC, .ref t2)])) := pu4.upd fun xs z => by
      rw [hd4] at z
      cases z
    have hd5 : (upd Hd pd (.dK [(kR, .ref t1), (kC, .ref t2)])) pd = some (.dK [(kR, .ref t1), (kC, .ref t2)]) := upd_same
    have hb5 : (upd Hd pd (.dK [(kR, .ref t1), (kC, .ref t2)])) t1 = some (.tup [.str "rows", .str "cell"]) := by rw [upd_ne (tne hb4)]; exact hb4
    have hc5 : (upd Hd pd (.dK [(kR, .ref t1), (kC, .ref t2)])) t2 = some (.tup [.str "numbers", .int 0, .int (2 + r)]) := by rw [upd_ne (tne hc4)]; exact hc4
    generalize upd Hd pd (.dK [(kR, .ref t1), (kC, .ref t2)]) = He at pu5 hd5 hb5 hc5
    clear hd4 hb4 hc4 tne
    dsimp only [gName]
    refine par_step ?_
    refine ⟨_, rfl, q0, 3, _, rfl, by decide, by decide, (pu5.2 q0 hmem).2, by omega, fun a1 Hf a10 a11 puf frf => ?_⟩
    have nef : ∀ {t : Addr} {o : HO}, He t = some o → (∀ vs, o ≠ .lst vs) → Hf t = some o := fun h hn => frf _ _ (purse_ne (pu5.2 q0 hmem).2 h (fun _ _ _ _ => hn _)) h
    have pu6 := pu5.draw hmem puf frf
    have hd6 := nef hd5 (fun _ z => nomatch z)
    have hb6 := nef hb5 (fun _ z => nomatch z)
    have hc6 := nef hc5 (fun _ z => nomatch z)
    refine ⟨_, rfl, q0, 3, _, rfl, by decide, by decide, (pu6.2 q0 hmem).2, by omega, fun a2 Hg a20 a21 pug frg => ?_⟩
    have neg : ∀ {t : Addr} {o : HO}, Hf t = some o → (∀ vs, o ≠ .lst vs) → Hg t = some o := fun h hn => frg _ _ (purse_ne (pu6.2 q0 hmem).2 h (fun _ _ _ _ => hn _)) h
    have pu7 := pu6.draw hmem pug frg
    have hd7 := neg hd6 (fun _ z => nomatch z)
    have hb7 := neg hb6 (fun _ z => nomatch z)
    have hc7 := neg hc6 (fun _ z => nomatch z)
    refine ⟨by show 2 ≤ sizeLine; decide, fun l hl => ?_⟩
    have e8 : Ex Hg (upd Hg l (.lst [.int a1, .int a2])) := Evl.Ex.new hl
    have hl8 : (upd Hg l (.lst [.int a1, .int a2])) l = some (.lst [.int a1, .int a2]) := upd_same
    generalize upd Hg l (.lst [.int a1, .int a2]) = Hh at e8 hl8
    have pu8 := pu7.ex e8
    refine ⟨_, rfl, q0, 9, _, rfl, by decide, by decide, (pu8.2 q0 hmem).2, by omega, fun a3 Hi a30 a31 pui fri => ?_⟩
    have pu9 := pu8.draw hmem pui fri
    have nei : ∀ {t : Addr} {o : HO}, Hh t = some o → (∀ x y c d : Int, o ≠ .lst (purseV x y c d)) → Hi t = some o := fun h hn => fri _ _ (purse_ne (pu8.2 q0 hmem).2 h hn) h
    have hd9 := nei (e8 _ _ hd7) (fun _ _ _ _ z => nomatch z)
    have hb9 := nei (e8 _ _ hb7) (fun _ _ _ _ z => nomatch z)
    have hc9 := nei (e8 _ _ hc7) (fun _ _ _ _ z => nomatch z)
    have hl9 := nei hl8 (fun _ _ _ _ z => by unfold purseV at z; simp at z)
    refine ⟨_, _, rfl, ?_⟩
    have h02 : 0 ≤ 2 + r := by omega
    have h1k : 2 + r ≤ 1000 := by omega
    have sq : ∀ x y : Int, SeqAt.shaped (.list [.int x, .int y]) = true := fun x y => rfl
    have eq2 : ∀ x y : Int, PyData.eqv (.list [.int x, .int y]) (.list [.int x, .int y]) = true := fun x y => by simp [PyData.eqv, PyData.eqvAll]
    have eq1 : ∀ x : Int, PyData.eqv (.int x) (.int x) = true := fun x => by simp [PyData.eqv]
    have hpow : a3 < (2 + r + 1) ^ 2 := by
      have h9 : (9 : Int) ≤ (2 + r + 1) ^ 2 := by
        rw [Int.pow_succ, Int.pow_one]
        have : (3 : Int) * 3 ≤ (2 + r + 1) * (2 + r + 1) := Int.mul_le_mul (by omega) (by omega) (by decide) (by omega)
        omega
      omega
    have hlook : (look (rowK (2 + r)) "row").isSome = true := by rw [look_row]; rfl
    have hval : Rw_is_value [dictU (rowK (2 + r)), .str "row", .list [.int a1, .int a2]] (.bool true) := ⟨_, _, _, rfl, rowK_ok h02, hlook, rfl, value_row a10 (by omega) a20 (by omega), rfl⟩
    have hsz : Rw_size_of [dictU (rowK (2 + r)), .str "row", listX [.int a1, .int a2]] (.int 3) := ⟨_, _, a1, a2, rfl, rowK_ok h02, hlook, value_row a10 (by omega) a20 (by omega), rfl⟩
    have hcv : Rw_count_values [dictU (rowK (2 + r)), .str "row", .int 3] (.int (vR (2 + r + 1) 3)) := ⟨2 + r, h02, h1k, rfl, rfl⟩
    have hnv : Rw_nth_value [dictU (rowK (2 + r)), .str "row", .int 3, .int a3] (.list [.int (a3 / (2 + r + 1)), .int (a3 % (2 + r + 1))]) := ⟨2 + r, a3, h02, h1k, a30, hpow, rfl, rfl⟩
    have hpl : Rw_place [dictU (rowK (2 + r)), .str "row", listX [.int a1, .int a2]] (.int (0 + plc (2 + r + 1) a1 a2 2)) := ⟨2 + r, a1, a2, h02, h1k, a10, by omega, a20, by omega, rfl, rfl⟩
    have en : En K Hi [x0, some (.ref q0), some (.ref pd), some (.ref l), some (.int a3)] [none, none, some (dictU (rowK (2 + r))), some (listX [.int a1, .int a2]), some (.int a3)] := by
      refine ⟨rfl, fun j d hj => ?_⟩
      match j with
      | 0 => cases hj
      | 1 => cases hj
      | 2 =>
        cases hj
        refine ⟨_, rfl, .dictU hd9 (.cons ⟨rfl, .tup (.inl (.inl hb9)) (.cons (.str _) (.cons (.str _) .nil))⟩ (.cons ⟨rfl, .tup (.inl (.inl hc9)) (.cons (.str _) (.cons (.int _) (.cons (.int _) .nil)))⟩ .nil)) (rowK_ok h02).nd⟩
      | 3 =>
        cases hj
        exact ⟨_, rfl, .lstX hl9 (.cons (.int _) (.cons (.int _) .nil))⟩
      | 4 =>
        cases hj
        exact ⟨_, rfl, .d (.int _)⟩
      | j + 5 => simp at hj
    refine ds_use (K := K) (G' := [none, none, some (dictU (rowK (2 + r))), some (listX [.int a1, .int a2]), some (.int a3)]) ?_ (Evl.Ex.refl Hi) en fun σ5 B5 H5 g5 en5 => ⟨en5.len, ?_⟩
    · refine ds_seq (ds_if (b := false) (dt_is (dt_or (b := false) (dt_is (dt_test (de_op (de_callW3 (da_cons (de_ofX (de_var rfl)) (da_cons de_str (da_cons (de_var rfl) da_nil))) hval) de_bl rd_notBl)) rfl) fun _ => dt_test (de_op (de_callW3 (da_cons (de_var rfl) (da_cons de_str (da_cons (de_var rfl) da_nil))) hsz) de_int (rd_ne rfl rfl rfl rfl))) (by rw [eq1]; rfl)) (fun z => nomatch z) fun _ => ds_next) ?_
      refine ds_seq (ds_if (b := false) (dt_is (dt_test (de_op (de_callW3 (da_cons de_int (da_cons de_str (da_cons (de_var rfl) da_nil))) hcv) (de_call' (da_cons (de_var rfl) (da_cons de_str (da_cons de_int da_nil))) hcv) (rd_ne rfl rfl rfl rfl))) (by rw [eq1]; rfl)) (fun z => nomatch z) fun _ => ds_next) ?_
      refine ds_seq (ds_if (b := false) (dt_is (dt_test (de_op (de_callW4 (da_cons (de_var rfl) (da_cons de_int (da_cons de_str (da_cons (de_var rfl) da_nil)))) hnv) (de_call' (da_cons (de_var rfl) (da_cons de_str (da_cons de_int (da_cons (de_var rfl) da_nil)))) hnv) (rd_ne (sq _ _) (sq _ _) rfl rfl))) (by rw [eq2]; rfl)) (fun z => nomatch z) fun _ => ds_next) ?_
      exact ds_if (b := false) (dt_is (dt_test (de_op (de_callW3 (da_cons (de_var rfl) (da_cons de_str (da_cons (de_var rfl) da_nil))) hpl) (de_call' (da_cons (de_var rfl) (da_cons de_str (da_cons (de_var rfl) da_nil))) hpl) (rd_ne rfl rfl rfl rfl))) (by rw [eq1]; rfl)) (fun z => nomatch z) fun _ => ds_next
    · have e4 : 4 * (i : Int) + 1 + 1 + 1 + 1 = 4 * ((i + 1 : Nat) : Int) := by omega
      rw [← e4]
      exact pu9.ex g5.eh
  · rintro σ H' _
    exact q H'
end
end FV
namespace FV
open PySem PySem.Spec PyProof.Rows L2 FC FP
open Evl (Ex)
/-! ### the end -/
/-- where a def stands, as the top has left it -/
structure At (K : PySem.W.Frag) (x : Str) (st : Stmt) (f : Addr) : Prop where
  ex : ∃ (oc : Value) (od an : Option Addr) (sl : Array (Option Value)) (kV dc pm cd ct : Value), PySem.W.nsIn K mainGlobals x = some (some (.ref f)) ∧ K.lookup f = some ⟨oc, od, .func (PySem.W.fnOf x x (defArgs st) (defBody st) (defScope st) .none kV dc pm an cd ct), sl⟩ ∧ PySem.W.codeIn K cd x = true ∧ PySem.W.keepIn K (.ref f) = true
theorem At.mk' {K : PySem.W.Frag} {x : Str} {st : Stmt} {f : Addr} {oc : Value} {od an : Option Addr} {sl : Array (Option Value)} {kV dc pm cd ct : Value} (a : PySem.W.nsIn K mainGlobals x = some (some (.ref f))) (l : K.lookup f = some ⟨oc, od, .func (PySem.W.fnOf x x (defArgs st) (defBody st) (defScope st) .none kV dc pm an cd ct), sl⟩) (c : PySem.W.codeIn K cd x = true) (k : PySem.W.keepIn K (.ref f) = true) : At K x st f :=
  ⟨oc, od, an, sl, kV, dc, pm, cd, ct, a, l, c, k⟩
theorem At.fun {K : PySem.W.Frag} {x : Str} {st : Stmt} {f : Addr} (a : At K x st f) : ∃ fd, Fun K x x st f fd := by
  obtain ⟨oc, od, an, sl, kV, dc, pm, cd, ct, _, l, c, k⟩ := a.ex
  exact ⟨_, fun_mk l c k⟩
theorem At.mg {K : PySem.W.Frag} {x : Str} {st : Stmt} {f : Addr} (a : At K x st f) {h : Heap} {mg : Str → Option Value} (X : K.In h) (G : h.Ns mainGlobals mg) : mg x = some (.ref f) := by
  obtain ⟨oc, od, an, sl, kV, dc, pm, cd, ct, e, _⟩ := a.ex
  exact PySem.W.mg_of X G e
/-- where a method stands -/
structure AtM (K : PySem.W.Frag) (C : Addr) (m q : Str) (st : Stmt) (f : Addr) : Prop where
  ex : ∃ (oc : Value) (od an : Option Addr) (sl : Array (Option Value)) (kV dc pm cd ct : Value), PySem.W.findIn K (.ref C) m = some (some (.ref f)) ∧ PySem.W.isFn K (.ref f) = true ∧ K.lookup f = some ⟨oc, od, .func (PySem.W.fnOf m q (defArgs st) (defBody st) (defScope st) .none kV dc pm an cd ct), sl⟩ ∧ PySem.W.codeIn K cd q = true ∧ PySem.W.keepIn K (.ref f) = true
theorem AtM.mk' {K : PySem.W.Frag} {C : Addr} {m q : Str} {st : Stmt} {f : Addr} {oc : Value} {od an : Option Addr} {sl : Array (Option Value)} {kV dc pm cd ct : Value} (a : PySem.W.findIn K (.ref C) m = some (some (.ref f))) (i : PySem.W.isFn K (.ref f) = true) (l : K.lookup f = some ⟨oc, od, .func (PySem.W.fnOf m q (defArgs st) (defBody st) (defScope st) .none kV dc pm an cd ct), sl⟩) (c : PySem.W.codeIn K cd q = true) (k : PySem.W.keepIn K (.ref f) = true) : AtM K C m q st f :=
  ⟨oc, od, an, sl, kV, dc, pm, cd, ct, a, i, l, c, k⟩
theorem AtM.fun {K : PySem.W.Frag} {C : Addr} {m q : Str} {st : Stmt} {f : Addr} (a : AtM K C m q st f) : ∃ fd, Fun K m q st f fd := by
  obtain ⟨oc, od, an, sl, kV, dc, pm, cd, ct, _, _, l, c, k⟩ := a.ex
  exact ⟨_, fun_mk l c k⟩
theorem AtM.meth {K : PySem.W.Frag} {C : Addr} {m q : Str} {st : Stmt} {f : Addr} (a : AtM K C m q st f) : Meth K C m f := by
  obtain ⟨oc, od, an, sl, kV, dc, pm, cd, ct, a, i, l, c, k⟩ := a.ex
  exact ⟨a, i, k⟩
structure Top (K : PySem.W.Frag) (CC CS : Addr) : Prop where
  gC : PySem.W.nsIn K mainGlobals "Chain" = some (some (.ref CC))
  pgC : PySem.W.plainGet K CC Str.empty = true
  hdC : PySem.W.hasDictIn K CC = true
  poC : PySem.W.plainOver K CC = true
  saC : PySem.W.findIn K (.ref CC) "__setattr__" = some (some (.builtin "object.__setattr__"))
  mkC : PySem.W.makesIn K CC = true
  kcC : PySem.W.keepIn K (.ref CC) = true
  nC_part : PySem.W.findIn K (.ref CC) "part" = some none
  nC_behind : PySem.W.findIn K (.ref CC) "behind" = some none
  nC_can_end : PySem.W.findIn K (.ref CC) "can_end" = some none
  nC_ways : PySem.W.findIn K (.ref CC) "ways" = some none
  gS : PySem.W.nsIn K mainGlobals "Sizes" = some (some (.ref CS))
  pgS : PySem.W.plainGet K CS Str.empty = true
  hdS : PySem.W.hasDictIn K CS = true
  poS : PySem.W.plainOver K CS = true
  saS : PySem.W.findIn K (.ref CS) "__setattr__" = some (some (.builtin "object.__setattr__"))
  mkS : PySem.W.makesIn K CS = true
  kcS : PySem.W.keepIn K (.ref CS) = true
  nS_kinds : PySem.W.findIn K (.ref CS) "kinds" = some none
  nS_counts : PySem.W.findIn K (.ref CS) "counts" = some none
  nS_chains : PySem.W.findIn K (.ref CS) "chains" = some none
  mC__init__ : ∃ f, AtM K CC "__init__" "Chain.__init__" s_chain_init f
  mS__init__ : ∃ f, AtM K CS "__init__" "Sizes.__init__" s_sizes_init f
  mSadd_size : ∃ f, AtM K CS "add_size" "Sizes.add_size" s_add_size f
  mScount_of : ∃ f, AtM K CS "count_of" "Sizes.count_of" s_count_of f
  mSadd_ways : ∃ f, AtM K CS "add_ways" "Sizes.add_ways" s_add_ways f
  mScount_ways : ∃ f, AtM K CS "count_ways" "Sizes.count_ways" s_count_ways f
  mSvalue_at : ∃ f, AtM K CS "value_at" "Sizes.value_at" s_value_at f
  mSchain_at : ∃ f, AtM K CS "chain_at" "Sizes.chain_at" s_chain_at f
  mSparts_at : ∃ f, AtM K CS "parts_at" "Sizes.parts_at" s_parts_at f
  mSplace_of : ∃ f, AtM K CS "place_of" "Sizes.place_of" s_place_of f
  mSplace_of_parts : ∃ f, AtM K CS "place_of_parts" "Sizes.place_of_parts" s_place_of_parts f
  ais_whole : ∃ f, At K "is_whole" s_is_whole f
  ais_name : ∃ f, At K "is_name" s_is_name f
  ais_sound : ∃ f, At K "is_sound" s_is_sound f
  ais_kind : ∃ f, At K "is_kind" s_is_kind f
  ais_kinds : ∃ f, At K "is_kinds" s_is_kinds f
  ais_form : ∃ f, At K "is_form" s_is_form f
  ais_bounds : ∃ f, At K "is_bounds" s_is_bounds f
  aall_have_values : ∃ f, At K "all_have_values" s_all_have_values f
  acan_be_built : ∃ f, At K "can_be_built" s_can_be_built f
  avalues_within : ∃ f, At K "values_within" s_values_within f
  acheck_kind : ∃ f, At K "check_kind" s_check_kind f
  acheck_value : ∃ f, At K "check_value" s_check_value f
  ais_count : ∃ f, At K "is_count" s_is_count f
  asize_of_tree : ∃ f, At K "size_of_tree" s_size_of_tree f
  acheck_size : ∃ f, At K "check_size" s_check_size f
  acheck_number : ∃ f, At K "check_number" s_check_number f
  achain_of_cells : ∃ f, At K "chain_of_cells" s_chain_of_cells f
  aopening_chains : ∃ f, At K "opening_chains" s_opening_chains f
  ais_value : ∃ f, At K "is_value" s_is_value f
  asize_of : ∃ f, At K "size_of" s_size_of f
  acount_values : ∃ f, At K "count_values" s_count_values f
  anth_value : ∃ f, At K "nth_value" s_nth_value f
  aplace : ∃ f, At K "place" s_place f
  a_law_purse : ∃ f, At K "_law_purse" s_purse f
  a_law_mixed : ∃ f, At K "_law_mixed" s_mixed f
  a_law_draw : ∃ f, At K "_law_draw" s_draw f
  a_law_purses : ∃ f, At K "_law_purses" s_purses f
  alaw : ∃ f, At K "law" s_law f
  z_isinstance : PySem.W.nsIn K mainGlobals "isinstance" = some none
  z_len : PySem.W.nsIn K mainGlobals "len" = some none
  z_all : PySem.W.nsIn K mainGlobals "all" = some none
  z_int : PySem.W.nsIn K mainGlobals "int" = some none
  z_bool : PySem.W.nsIn K mainGlobals "bool" = some none
  z_str : PySem.W.nsIn K mainGlobals "str" = some none
  z_tuple : PySem.W.nsIn K mainGlobals "tuple" = some none
  z_list : PySem.W.nsIn K mainGlobals "list" = some none
  z_dict : PySem.W.nsIn K mainGlobals "dict" = some none
  z_enumerate : PySem.W.nsIn K mainGlobals "enumerate" = some none
  z_range : PySem.W.nsIn K mainGlobals "range" = some none
  z_max : PySem.W.nsIn K mainGlobals "max" = some none
  z_sum : PySem.W.nsIn K mainGlobals "sum" = some none
  z_min : PySem.W.nsIn K mainGlobals "min" = some none
  z_divmod : PySem.W.nsIn K mainGlobals "divmod" = some none
section
variable {P : Program} {w : World} {K : PySem.W.Frag} {mg : Str → Option Value} {base : Heap}
theorem cl1 {x : Str} {st : Stmt} {f : Addr} {fd : FuncData} {ps : List Str} {k : Nat} {sp : Sp} (F : Fun K x x st f fd) (G : FnOk P w K mg base CX0 k f fd ps sp) (hm : mg x = some (.ref f)) (hb : ∀ (kV doc pm : Value) (an : Option Addr) (cdv ct : Value) (us : List Value), us.length = ps.length → bindArgs (PySem.W.fnOf x x (defArgs st) (defBody st) (defScope st) .none kV doc pm an cdv ct) ⟨us, []⟩ = pure (ps.zip us)) : Cl P w K mg base k x sp := ⟨f, fd, ps, G, hm, F.kp, F.binds hb⟩
theorem clW {x : Str} {st : Stmt} {f : Addr} {fd : FuncData} {ps : List Str} {k : Nat} {sp : Sp} (F : Fun K x x st f fd) (G : FnOk P w K mg base CX0 k f fd ps sp) (hm : mg x = some (.ref f)) (hb : ∀ (kV doc pm : Value) (an : Option Addr) (cdv ct : Value) (us : List Value), us.length = ps.length → bindArgs (PySem.W.fnOf x x (defArgs st) (defBody st) (defScope st) .none kV doc pm an cdv ct) ⟨us, []⟩ = pure (ps.zip us))
    (hw : ∀ (kV doc pm : Value) (an : Option Addr) (cdv ct : Value) (us : List Value), us.length = ps.length → bindArgs (PySem.W.fnOf x x (defArgs st) (defBody st) (defScope st) .none kV doc pm an cdv ct) ⟨[], ps.reverse.zip us⟩ = pure (ps.zip (rvs us))) : ClW P w K mg base k x ps sp := by
  obtain ⟨oc, od, kV, doc, pm, an, cdv, ct, osl, rfl, lk, hcd⟩ := F.ex
  exact ⟨f, _, G, hm, F.kp, F.binds hb, fun s ws hl => .of_eq (hw kV doc pm an cdv ct ws hl)⟩
theorem all_ok {CC CS : Addr} (T : Top K CC CS) {h : Heap} (X : K.In h) (G : h.Ns mainGlobals mg) {fa : Addr} (hfa : mg "law" = some (.ref fa)) :
    ∃ fd : FuncData, (∀ (s : Shared) (v : Value), BindsTo s fd ⟨[v], []⟩ [("script", v)]) ∧ ∀ base : Heap, K.In base → base.Ns mainGlobals mg → FnOk P w K mg base CX0 12 fa fd ["script"] (spLaw K) := by
  obtain ⟨f_is_whole, a_is_whole⟩ := T.ais_whole
  obtain ⟨d_is_whole, F_is_whole⟩ := a_is_whole.fun
  have m_is_whole := a_is_whole.mg X G
  obtain ⟨f_is_name, a_is_name⟩ := T.ais_name
  obtain ⟨d_is_name, F_is_name⟩ := a_is_name.fun
  have m_is_name := a_is_name.mg X G
  obtain ⟨f_is_sound, a_is_sound⟩ := T.ais_sound
  obtain ⟨d_is_sound, F_is_sound⟩ := a_is_sound.fun
  have m_is_sound := a_is_sound.mg X G
  obtain ⟨f_is_kind, a_is_kind⟩ := T.ais_kind
  obtain ⟨d_is_kind, F_is_kind⟩ := a_is_kind.fun
  have m_is_kind := a_is_kind.mg X G
  obtain ⟨f_is_kinds, a_is_kinds⟩ := T.ais_kinds
  obtain ⟨d_is_kinds, F_is_kinds⟩ := a_is_kinds.fun
  have m_is_kinds := a_is_kinds.mg X G
  obtain ⟨f_is_form, a_is_form⟩ := T.ais_form
  obtain ⟨d_is_form, F_is_form⟩ := a_is_form.fun
  have m_is_form := a_is_form.mg X G
  obtain ⟨f_is_bounds, a_is_bounds⟩ := T.ais_bounds
  obtain ⟨d_is_bounds, F_is_bounds⟩ := a_is_bounds.fun
  have m_is_bounds := a_is_bounds.mg X G
  obtain ⟨f_all_have_values, a_all_have_values⟩ := T.aall_have_values
  obtain ⟨d_all_have_values, F_all_have_values⟩ := a_all_have_values.fun
  have m_all_have_values := a_all_have_values.mg X G
  obtain ⟨f_can_be_built, a_can_be_built⟩ := T.acan_be_built
  obtain ⟨d_can_be_built, F_can_be_built⟩ := a_can_be_built.fun
  have m_can_be_built := a_can_be_built.mg X G
  obtain ⟨f_values_within, a_values_within⟩ := T.avalues_within
  obtain ⟨d_values_within, F_values_within⟩ := a_values_within.fun
  have m_values_within := a_values_within.mg X G
  obtain ⟨f_check_kind, a_check_kind⟩ := T.acheck_kind
  obtain ⟨d_check_kind, F_check_kind⟩ := a_check_kind.fun
  have m_check_kind := a_check_kind.mg X G
  obtain ⟨f_check_value, a_check_value⟩ := T.acheck_value
  obtain ⟨d_check_value, F_check_value⟩ := a_check_value.fun
  have m_check_value := a_check_value.mg X G
  obtain ⟨f_is_count, a_is_count⟩ := T.ais_count
  obtain ⟨d_is_count, F_is_count⟩ := a_is_count.fun
  have m_is_count := a_is_count.mg X G
  obtain ⟨f_size_of_tree, a_size_of_tree⟩ := T.asize_of_tree
  obtain ⟨d_size_of_tree, F_size_of_tree⟩ := a_size_of_tree.fun
  have m_size_of_tree := a_size_of_tree.mg X G
  obtain ⟨f_check_size, a_check_size⟩ := T.acheck_size
  obtain ⟨d_check_size, F_check_size⟩ := a_check_size.fun
  have m_check_size := a_check_size.mg X G
  obtain ⟨f_check_number, a_check_number⟩ := T.acheck_number
  obtain ⟨d_check_number, F_check_number⟩ := a_check_number.fun
  have m_check_number := a_check_number.mg X G
  obtain ⟨f_chain_of_cells, a_chain_of_cells⟩ := T.achain_of_cells
  obtain ⟨d_chain_of_cells, F_chain_of_cells⟩ := a_chain_of_cells.fun
  have m_chain_of_cells := a_chain_of_cells.mg X G
  obtain ⟨f_opening_chains, a_opening_chains⟩ := T.aopening_chains
  obtain ⟨d_opening_chains, F_opening_chains⟩ := a_opening_chains.fun
  have m_opening_chains := a_opening_chains.mg X G
  obtain ⟨f_is_value, a_is_value⟩ := T.ais_value
  obtain ⟨d_is_value, F_is_value⟩ := a_is_value.fun
  have m_is_value := a_is_value.mg X G
  obtain ⟨f_size_of, a_size_of⟩ := T.asize_of
  obtain ⟨d_size_of, F_size_of⟩ := a_size_of.fun
  have m_size_of := a_size_of.mg X G
  obtain ⟨f_count_values, a_count_values⟩ := T.acount_values
  obtain ⟨d_count_values, F_count_values⟩ := a_count_values.fun
  have m_count_values := a_count_values.mg X G
  obtain ⟨f_nth_value, a_nth_value⟩ := T.anth_value
  obtain ⟨d_nth_value, F_nth_value⟩ := a_nth_value.fun
  have m_nth_value := a_nth_value.mg X G
  obtain ⟨f_place, a_place⟩ := T.aplace
  obtain ⟨d_place, F_place⟩ := a_place.fun
  have m_place := a_place.mg X G
  obtain ⟨f__law_purse, a__law_purse⟩ := T.a_law_purse
  obtain ⟨d__law_purse, F__law_purse⟩ := a__law_purse.fun
  have m__law_purse := a__law_purse.mg X G
  obtain ⟨f__law_mixed, a__law_mixed⟩ := T.a_law_mixed
  obtain ⟨d__law_mixed, F__law_mixed⟩ := a__law_mixed.fun
  have m__law_mixed := a__law_mixed.mg X G
  obtain ⟨f__law_draw, a__law_draw⟩ := T.a_law_draw
  obtain ⟨d__law_draw, F__law_draw⟩ := a__law_draw.fun
  have m__law_draw := a__law_draw.mg X G
  obtain ⟨f__law_purses, a__law_purses⟩ := T.a_law_purses
  obtain ⟨d__law_purses, F__law_purses⟩ := a__law_purses.fun
  have m__law_purses := a__law_purses.mg X G
  obtain ⟨f_law, a_law⟩ := T.alaw
  obtain ⟨d_law, F_law⟩ := a_law.fun
  have m_law := a_law.mg X G
  obtain ⟨f_C__init__, a_C__init__⟩ := T.mC__init__
  obtain ⟨d_C__init__, F_C__init__⟩ := a_C__init__.fun
  have m_C__init__ := a_C__init__.meth
  have b_C__init__ := F_C__init__.binds (ps := ["self", "part", "can_end"]) fun _ _ _ _ _ _ us hl => match us, hl with | [_, _, _], _ => rfl
  obtain ⟨f_S__init__, a_S__init__⟩ := T.mS__init__
  obtain ⟨d_S__init__, F_S__init__⟩ := a_S__init__.fun
  have m_S__init__ := a_S__init__.meth
  have b_S__init__ := F_S__init__.binds (ps := ["self", "kinds", "greatest"]) fun _ _ _ _ _ _ us hl => match us, hl with | [_, _, _], _ => rfl
  obtain ⟨f_Sadd_size, a_Sadd_size⟩ := T.mSadd_size
  obtain ⟨d_Sadd_size, F_Sadd_size⟩ := a_Sadd_size.fun
  have m_Sadd_size := a_Sadd_size.meth
  have b_Sadd_size := F_Sadd_size.binds (ps := ["self", "size"]) fun _ _ _ _ _ _ us hl => match us, hl with | [_, _], _ => rfl
  obtain ⟨f_Scount_of, a_Scount_of⟩ := T.mScount_of
  obtain ⟨d_Scount_of, F_Scount_of⟩ := a_Scount_of.fun
  have m_Scount_of := a_Scount_of.meth
  have b_Scount_of := F_Scount_of.binds (ps := ["self", "kind", "size"]) fun _ _ _ _ _ _ us hl => match us, hl with | [_, _, _], _ => rfl
  obtain ⟨f_Sadd_ways, a_Sadd_ways⟩ := T.mSadd_ways
  obtain ⟨d_Sadd_ways, F_Sadd_ways⟩ := a_Sadd_ways.fun
  have m_Sadd_ways := a_Sadd_ways.meth
  have b_Sadd_ways := F_Sadd_ways.binds (ps := ["self", "chain", "size"]) fun _ _ _ _ _ _ us hl => match us, hl with | [_, _, _], _ => rfl
  obtain ⟨f_Scount_ways, a_Scount_ways⟩ := T.mScount_ways
  obtain ⟨d_Scount_ways, F_Scount_ways⟩ := a_Scount_ways.fun
  have m_Scount_ways := a_Scount_ways.meth
  have b_Scount_ways := F_Scount_ways.binds (ps := ["self", "chain", "size"]) fun _ _ _ _ _ _ us hl => match us, hl with | [_, _, _], _ => rfl
  obtain ⟨f_Svalue_at, a_Svalue_at⟩ := T.mSvalue_at
  obtain ⟨d_Svalue_at, F_Svalue_at⟩ := a_Svalue_at.fun
  have m_Svalue_at := a_Svalue_at.meth
  have b_Svalue_at := F_Svalue_at.binds (ps := ["self", "kind", "size", "number"]) fun _ _ _ _ _ _ us hl => match us, hl with | [_, _, _, _], _ => rfl
  obtain ⟨f_Schain_at, a_Schain_at⟩ := T.mSchain_at
  obtain ⟨d_Schain_at, F_Schain_at⟩ := a_Schain_at.fun
  have m_Schain_at := a_Schain_at.meth
  have b_Schain_at := F_Schain_at.binds (ps := ["self", "kind", "size", "number"]) fun _ _ _ _ _ _ us hl => match us, hl with | [_, _, _, _], _ => rfl
  obtain ⟨f_Sparts_at, a_Sparts_at⟩ := T.mSparts_at
  obtain ⟨d_Sparts_at, F_Sparts_at⟩ := a_Sparts_at.fun
  have m_Sparts_at := a_Sparts_at.meth
  have b_Sparts_at := F_Sparts_at.binds (ps := ["self", "chain", "size", "number"]) fun _ _ _ _ _ _ us hl => match us, hl with | [_, _, _, _], _ => rfl
  obtain ⟨f_Splace_of, a_Splace_of⟩ := T.mSplace_of
  obtain ⟨d_Splace_of, F_Splace_of⟩ := a_Splace_of.fun
  have m_Splace_of := a_Splace_of.meth
  have b_Splace_of := F_Splace_of.binds (ps := ["self", "kind", "value"]) fun _ _ _ _ _ _ us hl => match us, hl with | [_, _, _], _ => rfl
  obtain ⟨f_Splace_of_parts, a_Splace_of_parts⟩ := T.mSplace_of_parts
  obtain ⟨d_Splace_of_parts, F_Splace_of_parts⟩ := a_Splace_of_parts.fun
  have m_Splace_of_parts := a_Splace_of_parts.meth
  have b_Splace_of_parts := F_Splace_of_parts.binds (ps := ["self", "chain", "size", "parts"]) fun _ _ _ _ _ _ us hl => match us, hl with | [_, _, _, _], _ => rfl
  have e := hfa.symm.trans m_law
  cases e
  have M : Bl mg := ⟨PySem.W.mg_none_of X G T.z_isinstance, PySem.W.mg_none_of X G T.z_len, PySem.W.mg_none_of X G T.z_all, PySem.W.mg_none_of X G T.z_int, PySem.W.mg_none_of X G T.z_bool, PySem.W.mg_none_of X G T.z_str, PySem.W.mg_none_of X G T.z_tuple, PySem.W.mg_none_of X G T.z_list, PySem.W.mg_none_of X G T.z_dict, PySem.W.mg_none_of X G T.z_enumerate, PySem.W.mg_none_of X G T.z_range, PySem.W.mg_none_of X G T.z_max, PySem.W.mg_none_of X G T.z_sum⟩
  have hmin := PySem.W.mg_none_of X G T.z_min
  have hdm := PySem.W.mg_none_of X G T.z_divmod
  have TC : KC K CC := ⟨⟨T.pgC, T.hdC, T.poC, T.saC⟩, T.nC_part, T.nC_behind, T.nC_can_end, T.nC_ways⟩
  have TS : KS K CS := ⟨⟨T.pgS, T.hdS, T.poS, T.saS⟩, T.nS_kinds, T.nS_counts, T.nS_chains⟩
  have mgC := PySem.W.mg_of X G T.gC
  have mgS := PySem.W.mg_of X G T.gS
  have MC : Mk K CC f_C__init__ := ⟨T.mkC, m_C__init__.at_, m_C__init__.fn, T.kcC⟩
  have MS : Mk K CS f_S__init__ := ⟨T.mkS, m_S__init__.at_, m_S__init__.fn, T.kcS⟩
  refine ⟨d_law, ?_, fun base _ _ => ?_⟩
  · obtain ⟨oc, od, kV, doc, pm, an, cdv, ct, osl, rfl, lk, hcd⟩ := F_law.ex
    exact fun s v => .of_eq rfl
  have c_is_whole := cl1 (P := P) (w := w) (base := base) F_is_whole (ok_is_whole F_is_whole M) m_is_whole (fun _ _ _ _ _ _ us hl => match us, hl with | [_], _ => rfl)
  have c_is_name := cl1 (P := P) (w := w) (base := base) F_is_name (ok_is_name F_is_name M) m_is_name (fun _ _ _ _ _ _ us hl => match us, hl with | [_], _ => rfl)
  have c_is_kind := cl1 (P := P) (w := w) (base := base) F_is_kind (ok_is_kind F_is_kind M) m_is_kind (fun _ _ _ _ _ _ us hl => match us, hl with | [_, _], _ => rfl)
  have c_is_bounds := cl1 (P := P) (w := w) (base := base) F_is_bounds (ok_is_bounds F_is_bounds M c_is_whole) m_is_bounds (fun _ _ _ _ _ _ us hl => match us, hl with | [_, _], _ => rfl)
  have c_is_form := cl1 (P := P) (w := w) (base := base) F_is_form (ok_is_form F_is_form M c_is_bounds c_is_kind) m_is_form (fun _ _ _ _ _ _ us hl => match us, hl with | [_, _], _ => rfl)
  have c_can_be_built := cl1 (P := P) (w := w) (base := base) F_can_be_built (ok_can_be_built F_can_be_built M) m_can_be_built (fun _ _ _ _ _ _ us hl => match us, hl with | [_, _], _ => rfl)
  have c_all_have_values := cl1 (P := P) (w := w) (base := base) F_all_have_values (ok_all_have_values F_all_have_values M c_can_be_built) m_all_have_values (fun _ _ _ _ _ _ us hl => match us, hl with | [_], _ => rfl)
  have c_is_kinds := cl1 (P := P) (w := w) (base := base) F_is_kinds (ok_is_kinds F_is_kinds M c_is_name c_is_form c_all_have_values) m_is_kinds (fun _ _ _ _ _ _ us hl => match us, hl with | [_], _ => rfl)
  have c_is_sound := cl1 (P := P) (w := w) (base := base) F_is_sound (ok_is_sound (kk := 4) F_is_sound) m_is_sound (fun _ _ _ _ _ _ us hl => match us, hl with | [_, _, _, _], _ => rfl)
  have c_values_within := cl1 (P := P) (w := w) (base := base) F_values_within ((ok_values_within F_values_within M c_is_whole).mono (show 2 ≤ 4 by decide)) m_values_within (fun _ _ _ _ _ _ us hl => match us, hl with | [_, _, _], _ => rfl)
  have c_check_kind := cl1 (P := P) (w := w) (base := base) F_check_kind (ok_check_kind F_check_kind c_is_kinds c_is_kind) m_check_kind (fun _ _ _ _ _ _ us hl => match us, hl with | [_, _], _ => rfl)
  have c_check_value := cl1 (P := P) (w := w) (base := base) F_check_value (ok_check_value F_check_value c_is_sound c_values_within) m_check_value (fun _ _ _ _ _ _ us hl => match us, hl with | [_, _, _], _ => rfl)
  have c_is_count := cl1 (P := P) (w := w) (base := base) F_is_count (ok_is_count F_is_count c_is_whole) m_is_count (fun _ _ _ _ _ _ us hl => match us, hl with | [_], _ => rfl)
  have c_check_size := cl1 (P := P) (w := w) (base := base) F_check_size (ok_check_size F_check_size c_is_count) m_check_size (fun _ _ _ _ _ _ us hl => match us, hl with | [_], _ => rfl)
  have c_check_number := cl1 (P := P) (w := w) (base := base) F_check_number (ok_check_number F_check_number c_is_count) m_check_number (fun _ _ _ _ _ _ us hl => match us, hl with | [_], _ => rfl)
  have c_size_of_tree := cl1 (P := P) (w := w) (base := base) F_size_of_tree (ok_size_of_tree F_size_of_tree M) m_size_of_tree (fun _ _ _ _ _ _ us hl => match us, hl with | [_], _ => rfl)
  have G_C__init__ := ok_chain_init (P := P) (w := w) (mg := mg) (base := base) F_C__init__ TC
  have c_chain_of_cells := cl1 (P := P) (w := w) (base := base) F_chain_of_cells (ok_chain_of_cells F_chain_of_cells TC MC G_C__init__ b_C__init__ mgC) m_chain_of_cells (fun _ _ _ _ _ _ us hl => match us, hl with | [_], _ => rfl)
  have c_opening_chains := cl1 (P := P) (w := w) (base := base) F_opening_chains (ok_opening_chains F_opening_chains c_chain_of_cells) m_opening_chains (fun _ _ _ _ _ _ us hl => match us, hl with | [_], _ => rfl)
  have G_Scount_of := (ok_count_of (P := P) (w := w) (mg := mg) (base := base) (CC := CC) F_Scount_of M TS TC).mono (show 1 ≤ 2 by decide)
  have G_Scount_ways := ok_count_ways (P := P) (w := w) (mg := mg) (base := base) (CC := CC) F_Scount_ways M TS TC
  have G_Sadd_ways := ok_add_ways (P := P) (w := w) (mg := mg) (base := base) (CC := CC) F_Sadd_ways M TS TC m_Scount_ways G_Scount_ways b_Scount_ways
  have G_Sadd_size := ok_add_size (P := P) (w := w) (mg := mg) (base := base) (CC := CC) F_Sadd_size TS TC m_Scount_of G_Scount_of b_Scount_of m_Sadd_ways G_Sadd_ways b_Sadd_ways
  have G_S__init__ := ok_init (P := P) (w := w) (mg := mg) (base := base) (CC := CC) F_S__init__ M TS TC c_opening_chains m_Sadd_size G_Sadd_size b_Sadd_size
  have G_valC := ok_value_at_cell (P := P) (w := w) (mg := mg) (base := base) (CC := CC) F_Svalue_at TS
  have G_Schain_at := ok_chain_at (P := P) (w := w) (mg := mg) (base := base) (CC := CC) F_Schain_at TS TC
  have G_Sparts_at := ok_parts_at (P := P) (w := w) (mg := mg) (base := base) (CC := CC) F_Sparts_at hdm TS TC m_Svalue_at G_valC b_Svalue_at
  have G_valR := ok_value_at_row (P := P) (w := w) (mg := mg) (base := base) (CC := CC) F_Svalue_at TS m_Schain_at G_Schain_at b_Schain_at m_Sparts_at G_Sparts_at b_Sparts_at
  have G_plC := ok_place_of_cell (P := P) (w := w) (mg := mg) (base := base) (CC := CC) F_Splace_of TS
  have G_Splace_of_parts := ok_place_of_parts (P := P) (w := w) (mg := mg) (base := base) (CC := CC) F_Splace_of_parts M TS TC c_size_of_tree m_Splace_of G_plC b_Splace_of
  have G_plR := ok_place_of_row (P := P) (w := w) (mg := mg) (base := base) (CC := CC) F_Splace_of TS c_size_of_tree m_Splace_of_parts G_Splace_of_parts b_Splace_of_parts
  have c_is_value := clW (P := P) (w := w) (base := base) F_is_value (ok_is_value F_is_value c_check_kind c_is_sound c_values_within) m_is_value (fun _ _ _ _ _ _ us hl => match us, hl with | [_, _, _], _ => rfl) (fun _ _ _ _ _ _ us hl => match us, hl with | [_, _, _], _ => rfl)
  have c_size_of := clW (P := P) (w := w) (base := base) F_size_of (ok_size_of F_size_of c_check_kind c_check_value c_size_of_tree) m_size_of (fun _ _ _ _ _ _ us hl => match us, hl with | [_, _, _], _ => rfl) (fun _ _ _ _ _ _ us hl => match us, hl with | [_, _, _], _ => rfl)
  have c_count_values := clW (P := P) (w := w) (base := base) F_count_values (ok_count_values F_count_values c_check_kind c_check_size TS MS G_S__init__ b_S__init__ mgS) m_count_values (fun _ _ _ _ _ _ us hl => match us, hl with | [_, _, _], _ => rfl) (fun _ _ _ _ _ _ us hl => match us, hl with | [_, _, _], _ => rfl)
  have c_nth_value := clW (P := P) (w := w) (base := base) F_nth_value (ok_nth_value F_nth_value c_check_kind c_check_size c_check_number TS MS G_S__init__ b_S__init__ mgS m_Svalue_at G_valR b_Svalue_at) m_nth_value (fun _ _ _ _ _ _ us hl => match us, hl with | [_, _, _, _], _ => rfl) (fun _ _ _ _ _ _ us hl => match us, hl with | [_, _, _, _], _ => rfl)
  have c_place := clW (P := P) (w := w) (base := base) F_place (ok_place F_place c_check_kind c_check_value c_size_of_tree TS MS G_S__init__ b_S__init__ mgS m_Splace_of G_plR b_Splace_of) m_place (fun _ _ _ _ _ _ us hl => match us, hl with | [_, _, _], _ => rfl) (fun _ _ _ _ _ _ us hl => match us, hl with | [_, _, _], _ => rfl)
  have c__law_purse := cl1 (P := P) (w := w) (base := base) F__law_purse (ok_purse F__law_purse M) m__law_purse (fun _ _ _ _ _ _ us hl => match us, hl with | [_, _], _ => rfl)
  have c__law_mixed := cl1 (P := P) (w := w) (base := base) F__law_mixed (ok_mixed F__law_mixed) m__law_mixed (fun _ _ _ _ _ _ us hl => match us, hl with | [_, _, _], _ => rfl)
  have c__law_draw := cl1 (P := P) (w := w) (base := base) F__law_draw (ok_draw F__law_draw M c__law_mixed) m__law_draw (fun _ _ _ _ _ _ us hl => match us, hl with | [_, _], _ => rfl)
  have c__law_purses := cl1 (P := P) (w := w) (base := base) F__law_purses (ok_purses F__law_purses M hmin c__law_purse) m__law_purses (fun _ _ _ _ _ _ us hl => match us, hl with | [_, _], _ => rfl)
  exact ok_law F_law M c__law_purses c__law_draw c_is_value c_size_of c_count_values c_nth_value c_place
end
end FV
open PySem PySem.W PyProof.Rows
set_option maxRecDepth 100000 in
set_option maxHeartbeats 0 in
theorem PySem.Challenge.cw_firstclause_k14_values_by_name_holds : PySem.Challenge.rw_firstclause_k14_values_by_name.Holds := by
  w_on; o_law; k_head; (case hw => w_witness2)
  k_fill
  refine L2.walk_of (l := PySem.Challenge.rw_firstclause_k14_values_by_name) (n := 63) (k := 12) (x := "script") (CX := fun _ => L2.CX0) (sp := fun w => FV.spLaw _) rfl (by decide) rfl ⟨rfl, by decide, by decide⟩ (fun w h Y => PySem.W.kIn_of Y) ?F (fun _ _ a ns hl _ hS => ⟨a, ns, rfl, hS, hl, fun _ => rfl⟩) (fun _ _ _ _ _ h => h)
  case F =>
    intro w mg fa h KX G hmg
    refine' FV.all_ok (CC := _) (CS := _) ?T KX G hmg
    case T =>
      refine' ⟨?gC, ?pgC, ?hdC, ?poC, ?saC, ?mkC, ?kcC, ?nC_part, ?nC_behind, ?nC_can_end, ?nC_ways, ?gS, ?pgS, ?hdS, ?poS, ?saS, ?mkS, ?kcS, ?nS_kinds, ?nS_counts, ?nS_chains, ⟨_, FV.AtM.mk' ?ma0 ?mi0 ?ml0 ?mc0 ?mk0⟩, ⟨_, FV.AtM.mk' ?ma1 ?mi1 ?ml1 ?mc1 ?mk1⟩, ⟨_, FV.AtM.mk' ?ma2 ?mi2 ?ml2 ?mc2 ?mk2⟩, ⟨_, FV.AtM.mk' ?ma3 ?mi3 ?ml3 ?mc3 ?mk3⟩, ⟨_, FV.AtM.mk' ?ma4 ?mi4 ?ml4 ?mc4 ?mk4⟩, ⟨_, FV.AtM.mk' ?ma5 ?mi5 ?ml5 ?mc5 ?mk5⟩, ⟨_, FV.AtM.mk' ?ma6 ?mi6 ?ml6 ?mc6 ?mk6⟩, ⟨_, FV.AtM.mk' ?ma7 ?mi7 ?ml7 ?mc7 ?mk7⟩, ⟨_, FV.AtM.mk' ?ma8 ?mi8 ?ml8 ?mc8 ?mk8⟩, ⟨_, FV.AtM.mk' ?ma9 ?mi9 ?ml9 ?mc9 ?mk9⟩, ⟨_, FV.AtM.mk' ?ma10 ?mi10 ?ml10 ?mc10 ?mk10⟩, ⟨_, FV.At.mk' ?a0 ?l0 ?c0 ?k0⟩, ⟨_, FV.At.mk' ?a1 ?l1 ?c1 ?k1⟩, ⟨_, FV.At.mk' ?a2 ?l2 ?c2 ?k2⟩, ⟨_, FV.At.mk' ?a3 ?l3 ?c3 ?k3⟩, ⟨_, FV.At.mk' ?a4 ?l4 ?c4 ?k4⟩, ⟨_, FV.At.mk' ?a5 ?l5 ?c5 ?k5⟩, ⟨_, FV.At.mk' ?a6 ?l6 ?c6 ?k6⟩, ⟨_, FV.At.mk' ?a7 ?l7 ?c7 ?k7⟩, ⟨_, FV.At.mk' ?a8 ?l8 ?c8 ?k8⟩, ⟨_, FV.At.mk' ?a9 ?l9 ?c9 ?k9⟩, ⟨_, FV.At.mk' ?a10 ?l10 ?c10 ?k10⟩, ⟨_, FV.At.mk' ?a11 ?l11 ?c11 ?k11⟩, ⟨_, FV.At.mk' ?a12 ?l12 ?c12 ?k12⟩, ⟨_, FV.At.mk' ?a13 ?l13 ?c13 ?k13⟩, ⟨_, FV.At.mk' ?a14 ?l14 ?c14 ?k14⟩, ⟨_, FV.At.mk' ?a15 ?l15 ?c15 ?k15⟩, ⟨_, FV.At.mk' ?a16 ?l16 ?c16 ?k16⟩, ⟨_, FV.At.mk' ?a17 ?l17 ?c17 ?k17⟩, ⟨_, FV.At.mk' ?a18 ?l18 ?c18 ?k18⟩, ⟨_, FV.At.mk' ?a19 ?l19 ?c19 ?k19⟩, ⟨_, FV.At.mk' ?a20 ?l20 ?c20 ?k20⟩, ⟨_, FV.At.mk' ?a21 ?l21 ?c21 ?k21⟩, ⟨_, FV.At.mk' ?a22 ?l22 ?c22 ?k22⟩, ⟨_, FV.At.mk' ?a23 ?l23 ?c23 ?k23⟩, ⟨_, FV.At.mk' ?a24 ?l24 ?c24 ?k24⟩, ⟨_, FV.At.mk' ?a25 ?l25 ?c25 ?k25⟩, ⟨_, FV.At.mk' ?a26 ?l26 ?c26 ?k26⟩, ⟨_, FV.At.mk' ?a27 ?l27 ?c27 ?k27⟩, ?z_isinstance, ?z_len, ?z_all, ?z_int, ?z_bool, ?z_str, ?z_tuple, ?z_list, ?z_dict, ?z_enumerate, ?z_range, ?z_max, ?z_sum, ?z_min, ?z_divmod⟩
      (case gC => k_is)
      (case pgC => k_is)
      (case hdC => k_is)
      (case poC => k_is)
      (case saC => k_is)
      (case mkC => k_is)
      (case kcC => k_is)
      (case nC_part => k_is)
      (case nC_behind => k_is)
      (case nC_can_end => k_is)
      (case nC_ways => k_is)
      (case gS => k_is)
      (case pgS => k_is)
      (case hdS => k_is)
      (case poS => k_is)
      (case saS => k_is)
      (case mkS => k_is)
      (case kcS => k_is)
      (case nS_kinds => k_is)
      (case nS_counts => k_is)
      (case nS_chains => k_is)
      (case ma0 => k_is); (case mi0 => k_is); (case ml0 => k_is); (case mc0 => k_is); (case mk0 => k_is)
      (case ma1 => k_is); (case mi1 => k_is); (case ml1 => k_is); (case mc1 => k_is); (case mk1 => k_is)
      (case ma2 => k_is); (case mi2 => k_is); (case ml2 => k_is); (case mc2 => k_is); (case mk2 => k_is)
      (case ma3 => k_is); (case mi3 => k_is); (case ml3 => k_is); (case mc3 => k_is); (case mk3 => k_is)
      (case ma4 => k_is); (case mi4 => k_is); (case ml4 => k_is); (case mc4 => k_is); (case mk4 => k_is)
      (case ma5 => k_is); (case mi5 => k_is); (case ml5 => k_is); (case mc5 => k_is); (case mk5 => k_is)
      (case ma6 => k_is); (case mi6 => k_is); (case ml6 => k_is); (case mc6 => k_is); (case mk6 => k_is)
      (case ma7 => k_is); (case mi7 => k_is); (case ml7 => k_is); (case mc7 => k_is); (case mk7 => k_is)
      (case ma8 => k_is); (case mi8 => k_is); (case ml8 => k_is); (case mc8 => k_is); (case mk8 => k_is)
      (case ma9 => k_is); (case mi9 => k_is); (case ml9 => k_is); (case mc9 => k_is); (case mk9 => k_is)
      (case ma10 => k_is); (case mi10 => k_is); (case ml10 => k_is); (case mc10 => k_is); (case mk10 => k_is)
      (case a0 => k_is); (case l0 => k_is); (case c0 => k_is); (case k0 => k_is)
      (case a1 => k_is); (case l1 => k_is); (case c1 => k_is); (case k1 => k_is)
      (case a2 => k_is); (case l2 => k_is); (case c2 => k_is); (case k2 => k_is)
      (case a3 => k_is); (case l3 => k_is); (case c3 => k_is); (case k3 => k_is)
      (case a4 => k_is); (case l4 => k_is); (case c4 => k_is); (case k4 => k_is)
      (case a5 => k_is); (case l5 => k_is); (case c5 => k_is); (case k5 => k_is)
      (case a6 => k_is); (case l6 => k_is); (case c6 => k_is); (case k6 => k_is)
      (case a7 => k_is); (case l7 => k_is); (case c7 => k_is); (case k7 => k_is)
      (case a8 => k_is); (case l8 => k_is); (case c8 => k_is); (case k8 => k_is)
      (case a9 => k_is); (case l9 => k_is); (case c9 => k_is); (case k9 => k_is)
      (case a10 => k_is); (case l10 => k_is); (case c10 => k_is); (case k10 => k_is)
      (case a11 => k_is); (case l11 => k_is); (case c11 => k_is); (case k11 => k_is)
      (case a12 => k_is); (case l12 => k_is); (case c12 => k_is); (case k12 => k_is)
      (case a13 => k_is); (case l13 => k_is); (case c13 => k_is); (case k13 => k_is)
      (case a14 => k_is); (case l14 => k_is); (case c14 => k_is); (case k14 => k_is)
      (case a15 => k_is); (case l15 => k_is); (case c15 => k_is); (case k15 => k_is)
      (case a16 => k_is); (case l16 => k_is); (case c16 => k_is); (case k16 => k_is)
      (case a17 => k_is); (case l17 => k_is); (case c17 => k_is); (case k17 => k_is)
      (case a18 => k_is); (case l18 => k_is); (case c18 => k_is); (case k18 => k_is)
      (case a19 => k_is); (case l19 => k_is); (case c19 => k_is); (case k19 => k_is)
      (case a20 => k_is); (case l20 => k_is); (case c20 => k_is); (case k20 => k_is)
      (case a21 => k_is); (case l21 => k_is); (case c21 => k_is); (case k21 => k_is)
      (case a22 => k_is); (case l22 => k_is); (case c22 => k_is); (case k22 => k_is)
      (case a23 => k_is); (case l23 => k_is); (case c23 => k_is); (case k23 => k_is)
      (case a24 => k_is); (case l24 => k_is); (case c24 => k_is); (case k24 => k_is)
      (case a25 => k_is); (case l25 => k_is); (case c25 => k_is); (case k25 => k_is)
      (case a26 => k_is); (case l26 => k_is); (case c26 => k_is); (case k26 => k_is)
      (case a27 => k_is); (case l27 => k_is); (case c27 => k_is); (case k27 => k_is)
      (case z_isinstance => k_is)
      (case z_len => k_is)
      (case z_all => k_is)
      (case z_int => k_is)
      (case z_bool => k_is)
      (case z_str => k_is)
      (case z_tuple => k_is)
      (case z_list => k_is)
      (case z_dict => k_is)
      (case z_enumerate => k_is)
      (case z_range => k_is)
      (case z_max => k_is)
      (case z_sum => k_is)
      (case z_min => k_is)
      (case z_divmod => k_is)
