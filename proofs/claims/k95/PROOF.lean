import PyProof.Rows.All
import HandS.MakeKw
import HandS.MakeKwOnly
import HandS.Nested
import KE.KWithOwn
import HandS.Steps
import HandS.EndOwn
import Wide.All
import OpenK.AllK
import Wide.FinOn
import HandS.ForMost
import HandS.Walk
import HandS.IsInst
import HandS.CallLocal
import HandS.Defaults
import HandS.Evl
import HandS.WideBits
import HandS.DictComp
import HandS.Style
import PySem.Challenge.RW_firstclause_k95_books_by_name
set_option Elab.async false
set_option linter.all false
set_option maxRecDepth 100000
set_option maxHeartbeats 4000000
/-! Data logic over the hand layer: slots hold data (PyData), a base heap B within the heap H. -/
namespace FC
open PySem PySem.Spec PyProof.Rows L2
open Evl (Ex)

abbrev Dat := PyData
/-! ### data in a heap -/
theorem ex_rd {H H' : Hp} {a : Addr} {u : HO} (e : Ex H H') (h : Rd H a u) : Rd H' a u := by
  rcases h with h | ⟨o, h⟩
  · exact .inl (e a _ h)
  · exact .inr ⟨o, e a _ h⟩
theorem ex_l {K : PySem.W.Frag} {H H' : Hp} {a : Addr} {xs : List V} (e : Ex H H') (h : SqL K H a xs) : SqL K H' a xs := by
  rcases h with h | h
  · exact .inl (ex_rd e h)
  · exact .inr h
theorem ex_t {K : PySem.W.Frag} {H H' : Hp} {a : Addr} {xs : List V} (e : Ex H H') (h : SqT K H a xs) : SqT K H' a xs := by
  rcases h with h | h
  · exact .inl (ex_rd e h)
  · exact .inr h
mutual
theorem dp_ex {K : PySem.W.Frag} {H H' : Hp} (e : Ex H H') : ∀ (d : PyData) (v : V), Dp K H v d → Dp K H' v d
  | .none, _, h => by cases h; exact .non
  | .bool b, _, h => by cases h; exact .bl b
  | .int i, _, h => by cases h; exact .int i
  | .str s, _, h => by cases h; exact .str s
  | .list ds, _, h => by
    cases h with
    | lst hs ha => exact .lst (ex_l e hs) (dps_ex e ds _ ha)
  | .tuple ds, _, h => by
    cases h with
    | tup hs ha => exact .tup (ex_t e hs) (dps_ex e ds _ ha)
  | .dict _, _, h => by cases h
theorem dps_ex {K : PySem.W.Frag} {H H' : Hp} (e : Ex H H') : ∀ (ds : List PyData) (vs : List V), DpAll K H vs ds → DpAll K H' vs ds
  | [], _, h => by cases h; exact .nil
  | d :: ds, _, h => by
    cases h with
    | cons h1 h2 => exact .cons (dp_ex e d _ h1) (dps_ex e ds _ h2)
end
theorem dps_len {K : PySem.W.Frag} {H : Hp} : ∀ {ds : List PyData} {vs : List V}, DpAll K H vs ds → vs.length = ds.length
  | [], _, h => by cases h; rfl
  | _ :: ds, _, h => by
    cases h with
    | cons _ h2 => simp [dps_len h2]
theorem dps_get {K : PySem.W.Frag} {H : Hp} : ∀ {ds : List PyData} {vs : List V} {i : Nat} {d : PyData}, DpAll K H vs ds → ds[i]? = some d → ∃ v, vs[i]? = some v ∧ Dp K H v d
  | [], _, _, _, _, e => by simp at e
  | _ :: _, _, 0, _, h, e => by
    cases h with
    | cons h1 _ =>
      simp at e
      subst e
      exact ⟨_, rfl, h1⟩
  | _ :: ds, _, i + 1, d, h, e => by
    cases h with
    | cons _ h2 =>
      obtain ⟨v, h3, h4⟩ := dps_get (i := i) (d := d) h2 (by simpa using e)
      exact ⟨v, by simpa using h3, h4⟩
theorem dps_snoc {K : PySem.W.Frag} {H : Hp} {v : V} {d : PyData} (r : Dp K H v d) : ∀ {ds : List PyData} {vs : List V}, DpAll K H vs ds → DpAll K H (vs ++ [v]) (ds ++ [d])
  | [], _, h => by cases h; exact .cons r .nil
  | _ :: _, _, h => by
    cases h with
    | cons h1 h2 => exact .cons h1 (dps_snoc r h2)
theorem dps_append {K : PySem.W.Frag} {H : Hp} {es : List PyData} {ws : List V} (r : DpAll K H ws es) : ∀ {ds : List PyData} {vs : List V}, DpAll K H vs ds → DpAll K H (vs ++ ws) (ds ++ es)
  | [], _, h => by cases h; exact r
  | _ :: _, _, h => by
    cases h with
    | cons h1 h2 => exact .cons h1 (dps_append r h2)
/-- the pairs of a dict with texts as keys -/
def KR (K : PySem.W.Frag) (H : Hp) (ks : List (Key × V)) (kvs : List (Str × PyData)) : Prop :=
  Paired (fun (p : Key × V) (q : Str × PyData) => p.1 = Sum.inr q.1 ∧ Dp K H p.2 q.2) ks kvs
def bodyOf (kvs : List (Str × PyData)) : List (PyData × PyData) := kvs.map fun q => (.str q.1, q.2)
/-- a dict, locked or not; one that is not locked; one that is locked, at a -/
def dictOf (kvs : List (Str × PyData)) : PyData := .dict (bodyOf kvs)
def dictU (kvs : List (Str × PyData)) : PyData := .dict ((.none, .none) :: bodyOf kvs)
def dictL (a : Addr) (kvs : List (Str × PyData)) : PyData := .dict ((.int (a : Nat), .none) :: bodyOf kvs)
/-- a list that stands by itself (tracked, not locked) -/
def listX (ds : List PyData) : PyData := .dict [(.bool true, .list ds)]
inductive Rt (K : PySem.W.Frag) (H : Hp) : V → PyData → Prop where
  | d {v : V} {x : PyData} (h : Dp K H v x) : Rt K H v x
  | dict {a : Addr} {ks : List (Key × V)} {kvs : List (Str × PyData)} (e : Rd H a (.dK ks)) (h : KR K H ks kvs) (nd : (kvs.map (·.1)).Nodup) : Rt K H (.ref a) (dictOf kvs)
  | dictU {a : Addr} {ks : List (Key × V)} {kvs : List (Str × PyData)} (e : H a = some (.dK ks)) (h : KR K H ks kvs) (nd : (kvs.map (·.1)).Nodup) : Rt K H (.ref a) (dictU kvs)
  | dictL {a : Addr} {o : Obj} {ks : List (Key × V)} {kvs : List (Str × PyData)} (e : H a = some (.frz o (.dK ks))) (h : KR K H ks kvs) (nd : (kvs.map (·.1)).Nodup) : Rt K H (.ref a) (dictL a kvs)
  | lstX {a : Addr} {vs : List V} {ds : List PyData} (e : H a = some (.lst vs)) (h : DpAll K H vs ds) : Rt K H (.ref a) (listX ds)
theorem kr_ex {K : PySem.W.Frag} {H H' : Hp} (e : Ex H H') : ∀ {ks : List (Key × V)} {kvs : List (Str × PyData)}, KR K H ks kvs → KR K H' ks kvs
  | _, _, .nil => .nil
  | _, _, .cons r t => .cons ⟨r.1, dp_ex e _ _ r.2⟩ (kr_ex e t)
theorem Rt.ex {K : PySem.W.Frag} {H H' : Hp} {v : V} {x : PyData} (e : Ex H H') (h : Rt K H v x) : Rt K H' v x := by
  cases h with
  | d h => exact .d (dp_ex e _ _ h)
  | dict e1 h nd => exact .dict (ex_rd e e1) (kr_ex e h) nd
  | dictU e1 h nd => exact .dictU (e _ _ e1) (kr_ex e h) nd
  | dictL e1 h nd => exact .dictL (e _ _ e1) (kr_ex e h) nd
  | lstX e1 h => exact .lstX (e _ _ e1) (dps_ex e _ _ h)
theorem bodyOf_inj : ∀ {k1 k2 : List (Str × PyData)}, bodyOf k1 = bodyOf k2 → k1 = k2
  | [], [], _ => rfl
  | [], _ :: _, h => by simp [bodyOf] at h
  | _ :: _, [], h => by simp [bodyOf] at h
  | (a, b) :: r, (c, d) :: s, h => by
    simp only [bodyOf, List.map_cons, List.cons.injEq, Prod.mk.injEq, PyData.str.injEq] at h
    obtain ⟨⟨h1, h2⟩, h3⟩ := h
    rw [h1, h2, bodyOf_inj (k1 := r) (k2 := s) h3]
theorem body_ne {kvs : List (Str × PyData)} {x : PyData × PyData} {r : List (PyData × PyData)} (hx : ∀ s, x.1 ≠ .str s) : bodyOf kvs ≠ x :: r := by
  cases kvs with
  | nil => intro h; simp [bodyOf] at h
  | cons q qs =>
    intro h
    simp only [bodyOf, List.map_cons, List.cons.injEq] at h
    exact hx q.1 (by rw [← h.1])
theorem rt_dict {K : PySem.W.Frag} {B : Hp} {v : V} {kvs : List (Str × PyData)} (h : Rt K B v (dictOf kvs)) : ∃ a ks, v = .ref a ∧ Rd B a (.dK ks) ∧ KR K B ks kvs ∧ (kvs.map (·.1)).Nodup := by
  generalize hd : dictOf kvs = dd at h
  cases h with
  | d h =>
    subst hd
    cases h
  | dict e1 h nd =>
    have e := bodyOf_inj (PyData.dict.inj hd)
    subst e
    exact ⟨_, _, rfl, e1, h, nd⟩
  | dictU e1 h nd => exact (body_ne (x := (.none, .none)) (fun s z => by cases z) (PyData.dict.inj hd)).elim
  | @dictL a2 o ks kv2 e1 h nd => exact (body_ne (x := (.int (a2 : Nat), .none)) (fun s z => by cases z) (PyData.dict.inj hd)).elim
  | @lstX a2 vs ds2 e1 h => exact (body_ne (x := (.bool true, .list ds2)) (fun s z => by cases z) (PyData.dict.inj hd)).elim
theorem rt_dictU {K : PySem.W.Frag} {B : Hp} {v : V} {kvs : List (Str × PyData)} (h : Rt K B v (dictU kvs)) : ∃ a ks, v = .ref a ∧ B a = some (.dK ks) ∧ KR K B ks kvs ∧ (kvs.map (·.1)).Nodup := by
  generalize hd : dictU kvs = dd at h
  cases h with
  | d h =>
    subst hd
    cases h
  | dict e1 h nd => exact (body_ne (x := (.none, .none)) (fun s z => by cases z) (PyData.dict.inj hd).symm).elim
  | dictU e1 h nd =>
    have e := bodyOf_inj (List.cons.inj (PyData.dict.inj hd)).2
    subst e
    exact ⟨_, _, rfl, e1, h, nd⟩
  | dictL e1 h nd =>
    have e := (List.cons.inj (PyData.dict.inj hd)).1
    simp at e
  | lstX e1 h =>
    have e := (List.cons.inj (PyData.dict.inj hd)).1
    simp at e
theorem rt_dictL {K : PySem.W.Frag} {B : Hp} {v : V} {a : Addr} {kvs : List (Str × PyData)} (h : Rt K B v (dictL a kvs)) : ∃ o ks, v = .ref a ∧ B a = some (.frz o (.dK ks)) ∧ KR K B ks kvs ∧ (kvs.map (·.1)).Nodup := by
  generalize hd : dictL a kvs = dd at h
  cases h with
  | d h =>
    subst hd
    cases h
  | dict e1 h nd => exact (body_ne (x := (.int (a : Nat), .none)) (fun s z => by cases z) (PyData.dict.inj hd).symm).elim
  | dictU e1 h nd =>
    have e := (List.cons.inj (PyData.dict.inj hd)).1
    simp at e
  | @dictL a2 o ks kv2 e1 h nd =>
    have e := bodyOf_inj (List.cons.inj (PyData.dict.inj hd)).2
    have e2 := (List.cons.inj (PyData.dict.inj hd)).1
    simp only [Prod.mk.injEq, PyData.int.injEq, and_true] at e2
    have e3 : a = a2 := Int.ofNat.inj e2
    subst e e3
    exact ⟨_, _, rfl, e1, h, nd⟩
  | lstX e1 h =>
    have e := (List.cons.inj (PyData.dict.inj hd)).1
    simp at e
theorem rt_listX {K : PySem.W.Frag} {B : Hp} {v : V} {ds : List PyData} (h : Rt K B v (listX ds)) : ∃ a vs, v = .ref a ∧ B a = some (.lst vs) ∧ DpAll K B vs ds := by
  generalize hd : listX ds = dd at h
  cases h with
  | d h =>
    subst hd
    cases h
  | dict e1 h nd => exact (body_ne (x := (.bool true, .list ds)) (fun s z => by cases z) (PyData.dict.inj hd).symm).elim
  | dictU e1 h nd =>
    have e := (List.cons.inj (PyData.dict.inj hd)).1
    simp at e
  | dictL e1 h nd =>
    have e := (List.cons.inj (PyData.dict.inj hd)).1
    simp at e
  | lstX e1 h =>
    have e := (List.cons.inj (PyData.dict.inj hd)).1
    simp only [Prod.mk.injEq, PyData.list.injEq, true_and] at e
    subst e
    exact ⟨_, _, rfl, e1, h⟩
theorem rt_ofX {K : PySem.W.Frag} {B : Hp} {v : V} {ds : List PyData} (h : Rt K B v (listX ds)) : Rt K B v (.list ds) := by
  obtain ⟨a, vs, rfl, e, h⟩ := rt_listX h
  exact .d (.lst (.inl (.inl e)) h)
theorem rt_ofU {K : PySem.W.Frag} {B : Hp} {v : V} {kvs : List (Str × PyData)} (h : Rt K B v (dictU kvs)) : Rt K B v (dictOf kvs) := by
  obtain ⟨a, ks, rfl, e, kr, nd⟩ := rt_dictU h
  exact .dict (.inl e) kr nd
theorem rt_ofL {K : PySem.W.Frag} {B : Hp} {v : V} {a : Addr} {kvs : List (Str × PyData)} (h : Rt K B v (dictL a kvs)) : Rt K B v (dictOf kvs) := by
  obtain ⟨o, ks, rfl, e, kr, nd⟩ := rt_dictL h
  exact .dict (.inr ⟨o, e⟩) kr nd
def plain : PyData → Bool
  | .dict _ => false
  | _ => true
theorem Rt.dp {K : PySem.W.Frag} {H : Hp} {v : V} {x : PyData} (h : Rt K H v x) (p : plain x = true) : Dp K H v x := by
  cases h with
  | d h => exact h
  | dict e1 h nd => simp [plain, dictOf] at p
  | dictU e1 h nd => simp [plain, FC.dictU] at p
  | dictL e1 h nd => simp [plain, FC.dictL] at p
  | lstX e1 h => simp [plain, FC.listX] at p
abbrev RtA (K : PySem.W.Frag) (H : Hp) : List V → List PyData → Prop := Paired (Rt K H)
theorem RtA.ex {K : PySem.W.Frag} {H H' : Hp} (e : Ex H H') : ∀ {vs : List V} {ds : List PyData}, RtA K H vs ds → RtA K H' vs ds
  | _, _, .nil => .nil
  | _, _, .cons r t => .cons (r.ex e) (RtA.ex e t)
theorem RtA.dps {K : PySem.W.Frag} {H : Hp} : ∀ {vs : List V} {ds : List PyData}, RtA K H vs ds → ds.all plain = true → DpAll K H vs ds
  | _, _, .nil, _ => .nil
  | _, _, .cons r t, h => by
    simp only [List.all_cons, Bool.and_eq_true] at h
    exact .cons (r.dp h.1) (RtA.dps t h.2)
/-! ### the slots -/
structure En (K : PySem.W.Frag) (B : Hp) (σ : L2.St) (G : List (Option PyData)) : Prop where
  len : σ.length = G.length
  get : ∀ (i : Nat) (d : PyData), G[i]? = some (some d) → ∃ v, σ[i]? = some (some v) ∧ Rt K B v d
theorem En.ex {K : PySem.W.Frag} {B B' : Hp} {σ : L2.St} {G : List (Option PyData)} (e : Ex B B') (h : En K B σ G) : En K B' σ G :=
  ⟨h.len, fun i d q => by
    obtain ⟨v, h1, h2⟩ := h.get i d q
    exact ⟨v, h1, h2.ex e⟩⟩
theorem En.set {K : PySem.W.Frag} {B : Hp} {σ : L2.St} {G : List (Option PyData)} {v : V} {d : PyData} (j : Nat) (h : En K B σ G) (r : Rt K B v d) : En K B (σ.set j (some v)) (G.set j (some d)) := by
  refine ⟨by rw [List.length_set, List.length_set, h.len], fun i e q => ?_⟩
  by_cases hij : j = i
  · subst hij
    have hl : j < G.length := by
      have := (List.getElem?_eq_some_iff.mp q).1
      simpa using this
    rw [List.getElem?_set_self hl] at q
    cases q
    exact ⟨v, List.getElem?_set_self (by rw [h.len]; exact hl), r⟩
  · rw [List.getElem?_set_ne hij] at q
    obtain ⟨u, h1, h2⟩ := h.get i e q
    exact ⟨u, by rw [List.getElem?_set_ne hij]; exact h1, h2⟩
/-- a slot whose value is not told -/
theorem En.setN {K : PySem.W.Frag} {B : Hp} {σ : L2.St} {G : List (Option PyData)} {x : Option V} (j : Nat) (h : En K B σ G) : En K B (σ.set j x) (G.set j none) := by
  refine ⟨by rw [List.length_set, List.length_set, h.len], fun i e q => ?_⟩
  by_cases hij : j = i
  · subst hij
    have hl : j < G.length := by
      have := (List.getElem?_eq_some_iff.mp q).1
      simpa using this
    rw [List.getElem?_set_self hl] at q
    cases q
  · rw [List.getElem?_set_ne hij] at q
    obtain ⟨u, h1, h2⟩ := h.get i e q
    exact ⟨u, by rw [List.getElem?_set_ne hij]; exact h1, h2⟩
def wipeG (G : List (Option PyData)) : List Nat → List (Option PyData)
  | [] => G
  | v :: vs => (wipeG G vs).set v none
theorem En.wipe {K : PySem.W.Frag} {B : Hp} {σ : L2.St} {G : List (Option PyData)} (h : En K B σ G) : ∀ vs, En K B (wipe σ vs) (wipeG G vs)
  | [] => h
  | v :: vs => (h.wipe vs).setN v
def startG (N : List Str) (ds : List PyData) : List (Option PyData) := ds.map some ++ List.replicate (N.length - ds.length) none
theorem En.start {K : PySem.W.Frag} {B : Hp} {N : List Str} {vs : List V} {ds : List PyData} (h : RtA K B vs ds) : En K B (start N vs) (startG N ds) := by
  have hl : vs.length = ds.length := Paired.length h
  unfold L2.start startG
  refine ⟨by simp [hl], fun i d q => ?_⟩
  rw [List.getElem?_append] at q
  split at q
  · rename_i hi
    rw [List.length_map] at hi
    rw [List.getElem?_map] at q
    have hi' : i < vs.length := by omega
    have e1 : ds[i]? = some d := by
      cases e : ds[i]? with
      | none => rw [e] at q; cases q
      | some x => rw [e] at q; simpa using q
    have key : ∀ {vs : List V} {ds : List PyData} {i : Nat}, RtA K B vs ds → ds[i]? = some d → ∃ v, vs[i]? = some v ∧ Rt K B v d := by
      intro vs ds i h
      induction h generalizing i with
      | nil => intro e; simp at e
      | cons r t ih =>
        intro e
        cases i with
        | zero =>
          simp at e
          subst e
          exact ⟨_, rfl, r⟩
        | succ i => simpa using ih (by simpa using e)
    obtain ⟨v, h1, h2⟩ := key h e1
    refine ⟨v, ?_, h2⟩
    rw [List.getElem?_append_left (by simpa using hi'), List.getElem?_map, h1]
    rfl
  · rename_i hi
    have : ∀ (n j : Nat), (List.replicate n (none : Option PyData))[j]? = some (some d) → False := by
      intro n j e
      rw [List.getElem?_replicate] at e
      split at e <;> simp at e
    exact (this _ _ q).elim
/-! ### steps of (B, H) -/
structure Go (B H B' H' : Hp) : Prop where
  eb : Ex B B'
  eh : Ex H H'
  sub : Ex B' H'
  fr : ∀ a o, H a = some o → B a = none → B' a = none
theorem Go.refl {B H : Hp} (e : Ex B H) : Go B H B H := ⟨Evl.Ex.refl _, Evl.Ex.refl _, e, fun _ _ _ n => n⟩
theorem Go.trans {B H B1 H1 B2 H2 : Hp} (a : Go B H B1 H1) (b : Go B1 H1 B2 H2) : Go B H B2 H2 :=
  ⟨a.eb.trans b.eb, a.eh.trans b.eh, b.sub, fun c o h n => b.fr c o (a.eh c o h) (a.fr c o h n)⟩
theorem sub_none {B H : Hp} {p : Addr} (e : Ex B H) (n : H p = none) : B p = none := Evl.fresh_back e n
theorem Go.new {B H : Hp} {p : Addr} {o : HO} (e : Ex B H) (n : H p = none) : Go B H (upd B p o) (upd H p o) :=
  ⟨Evl.Ex.new (sub_none e n), Evl.Ex.new n, fun a u h => by
    by_cases ha : a = p
    · subst ha
      rw [upd_same] at h ⊢
      exact h
    · rw [upd_ne ha] at h ⊢
      exact e a u h, fun a u h nb => by
    rw [upd_ne (ne_of_none h n)]
    exact nb⟩
/-- a new object that B does not learn of -/
theorem Go.own {B H : Hp} {p : Addr} {o : HO} (e : Ex B H) (n : H p = none) : Go B H B (upd H p o) :=
  ⟨Evl.Ex.refl _, Evl.Ex.new n, e.trans (Evl.Ex.new n), fun _ _ _ nb => nb⟩

/-! ### judgements -/
section
variable (K : PySem.W.Frag)
def DE (te : TE) (G : List (Option PyData)) (d : PyData) : Prop :=
  ∀ σ B H, Ex B H → En K B σ G → ∀ Q : VK, (∀ v B' H', Go B H B' H' → Rt K B' v d → Q v H') → te σ H Q
def DT (tt : TT) (G : List (Option PyData)) (b : Bool) : Prop :=
  ∀ σ B H, Ex B H → En K B σ G → ∀ Q : Bool → Hp → Prop, (∀ B' H', Go B H B' H' → Q b H') → tt σ H Q
def DA (ta : TA) (G : List (Option PyData)) (ds : List PyData) : Prop :=
  ∀ σ B H, Ex B H → En K B σ G → ∀ Q : List V → Hp → Prop, (∀ vs B' H', Go B H B' H' → RtA K B' vs ds → Q vs H') → ta σ H Q
inductive Out where
  | nx (G : List (Option PyData)) | rt (d : PyData)
def Out.Ok (B H : Hp) (D : Ends) : Out → Prop
  | .nx G => ∀ σ' B' H', Go B H B' H' → En K B' σ' G → D.nx σ' H'
  | .rt d => ∀ v B' H', Go B H B' H' → Rt K B' v d → D.rt v H'
def DS (ts : TS) (G : List (Option PyData)) (r : Out) : Prop :=
  ∀ D σ B H, Ex B H → En K B σ G → r.Ok K B H D → ts D σ H
/-- the promise of a def: data in, data out, nothing that stood is changed -/
def spD (n : Nat) (pre : List PyData → Prop) (F : List PyData → PyData) : Sp := fun vs H Q _ =>
  ∃ B ds, Ex B H ∧ RtA K B vs ds ∧ ds.length = n ∧ pre ds ∧ ∀ v B' H', Go B H B' H' → Rt K B' v (F ds) → Q v H'
end
theorem Out.Ok.go {K : PySem.W.Frag} {B H B1 H1 : Hp} {D : Ends} (g : Go B H B1 H1) {r : Out} (h : r.Ok K B H D) : r.Ok K B1 H1 D := by
  cases r with
  | nx G => exact fun σ' B' H' g' e => h σ' B' H' (g.trans g') e
  | rt d => exact fun v B' H' g' e => h v B' H' (g.trans g') e
section
variable {K : PySem.W.Frag} {G : List (Option PyData)} {ta tb te tc : TE} {t u : TT} {d e f : PyData} {b c : Bool}
theorem DE.fin {n : Nat} {pre : List PyData → Prop} {F : List PyData → PyData} {N : List Str} {ts : TS} {vs : List V} {ds : List PyData} {B H : Hp} {Q : VK} (h : DS K ts (startG N ds) (.rt (F ds)))
    (e : Ex B H) (r : RtA K B vs ds) (q : ∀ v B' H', Go B H B' H' → Rt K B' v (F ds) → Q v H') : ts { nx := fun _ H' => Q .non H', rt := Q } (start N vs) H :=
  h _ _ B H e (En.start r) q
theorem de_ofU {kvs : List (Str × PyData)} (h : DE K te G (dictU kvs)) : DE K te G (dictOf kvs) := fun σ B H x en Q q => h σ B H x en _ fun v B' H' g r => q v B' H' g (rt_ofU r)
theorem de_ofL {a : Addr} {kvs : List (Str × PyData)} (h : DE K te G (dictL a kvs)) : DE K te G (dictOf kvs) := fun σ B H x en Q q => h σ B H x en _ fun v B' H' g r => q v B' H' g (rt_ofL r)
theorem de_ofX {ds : List PyData} (h : DE K te G (listX ds)) : DE K te G (.list ds) := fun σ B H x en Q q => h σ B H x en _ fun v B' H' g r => q v B' H' g (rt_ofX r)
theorem de_is (h : DE K te G d) (x : d = e) : DE K te G e := x ▸ h
theorem dt_is (h : DT K t G b) (x : b = c) : DT K t G c := x ▸ h
theorem de_var {i : Nat} (h : G[i]? = some (some d)) : DE K (tVar i) G d := fun σ B H x en Q q => by
  obtain ⟨v, h1, h2⟩ := en.get i d h
  exact ⟨v, h1, q v B H (.refl x) h2⟩
theorem de_int {i : Int} : DE K (tC (.int i)) G (.int i) := fun σ B H x en Q q => q _ B H (.refl x) (.d (.int i))
theorem de_bl {b : Bool} : DE K (tC (.bl b)) G (.bool b) := fun σ B H x en Q q => q _ B H (.refl x) (.d (.bl b))
theorem de_non : DE K (tC .non) G .none := fun σ B H x en Q q => q _ B H (.refl x) (.d .non)
theorem de_str {s : Str} : DE K (tC (.str s)) G (.str s) := fun σ B H x en Q q => q _ B H (.refl x) (.d (.str s))
theorem da_nil : DA K tNil G [] := fun σ B H x en Q q => q [] B H (.refl x) .nil
theorem da_cons {tr : TA} {ds : List PyData} (h : DE K te G d) (hr : DA K tr G ds) : DA K (tCons te tr) G (d :: ds) := fun σ B H x en Q q =>
  h σ B H x en _ fun v B1 H1 g1 r1 => hr σ B1 H1 g1.sub (en.ex g1.eb) _ fun vs B2 H2 g2 r2 => q (v :: vs) B2 H2 (g1.trans g2) (.cons (r1.ex g2.eb) r2)
theorem de_tup {tr : TA} {ds : List PyData} (h : DA K tr G ds) (hp : ds.all plain = true) (hl : ds.length ≤ 1000) : DE K (tTup tr) G (.tuple ds) := fun σ B H x en Q q =>
  h σ B H x en _ fun vs B1 H1 g1 r1 => ⟨by rw [Paired.length r1]; exact Nat.le_trans hl (by decide), fun p hn => by
    have g2 : Go B1 H1 (upd B1 p (.tup vs)) (upd H1 p (.tup vs)) := Go.new g1.sub hn
    exact q _ _ _ (g1.trans g2) (.d (.tup (.inl (.inl upd_same)) ((RtA.ex g2.eb r1).dps hp)))⟩
theorem de_lst {tr : TA} {ds : List PyData} (h : DA K tr G ds) (hp : ds.all plain = true) (hl : ds.length ≤ 1000) : DE K (tLst tr) G (.list ds) := fun σ B H x en Q q =>
  h σ B H x en _ fun vs B1 H1 g1 r1 => ⟨by rw [Paired.length r1]; exact Nat.le_trans hl (by decide), fun p hn => by
    have g2 : Go B1 H1 (upd B1 p (.lst vs)) (upd H1 p (.lst vs)) := Go.new g1.sub hn
    exact q _ _ _ (g1.trans g2) (.d (.lst (.inl (.inl upd_same)) ((RtA.ex g2.eb r1).dps hp)))⟩
theorem de_lstX {tr : TA} {ds : List PyData} (h : DA K tr G ds) (hp : ds.all plain = true) (hl : ds.length ≤ 1000) : DE K (tLst tr) G (listX ds) := fun σ B H x en Q q =>
  h σ B H x en _ fun vs B1 H1 g1 r1 => ⟨by rw [Paired.length r1]; exact Nat.le_trans hl (by decide), fun p hn => by
    have g2 : Go B1 H1 (upd B1 p (.lst vs)) (upd H1 p (.lst vs)) := Go.new g1.sub hn
    exact q _ _ _ (g1.trans g2) (.lstX upd_same ((RtA.ex g2.eb r1).dps hp))⟩
theorem rt_bool {B : Hp} {v : V} (h : Rt K B v (.bool b)) : v = .bl b := by
  have h := h.dp rfl
  cases h
  rfl
theorem rt_int {B : Hp} {v : V} {i : Int} (h : Rt K B v (.int i)) : v = .int i := by
  have h := h.dp rfl
  cases h
  rfl
theorem rt_str {B : Hp} {v : V} {s : Str} (h : Rt K B v (.str s)) : v = .str s := by
  have h := h.dp rfl
  cases h
  rfl
theorem de_and (h1 : DE K ta G (.bool b)) (h2 : b = true → DE K tb G (.bool c)) : DE K (tAndV ta tb) G (.bool (b && c)) := fun σ B H x en Q q =>
  h1 σ B H x en _ fun v B1 H1 g1 r1 => ⟨b, rt_bool r1, by
    cases b with
    | true =>
      rw [if_pos rfl]
      exact h2 rfl σ B1 H1 g1.sub (en.ex g1.eb) _ fun v B2 H2 g2 r2 => q v B2 H2 (g1.trans g2) r2
    | false =>
      rw [if_neg Bool.false_ne_true]
      exact q _ B1 H1 g1 (.d (.bl false))⟩
theorem de_or (h1 : DE K ta G (.bool b)) (h2 : b = false → DE K tb G (.bool c)) : DE K (tOrV ta tb) G (.bool (b || c)) := fun σ B H x en Q q =>
  h1 σ B H x en _ fun v B1 H1 g1 r1 => ⟨b, rt_bool r1, by
    cases b with
    | true =>
      rw [if_pos rfl]
      exact q _ B1 H1 g1 (.d (.bl true))
    | false =>
      rw [if_neg Bool.false_ne_true]
      exact h2 rfl σ B1 H1 g1.sub (en.ex g1.eb) _ fun v B2 H2 g2 r2 => q v B2 H2 (g1.trans g2) r2⟩
theorem de_not (h1 : DE K ta G (.bool b)) : DE K (tNotV ta) G (.bool (!b)) := fun σ B H x en Q q =>
  h1 σ B H x en _ fun v B1 H1 g1 r1 => ⟨b, rt_bool r1, q _ B1 H1 g1 (.d (.bl _))⟩
theorem de_if (h : DT K t G b) (h1 : b = true → DE K ta G d) (h2 : b = false → DE K tb G d) : DE K (tIf t ta tb) G d := fun σ B H x en Q q =>
  h σ B H x en _ fun B1 H1 g1 => by
    cases b with
    | true =>
      rw [if_pos rfl]
      exact h1 rfl σ B1 H1 g1.sub (en.ex g1.eb) _ fun v B2 H2 g2 r2 => q v B2 H2 (g1.trans g2) r2
    | false =>
      rw [if_neg Bool.false_ne_true]
      exact h2 rfl σ B1 H1 g1.sub (en.ex g1.eb) _ fun v B2 H2 g2 r2 => q v B2 H2 (g1.trans g2) r2
theorem dt_B (h : DE K te G (.bool b)) : DT K (tB te) G b := fun σ B H x en Q q => h σ B H x en _ fun v B1 H1 g1 r1 => ⟨b, rt_bool r1, q B1 H1 g1⟩
theorem dt_test (h : DE K te G (.bool b)) : DT K (tTest te) G b := fun σ B H x en Q q => h σ B H x en _ fun v B1 H1 g1 r1 => ⟨b, rt_bool r1, q B1 H1 g1⟩
theorem dt_and (h1 : DT K t G b) (h2 : b = true → DT K u G c) : DT K (tAnd t u) G (b && c) := fun σ B H x en Q q =>
  h1 σ B H x en _ fun B1 H1 g1 => by
    cases b with
    | true =>
      rw [if_pos rfl]
      exact h2 rfl σ B1 H1 g1.sub (en.ex g1.eb) _ fun B2 H2 g2 => q B2 H2 (g1.trans g2)
    | false =>
      rw [if_neg Bool.false_ne_true]
      exact q B1 H1 g1
theorem dt_or (h1 : DT K t G b) (h2 : b = false → DT K u G c) : DT K (tOr t u) G (b || c) := fun σ B H x en Q q =>
  h1 σ B H x en _ fun B1 H1 g1 => by
    cases b with
    | true =>
      rw [if_pos rfl]
      exact q B1 H1 g1
    | false =>
      rw [if_neg Bool.false_ne_true]
      exact h2 rfl σ B1 H1 g1.sub (en.ex g1.eb) _ fun B2 H2 g2 => q B2 H2 (g1.trans g2)
theorem dt_not (h1 : DT K t G b) : DT K (tNot t) G (!b) := fun σ B H x en Q q => h1 σ B H x en _ fun B1 H1 g1 => q B1 H1 g1
/-- a value operation on two data -/
def RD (K : PySem.W.Frag) (r : R2) (d e f : PyData) : Prop := ∀ B H v w, Ex B H → Rt K B v d → Rt K B w e → ∀ Q : VK, (∀ z B' H', Go B H B' H' → Rt K B' z f → Q z H') → r v w H Q
theorem de_op {r : R2} (h1 : DE K ta G d) (h2 : DE K tb G e) (hr : RD K r d e f) : DE K (tOp r ta tb) G f := fun σ B H x en Q q =>
  h1 σ B H x en _ fun v B1 H1 g1 r1 => h2 σ B1 H1 g1.sub (en.ex g1.eb) _ fun w B2 H2 g2 r2 =>
    hr B2 H2 v w g2.sub (r1.ex g2.eb) r2 _ fun z B3 H3 g3 r3 => q z B3 H3 (g1.trans (g2.trans g3)) r3
theorem de_chain {r r' : R2} {e' : PyData} (h1 : DE K ta G d) (h2 : DE K tb G e) (h3 : b = true → DE K tc G e') (hr : RD K r d e (.bool b)) (hr' : b = true → RD K r' e e' (.bool c)) :
    DE K (tChain r r' ta tb tc) G (.bool (b && c)) := fun σ B H x en Q q =>
  h1 σ B H x en _ fun v B1 H1 g1 r1 => h2 σ B1 H1 g1.sub (en.ex g1.eb) _ fun w B2 H2 g2 r2 =>
    hr B2 H2 v w g2.sub (r1.ex g2.eb) r2 _ fun z B3 H3 g3 r3 => ⟨b, rt_bool r3, by
      cases b with
      | true =>
        rw [if_pos rfl]
        exact h3 rfl σ B3 H3 g3.sub (((en.ex g1.eb).ex g2.eb).ex g3.eb) _ fun w' B4 H4 g4 r4 =>
          hr' rfl B4 H4 w w' g4.sub ((r2.ex g3.eb).ex g4.eb) r4 _ fun z5 B5 H5 g5 r5 => q z5 B5 H5 (g1.trans (g2.trans (g3.trans (g4.trans g5)))) r5
      | false =>
        rw [if_neg Bool.false_ne_true]
        exact q _ B3 H3 (g1.trans (g2.trans g3)) (.d (.bl false))⟩
/-- a call's rule on data -/
def CD (K : PySem.W.Frag) (r : List V → Hp → VK → Prop) (ds : List PyData) (f : PyData) : Prop := ∀ B H vs, Ex B H → RtA K B vs ds → ∀ Q : VK, (∀ z B' H', Go B H B' H' → Rt K B' z f → Q z H') → r vs H Q
theorem de_cb {r : List V → Hp → VK → Prop} {tr : TA} {ds : List PyData} (h : DA K tr G ds) (hr : CD K r ds f) : DE K (tCB r tr) G f := fun σ B H x en Q q =>
  h σ B H x en _ fun vs B1 H1 g1 r1 => hr B1 H1 vs g1.sub r1 _ fun z B2 H2 g2 r2 => q z B2 H2 (g1.trans g2) r2
theorem de_call {tr : TA} {ds : List PyData} {n : Nat} {pre : List PyData → Prop} {F : List PyData → PyData} {E : XK} (h : DA K tr G ds) (hn : ds.length = n) (hp : pre ds) : DE K (tCall (spD K n pre F) [] E tr) G (F ds) := fun σ B H x en Q q =>
  h σ B H x en _ fun vs B1 H1 g1 r1 => by
    rw [List.append_nil]
    exact ⟨B1, ds, g1.sub, r1, hn, hp, fun v B' H' g2 r2 => q v B' H' (g1.trans g2) r2⟩
/-! ### statements -/
variable {t1 t2 : TS} {r : Out}
theorem ds_seq {G1 : List (Option PyData)} (h1 : DS K t1 G (.nx G1)) (h2 : DS K t2 G1 r) : DS K (tSeq t1 t2) G r := fun D σ B H x en q =>
  h1 { D with nx := t2 D } σ B H x en fun σ' B' H' g e => h2 D σ' B' H' g.sub e (q.go g)
theorem ds_seqR (h1 : DS K t1 G (.rt d)) : DS K (tSeq t1 t2) G (.rt d) := fun D σ B H x en q => h1 { D with nx := t2 D } σ B H x en q
theorem ds_next : DS K tNext G (.nx G) := fun D σ B H x en q => q σ B H (.refl x) en
theorem ds_ret (h : DE K te G d) : DS K (tRet te) G (.rt d) := fun D σ B H x en q => h σ B H x en _ fun v B' H' g r => q v B' H' g r
theorem ds_set {i : Nat} (h : DE K te G d) : DS K (tAsg te (gName i)) G (.nx (G.set i (some d))) := fun D σ B H x en q =>
  h σ B H x en _ fun v B' H' g r => q _ B' H' g ((en.ex g.eb).set i r)
theorem ds_drop (h : DE K te G d) : DS K (tDrop te) G (.nx G) := fun D σ B H x en q => h σ B H x en _ fun v B' H' g r => q σ B' H' g (en.ex g.eb)
theorem ds_if (h : DT K t G b) (h1 : b = true → DS K t1 G r) (h2 : b = false → DS K t2 G r) : DS K (tIfS t t1 t2) G r := fun D σ B H x en q =>
  h σ B H x en _ fun B1 H1 g1 => by
    cases b with
    | true =>
      rw [if_pos rfl]
      exact h1 rfl D σ B1 H1 g1.sub (en.ex g1.eb) (q.go g1)
    | false =>
      rw [if_neg Bool.false_ne_true]
      exact h2 rfl D σ B1 H1 g1.sub (en.ex g1.eb) (q.go g1)
/-- if .. : return .. ; the rest -/
theorem ds_guard (h : DT K t G b) (h1 : b = true → DS K t1 G (.rt d)) (h2 : b = false → DS K t2 G (.rt d)) : DS K (tSeq (tIfS t t1 tNext) t2) G (.rt d) := fun D σ B H x en q =>
  h σ B H x en _ fun B1 H1 g1 => by
    cases b with
    | true =>
      rw [if_pos rfl]
      exact h1 rfl { D with nx := t2 D } σ B1 H1 g1.sub (en.ex g1.eb) (Out.Ok.go (K := K) (r := .rt d) g1 q)
    | false =>
      rw [if_neg Bool.false_ne_true]
      exact h2 rfl D σ B1 H1 g1.sub (en.ex g1.eb) (Out.Ok.go (K := K) (r := .rt d) g1 q)
end
end FC
/-! Data logic: the operations. -/
namespace FC
open PySem PySem.Spec PyProof.Rows L2
open Evl (Ex)
section
variable {X : Cx}
theorem pe_dead {e : Expr} : PE X e (fun _ _ _ => False) := ⟨fun _ _ _ _ _ _ h => h.elim⟩
theorem pt_dead {e : Expr} : PT X e (fun _ _ _ => False) := ⟨fun _ _ _ _ _ _ h => h.elim⟩
theorem pe_either {e : Expr} {t u : TE} (h : PE X e t) (h2 : PE X e u) : PE X e (fun σ H Q => t σ H Q ∨ u σ H Q) := ⟨fun pins s σ H Q I q => by
  rcases q with q | q
  · exact h.run pins s σ H Q I q
  · exact h2.run pins s σ H Q I q⟩
theorem ps_either {e : Stmt} {t u : TS} (h : PS X e t) (h2 : PS X e u) : PS X e (fun D σ H => t D σ H ∨ u D σ H) := ⟨fun pins s σ H D I q => by
  rcases q with q | q
  · exact h.run pins s σ H D I q
  · exact h2.run pins s σ H D I q⟩
end
/-- a def of the module by its name, its promise on data -/
structure Cl (P : Program) (w : World) (K : PySem.W.Frag) (mg : Str → Option Value) (base : Heap) (k : Nat) (x : Str) (sp : Sp) : Prop where
  ex : ∃ (f : Addr) (fd : FuncData) (ps : List Str), FnOk P w K mg base CX0 k f fd ps sp ∧ mg x = some (.ref f) ∧ PySem.W.keepIn K (.ref f) = true ∧ Binds K fd ps []
section
variable {X : Cx} {k j : Nat} {x : Str} {sp : Sp} {p pos : Pos} {e : Expr} {es : List Expr} {t : TA}
theorem pe_cl (c : Cl X.prog X.w X.K X.mg X.base k x sp) (hr : Room j X.A) (hk : k ≤ j) (hg : Gl X x) (ha : PA X (e :: es) t)
    (hdb : (x == ("__debug__" : Str)) = false := by decide) (he : starEach (e :: es) X.env = (false, eval e X.env) :: starEach es X.env := by rfl) (hpl : (backTo pos (starEach es X.env)).any (·.1) = false := by rfl) :
    PE X (.Call (.Name x p) (e :: es) [] pos) (tCall sp [] E0 t) := by
  obtain ⟨f, fd, ps, F, hm, kp, b⟩ := c.ex
  exact pe_call F (hr.mono hk) hg hm kp b .nil pass0 ha hdb he hpl
end
section
variable {K : PySem.W.Frag} {G : List (Option PyData)} {ta tb te tc : TE} {t u : TT} {d e f : PyData} {b c : Bool}
/-! ### == , is None, <= -/
theorem rd_eq (hd : SeqAt.shaped d = true) (he : SeqAt.shaped e = true) (pd : plain d = true) (pe : plain e = true) : RD K (rEqD K) d e (.bool (PyData.eqv d e)) := fun B H v w x r1 r2 Q q =>
  ⟨d, e, dp_ex x _ _ (r1.dp pd), dp_ex x _ _ (r2.dp pe), hd, he, q _ B H (.refl x) (.d (.bl _))⟩
theorem rd_ne (hd : SeqAt.shaped d = true) (he : SeqAt.shaped e = true) (pd : plain d = true) (pe : plain e = true) : RD K (rNeD K) d e (.bool (!PyData.eqv d e)) := fun B H v w x r1 r2 Q q =>
  ⟨d, e, dp_ex x _ _ (r1.dp pd), dp_ex x _ _ (r2.dp pe), hd, he, q _ B H (.refl x) (.d (.bl _))⟩
def isNon : PyData → Bool
  | .none => true
  | _ => false
theorem rt_isnon {B : Hp} {v : V} (h : Rt K B v d) : decide (v = V.non) = isNon d := by
  cases h with
  | d h => cases h <;> simp [isNon]
  | dict e1 h nd => simp [isNon, dictOf]
  | dictU e1 h nd => simp [isNon, dictU]
  | dictL e1 h nd => simp [isNon, dictL]
  | lstX e1 h => simp [isNon, listX]
theorem de_isN (h : DE K ta G d) : DE K (tIsN ta) G (.bool (isNon d)) := fun σ B H x en Q q => h σ B H x en _ fun v B' H' g r => by
  rw [rt_isnon r]
  exact q _ B' H' g (.d (.bl _))
theorem de_notN (h : DE K ta G d) : DE K (tNotN ta) G (.bool (!isNon d)) := fun σ B H x en Q q => h σ B H x en _ fun v B' H' g r => by
  rw [rt_isnon r]
  exact q _ B' H' g (.d (.bl _))
theorem rd_le {i j : Int} : RD K (rI0 fun i j => .bl (decide (i ≤ j))) (.int i) (.int j) (.bool (decide (i ≤ j))) := fun B H v w x r1 r2 Q q => ⟨i, j, rt_int r1, rt_int r2, q _ B H (.refl x) (.d (.bl _))⟩
theorem rd_ge {i j : Int} : RD K (rI0 fun i j => .bl (decide (j ≤ i))) (.int i) (.int j) (.bool (decide (j ≤ i))) := fun B H v w x r1 r2 Q q => ⟨i, j, rt_int r1, rt_int r2, q _ B H (.refl x) (.d (.bl _))⟩
theorem rd_gt {i j : Int} : RD K (rI0 fun i j => .bl (decide (j < i))) (.int i) (.int j) (.bool (decide (j < i))) := fun B H v w x r1 r2 Q q => ⟨i, j, rt_int r1, rt_int r2, q _ B H (.refl x) (.d (.bl _))⟩
theorem rd_lt {i j : Int} : RD K (rI0 fun i j => .bl (decide (i < j))) (.int i) (.int j) (.bool (decide (i < j))) := fun B H v w x r1 r2 Q q => ⟨i, j, rt_int r1, rt_int r2, q _ B H (.refl x) (.d (.bl _))⟩
theorem rd_add {i j : Int} : RD K (rI0 fun i j => .int (i + j)) (.int i) (.int j) (.int (i + j)) := fun B H v w x r1 r2 Q q => ⟨i, j, rt_int r1, rt_int r2, q _ B H (.refl x) (.d (.int _))⟩
theorem rd_sub {i j : Int} : RD K (rI0 fun i j => .int (i - j)) (.int i) (.int j) (.int (i - j)) := fun B H v w x r1 r2 Q q => ⟨i, j, rt_int r1, rt_int r2, q _ B H (.refl x) (.d (.int _))⟩
def rLeS : R2 := fun x y H Q => ∃ i j, x = .str i ∧ y = .str j ∧ Q (.bl (!decide (j.cps.toList < i.cps.toList))) H
theorem op_leS {X : Cx} : OpR X (compareOp .LtE) rLeS := op_le_str
theorem rd_leS {i j : Str} : RD K rLeS (.str i) (.str j) (.bool (!decide (j.cps.toList < i.cps.toList))) := fun B H v w x r1 r2 Q q => ⟨i, j, rt_str r1, rt_str r2, q _ B H (.refl x) (.d (.bl _))⟩
/-! ### items -/
theorem rd_ixT {ds : List PyData} {i : Int} {j : Nat} (hi : i = (j : Int)) (h : ds[j]? = some d) : RD K (rIxT K) (.tuple ds) (.int i) d := fun B H v w x r1 r2 Q q => by
  have r1 := r1.dp rfl
  cases r1 with
  | tup hs ha =>
    obtain ⟨y, h1, h2⟩ := dps_get ha h
    exact ⟨_, _, i, y, rfl, rt_int r2, ex_t x hs, by rw [hi]; exact atI_nat h1, q y B H (.refl x) (.d h2)⟩
theorem rd_ixL {ds : List PyData} {i : Int} {j : Nat} (hi : i = (j : Int)) (h : ds[j]? = some d) : RD K (rIxL K) (.list ds) (.int i) d := fun B H v w x r1 r2 Q q => by
  have r1 := r1.dp rfl
  cases r1 with
  | lst hs ha =>
    obtain ⟨y, h1, h2⟩ := dps_get ha h
    exact ⟨_, _, i, y, rfl, rt_int r2, ex_l x hs, by rw [hi]; exact atI_nat h1, q y B H (.refl x) (.d h2)⟩
/-! ### isinstance, len, all, any -/
def tyN : PyData → String
  | .none => "NoneType" | .bool _ => "bool" | .int _ => "int" | .str _ => "str" | .list _ => "list" | .tuple _ => "tuple" | .dict ((.bool true, _) :: _) => "list" | .dict _ => "dict"
theorem tyN_dictOf (kvs : List (Str × PyData)) : tyN (dictOf kvs) = "dict" := by
  cases kvs <;> rfl
theorem rt_ty {B H : Hp} {v : V} (x : Ex B H) (h : Rt K B v d) : TyX K H v (.type (tyN d)) := by
  cases h with
  | d h =>
    cases h with
    | non => exact .base .non
    | bl b => exact .base (.bl b)
    | int i => exact .base (.int i)
    | str s => exact .base (.str s)
    | lst hs _ =>
      rcases ex_l x hs with (h | ⟨o, h⟩) | ⟨o, its, n, h, hc, _⟩
      · exact .base (.lst h)
      · exact .base (.frz h)
      · exact .kList h hc
    | tup hs _ =>
      rcases ex_t x hs with (h | ⟨o, h⟩) | ⟨o, its, n, h, hc, _⟩
      · exact .base (.tup h)
      · exact .fTuple h
      · exact .kTuple h hc
  | dict e1 h nd =>
    rw [tyN_dictOf]
    rcases ex_rd x e1 with h | ⟨o, h⟩
    · exact .base (.dK h)
    · exact .fDict h
  | dictU e1 h nd => exact .base (.dK (x _ _ e1))
  | dictL e1 h nd => exact .fDict (x _ _ e1)
  | lstX e1 h => exact .base (.lst (x _ _ e1))
theorem de_isi {n : String} (h : DE K ta G d) (hk : kitB (tyN d) n = some b) : DE K (tCB (rIsi K) (tCons ta (tCons (tC (.ty n)) tNil))) G (.bool b) := fun σ B H x en Q q =>
  h σ B H x en _ fun v B' H' g r => ⟨v, .ty n, .type (tyN d), .type n, b, rfl, .ty n, rt_ty g.sub r, kit_ty hk, q _ B' H' g (.d (.bl b))⟩
theorem de_ty {n m : String} (h : DE K ta G d) (ht : tyN d = m) (hk : kitB m n = some b) : DE K (tCB (rIsi K) (tCons ta (tCons (tC (.ty n)) tNil))) G (.bool b) := de_isi h (by rw [ht]; exact hk)
def rLen (K : PySem.W.Frag) : List V → Hp → VK → Prop := fun xs H Q => ∃ x n, xs = [x] ∧ LenV K x H n ∧ Q (.int n) H
theorem call_lenR {X : Cx} : CallR X (.builtin "len") (rLen X.K) := call_len
theorem cd_lenL {ds : List PyData} : CD K (rLen K) [.list ds] (.int ds.length) := fun B H vs x r Q q => by
  cases r with
  | cons r1 r2 =>
    cases r2
    have r1 := r1.dp rfl
    cases r1 with
    | lst hs ha => exact ⟨_, _, rfl, .inl ⟨_, ex_l x hs, (dps_len ha).symm⟩, q _ B H (.refl x) (.d (.int _))⟩
theorem cd_lenT {ds : List PyData} : CD K (rLen K) [.tuple ds] (.int ds.length) := fun B H vs x r Q q => by
  cases r with
  | cons r1 r2 =>
    cases r2
    have r1 := r1.dp rfl
    cases r1 with
    | tup hs ha => exact ⟨_, _, rfl, .inr ⟨_, ex_t x hs, (dps_len ha).symm⟩, q _ B H (.refl x) (.d (.int _))⟩
theorem cd_lenS {s : Str} (hl : s.length ≤ sizeLine) : CD K (rLen K) [.str s] (.int s.length) := fun B H vs x r Q q => by
  cases r with
  | cons r1 r2 =>
    cases r2
    have r1 := r1.dp rfl
    cases r1
    exact ⟨_, _, rfl, ⟨hl, rfl⟩, q _ B H (.refl x) (.d (.int _))⟩
theorem bools_dp {B : Hp} : ∀ {bs : List Bool} {vs : List V}, DpAll K B vs (bs.map PyData.bool) → vs = bs.map V.bl
  | [], _, h => by cases h; rfl
  | _ :: bs, _, h => by
    cases h with
    | cons h1 h2 =>
      cases h1
      rw [bools_dp h2]
      rfl
theorem cd_all {bs : List Bool} : CD K (rAll K) [.list (bs.map .bool)] (.bool (bs.all id)) := fun B H vs x r Q q => by
  cases r with
  | cons r1 r2 =>
    cases r2
    have r1 := r1.dp rfl
    cases r1 with
    | lst hs ha => exact ⟨_, bs, rfl, by rw [← bools_dp ha]; exact ex_l x hs, q _ B H (.refl x) (.d (.bl _))⟩
theorem cd_any {bs : List Bool} : CD K (rAny K) [.list (bs.map .bool)] (.bool (bs.any id)) := fun B H vs x r Q q => by
  cases r with
  | cons r1 r2 =>
    cases r2
    have r1 := r1.dp rfl
    cases r1 with
    | lst hs ha => exact ⟨_, bs, rfl, by rw [← bools_dp ha]; exact ex_l x hs, q _ B H (.refl x) (.d (.bl _))⟩
end
end FC
/-! Data logic: what is walked; comprehensions, loops; dicts. -/
namespace FC
open PySem PySem.Spec PyProof.Rows L2
open Evl (Ex)
/-- a target's effect on the slots -/
def TgOk (K : PySem.W.Frag) (T : List Nat) (g : TG) (ff : List (Option PyData) → List (Option PyData)) (P : Hp → V → Hp → Prop) : Prop :=
  ∀ B H σ G x H', Ex B H → En K B σ G → P H x H' → ∀ Q : L2.St → Hp → Prop, (∀ σ' B' H2, Go B H B' H2 → En K B' σ' (ff G) → (∀ vs, (∀ j ∈ T, j ∈ vs) → wipe σ' vs = wipe σ vs) → Q σ' H2) → g x σ H' Q
/-- wi gives n turns; turn i sets the slots as ff i says -/
def DIat (K : PySem.W.Frag) (wi : TI) (g : TG) (T : List Nat) (n : Nat) (ff : Nat → List (Option PyData) → List (Option PyData)) (σ : L2.St) (B H : Hp) : Prop :=
  ∀ R : It → Hp → Prop, (∀ J B1 H1 Y, Go B H B1 H1 → Walk J n (fun H2 => Ex B1 H2) Y →
    (∀ i, i < n → ∀ B2 H2 σ2 G2 x H3, Ex B1 B2 → Ex B2 H2 → En K B2 σ2 G2 → Y i H2 x H3 → ∀ Q : L2.St → Hp → Prop, (∀ σ' B' H4, Go B2 H2 B' H4 → En K B' σ' (ff i G2) → (∀ vs, (∀ j ∈ T, j ∈ vs) → wipe σ' vs = wipe σ2 vs) → Q σ' H4) → g x σ2 H3 Q) → R J H1) → wi σ H R
def DI (K : PySem.W.Frag) (wi : TI) (g : TG) (T : List Nat) (G : List (Option PyData)) (n : Nat) (ff : Nat → List (Option PyData) → List (Option PyData)) : Prop :=
  ∀ σ B H, Ex B H → En K B σ G → DIat K wi g T n ff σ B H
theorem wipe_set : ∀ {vs : List Nat} {σ : L2.St} {j : Nat} {x : Option V}, j ∈ vs → wipe (σ.set j x) vs = wipe σ vs
  | [], _, _, _, h => by cases h
  | v :: vs, σ, j, x, h => by
    show (wipe (σ.set j x) vs).set v none = (wipe σ vs).set v none
    by_cases hj : j ∈ vs
    · rw [wipe_set hj]
    · have e : j = v := by
        rcases List.mem_cons.mp h with h | h
        · exact h
        · exact absurd h hj
      subst e
      have key : ∀ (ws : List Nat) (τ : L2.St), j ∉ ws → wipe (τ.set j x) ws = (wipe τ ws).set j x := by
        intro ws
        induction ws with
        | nil => intro τ _; rfl
        | cons w ws ih =>
          intro τ hn
          show (wipe (τ.set j x) ws).set w none = ((wipe τ ws).set w none).set j x
          rw [ih τ (fun z => hn (List.mem_cons_of_mem _ z))]
          exact List.set_comm _ _ (fun z => hn (by rw [z]; exact List.mem_cons_self ..))
      rw [key vs σ hj, List.set_set]
theorem wipe_wipe {σ : L2.St} : ∀ {vs ws : List Nat}, (∀ j ∈ vs, j ∈ ws) → wipe (wipe σ vs) ws = wipe σ ws
  | [], _, _ => rfl
  | v :: vs, ws, h => by
    show wipe ((wipe σ vs).set v none) ws = wipe σ ws
    rw [wipe_set (h v (List.mem_cons_self ..)), wipe_wipe fun j hj => h j (List.mem_cons_of_mem _ hj)]
section
variable {K : PySem.W.Frag} {G : List (Option PyData)} {te td : TE} {tt : TT} {n : Nat} {g : TG} {T : List Nat} {wi : TI} {ff : Nat → List (Option PyData) → List (Option PyData)}
/-- over a list of data, a name as target -/
theorem di_list {ds : List PyData} {j : Nat} (h : DE K te G (.list ds)) : DI K (iList K te) (gName j) [j] G ds.length (fun i G2 => G2.set j ds[i]?) := fun σ B H x en R q =>
  h σ B H x en _ fun v B1 H1 g1 r1 => by
    have r1 := r1.dp rfl
    cases r1 with
    | @lst a xs _ hs ha =>
      refine ⟨a, rfl, ⟨xs, ex_l g1.sub hs⟩, ?_⟩
      have hl := dps_len ha
      refine q (Itl K a) B1 H1 (YAt xs) g1 ?_ fun i hi B2 H2 σ2 G2 y H3 e1 e2 en2 hy Q k => ?_
      · rw [← hl]
        exact walk_list.mono (fun H2 e => ex_l e hs) fun _ _ _ _ _ _ y => y
      · obtain ⟨rfl, hy⟩ := hy
        have hd : ds[i]? = some ds[i] := List.getElem?_eq_getElem hi
        obtain ⟨y', h1, h2⟩ := dps_get ha hd
        have : y = y' := Option.some.inj (hy.symm.trans h1)
        subst this
        refine k _ B2 H3 (.refl e2) ?_ fun vs hv => wipe_set (hv j (List.mem_singleton.mpr rfl))
        show En K B2 _ (G2.set j ds[i]?)
        rw [hd]
        exact en2.set j (.d (dp_ex e1 _ _ h2))
theorem di_tup {ds : List PyData} {j : Nat} (h : DE K te G (.tuple ds)) : DI K (iTup K te) (gName j) [j] G ds.length (fun i G2 => G2.set j ds[i]?) := fun σ B H x en R q =>
  h σ B H x en _ fun v B1 H1 g1 r1 => by
    have r1 := r1.dp rfl
    cases r1 with
    | @tup a xs _ hs ha =>
      refine ⟨a, rfl, ⟨xs, ex_t g1.sub hs⟩, ?_⟩
      have hl := dps_len ha
      refine q (Itt K a) B1 H1 (YAt xs) g1 ?_ fun i hi B2 H2 σ2 G2 y H3 e1 e2 en2 hy Q k => ?_
      · rw [← hl]
        exact walk_tup.mono (fun H2 e => ex_t e hs) fun _ _ _ _ _ _ y => y
      · obtain ⟨rfl, hy⟩ := hy
        have hd : ds[i]? = some ds[i] := List.getElem?_eq_getElem hi
        obtain ⟨y', h1, h2⟩ := dps_get ha hd
        have : y = y' := Option.some.inj (hy.symm.trans h1)
        subst this
        refine k _ B2 H3 (.refl e2) ?_ fun vs hv => wipe_set (hv j (List.mem_singleton.mpr rfl))
        show En K B2 _ (G2.set j ds[i]?)
        rw [hd]
        exact en2.set j (.d (dp_ex e1 _ _ h2))
def sgnsOf (s : Str) : List PyData := s.cps.toList.map fun c => .str ⟨#[c]⟩
theorem di_str {s : Str} {j : Nat} (h : DE K te G (.str s)) : DI K (iStr te) (gName j) [j] G s.cps.size (fun i G2 => G2.set j (sgnsOf s)[i]?) := fun σ B H x en R q =>
  h σ B H x en _ fun v B1 H1 g1 r1 => by
    have e := rt_str r1
    subst e
    refine ⟨s, rfl, ?_⟩
    refine q (Its s) B1 H1 (fun i H v H' => H' = H ∧ ∃ c, s.cps[i]? = some c ∧ v = .str ⟨#[c]⟩) g1 ?_ fun i hi B2 H2 σ2 G2 y H3 e1 e2 en2 hy Q k => ?_
    · exact walk_str.mono (fun _ _ => trivial) fun _ _ _ _ _ _ y => y
    · obtain ⟨rfl, c, hc, rfl⟩ := hy
      have hd : (sgnsOf s)[i]? = some (.str ⟨#[c]⟩) := by
        unfold sgnsOf
        rw [List.getElem?_map, Array.getElem?_toList, hc]
        rfl
      refine k _ B2 H3 (.refl e2) ?_ fun vs hv => wipe_set (hv j (List.mem_singleton.mpr rfl))
      show En K _ _ (G2.set j (sgnsOf s)[i]?)
      rw [hd]
      exact en2.set j (.d (.str _))
/-- enumerate(list), target (name, (name, name)) with the items pairs: slots j, k, l -/
theorem di_enumP {ta : TA} {ps : List (PyData × PyData)} {j k l : Nat} (h : DA K ta G [.list (ps.map fun p => .tuple [p.1, p.2])]) :
    DI K (iEnum K ta) (gTup K 2 (gCons (gName j) (gCons (gTup K 2 (gCons (gName k) (gCons (gName l) gNil))) gNil))) [j, k, l] G ps.length
      (fun i G2 => ((G2.set j (some (.int i))).set k (ps[i]?.map (·.1))).set l (ps[i]?.map (·.2))) := fun σ B H x en R q =>
  h σ B H x en _ fun vs B1 H1 g1 r1 => by
    cases r1 with
    | cons r1 r2 =>
      cases r2
      have r1 := r1.dp rfl
      cases r1 with
      | @lst a xs _ hs ha =>
        refine ⟨a, xs, rfl, ex_l g1.sub hs, ?_⟩
        have hl := dps_len ha
        rw [List.length_map] at hl
        refine q (Ite K a) B1 H1 (YPair (fun i => some (.int (i : Nat))) (fun i => xs[i]?)) g1 ?_ fun i hi B2 H2 σ2 G2 y H3 e1 e2 en2 hy Q kk => ?_
        · rw [← hl]
          exact walk_enum.mono (fun H2 e => ex_l e hs) fun _ _ _ _ _ _ y => y
        · obtain ⟨t, y1, y2, rfl, ht, rfl, h1, h2⟩ := hy
          have hd : (ps.map fun p => PyData.tuple [p.1, p.2])[i]? = some (.tuple [ps[i].1, ps[i].2]) := by
            rw [List.getElem?_map, List.getElem?_eq_getElem hi]
            rfl
          obtain ⟨z, h3, h4⟩ := dps_get ha hd
          have ez : y2 = z := Option.some.inj (h2.symm.trans h3)
          have e1' : y1 = .int (i : Nat) := (Option.some.inj h1).symm
          subst ez e1'
          have h4 := dp_ex e1 _ _ h4
          cases h4 with
          | @tup b zs _ hz hza =>
            cases hza with
            | cons q1 hza =>
              cases hza with
              | cons q2 hza =>
                cases hza
                have gn : Go B2 H2 B2 (upd H2 t (.tup [.int (i : Nat), .ref b])) := Go.own e2 ht
                refine ⟨t, _, rfl, .inl (.inl upd_same), rfl, _, _, rfl, _, _, rfl, ⟨b, _, rfl, ex_t gn.sub hz, rfl, _, _, rfl, _, _, rfl, rfl, ?_⟩⟩
                refine ⟨rfl, ?_⟩
                refine kk _ B2 _ gn ?_ fun vs hv => ?_
                · show En K _ _ (((G2.set j (some (.int i))).set k (ps[i]?.map (·.1))).set l (ps[i]?.map (·.2)))
                  rw [List.getElem?_eq_getElem hi]
                  exact ((en2.set j (.d (.int _))).set k (.d q1)).set l (.d q2)
                · rw [wipe_set (hv l (by simp)), wipe_set (hv k (by simp)), wipe_set (hv j (by simp))]
theorem di_range {ta : TA} {m : Int} {j : Nat} (h : DA K ta G [.int m]) (h0 : 0 ≤ m) (h1 : m ≤ 100000) : DI K (iRng1 ta) (gName j) [j] G m.toNat (fun i G2 => G2.set j (some (.int (i : Nat)))) := fun σ B H x en R q =>
  h σ B H x en _ fun vs B1 H1 g1 r1 => by
    cases r1 with
    | cons r1 r2 =>
      cases r2
      have e := rt_int r1
      subst e
      refine ⟨m, rfl, by omega, by omega, ?_⟩
      refine q (Itr 0 m.toNat) B1 H1 (YFn fun i => .int (0 + (i : Nat))) g1 ?_ fun i hi B2 H2 σ2 G2 y H3 e1 e2 en2 hy Q k => ?_
      · exact walk_range.mono (fun _ _ => trivial) fun _ _ _ _ _ _ y => y
      · obtain ⟨rfl, rfl⟩ := hy
        show gName j (V.int (0 + (i : Int))) σ2 H3 Q
        rw [Int.zero_add]
        exact k _ B2 H3 (.refl e2) (en2.set j (.d (.int _))) fun vs hv => wipe_set (hv j (List.mem_singleton.mpr rfl))
/-- what a comprehension has made -/
def madeG (p : Nat → Bool) (d : Nat → PyData) (i : Nat) : List PyData := ((List.range i).filter p).map d
theorem madeG_yes {p : Nat → Bool} {d : Nat → PyData} {i : Nat} (h : p i = true) : madeG p d (i + 1) = madeG p d i ++ [d i] := by
  unfold madeG
  rw [List.range_succ, List.filter_append, List.map_append, List.filter_cons, if_pos h]
  rfl
theorem madeG_no {p : Nat → Bool} {d : Nat → PyData} {i : Nat} (h : p i = false) : madeG p d (i + 1) = madeG p d i := by
  unfold madeG
  rw [List.range_succ, List.filter_append, List.map_append, List.filter_cons, if_neg (by rw [h]; exact Bool.false_ne_true)]
  exact List.append_nil _
theorem madeG_len (p : Nat → Bool) (d : Nat → PyData) (i : Nat) : (madeG p d i).length ≤ i := by
  unfold madeG
  rw [List.length_map]
  have h := List.length_filter_le p (List.range i)
  rw [List.length_range] at h
  exact h
structure LcI (K : PySem.W.Frag) (B1 H1 : Hp) (D : Addr) (ds : List PyData) (B' H' : Hp) : Prop where
  go : Go B1 H1 B' H'
  nD : B' D = none
  acc : ∃ vs, H' D = some (.lst vs) ∧ DpAll K B' vs ds
theorem LcI.step {B1 H1 B' H' B2 H2 : Hp} {D : Addr} {ds : List PyData} (p : LcI K B1 H1 D ds B' H') (g : Go B' H' B2 H2) : LcI K B1 H1 D ds B2 H2 := by
  obtain ⟨vs, h1, h2⟩ := p.acc
  exact ⟨p.go.trans g, g.fr D _ h1 p.nD, vs, g.eh D _ h1, dps_ex g.eb _ _ h2⟩
theorem LcI.app {B1 H1 B' H' : Hp} {D : Addr} {ds : List PyData} {y : V} {d : PyData} (p : LcI K B1 H1 D ds B' H') (n1 : H1 D = none) (hl : ds.length ≤ 2000) (r : Dp K B' y d) :
    ∃ acc, H' D = some (.lst acc) ∧ acc.length < sizeLine ∧ LcI K B1 H1 D (ds ++ [d]) B' (upd H' D (.lst (acc ++ [y]))) := by
  obtain ⟨vs, h1, h2⟩ := p.acc
  have hlen := dps_len h2
  refine ⟨vs, h1, Nat.lt_of_le_of_lt (by rw [hlen]; exact hl) (by decide), ⟨⟨p.go.eb, Evl.Ex.mut p.go.eh n1, Evl.Ex.mut p.go.sub p.nD, p.go.fr⟩, p.nD, _, upd_same, dps_snoc r h2⟩⟩
theorem de_lcX {vs : List Nat} (p : Nat → Bool) (d : Nat → PyData) (hi : DI K wi g T G n ff) (hT : ∀ j ∈ T, j ∈ vs) (ht : ∀ i, i < n → DT K tt (ff i (wipeG G vs)) (p i)) (he : ∀ i, i < n → p i = true → DE K te (ff i (wipeG G vs)) (d i))
    (hp : ∀ i, i < n → p i = true → plain (d i) = true) (hn : n ≤ 2000) : DE K (tLc wi g tt te vs) G (listX (madeG p d n)) := fun σ B H x en Q q =>
  hi σ B H x en _ fun J B1 H1 Y g1 W turn => fun D hD => by
    refine lc_it W (fun i H' => ∃ B', LcI K B1 H1 D (madeG p d i) B' H') ⟨B1, Go.own g1.sub hD, sub_none g1.sub hD, [], upd_same, .nil⟩ (fun i H' _ ⟨B', p'⟩ => p'.go.eb.trans p'.go.sub) (fun i y H2 H3 hil ⟨B2, p2⟩ hy => ?_) (fun H2 ⟨B2, p2⟩ => ?_)
    · refine turn i hil B2 H2 (wipe σ vs) (wipeG G vs) y H3 p2.go.eb p2.go.sub ((en.ex (g1.eb.trans p2.go.eb)).wipe vs) hy _ fun σ' B3 H4 g3 en3 hw => ⟨?_, ?_⟩
      · exact (hw vs hT).trans (wipe_wipe fun _ h => h)
      · have p3 := p2.step g3
        refine ht i hil σ' B3 H4 g3.sub en3 _ fun B4 H5 g4 => ?_
        have p4 := p3.step g4
        cases hpi : p i with
        | true =>
          rw [if_pos rfl]
          refine he i hil hpi σ' B4 H5 g4.sub (en3.ex g4.eb) _ fun z B5 H6 g5 r5 => ?_
          have p5 := p4.step g5
          obtain ⟨acc, h1, h2, h3⟩ := p5.app hD (Nat.le_trans (madeG_len p d i) (by omega)) (r5.dp (hp i hil hpi))
          refine ⟨acc, h1, h2, B5, ?_⟩
          rw [madeG_yes hpi]
          exact h3
        | false =>
          rw [if_neg Bool.false_ne_true]
          refine ⟨B4, ?_⟩
          rw [madeG_no hpi]
          exact p4
    · obtain ⟨vs', h1, h2⟩ := p2.acc
      have gg : Go B H (upd B2 D (.lst vs')) H2 := by
        have g2 := g1.trans p2.go
        refine ⟨g2.eb.trans (Evl.Ex.new p2.nD), g2.eh, fun a o e => ?_, fun a o e nb => ?_⟩
        · by_cases ha : a = D
          · subst ha
            rw [upd_same] at e
            rw [← e]
            exact h1
          · rw [upd_ne ha] at e
            exact g2.sub a o e
        · have ha : a ≠ D := by
            intro z
            subst z
            have := Evl.fresh_back g1.eh hD
            rw [this] at e
            cases e
          rw [upd_ne ha]
          exact g2.fr a o e nb
      exact q _ _ _ gg (.lstX upd_same (dps_ex (Evl.Ex.new p2.nD) _ _ h2))
theorem de_lc {vs : List Nat} (p : Nat → Bool) (d : Nat → PyData) (hi : DI K wi g T G n ff) (hT : ∀ j ∈ T, j ∈ vs) (ht : ∀ i, i < n → DT K tt (ff i (wipeG G vs)) (p i)) (he : ∀ i, i < n → p i = true → DE K te (ff i (wipeG G vs)) (d i))
    (hp : ∀ i, i < n → p i = true → plain (d i) = true) (hn : n ≤ 2000) : DE K (tLc wi g tt te vs) G (.list (madeG p d n)) := de_ofX (de_lcX p d hi hT ht he hp hn)
theorem dt_yes : DT K tYes G true := fun σ B H x en Q q => q B H (.refl x)
/-- a for: every turn goes on -/
theorem ds_for {tb : TS} (Gs : Nat → List (Option PyData)) (hi : DI K wi g T G n ff) (h0 : Gs 0 = G) (hs : ∀ i, i < n → DS K tb (ff i (Gs i)) (.nx (Gs (i + 1)))) : DS K (tFor wi g tb) G (.nx (Gs n)) := fun D σ B H x en q =>
  hi σ B H x en _ fun J B1 H1 Y g1 W turn => by
    refine for_it W (fun i σ' H' => ∃ B', Go B1 H1 B' H' ∧ En K B' σ' (Gs i)) ⟨B1, .refl g1.sub, by rw [h0]; exact en.ex g1.eb⟩ (fun i σ' H' _ ⟨B', p'⟩ => p'.1.eb.trans p'.1.sub) (fun i y σ2 H2 H3 hil ⟨B2, p2, en2⟩ hy => ?_) (fun σ2 H2 ⟨B2, p2, en2⟩ => ?_)
    · refine turn i hil B2 H2 σ2 (Gs i) y H3 p2.eb p2.sub en2 hy _ fun σ' B3 H4 g3 en3 hw => ?_
      exact hs i hil _ σ' B3 H4 g3.sub en3 fun σ5 B5 H5 g5 en5 => ⟨B5, p2.trans (g3.trans g5), en5⟩
    · exact q σ2 B2 H2 (g1.trans p2) en2
/-- a for that returns at turn m -/
theorem ds_forR {tb : TS} {d : PyData} (m : Nat) (Gs : Nat → List (Option PyData)) (hi : DI K wi g T G n ff) (hm : m < n) (h0 : Gs 0 = G) (hs : ∀ i, i < m → DS K tb (ff i (Gs i)) (.nx (Gs (i + 1)))) (hr : DS K tb (ff m (Gs m)) (.rt d)) : DS K (tFor wi g tb) G (.rt d) := fun D σ B H x en q =>
  hi σ B H x en _ fun J B1 H1 Y g1 W turn => by
    refine for_it W (fun i σ' H' => i ≤ m ∧ ∃ B', Go B1 H1 B' H' ∧ En K B' σ' (Gs i)) ⟨Nat.zero_le _, B1, .refl g1.sub, by rw [h0]; exact en.ex g1.eb⟩ (fun i σ' H' _ ⟨_, B', p'⟩ => p'.1.eb.trans p'.1.sub) (fun i y σ2 H2 H3 hil ⟨him, B2, p2, en2⟩ hy => ?_) (fun σ2 H2 ⟨him, B2, p2, en2⟩ => absurd him (by omega))
    refine turn i hil B2 H2 σ2 (Gs i) y H3 p2.eb p2.sub en2 hy _ fun σ' B3 H4 g3 en3 hw => ?_
    by_cases e : i = m
    · subst e
      exact hr _ σ' B3 H4 g3.sub en3 fun v B5 H5 g5 r5 => q v B5 H5 (g1.trans (p2.trans (g3.trans g5))) r5
    · exact hs i (by omega) _ σ' B3 H4 g3.sub en3 fun σ5 B5 H5 g5 en5 => ⟨by omega, B5, p2.trans (g3.trans g5), en5⟩
end
/-! ### dicts -/
section
variable {K : PySem.W.Frag} {G : List (Option PyData)} {te td : TE} {kvs : List (Str × PyData)}
def look (kvs : List (Str × PyData)) (k : Str) : Option PyData := (kvs.find? fun q => decide (q.1 = k)).map (·.2)
theorem kr_look {B : Hp} {k : Str} : ∀ {ks : List (Key × V)} {kvs : List (Str × PyData)}, KR K B ks kvs → (valV ks (Sum.inr k : Key) = none ∧ look kvs k = none) ∨ ∃ v d, valV ks (Sum.inr k : Key) = some v ∧ look kvs k = some d ∧ Dp K B v d
  | _, _, .nil => .inl ⟨rfl, rfl⟩
  | (a, v) :: ks, (b, d) :: kvs, .cons r t => by
    obtain ⟨r1, r2⟩ := r
    simp only at r1 r2
    subst r1
    unfold valV look
    simp only [List.find?_cons]
    by_cases e : b = k
    · subst e
      refine .inr ⟨v, d, ?_, ?_, r2⟩ <;> simp
    · have e1 : decide ((Sum.inr b : Key) = Sum.inr k) = false := by simp [e]
      have e2 : decide (b = k) = false := by simp [e]
      rw [e1, e2]
      exact kr_look t
theorem de_dget {k : Str} {d : PyData} (h : DE K td G (dictOf kvs)) (hk : DE K te G (.str k)) (hl : look kvs k = some d) : DE K (tDGet td te) G d := fun σ B H x en Q q =>
  h σ B H x en _ fun v B1 H1 g1 r1 => hk σ B1 H1 g1.sub (en.ex g1.eb) _ fun y B2 H2 g2 r2 => by
    obtain ⟨a, ks, rfl, e1, kr, nd⟩ := rt_dict (r1.ex g2.eb)
    have := rt_str r2
    subst this
    rcases kr_look (k := k) kr with ⟨_, e⟩ | ⟨v, d', h1, h2, h3⟩
    · rw [e] at hl; cases hl
    · have : d = d' := Option.some.inj (hl.symm.trans h2)
      subst this
      exact ⟨a, v, rfl, .inl ⟨ks, Sum.inr k, ex_rd g2.sub e1, rfl, h1.symm⟩, q v B2 H2 (g1.trans g2) (.d h3)⟩
theorem de_din {k : Str} (h : DE K td G (dictOf kvs)) (hk : DE K te G (.str k)) : DE K (tDIn te td) G (.bool (look kvs k).isSome) := fun σ B H x en Q q =>
  hk σ B H x en _ fun y B1 H1 g1 r1 => h σ B1 H1 g1.sub (en.ex g1.eb) _ fun v B2 H2 g2 r2 => by
    obtain ⟨a, ks, rfl, e1, kr, nd⟩ := rt_dict r2
    have := rt_str r1
    subst this
    refine ⟨a, valV ks (Sum.inr k : Key), rfl, .inl ⟨ks, Sum.inr k, ex_rd g2.sub e1, rfl, rfl⟩, ?_⟩
    have e : (valV ks (Sum.inr k : Key)).isSome = (look kvs k).isSome := by
      rcases kr_look (k := k) kr with ⟨e1, e2⟩ | ⟨v, d', h1, h2, h3⟩
      · rw [e1, e2]; rfl
      · rw [h1, h2]; rfl
    rw [e]
    exact q _ B2 H2 (g1.trans g2) (.d (.bl _))
end
/-! ### a dict that is locked -/
section
variable {K : PySem.W.Frag} {B H : Hp} {a : Addr} {ks : List (Key × V)} {od : Obj}
theorem rd_lock {b : Addr} {u : HO} (e : B a = some (.dK ks)) (h : Rd B b u) : Rd (upd B a (.frz od (.dK ks))) b u := by
  by_cases hb : b = a
  · subst hb
    rcases h with h | ⟨o, h⟩
    · rw [e] at h
      cases h
      exact .inr ⟨od, upd_same⟩
    · rw [e] at h
      cases h
  · rcases h with h | ⟨o, h⟩
    · exact .inl (by rw [upd_ne hb]; exact h)
    · exact .inr ⟨o, by rw [upd_ne hb]; exact h⟩
theorem rd_unlock {b : Addr} {u : HO} (e : B a = some (.frz od (.dK ks))) (hu : ∀ o w, u ≠ .frz o w) (h : Rd B b u) : Rd (upd B a (.dK ks)) b u := by
  by_cases hb : b = a
  · subst hb
    rcases h with h | ⟨o, h⟩
    · rw [e] at h
      cases h
      exact (hu _ _ rfl).elim
    · rw [e] at h
      cases h
      exact .inl upd_same
  · rcases h with h | ⟨o, h⟩
    · exact .inl (by rw [upd_ne hb]; exact h)
    · exact .inr ⟨o, by rw [upd_ne hb]; exact h⟩
mutual
theorem dp_rd {B B' : Hp} (r : ∀ b u, (∀ o w, u ≠ .frz o w) → Rd B b u → Rd B' b u) : ∀ (d : PyData) (v : V), Dp K B v d → Dp K B' v d
  | .none, _, h => by cases h; exact .non
  | .bool b, _, h => by cases h; exact .bl b
  | .int i, _, h => by cases h; exact .int i
  | .str s, _, h => by cases h; exact .str s
  | .list ds, _, h => by
    cases h with
    | lst hs ha =>
      refine .lst ?_ (dps_rd r ds _ ha)
      rcases hs with hs | hs
      · exact .inl (r _ _ (fun _ _ z => nomatch z) hs)
      · exact .inr hs
  | .tuple ds, _, h => by
    cases h with
    | tup hs ha =>
      refine .tup ?_ (dps_rd r ds _ ha)
      rcases hs with hs | hs
      · exact .inl (r _ _ (fun _ _ z => nomatch z) hs)
      · exact .inr hs
  | .dict _, _, h => by cases h
theorem dps_rd {B B' : Hp} (r : ∀ b u, (∀ o w, u ≠ .frz o w) → Rd B b u → Rd B' b u) : ∀ (ds : List PyData) (vs : List V), DpAll K B vs ds → DpAll K B' vs ds
  | [], _, h => by cases h; exact .nil
  | d :: ds, _, h => by
    cases h with
    | cons h1 h2 => exact .cons (dp_rd r d _ h1) (dps_rd r ds _ h2)
end
theorem kr_rd {B B' : Hp} (r : ∀ b u, (∀ o w, u ≠ .frz o w) → Rd B b u → Rd B' b u) : ∀ {ks : List (Key × V)} {kvs : List (Str × PyData)}, KR K B ks kvs → KR K B' ks kvs
  | _, _, .nil => .nil
  | _, _, .cons q t => .cons ⟨q.1, dp_rd r _ _ q.2⟩ (kr_rd r t)
/-- the slots of which nothing is lost when a dict is locked -/
def keepP : Option PyData → Option PyData
  | some d => if plain d = true then some d else none
  | none => none
theorem en_rd {B B' : Hp} {σ : L2.St} {G : List (Option PyData)} (r : ∀ b u, (∀ o w, u ≠ .frz o w) → Rd B b u → Rd B' b u) (h : En K B σ G) : En K B' σ (G.map keepP) :=
  ⟨by rw [List.length_map, h.len], fun i d q => by
    rw [List.getElem?_map] at q
    cases e : G[i]? with
    | none => rw [e] at q; cases q
    | some od =>
      rw [e] at q
      cases od with
      | none => simp [keepP] at q
      | some x =>
        simp only [Option.map_some, keepP, Option.some.injEq] at q
        split at q
        · rename_i hp
          cases q
          obtain ⟨v, h1, h2⟩ := h.get i d e
          exact ⟨v, h1, .d (dp_rd r _ _ (h2.dp hp))⟩
        · cases q⟩
theorem ex_lock (x : Ex B H) (e : B a = some (.dK ks)) : Ex (upd B a (.frz od (.dK ks))) (upd H a (.frz od (.dK ks))) := fun b o h => by
  by_cases hb : b = a
  · subst hb
    rw [upd_same] at h ⊢
    exact h
  · rw [upd_ne hb] at h ⊢
    exact x b o h
theorem go_unlock {B' H' : Hp} (x : Ex B H) (e : B a = some (.dK ks)) (g : Go (upd B a (.frz od (.dK ks))) (upd H a (.frz od (.dK ks))) B' H') : Go B H (upd B' a (.dK ks)) (upd H' a (.dK ks)) := by
  refine ⟨fun b o h => ?_, fun b o h => ?_, fun b o h => ?_, fun b o h nb => ?_⟩
  · by_cases hb : b = a
    · subst hb
      rw [e] at h
      rw [upd_same]
      exact h
    · rw [upd_ne hb]
      exact g.eb b o (by rw [upd_ne hb]; exact h)
  · by_cases hb : b = a
    · subst hb
      rw [x _ _ e] at h
      rw [upd_same]
      exact h
    · rw [upd_ne hb]
      exact g.eh b o (by rw [upd_ne hb]; exact h)
  · by_cases hb : b = a
    · subst hb
      rw [upd_same] at h ⊢
      exact h
    · rw [upd_ne hb] at h ⊢
      exact g.sub b o h
  · have hb : b ≠ a := by
      intro z
      subst z
      rw [e] at nb
      cases nb
    rw [upd_ne hb]
    exact g.fr b o (by rw [upd_ne hb]; exact h) (by rw [upd_ne hb]; exact nb)
end
section
variable {K : PySem.W.Frag} {G : List (Option PyData)} {te td : TE} {kvs : List (Str × PyData)}
def keyD (kvs : List (Str × PyData)) (i : Nat) : Option PyData := kvs[i]?.map fun q => .str q.1
def valD (kvs : List (Str × PyData)) (i : Nat) : Option PyData := kvs[i]?.map fun q => q.2
theorem kr_get {B : Hp} {ks : List (Key × V)} {kvs : List (Str × PyData)} (h : KR K B ks kvs) : ∀ {i : Nat} {k : Key} {v : V}, ks[i]? = some (k, v) → ∃ s d, kvs[i]? = some (s, d) ∧ k = Sum.inr s ∧ Dp K B v d := by
  induction h with
  | nil => intro i k v e; simp at e
  | @cons p q l1 l2 r t ih =>
    intro i k v e
    cases i with
    | zero =>
      simp at e
      subst e
      exact ⟨q.1, q.2, rfl, r.1, r.2⟩
    | succ i =>
      obtain ⟨s, d, h1, h2, h3⟩ := ih (i := i) (by simpa using e)
      exact ⟨s, d, by simpa using h1, h2, h3⟩
theorem di_keys {a : Addr} {j : Nat} (h : DE K td G (dictL a kvs)) : DI K (iKeys td) (gName j) [j] G kvs.length (fun i G2 => G2.set j (keyD kvs i)) := fun σ B H x en R q =>
  h σ B H x en _ fun v B1 H1 g1 r1 => by
    obtain ⟨o, ks, rfl, e, kr, nd⟩ := rt_dictL r1
    refine ⟨a, o, rfl, .inl ⟨ks, g1.sub _ _ e, ?_⟩⟩
    have hl : ks.length = kvs.length := Paired.length kr
    refine q _ B1 H1 (fun i H x H' => H' = H ∧ ∃ k v, ks[i]? = some (k, v) ∧ x = kV k) g1 ?_ fun i hi B2 H2 σ2 G2 y H3 e1 e2 en2 hy Q k => ?_
    · rw [← hl]
      exact walk_keys.mono (fun H2 ee => ee _ _ e) fun _ _ _ _ _ _ y => y
    · obtain ⟨rfl, ky, v, hk, rfl⟩ := hy
      obtain ⟨s, d, h1, rfl, h3⟩ := kr_get kr hk
      refine k _ B2 H3 (.refl e2) ?_ fun vs hv => wipe_set (hv j (List.mem_singleton.mpr rfl))
      show En K B2 _ (G2.set j (keyD kvs i))
      unfold keyD
      rw [h1]
      exact en2.set j (.d (.str s))
theorem di_vals {a : Addr} {j : Nat} (h : DE K td G (dictL a kvs)) : DI K (iVals td) (gName j) [j] G kvs.length (fun i G2 => G2.set j (valD kvs i)) := fun σ B H x en R q =>
  h σ B H x en _ fun v B1 H1 g1 r1 => by
    obtain ⟨o, ks, rfl, e, kr, nd⟩ := rt_dictL r1
    refine ⟨a, o, ks, rfl, g1.sub _ _ e, ?_⟩
    have hl : ks.length = kvs.length := Paired.length kr
    refine q _ B1 H1 (fun i H x H' => H' = H ∧ ∃ k, ks[i]? = some (k, x)) g1 ?_ fun i hi B2 H2 σ2 G2 y H3 e1 e2 en2 hy Q k => ?_
    · rw [← hl]
      exact walk_values.mono (fun H2 ee => ee _ _ e) fun _ _ _ _ _ _ y => y
    · obtain ⟨rfl, ky, hk⟩ := hy
      obtain ⟨s, d, h1, rfl, h3⟩ := kr_get kr hk
      refine k _ B2 H3 (.refl e2) ?_ fun vs hv => wipe_set (hv j (List.mem_singleton.mpr rfl))
      show En K B2 _ (G2.set j (valD kvs i))
      unfold valD
      rw [h1]
      exact en2.set j (.d (dp_ex e1 _ _ h3))
def lockG (G : List (Option PyData)) (i : Nat) (a : Addr) (kvs : List (Str × PyData)) : List (Option PyData) := (G.map keepP).set i (some (dictL a kvs))
def unlockG (G : List (Option PyData)) (i : Nat) (kvs : List (Str × PyData)) : List (Option PyData) := (G.map keepP).set i (some (dictU kvs))
theorem en_setV {B : Hp} {σ : L2.St} {G : List (Option PyData)} {v : V} {d : PyData} {i : Nat} (h : En K B σ G) (hv : σ[i]? = some (some v)) (r : Rt K B v d) : En K B σ (G.set i (some d)) := by
  refine ⟨by rw [List.length_set, h.len], fun j e q => ?_⟩
  by_cases hij : i = j
  · subst hij
    have hl : i < G.length := by
      have := (List.getElem?_eq_some_iff.mp q).1
      simpa using this
    rw [List.getElem?_set_self hl] at q
    cases q
    exact ⟨v, hv, r⟩
  · rw [List.getElem?_set_ne hij] at q
    exact h.get j e q
theorem go_lock {B H : Hp} {σ : L2.St} {i : Nat} (x : Ex B H) (en : En K B σ G) (hG : G[i]? = some (some (dictU kvs))) :
    ∃ a ks, σ[i]? = some (some (.ref a)) ∧ B a = some (.dK ks) ∧ KR K B ks kvs ∧ (kvs.map (·.1)).Nodup ∧ ∀ od, Ex (upd B a (.frz od (.dK ks))) (upd H a (.frz od (.dK ks))) ∧ En K (upd B a (.frz od (.dK ks))) σ (lockG G i a kvs) := by
  obtain ⟨v, h1, h2⟩ := en.get i _ hG
  obtain ⟨a, ks, rfl, e, kr, nd⟩ := rt_dictU h2
  refine ⟨a, ks, h1, e, kr, nd, fun od => ⟨ex_lock x e, ?_⟩⟩
  have r : ∀ b u, (∀ o w, u ≠ .frz o w) → Rd B b u → Rd (upd B a (.frz od (.dK ks))) b u := fun b u _ h => rd_lock e h
  exact en_setV (en_rd r en) h1 (.dictL upd_same (kr_rd r kr) nd)
theorem de_lock {i : Nat} {t : TE} {d : PyData} (hG : G[i]? = some (some (dictU kvs))) (hp : plain d = true) (h : ∀ a, DE K t (lockG G i a kvs) d) : DE K (tLockE t) G d := fun σ B H x en Q q => by
  obtain ⟨a, ks, hv, e, kr, nd, lk⟩ := go_lock x en hG
  refine ⟨a, .dK ks, x _ _ e, trivial, fun od => ?_⟩
  obtain ⟨x1, en1⟩ := lk od
  refine h a σ _ _ x1 en1 _ fun v B' H' g r => ⟨g.eh _ _ upd_same, ?_⟩
  refine q v _ _ (go_unlock x e g) (.d (dp_rd (fun b u hu hr => rd_unlock (g.eb _ _ upd_same) hu hr) _ _ (r.dp hp)))
theorem ds_lock {i : Nat} {t : TS} {Gn : Addr → List (Option PyData)} {Go' : List (Option PyData)} (hG : G[i]? = some (some (dictU kvs))) (hn : ∀ a, (Gn a)[i]? = some (some (dictL a kvs))) (hu : ∀ a, unlockG (Gn a) i kvs = Go') (h : ∀ a, DS K t (lockG G i a kvs) (.nx (Gn a))) : DS K (tLock t) G (.nx Go') := fun D σ B H x en q => by
  obtain ⟨a, ks, hv, e, kr, nd, lk⟩ := go_lock x en hG
  refine ⟨a, .dK ks, x _ _ e, trivial, fun od => ?_⟩
  obtain ⟨x1, en1⟩ := lk od
  refine h a _ σ _ _ x1 en1 fun σ' B' H' g en' => ⟨g.eh _ _ upd_same, ?_⟩
  have r : ∀ b u, (∀ o w, u ≠ .frz o w) → Rd B' b u → Rd (upd B' a (.dK ks)) b u := fun b u hu hr => rd_unlock (g.eb _ _ upd_same) hu hr
  obtain ⟨v, h1, h2⟩ := en'.get i _ (hn a)
  obtain ⟨o2, ks2, rfl, e2, kr2, _⟩ := rt_dictL h2
  have e3 : B' a = some (.frz od (.dK ks)) := g.eb _ _ upd_same
  rw [e3] at e2
  cases e2
  refine q σ' _ _ (go_unlock x e g) ?_
  rw [← hu a]
  exact en_setV (en_rd r en') h1 (.dictU upd_same (kr_rd r kr2) nd)
/-- truth of a dict -/
theorem dt_dict {ta : TE} (h : DE K ta G (dictU kvs)) : DT K (fun σ H Q => ta σ H fun x H' => ∃ k, TruV K x H' k ∧ Q k H') G (!kvs.isEmpty) := fun σ B H x en Q q => h σ B H x en _ fun v B' H' g r => by
  obtain ⟨a, ks, rfl, e, kr, nd⟩ := rt_dictU r
  refine ⟨!kvs.isEmpty, .inr (.inr ⟨ks, g.sub _ _ e, ?_⟩), q B' H' g⟩
  have hl : ks.length = kvs.length := Paired.length kr
  cases ks <;> cases kvs <;> simp at hl ⊢
end
end FC
namespace FC
open PySem PySem.Spec PyProof.Rows L2
open Evl (Ex)
/-- the promise of a def: R tells which data it hands back for which arguments; nothing that stood is changed -/
def spR (K : PySem.W.Frag) (R : List PyData → PyData → Prop) : Sp := fun vs H Q _ =>
  ∃ B ds out, Ex B H ∧ RtA K B vs ds ∧ R ds out ∧ ∀ v B' H', Go B H B' H' → Rt K B' v out → Q v H'
section
variable {K : PySem.W.Frag} {G : List (Option PyData)} {R : List PyData → PyData → Prop} {ta : TA} {d : PyData} {ds : List PyData} {E : XK}
theorem spR_len {n : Nat} (hn : ∀ ds d, R ds d → ds.length = n) (vs : List V) (H : Hp) (Q : VK) (E : XK) (h : spR K R vs H Q E) : vs.length = n := by
  obtain ⟨B, ds, d, _, r, hR, _⟩ := h
  rw [Paired.length r, hn ds d hR]
theorem de_call' (h : DA K ta G ds) (hR : R ds d) : DE K (tCall (spR K R) [] E ta) G d := fun σ B H x en Q q =>
  h σ B H x en _ fun vs B1 H1 g1 r1 => by
    rw [List.append_nil]
    exact ⟨B1, ds, d, g1.sub, r1, hR, fun v B' H' g2 r2 => q v B' H' (g1.trans g2) r2⟩
theorem fin_rt {N : List Str} {ts : TS} {vs : List V} {B H : Hp} {Q : VK} (h : DS K ts (startG N ds) (.rt d)) (x : Ex B H) (r : RtA K B vs ds) (q : ∀ v B' H', Go B H B' H' → Rt K B' v d → Q v H') :
    ts { nx := fun _ H' => Q .non H', rt := Q } (start N vs) H := h _ _ B H x (En.start r) q
theorem fin_nx {N : List Str} {G' : List (Option PyData)} {ts : TS} {vs : List V} {B H : Hp} {Q : VK} (h : DS K ts (startG N ds) (.nx G')) (x : Ex B H) (r : RtA K B vs ds) (q : ∀ v B' H', Go B H B' H' → Rt K B' v .none → Q v H') :
    ts { nx := fun _ H' => Q .non H', rt := Q } (start N vs) H := h _ _ B H x (En.start r) fun σ' B' H' g _ => q _ B' H' g (.d .non)
theorem ds_is {t : TS} {r r' : Out} (h : DS K t G r) (e : r = r') : DS K t G r' := e ▸ h
end
end FC
namespace FP
open PySem PySem.Spec PyProof.Rows L2 FC
open Evl (Ex)
def topS (i : Nat) : Stmt := PySem.Challenge.pw_firstclause_k95_books_by_name.main.body.getD i (.Pass ⟨0, 0, 0, 0⟩)
abbrev s_is_whole : Stmt := topS 10
abbrev s_is_name : Stmt := topS 12
abbrev s_is_sound : Stmt := topS 15
abbrev s_is_kind : Stmt := topS 18
abbrev s_is_kinds : Stmt := topS 19
abbrev s_is_form : Stmt := topS 20
abbrev s_is_bounds : Stmt := topS 21
abbrev s_all_have_values : Stmt := topS 24
abbrev s_can_be_built : Stmt := topS 25
/-- the built-ins that the module leaves as they are -/
structure Bl (mg : Str → Option Value) : Prop where
  isi : mg "isinstance" = none
  len : mg "len" = none
  all : mg "all" = none
  int : mg "int" = none
  bool : mg "bool" = none
  str : mg "str" = none
  tuple : mg "tuple" = none
  list : mg "list" = none
  dict : mg "dict" = none
  enum : mg "enumerate" = none
  range : mg "range" = none
  max : mg "max" = none
  sum : mg "sum" = none
section
variable {X : Cx} {a e : Expr} {ta te : TE} {p pos pos2 : Pos}
theorem k_isi {T : Str} {n : String} (h : PE X a ta) (hg : Gl X "isinstance") (hm : X.mg "isinstance" = none) (hgT : Gl X T) (hmT : X.mg T = none) (hv : bootBuiltins T = some (.type n)) (hn : T ≠ "__name__") (hdb : (T == ("__debug__" : Str)) = false)
    (hs : starEach [a, .Name T pos2] X.env = (false, eval a X.env) :: starEach [.Name T pos2] X.env := by rfl) (hs2 : starEach [.Name T pos2] X.env = (false, eval (.Name T pos2) X.env) :: starEach [] X.env := by rfl) :
    PE X (.Call (.Name "isinstance" p) [a, .Name T pos2] [] pos) (tCB (rIsi X.K) (tCons ta (tCons (tC (.ty n)) tNil))) :=
  pe_callB call_isi hg hm PyProof.Rows.boot_isinstance (pa_cons h (pa_cons (pe_bltn hgT hmT hv rfl hn hdb) pa_nil hs2) hs) (he := hs)
end
theorem kii : kitB "int" "int" = some true := by decide +kernel
theorem kib : kitB "int" "bool" = some false := by decide +kernel
theorem kbi : kitB "bool" "int" = some true := by decide +kernel
theorem kbb : kitB "bool" "bool" = some true := by decide +kernel
theorem kni : kitB "NoneType" "int" = some false := by decide +kernel
theorem ksi : kitB "str" "int" = some false := by decide +kernel
theorem kli : kitB "list" "int" = some false := by decide +kernel
theorem kti : kitB "tuple" "int" = some false := by decide +kernel
theorem kdi : kitB "dict" "int" = some false := by decide +kernel
theorem kss : kitB "str" "str" = some true := by decide +kernel
theorem ktt : kitB "tuple" "tuple" = some true := by decide +kernel
theorem kll : kitB "list" "list" = some true := by decide +kernel
theorem kdd : kitB "dict" "dict" = some true := by decide +kernel
/-! ### the mirrors -/
def isWhole : PyData → Bool
  | .int _ => true
  | _ => false
def sgn (s : Str) (i : Nat) : Str := ⟨#[s.cps.getD i 0]⟩
def sgnOk (z : Str) : Bool := (!decide (z.cps.toList < ("a" : Str).cps.toList)) && !decide (("z" : Str).cps.toList < z.cps.toList)
def isNameS (s : Str) : Bool := decide ((1 : Int) ≤ s.length) && decide ((s.length : Int) ≤ 10) && ((List.range s.cps.size).map fun i => sgnOk (sgn s i)).all id
/-! ### which data for which arguments -/
def Rw_is_whole : List PyData → PyData → Prop := fun ds o => ∃ d, ds = [d] ∧ o = .bool (isWhole d)
def Rw_is_name : List PyData → PyData → Prop := fun ds o => ∃ s, ds = [.str s] ∧ isNameS s = true ∧ o = .bool true
def Rw_is_kind : List PyData → PyData → Prop := fun ds o => ∃ kvs s, ds = [dictOf kvs, .str s] ∧ o = .bool (look kvs s).isSome
def Rw_is_bounds : List PyData → PyData → Prop := fun ds o => ∃ i j, ds = [.int i, .int j] ∧ o = .bool (decide (i ≤ j))
inductive OkForm (kvs : List (Str × PyData)) : PyData → Prop where
  | nums {lo hi : Int} (h : lo ≤ hi) : OkForm kvs (.tuple [.str "numbers", .int lo, .int hi])
  | rows {s : Str} (h : (look kvs s).isSome = true) : OkForm kvs (.tuple [.str "rows", .str s])
def Rw_is_form : List PyData → PyData → Prop := fun ds o => ∃ kvs d, ds = [dictOf kvs, d] ∧ OkForm kvs d ∧ o = .bool true
structure KindsOk (kvs : List (Str × PyData)) : Prop where
  ne : kvs ≠ []
  few : kvs.length ≤ 100
  nm : ∀ q ∈ kvs, isNameS q.1 = true
  fm : ∀ q ∈ kvs, OkForm kvs q.2
  nd : (kvs.map (·.1)).Nodup
def Rw_is_kinds : List PyData → PyData → Prop := fun ds o => ∃ kvs, ds = [dictU kvs] ∧ KindsOk kvs ∧ o = .bool true
def Rw_all_have_values : List PyData → PyData → Prop := Rw_is_kinds
def Rw_can_be_built : List PyData → PyData → Prop := fun ds o => ∃ kvs d e, ds = [d, e] ∧ OkForm kvs d ∧ o = .bool true
section
variable {P : Program} {w : World} {K : PySem.W.Frag} {mg : Str → Option Value} {base : Heap} {f : Addr} {fd : FuncData}
theorem sc_is_whole : FnScope ["thing"] ["thing"] (defScope s_is_whole) := ⟨rfl, rfl, rfl, by decide +kernel, rfl, by decide +kernel, by decide +kernel⟩
theorem ok_is_whole (F : Fun K "is_whole" "is_whole" s_is_whole f fd) (M : Bl mg) : FnOk P w K mg base CX0 1 f fd ["thing"] (spR K Rw_is_whole) := by
  refine F.ok sc_is_whole (spR_len (by rintro _ _ ⟨d, rfl, _⟩; rfl)) (fun cdv A outer s H vs Q E hr h => ?_)
  obtain ⟨B, ds, o, x, r, ⟨d, rfl, rfl⟩, q⟩ := h
  refine ⟨_, pss_one (ps_ret (pe_and (k_isi (pv 0) (by rfl) M.isi (by rfl) M.int PyProof.Rows.boot_int (by decide) (by decide)) (pe_one (pe_not (k_isi (pv 0) (by rfl) M.isi (by rfl) M.bool PyProof.Rows.boot_bool (by decide) (by decide)))))), ?_⟩
  refine fin_rt (ds_ret ?_) x r q
  show DE K _ [some d] _
  cases d with
  | int i => exact de_is (de_and (de_ty (de_var rfl) rfl kii) fun _ => de_not (de_ty (de_var rfl) rfl kib)) rfl
  | bool b => exact de_is (de_and (de_ty (de_var rfl) rfl kbi) fun _ => de_not (de_ty (de_var rfl) rfl kbb)) rfl
  | none => exact de_is (de_and (c := true) (de_ty (de_var rfl) rfl kni) (fun z => nomatch z)) rfl
  | str s => exact de_is (de_and (c := true) (de_ty (de_var rfl) rfl ksi) (fun z => nomatch z)) rfl
  | list s => exact de_is (de_and (c := true) (de_ty (de_var rfl) rfl kli) (fun z => nomatch z)) rfl
  | tuple s => exact de_is (de_and (c := true) (de_ty (de_var rfl) rfl kti) (fun z => nomatch z)) rfl
  | dict s =>
    have hk : tyN (.dict s) = "dict" ∨ tyN (.dict s) = "list" := by
      unfold tyN
      split <;> simp_all
    rcases hk with e | e
    · exact de_is (de_and (c := true) (de_ty (de_var rfl) e kdi) (fun z => nomatch z)) rfl
    · exact de_is (de_and (c := true) (de_ty (de_var rfl) e kli) (fun z => nomatch z)) rfl
theorem madeG_bools (b : Nat → Bool) (n : Nat) : madeG (fun _ => true) (fun i => .bool (b i)) n = ((List.range n).map b).map PyData.bool := by
  unfold madeG
  rw [List.filter_eq_self.mpr (fun _ _ => rfl), List.map_map]
  rfl
theorem all_true {n : Nat} {b : Nat → Bool} (h : ∀ i, i < n → b i = true) : ((List.range n).map b).all id = true := by
  rw [List.all_eq_true]
  intro x hx
  obtain ⟨i, hi, rfl⟩ := List.mem_map.mp hx
  exact h i (List.mem_range.mp hi)
theorem signs_at {s : Str} {i : Nat} (h : i < s.cps.size) : (sgnsOf s)[i]? = some (PyData.str (sgn s i)) := by
  unfold sgnsOf sgn
  rw [List.getElem?_map, Array.getElem?_toList, Array.getElem?_eq_getElem h]
  simp [Array.getD, h]
theorem sc_is_name : FnScope ["thing", "sign"] ["thing"] (defScope s_is_name) := ⟨rfl, rfl, rfl, by decide +kernel, rfl, by decide +kernel, by decide +kernel⟩
theorem ok_is_name (F : Fun K "is_name" "is_name" s_is_name f fd) (M : Bl mg) : FnOk P w K mg base CX0 1 f fd ["thing"] (spR K Rw_is_name) := by
  refine F.ok sc_is_name (spR_len (by rintro _ _ ⟨d, rfl, _⟩; rfl)) (fun cdv A outer s H vs Q E hr h => ?_)
  obtain ⟨B, ds, o, x, r, ⟨d, rfl, hn, rfl⟩, q⟩ := h
  refine ⟨_, pss_cons (ps_if (pw_or (pt_not (pt_val (k_isi (pv 0) (by rfl) M.isi (by rfl) M.str PyProof.Rows.boot_str (by decide) (by decide)))) (pw_or1 (pt_not (pt_chain op_le op_le pe_int (pe_callB call_lenR (by rfl) M.len PySem.boot_len (pa_cons (pv 0) pa_nil)) pe_int)))).pt (pss_one (ps_ret pe_bl)) pss_nil)
    (pss_one (ps_ret (pe_callB (cr_all rfl) (by rfl) M.all PyProof.Rows.boot_all (pa_cons
      (pe_lc (own := [("sign", 1)]) (g := gName 1) (tt := tYes) rfl sc_is_name.nd (pi_str (pv 0)) (blkOk_by (N := ["thing", "sign"]) (sc := defScope s_is_name) (by decide +kernel)) (fun _ _ _ _ _ => pg_name (i := 1) sc_is_name.nd rfl (Or.inl rfl)) (fun _ _ _ _ _ => pts_nil)
        (fun _ _ _ _ _ => pe_chain op_leS op_leS pe_str (pv 1) pe_str)) pa_nil)))), ?_⟩
  refine fin_rt ?_ x r q
  show DS K _ [some (.str d), none] _
  unfold isNameS at hn
  rw [Bool.and_eq_true, Bool.and_eq_true] at hn
  obtain ⟨⟨h1, h2⟩, h3⟩ := hn
  have hz : (d.length : Int) ≤ 10 := of_decide_eq_true h2
  have hl : d.length ≤ sizeLine := Nat.le_trans (show d.length ≤ 10 by omega) (by decide)
  have hs : d.cps.size ≤ 10 := by
    have : d.length = d.cps.size := rfl
    omega
  refine ds_guard (b := false) (dt_is (dt_or (dt_not (dt_B (de_ty (de_var rfl) rfl kss))) fun _ => dt_not (dt_test (de_chain de_int (de_cb (da_cons (de_var rfl) da_nil) (cd_lenS hl)) (fun _ => de_int) rd_le fun _ => rd_le))) (by rw [h1, h2]; rfl)) (fun z => nomatch z) fun _ => ds_ret (de_is (de_cb (da_cons (de_is (de_lc (fun _ => true) (fun i => .bool (sgnOk (sgn d i))) (di_str (de_var rfl)) (by decide) (fun _ _ => dt_yes) (fun i hi _ => ?_) (fun _ _ _ => rfl) (by omega)) (congrArg PyData.list (madeG_bools _ _))) da_nil) cd_all) (by rw [h3]))
  refine de_chain de_str (de_var (d := .str (sgn d i)) ?_) (fun _ => de_str) rd_leS fun _ => rd_leS
  rw [signs_at hi]
  rfl
end
end FP
namespace FP
open PySem PySem.Spec PyProof.Rows L2 FC
open Evl (Ex)
theorem look_at {kvs : List (Str × PyData)} (nd : (kvs.map (·.1)).Nodup) : ∀ {i : Nat} {s : Str} {d : PyData}, kvs[i]? = some (s, d) → look kvs s = some d := by
  induction kvs with
  | nil => intro i s d h; simp at h
  | cons q qs ih =>
    intro i s d h
    rw [List.map_cons, List.nodup_cons] at nd
    unfold look
    rw [List.find?_cons]
    cases i with
    | zero =>
      simp at h
      subst h
      simp
    | succ i =>
      have h : qs[i]? = some (s, d) := by simpa using h
      have hm : s ∈ qs.map (·.1) := List.mem_map.mpr ⟨(s, d), List.mem_of_getElem? h, rfl⟩
      have hne : ¬ q.1 = s := by
        intro z
        rw [z] at nd
        exact nd.1 hm
      rw [decide_eq_false hne]
      exact ih nd.2 h
section
variable {P : Program} {w : World} {K : PySem.W.Frag} {mg : Str → Option Value} {base : Heap} {f : Addr} {fd : FuncData}
abbrev CL (P : Program) (w : World) (K : PySem.W.Frag) (mg : Str → Option Value) (base : Heap) (k : Nat) (x : Str) (R : List PyData → PyData → Prop) : Prop := Cl P w K mg base k x (spR K R)
theorem sc_is_kind : FnScope ["kinds", "thing"] ["kinds", "thing"] (defScope s_is_kind) := ⟨rfl, rfl, rfl, by decide +kernel, rfl, by decide +kernel, by decide +kernel⟩
theorem ok_is_kind (F : Fun K "is_kind" "is_kind" s_is_kind f fd) (M : Bl mg) : FnOk P w K mg base CX0 1 f fd ["kinds", "thing"] (spR K Rw_is_kind) := by
  refine F.ok sc_is_kind (spR_len (by rintro _ _ ⟨_, _, rfl, _⟩; rfl)) (fun cdv A outer s H vs Q E hr h => ?_)
  obtain ⟨B, ds, o, x, r, ⟨kvs, t, rfl, rfl⟩, q⟩ := h
  have hu := hu_of hr
  refine ⟨_, pss_one (ps_ret (pe_and (k_isi (pv 1) (by rfl) M.isi (by rfl) M.str PyProof.Rows.boot_str (by decide) (by decide)) (pe_one (pe_cmp (pc_din hu (pv 1) (pv 0)))))), ?_⟩
  refine fin_rt ?_ x r q
  show DS K _ [some (dictOf kvs), some (.str t)] _
  exact ds_ret (de_is (de_and (de_ty (de_var (d := .str t) rfl) rfl kss) fun _ => de_din (de_var rfl) (de_var rfl)) rfl)
theorem sc_is_bounds : FnScope ["low", "high"] ["low", "high"] (defScope s_is_bounds) := ⟨rfl, rfl, rfl, by decide +kernel, rfl, by decide +kernel, by decide +kernel⟩
theorem ok_is_bounds (F : Fun K "is_bounds" "is_bounds" s_is_bounds f fd) (M : Bl mg) (cw : CL P w K mg base 1 "is_whole" Rw_is_whole) : FnOk P w K mg base CX0 2 f fd ["low", "high"] (spR K Rw_is_bounds) := by
  refine F.ok sc_is_bounds (spR_len (by rintro _ _ ⟨_, _, rfl, _⟩; rfl)) (fun cdv A outer s H vs Q E hr h => ?_)
  obtain ⟨B, ds, o, x, r, ⟨i, j, rfl, rfl⟩, q⟩ := h
  refine ⟨_, pss_one (ps_ret (pe_and (pe_cl cw hr (by decide) (by rfl) (pa_cons (pv 0) pa_nil)) (pe_and (pe_cl cw hr (by decide) (by rfl) (pa_cons (pv 1) pa_nil)) (pe_one (pe_cmpR op_le (pv 0) (pv 1) (nomark _)))))), ?_⟩
  refine fin_rt ?_ x r q
  show DS K _ [some (.int i), some (.int j)] _
  exact ds_ret (de_is (de_and (de_call' (da_cons (de_var rfl) da_nil) ⟨.int i, rfl, rfl⟩) fun _ => de_and (de_call' (da_cons (de_var rfl) da_nil) ⟨.int j, rfl, rfl⟩) fun _ => de_op (de_var rfl) (de_var rfl) rd_le) rfl)
theorem eq_str {a b : Str} (hb : SeqAt.shaped (.str b) = true) {K : PySem.W.Frag} (ha : SeqAt.shaped (.str a) = true) : RD K (rEqD K) (.str a) (.str b) (.bool (a == b)) := rd_eq ha hb rfl rfl
theorem sc_is_form : FnScope ["kinds", "thing"] ["kinds", "thing"] (defScope s_is_form) := ⟨rfl, rfl, rfl, by decide +kernel, rfl, by decide +kernel, by decide +kernel⟩
theorem ok_is_form (F : Fun K "is_form" "is_form" s_is_form f fd) (M : Bl mg) (cb : CL P w K mg base 2 "is_bounds" Rw_is_bounds) (ck : CL P w K mg base 1 "is_kind" Rw_is_kind) : FnOk P w K mg base CX0 3 f fd ["kinds", "thing"] (spR K Rw_is_form) := by
  refine F.ok sc_is_form (spR_len (by rintro _ _ ⟨_, _, rfl, _⟩; rfl)) (fun cdv A outer s H vs Q E hr h => ?_)
  obtain ⟨B, ds, o, x, r, ⟨kvs, d, rfl, hf, rfl⟩, q⟩ := h
  have hu64 : (A.deeper (envOfC "is_form" (defScope s_is_form) s.heap.objs.size f cdv)).units + 64 < cLine := by have := hr.un; omega
  refine ⟨_, pss_cons (ps_if (pt_not (pt_val (k_isi (pv 1) (by rfl) M.isi (by rfl) M.tuple PyProof.Rows.boot_tuple (by decide) (by decide)))) (pss_one (ps_ret pe_bl)) pss_nil)
    (pss_cons (ps_if (pt_cmpR (op_eqD hu64) (pe_callB call_lenR (by rfl) M.len PySem.boot_len (pa_cons (pv 1) pa_nil)) pe_int (nomark _))
      (pss_one (ps_ret (pe_and (pe_cmpR (op_eqD hu64) (pe_ix ix_tup (pv 1) pe_int (fun _ _ => rfl)) pe_str (nomark _)) (pe_one (pe_cl cb hr (by decide) (by rfl) (pa_cons (pe_ix ix_tup (pv 1) pe_int (fun _ _ => rfl)) (pa_cons (pe_ix ix_tup (pv 1) pe_int (fun _ _ => rfl)) pa_nil))))))) pss_nil)
    (pss_cons (ps_if (pt_cmpR (op_neD hu64) (pe_callB call_lenR (by rfl) M.len PySem.boot_len (pa_cons (pv 1) pa_nil)) pe_int (nomark _)) (pss_one (ps_ret pe_bl)) pss_nil)
    (pss_cons (ps_if (pt_cmpR (op_eqD hu64) (pe_ix ix_tup (pv 1) pe_int (fun _ _ => rfl)) pe_str (nomark _)) pss_never pss_nil)
    (pss_cons (ps_if (pt_cmpR (op_eqD hu64) (pe_ix ix_tup (pv 1) pe_int (fun _ _ => rfl)) pe_str (nomark _)) pss_never pss_nil)
    (pss_one (ps_ret (pe_and (pe_cmpR (op_eqD hu64) (pe_ix ix_tup (pv 1) pe_int (fun _ _ => rfl)) pe_str (nomark _)) (pe_one (pe_cl ck hr (by decide) (by rfl) (pa_cons (pv 0) (pa_cons (pe_ix ix_tup (pv 1) pe_int (fun _ _ => rfl)) pa_nil))))))))))), ?_⟩
  refine fin_rt ?_ x r q
  show DS K _ [some (dictOf kvs), some d] _
  cases hf with
  | @nums lo hi h =>
    refine ds_guard (b := false) (dt_is (dt_not (dt_B (de_ty (de_var rfl) rfl ktt))) rfl) (fun z => nomatch z) fun _ => ?_
    refine ds_guard (b := true) (dt_test (de_op (de_cb (da_cons (de_var rfl) da_nil) cd_lenT) de_int (rd_eq rfl rfl rfl rfl))) (fun _ => ds_ret ?_) (fun z => nomatch z)
    refine de_is (de_and (de_op (de_op (de_var rfl) de_int (rd_ixT (j := 0) rfl rfl)) de_str (rd_eq (by decide +kernel) (by decide +kernel) rfl rfl)) fun _ => de_call' (da_cons (de_op (de_var rfl) de_int (rd_ixT (j := 1) rfl rfl)) (da_cons (de_op (de_var rfl) de_int (rd_ixT (j := 2) rfl rfl)) da_nil)) ⟨lo, hi, rfl, rfl⟩) ?_
    rw [decide_eq_true h]
    exact congrArg PyData.bool (by decide +kernel)
  | @rows t h =>
    refine ds_guard (b := false) (dt_is (dt_not (dt_B (de_ty (de_var rfl) rfl ktt))) rfl) (fun z => nomatch z) fun _ => ?_
    refine ds_guard (b := false) (dt_test (de_op (de_cb (da_cons (de_var rfl) da_nil) cd_lenT) de_int (rd_eq rfl rfl rfl rfl))) (fun z => nomatch z) fun _ => ?_
    refine ds_guard (b := false) (dt_test (de_op (de_cb (da_cons (de_var rfl) da_nil) cd_lenT) de_int (rd_ne rfl rfl rfl rfl))) (fun z => nomatch z) fun _ => ?_
    refine ds_guard (b := false) (dt_is (dt_test (de_op (de_op (de_var rfl) de_int (rd_ixT (j := 0) rfl rfl)) de_str (rd_eq (by decide +kernel) (by decide +kernel) rfl rfl))) (by decide +kernel)) (fun z => nomatch z) fun _ => ?_
    refine ds_guard (b := false) (dt_is (dt_test (de_op (de_op (de_var rfl) de_int (rd_ixT (j := 0) rfl rfl)) de_str (rd_eq (by decide +kernel) (by decide +kernel) rfl rfl))) (by decide +kernel)) (fun z => nomatch z) fun _ => ?_
    refine ds_ret (de_is (de_and (de_op (de_op (de_var rfl) de_int (rd_ixT (j := 0) rfl rfl)) de_str (rd_eq (by decide +kernel) (by decide +kernel) rfl rfl)) fun _ => de_call' (da_cons (de_var rfl) (da_cons (de_op (de_var rfl) de_int (rd_ixT (j := 1) rfl rfl)) da_nil)) ⟨kvs, t, rfl, rfl⟩) ?_)
    rw [h]
    exact congrArg PyData.bool (by decide +kernel)
theorem sc_can_be_built : FnScope ["form", "built", "_", "parts", "part"] ["form", "built"] (defScope s_can_be_built) := ⟨rfl, rfl, rfl, by decide +kernel, rfl, by decide +kernel, by decide +kernel⟩
theorem ok_can_be_built (F : Fun K "can_be_built" "can_be_built" s_can_be_built f fd) (M : Bl mg) : FnOk P w K mg base CX0 1 f fd ["form", "built"] (spR K Rw_can_be_built) := by
  refine F.ok sc_can_be_built (spR_len (by rintro _ _ ⟨_, _, _, rfl, _⟩; rfl)) (fun cdv A outer s H vs Q E hr h => ?_)
  obtain ⟨B, ds, o, x, r, ⟨kvs, d, e, rfl, hf, rfl⟩, q⟩ := h
  have hu64 : (A.deeper (envOfC "can_be_built" (defScope s_can_be_built) s.heap.objs.size f cdv)).units + 64 < cLine := by have := hr.un; omega
  refine ⟨_, pss_cons (ps_if (pt_cmpR (op_neD hu64) (pe_ix ix_tup (pv 0) pe_int (fun _ _ => rfl)) pe_str (nomark _)) (pss_one (ps_ret pe_bl)) pss_nil) pss_never, ?_⟩
  refine fin_rt ?_ x r q
  show DS K _ [some d, some e, none, none, none] _
  cases hf with
  | nums h => exact ds_guard (b := true) (dt_is (dt_test (de_op (de_op (de_var rfl) de_int (rd_ixT (j := 0) rfl rfl)) de_str (rd_ne (by decide +kernel) (by decide +kernel) rfl rfl))) (by decide +kernel)) (fun _ => ds_ret de_bl) (fun z => nomatch z)
  | rows h => exact ds_guard (b := true) (dt_is (dt_test (de_op (de_op (de_var rfl) de_int (rd_ixT (j := 0) rfl rfl)) de_str (rd_ne (by decide +kernel) (by decide +kernel) rfl rfl))) (by decide +kernel)) (fun _ => ds_ret de_bl) (fun z => nomatch z)
end
end FP
namespace FP
open PySem PySem.Spec PyProof.Rows L2 FC
open Evl (Ex)
section
variable {P : Program} {w : World} {K : PySem.W.Frag} {mg : Str → Option Value} {base : Heap} {f : Addr} {fd : FuncData}
def rLenD : List V → Hp → VK → Prop := fun xs H Q => ∃ a kvs, xs = [V.ref a] ∧ H a = some (.dK kvs) ∧ Q (.int (kvs.length : Int)) H
theorem call_lenDR {X : Cx} : CallR X (.builtin "len") rLenD := call_lenD
theorem cd_lenD {kvs : List (Str × PyData)} : CD K rLenD [dictU kvs] (.int kvs.length) := fun B H vs x r Q q => by
  cases r with
  | cons r1 r2 =>
    cases r2
    obtain ⟨a, ks, rfl, e, kr, nd⟩ := rt_dictU r1
    refine ⟨a, ks, rfl, x _ _ e, ?_⟩
    have hl : ks.length = kvs.length := Paired.length kr
    rw [hl]
    exact q _ B H (.refl x) (.d (.int _))
def keyS (kvs : List (Str × PyData)) (m : Nat) : Str := (kvs.getD m (Str.empty, .none)).1
def keysL (kvs : List (Str × PyData)) : List PyData := madeG (fun _ => true) (fun m => .str (keyS kvs m)) kvs.length
theorem keysL_len (kvs : List (Str × PyData)) : (keysL kvs).length = kvs.length := by
  unfold keysL madeG
  rw [List.filter_eq_self.mpr (fun _ _ => rfl), List.length_map, List.length_range]
theorem keyD_at {kvs : List (Str × PyData)} {m : Nat} (h : m < kvs.length) : keyD kvs m = some (.str (keyS kvs m)) := by
  unfold keyD keyS
  rw [List.getElem?_eq_getElem h, List.getD_eq_getElem?_getD, List.getElem?_eq_getElem h]
  rfl
theorem keepP_key (kvs : List (Str × PyData)) (m : Nat) : keepP (keyD kvs m) = keyD kvs m := by
  unfold keyD
  cases kvs[m]? <;> rfl
theorem sc_all_have_values : FnScope ["kinds", "built", "_", "kind"] ["kinds"] (defScope s_all_have_values) := ⟨rfl, rfl, rfl, by decide +kernel, rfl, by decide +kernel, by decide +kernel⟩
theorem ok_all_have_values (F : Fun K "all_have_values" "all_have_values" s_all_have_values f fd) (M : Bl mg) (cb : CL P w K mg base 1 "can_be_built" Rw_can_be_built) : FnOk P w K mg base CX0 2 f fd ["kinds"] (spR K Rw_all_have_values) := by
  refine F.ok sc_all_have_values (spR_len (by rintro _ _ ⟨_, rfl, _⟩; rfl)) (fun cdv A outer s H vs Q E hr h => ?_)
  obtain ⟨B, ds, o, x, r, ⟨kvs, rfl, ok, rfl⟩, q⟩ := h
  have hu := hu_of hr
  have hu64 : (A.deeper (envOfC "all_have_values" (defScope s_all_have_values) s.heap.objs.size f cdv)).units + 64 < cLine := by have := hr.un; omega
  refine ⟨_, pss_cons (ps_set (i := 1) sc_all_have_values.nd rfl (Or.inr rfl) (pe_lst pa_nil))
    (pss_cons (ps_lock (ps_for PassesOwn.never rfl (pi_keys (pv 0)) (pg_name (i := 2) sc_all_have_values.nd rfl (Or.inl rfl))
      (pss_one (ps_set (i := 1) sc_all_have_values.nd rfl (Or.inr rfl)
        (pe_lc (own := [("kind", 3)]) (g := gName 3) rfl sc_all_have_values.nd (pi_keys (pv 0)) (blkOk_by (N := ["kinds", "built", "_", "kind"]) (sc := defScope s_all_have_values) (by decide +kernel)) (fun _ _ _ _ _ => pg_name (i := 3) sc_all_have_values.nd rfl (Or.inl rfl))
          (fun _ _ _ _ _ => pts_one (pt_val (pe_cl cb hr (by decide) (by rfl) (pa_cons (pe_dget hu (pv 0) (pv 3) (fun _ _ => rfl)) (pa_cons (pv 1) pa_nil)))))
          (fun _ _ _ _ _ => pv 3))))))
    (pss_one (ps_ret (pe_cmpR (op_eqD hu64) (pe_callB call_lenR (by rfl) M.len PySem.boot_len (pa_cons (pv 1) pa_nil)) (pe_callB call_lenDR (by rfl) M.len PySem.boot_len (pa_cons (pv 0) pa_nil)) (nomark _))))), ?_⟩
  refine fin_rt ?_ x r q
  show DS K _ [some (dictU kvs), none, none, none] _
  obtain ⟨m, hm⟩ : ∃ m, kvs.length = m + 1 := ⟨kvs.length - 1, by have := ok.ne; cases kvs with | nil => exact absurd rfl this | cons => simp⟩
  refine ds_seq (ds_set (de_lst da_nil rfl (by decide))) (ds_seq (G1 := [some (dictU kvs), some (.list (keysL kvs)), keyD kvs m, none]) (ds_lock (i := 0) (kvs := kvs) (Gn := fun a => [some (dictL a kvs), some (.list (keysL kvs)), keyD kvs m, none]) rfl (fun a => rfl) (fun a => ?_) (fun a => ?_)) (ds_ret ?_))
  · show [some (dictU kvs), some (.list (keysL kvs)), keepP (keyD kvs m), none] = _
    rw [keepP_key]
  · let Gs : Nat → List (Option PyData) := fun i => match i with
      | 0 => [some (dictL a kvs), some (.list []), none, none]
      | i + 1 => [some (dictL a kvs), some (.list (keysL kvs)), keyD kvs i, none]
    refine ds_is (ds_for Gs (di_keys (a := a) (de_var rfl)) rfl fun i hi => ?_) ?_
    rotate_left
    · show Out.nx (Gs kvs.length) = _
      rw [hm]
    · have key : ∀ (e : PyData) (x2 : Option PyData), DS K (tAsg (tLc (iKeys (tVar 0)) (gName 3) (tB (tCall (spR K Rw_can_be_built) [] E0 (tCons (tDGet (tVar 0) (tVar 3)) (tCons (tVar 1) tNil)))) (tVar 3) [3]) (gName 1)) [some (dictL a kvs), some e, x2, none] (.nx [some (dictL a kvs), some (.list (keysL kvs)), x2, none]) := by
        intro e x2
        refine ds_is (ds_set (de_lc (fun _ => true) (fun m => .str (keyS kvs m)) (di_keys (a := a) (de_var rfl)) (by decide) (fun i hi => ?_) (fun i hi _ => ?_) (fun _ _ _ => rfl) (Nat.le_trans ok.few (by decide)))) rfl
        · have hk := keyD_at hi
          show DT K _ [some (dictL a kvs), some e, x2, keyD kvs i] _
          rw [hk]
          have hq : kvs[i]? = some (keyS kvs i, kvs[i].2) := by
            unfold keyS
            rw [List.getD_eq_getElem?_getD, List.getElem?_eq_getElem hi]
            rfl
          exact dt_B (de_call' (da_cons (de_dget (de_ofL (de_var rfl)) (de_var rfl) (look_at ok.nd hq)) (da_cons (de_var rfl) da_nil)) ⟨kvs, _, _, rfl, ok.fm (keyS kvs i, kvs[i].2) (List.mem_of_getElem? hq), rfl⟩)
        · show DE K _ [some (dictL a kvs), some e, x2, keyD kvs i] _
          rw [keyD_at hi]
          exact de_var rfl
      cases i with
      | zero => exact key _ _
      | succ i => exact key _ _
  · refine de_is (de_op (de_cb (da_cons (de_var rfl) da_nil) cd_lenL) (de_cb (da_cons (de_var rfl) da_nil) cd_lenD) (rd_eq rfl rfl rfl rfl)) ?_
    rw [keysL_len]
    show PyData.bool (((kvs.length : Int)) == (kvs.length : Int)) = _
    rw [beq_self_eq_true]
theorem sc_is_kinds : FnScope ["thing", "kind", "form"] ["thing"] (defScope s_is_kinds) := ⟨rfl, rfl, rfl, by decide +kernel, rfl, by decide +kernel, by decide +kernel⟩
theorem ok_is_kinds (F : Fun K "is_kinds" "is_kinds" s_is_kinds f fd) (M : Bl mg) (cn : CL P w K mg base 1 "is_name" Rw_is_name) (cf : CL P w K mg base 3 "is_form" Rw_is_form) (ca : CL P w K mg base 2 "all_have_values" Rw_all_have_values) : FnOk P w K mg base CX0 4 f fd ["thing"] (spR K Rw_is_kinds) := by
  refine F.ok sc_is_kinds (spR_len (by rintro _ _ ⟨_, rfl, _⟩; rfl)) (fun cdv A outer s H vs Q E hr h => ?_)
  obtain ⟨B, ds, o, x, r, ⟨kvs, rfl, ok, rfl⟩, q⟩ := h
  have hu := hu_of hr
  refine ⟨_, pss_cons (ps_if (pw_or (pt_not (pt_val (k_isi (pv 0) (by rfl) M.isi (by rfl) M.dict PyProof.Rows.boot_dict (by decide) (by decide)))) (pw_or1 (pt_not (pt_truth (pv 0) (by intro _; rfl))))).pt (pss_one (ps_ret pe_bl)) pss_nil)
    (pss_cons (ps_if (pt_not (pt_val (pe_callB (cr_all rfl) (by rfl) M.all PyProof.Rows.boot_all (pa_cons (pe_lock
      (pe_lc (own := [("kind", 1)]) (g := gName 1) (tt := tYes) rfl sc_is_kinds.nd (pi_keys (pv 0)) (blkOk_by (N := ["thing", "kind", "form"]) (sc := defScope s_is_kinds) (by decide +kernel)) (fun _ _ _ _ _ => pg_name (i := 1) sc_is_kinds.nd rfl (Or.inl rfl)) (fun _ _ _ _ _ => pts_nil)
        (fun _ _ _ _ _ => pe_cl cn hr (by decide) (by rfl) (pa_cons (pv 1) pa_nil)))) pa_nil)))) (pss_one (ps_ret pe_bl)) pss_nil)
    (pss_cons (ps_if (pt_not (pt_val (pe_callB (cr_all rfl) (by rfl) M.all PyProof.Rows.boot_all (pa_cons (pe_lock
      (pe_lc (own := [("form", 2)]) (g := gName 2) (tt := tYes) rfl sc_is_kinds.nd (pi_values (pv 0)) (blkOk_by (N := ["thing", "kind", "form"]) (sc := defScope s_is_kinds) (by decide +kernel)) (fun _ _ _ _ _ => pg_name (i := 2) sc_is_kinds.nd rfl (Or.inl rfl)) (fun _ _ _ _ _ => pts_nil)
        (fun _ _ _ _ _ => pe_cl cf hr (by decide) (by rfl) (pa_cons (pv 0) (pa_cons (pv 2) pa_nil))))) pa_nil)))) (pss_one (ps_ret pe_bl)) pss_nil)
    (pss_one (ps_ret (pe_cl ca hr (by decide) (by rfl) (pa_cons (pv 0) pa_nil)))))), ?_⟩
  refine fin_rt ?_ x r q
  show DS K _ [some (dictU kvs), none, none] _
  have hne : kvs.isEmpty = false := by
    have := ok.ne
    cases kvs with
    | nil => exact absurd rfl this
    | cons => rfl
  have all1 : ∀ n, ((List.range n).map fun _ => true).all id = true := fun n => all_true fun _ _ => rfl
  refine ds_guard (b := false) (dt_is (dt_or (dt_not (dt_B (de_ty (de_var rfl) rfl kdd))) fun _ => dt_not (dt_dict (de_var rfl))) (by rw [hne]; rfl)) (fun z => nomatch z) fun _ => ?_
  refine ds_guard (b := false) (dt_is (dt_not (dt_B (de_cb (da_cons (de_lock (i := 0) (kvs := kvs) (d := .list (((List.range kvs.length).map fun _ => true).map PyData.bool)) rfl rfl fun a => de_is (de_lc (fun _ => true) (fun _ => .bool true) (di_keys (a := a) (de_var rfl)) (by decide) (fun _ _ => dt_yes) (fun i hi _ => ?_) (fun _ _ _ => rfl) (Nat.le_trans ok.few (by decide))) (congrArg PyData.list (madeG_bools (fun _ => true) _))) da_nil) cd_all))) (by rw [all1]; rfl)) (fun z => nomatch z) fun _ => ?_
  · show DE K _ [some (dictL a kvs), keyD kvs i, none] _
    rw [keyD_at hi]
    refine de_call' (da_cons (de_var rfl) da_nil) ⟨_, rfl, ok.nm (keyS kvs i, kvs[i].2) ?_, rfl⟩
    have hq : kvs[i]? = some (keyS kvs i, kvs[i].2) := by
      unfold keyS
      rw [List.getD_eq_getElem?_getD, List.getElem?_eq_getElem hi]
      rfl
    exact List.mem_of_getElem? hq
  refine ds_guard (b := false) (dt_is (dt_not (dt_B (de_cb (da_cons (de_lock (i := 0) (kvs := kvs) (d := .list (((List.range kvs.length).map fun _ => true).map PyData.bool)) rfl rfl fun a => de_is (de_lc (fun _ => true) (fun _ => .bool true) (di_vals (a := a) (de_var rfl)) (by decide) (fun _ _ => dt_yes) (fun i hi _ => ?_) (fun _ _ _ => rfl) (Nat.le_trans ok.few (by decide))) (congrArg PyData.list (madeG_bools (fun _ => true) _))) da_nil) cd_all))) (by rw [all1]; rfl)) (fun z => nomatch z) fun _ => ?_
  · have hq : kvs[i]? = some (kvs[i].1, kvs[i].2) := List.getElem?_eq_getElem hi
    have hv : valD kvs i = some kvs[i].2 := by
      unfold valD
      rw [hq]
      rfl
    show DE K _ [some (dictL a kvs), none, valD kvs i] _
    rw [hv]
    exact de_call' (da_cons (de_ofL (de_var rfl)) (da_cons (de_var rfl) da_nil)) ⟨kvs, _, rfl, ok.fm _ (List.mem_of_getElem? hq), rfl⟩
  exact ds_ret (de_call' (da_cons (de_var rfl) da_nil) ⟨kvs, rfl, ok, rfl⟩)
end
end FP
namespace FP
open PySem PySem.Spec PyProof.Rows L2 FC
open Evl (Ex)
abbrev s_is_pattern : Stmt := topS 28
abbrev s_patterns_within : Stmt := topS 29
abbrev s_is_range_pattern : Stmt := topS 30
abbrev s_is_bound : Stmt := topS 31
abbrev s_pattern_fits : Stmt := topS 34
abbrev s_is_clause : Stmt := topS 37
abbrev s_is_clauses : Stmt := topS 38
abbrev s_first_fitting : Stmt := topS 39
abbrev s_values_within : Stmt := topS 41
/-! ### a form and all that it holds -/
def pairD (p : PyData × PyData) : PyData := .tuple [p.1, p.2]
inductive Sweep (W : PyData → PyData → PyData → Prop) : Nat → List (PyData × PyData) → Bool → Prop where
  | done (n : Nat) : Sweep W n [] true
  | bad {n : Nat} {ws : List (PyData × PyData)} {k t : PyData} (h : W k t .none) : Sweep W (n + 1) (ws ++ [(k, t)]) false
  | more {n : Nat} {ws held : List (PyData × PyData)} {k t : PyData} {b : Bool} (h : W k t (listX (held.map pairD))) (hl : ws.length + held.length ≤ 100000) (s : Sweep W n (ws ++ held) b) : Sweep W (n + 1) (ws ++ [(k, t)]) b
theorem Sweep.leaf {W : PyData → PyData → PyData → Prop} {k t : PyData} (h : W k t (listX [])) : Sweep W 1 [(k, t)] true :=
  Sweep.more (ws := []) (held := []) (n := 0) h (by decide) (.done 0)
theorem go_mut {B H B' H' : Hp} {l : Addr} {o : HO} (g : Go B H B' H') (n : H l = none) (nb : B' l = none) : Go B H B' (upd H' l o) :=
  ⟨g.eb, Evl.Ex.mut g.eh n, Evl.Ex.mut g.sub nb, g.fr⟩
section
variable {P : Program} {w : World} {K : PySem.W.Frag} {mg : Str → Option Value} {base : Heap} {f : Addr} {fd : FuncData}
def spSound (P : Program) (w : World) (K : PySem.W.Frag) (mg : Str → Option Value) (base : Heap) (kk : Nat) : Sp := fun vs H Q _ =>
  ∃ (B : Hp) (v0 v1 v2 : V) (fw : Addr) (fdw : FuncData) (psw : List Str) (W : List PyData → PyData → Prop) (dk k t : PyData) (b : Bool) (n : Nat),
    Ex B H ∧ FnOk P w K mg base CX0 kk fw fdw psw (spR K W) ∧ PySem.W.keepIn K (.ref fw) = true ∧ Binds K fdw psw [] ∧ vs = [v0, v1, v2, .ref fw] ∧ Rt K B v0 dk ∧ Dp K B v1 k ∧ Dp K B v2 t ∧
    Sweep (fun k t o => W [dk, k, t] o) n [(k, t)] b ∧ ∀ v B' H', Go B H B' H' → Rt K B' v (.bool b) → Q v H'
theorem sc_is_sound : FnScope ["kinds", "kind", "thing", "within", "waiting", "inner_kind", "inner", "held"] ["kinds", "kind", "thing", "within"] (defScope s_is_sound) := ⟨rfl, rfl, rfl, by decide +kernel, rfl, by decide +kernel, by decide +kernel⟩
theorem ok_is_sound {kk : Nat} (F : Fun K "is_sound" "is_sound" s_is_sound f fd) : FnOk P w K mg base CX0 (kk + 1) f fd ["kinds", "kind", "thing", "within"] (spSound P w K mg base kk) := by
  refine F.ok sc_is_sound (by rintro vs H Q E ⟨B, v0, v1, v2, fw, fdw, psw, W, dk, k, t, b, n, _, _, _, _, rfl, _⟩; rfl) (fun cdv A outer s H vs Q E hr h => ?_)
  obtain ⟨B, v0, v1, v2, fw, fdw, psw, W, dk, k, t, b, n, x, Fw, kw, bw, rfl, r0, r1, r2, sw, q⟩ := h
  have nd := sc_is_sound.nd
  refine ⟨_, pss_cons (ps_set (i := 4) nd rfl (Or.inl rfl) (pe_lst (pa_cons (pe_tup (pa_cons (pv 1) (pa_cons (pv 2) pa_nil))) pa_nil)))
    (pss_cons (ps_while PassesOwn.never (pt_truth (pv 4) (by intro _; rfl))
      (pss_cons (ps_asg (pe_bm0 PySem.F.plainAttrs_list PySem.F.slot_list_pop PySem.F.type_list_pop mt_pop (pv 4)) (pg_tup rfl (pgs_cons (pg_name (i := 5) nd rfl (Or.inl rfl)) (pgs_cons (pg_name (i := 6) nd rfl (Or.inl rfl)) pgs_nil))))
      (pss_cons (ps_set (i := 7) nd rfl (Or.inl rfl) (pe_callL (i := 3) Fw hr rfl (Or.inl rfl) kw bw .nil pass0 (pa_cons (pv 0) (pa_cons (pv 5) (pa_cons (pv 6) pa_nil)))))
      (pss_cons (ps_if (pt_cmp (pc_isN (pv 7))) (pss_one (ps_ret pe_bl)) pss_nil)
      (pss_one (ps_expr (pe_bm PySem.F.plainAttrs_list PySem.F.slot_list_extend PySem.F.type_list_extend mt_extend (pv 4) (pa_cons (pv 7) pa_nil))))))))
    (pss_one (ps_ret pe_bl))), ?_⟩
  refine ⟨v1, rfl, v2, rfl, by show 2 ≤ sizeLine; decide, fun p hp => ⟨by show 1 ≤ sizeLine; decide, fun l hl => ?_⟩⟩
  have g1 : Go B H (upd B p (.tup [v1, v2])) (upd H p (.tup [v1, v2])) := Go.new x hp
  have hlH : H l = none := Evl.fresh_back g1.eh hl
  have hlB : (upd B p (.tup [v1, v2])) l = none := sub_none g1.sub hl
  refine ⟨fun m σ Hc => ∃ (B' : Hp) (ws : List (PyData × PyData)) (us : List V) (x5 x6 x7 : Option V), σ = [some v0, some v1, some v2, some (.ref fw), some (.ref l), x5, x6, x7] ∧ Go B H B' Hc ∧ B' l = none ∧ Hc l = some (.lst us) ∧ DpAll K B' us (ws.map pairD) ∧ Sweep (fun k t o => W [dk, k, t] o) m ws b, ⟨n, ?_⟩, ?_⟩
  · refine ⟨_, [(k, t)], [.ref p], none, none, none, rfl, g1.trans (Go.own g1.sub hl), hlB, upd_same, .cons (.tup (.inl (.inl upd_same)) (.cons (dp_ex g1.eb _ _ r1) (.cons (dp_ex g1.eb _ _ r2) .nil))) .nil, sw⟩
  · rintro m σ Hc ⟨B', ws, us, x5, x6, x7, rfl, g, nb, hl', da, sw'⟩
    refine ⟨.ref l, rfl, !us.isEmpty, .inl ⟨us, .inl (.inl hl'), rfl⟩, ?_⟩
    have hlen := dps_len da
    rw [List.length_map] at hlen
    cases sw' with
    | done m =>
      have : us = [] := List.eq_nil_of_length_eq_zero hlen
      subst this
      refine iteF ?_
      exact q _ B' Hc g (.d (.bl true))
    | @bad m ws k' t' hW =>
      rw [List.map_append] at da
      have hne : us.isEmpty = false := by
        cases us with
        | nil => simp at hlen
        | cons => rfl
      rw [hne]
      refine iteT ?_
      obtain ⟨y, hy, dy⟩ := dps_get (i := ws.length) da (d := pairD (k', t')) (by rw [List.getElem?_append_right (by simp)]; simp)
      have hul : us.length - 1 = ws.length := by rw [hlen, List.length_append]; simp
      refine ⟨fun _ _ => False, fun _ _ z => z.elim, .ref l, rfl, .inl ⟨rfl, _, .inl (.inl hl')⟩, l, us, y, rfl, rfl, hl', by rw [hul]; exact hy, ?_⟩
      have g2 := go_mut g hlH nb (o := .lst us.dropLast)
      cases dy with
      | @tup b2 zs _ hz hza =>
        cases hza with
        | cons q1 hza =>
          cases hza with
          | cons q2 hza =>
            cases hza
            refine ⟨b2, _, rfl, ex_t g2.sub hz, rfl, _, _, rfl, _, _, rfl, rfl, ?_⟩
            refine ⟨rfl, _, rfl, _, rfl, _, rfl, ?_⟩
            refine ⟨B', [dk, k', t'], .none, g2.sub, .cons (r0.ex g.eb) (.cons (.d q1) (.cons (.d q2) .nil)), hW, fun v B3 H3 g3 r3 => ?_⟩
            have r3 := r3.dp rfl
            cases r3
            refine ⟨.non, rfl, _, rfl, ?_⟩
            refine iteT ?_
            exact q _ B3 H3 (g2.trans g3) (.d (.bl false))
    | @more m ws held k' t' _ hW hlen2 sw2 =>
      rw [List.map_append] at da
      have hne : us.isEmpty = false := by
        cases us with
        | nil => simp at hlen
        | cons => rfl
      rw [hne]
      refine iteT ?_
      obtain ⟨y, hy, dy⟩ := dps_get (i := ws.length) da (d := pairD (k', t')) (by rw [List.getElem?_append_right (by simp)]; simp)
      have hul : us.length - 1 = ws.length := by rw [hlen, List.length_append]; simp
      refine ⟨fun σ' H' => ∃ (B' : Hp) (us : List V) (x5 x6 x7 : Option V), σ' = [some v0, some v1, some v2, some (.ref fw), some (.ref l), x5, x6, x7] ∧ Go B H B' H' ∧ B' l = none ∧ H' l = some (.lst us) ∧ DpAll K B' us ((ws ++ held).map pairD), ?_, .ref l, rfl, .inl ⟨rfl, _, .inl (.inl hl')⟩, l, us, y, rfl, rfl, hl', by rw [hul]; exact hy, ?_⟩
      · rintro σ' H' ⟨B2, us2, x5, x6, x7, e, g2, nb2, h2, d2⟩
        exact ⟨m, Nat.lt_succ_self m, B2, _, us2, x5, x6, x7, e, g2, nb2, h2, d2, sw2⟩
      have g2 := go_mut g hlH nb (o := .lst us.dropLast)
      have dl : DpAll K B' us.dropLast (ws.map pairD) := by
        have key : ∀ (as : List PyData) (z : PyData) (vs : List V), DpAll K B' vs (as ++ [z]) → DpAll K B' vs.dropLast as := by
          intro as
          induction as with
          | nil =>
            intro z vs h
            cases h with
            | cons h1 h2 =>
              cases h2
              exact .nil
          | cons a as ih =>
            intro z vs h
            cases h with
            | cons h1 h2 =>
              rename_i v vs'
              have hne : vs' ≠ [] := by
                intro e
                subst e
                have := dps_len h2
                simp at this
              rw [List.dropLast_cons_of_ne_nil hne]
              exact .cons h1 (ih z vs' h2)
        exact key _ _ _ da
      cases dy with
      | @tup b2 zs _ hz hza =>
        cases hza with
        | cons q1 hza =>
          cases hza with
          | cons q2 hza =>
            cases hza
            refine ⟨b2, _, rfl, ex_t g2.sub hz, rfl, _, _, rfl, _, _, rfl, rfl, ?_⟩
            refine ⟨rfl, _, rfl, _, rfl, _, rfl, ?_⟩
            refine ⟨B', [dk, k', t'], listX (held.map pairD), g2.sub, .cons (r0.ex g.eb) (.cons (.d q1) (.cons (.d q2) .nil)), hW, fun v B3 H3 g3 r3 => ?_⟩
            obtain ⟨c, zs, rfl, hc, hd⟩ := rt_listX r3
            have hl3 : H3 l = some (.lst us.dropLast) := g3.eh l _ upd_same
            have hlz := dps_len hd
            have hlu := dps_len dl
            rw [List.length_map] at hlz hlu
            refine ⟨.ref c, rfl, _, rfl, ?_⟩
            refine iteF ?_
            refine ⟨.ref l, rfl, .inl ⟨rfl, _, .inl (.inl hl3)⟩, .ref c, rfl, l, c, us.dropLast, zs, rfl, rfl, hl3, g3.sub _ _ hc, by rw [hlz, hlu]; exact Nat.le_trans hlen2 (by decide), ?_⟩
            have nb3 : B3 l = none := g3.fr l _ upd_same nb
            refine ⟨B3, us.dropLast ++ zs, _, _, _, rfl, go_mut (g2.trans g3) hlH nb3, nb3, upd_same, ?_⟩
            rw [List.map_append]
            exact dps_append hd (dps_ex g3.eb _ _ dl)
end
end FP
namespace FP
open PySem PySem.Spec PyProof.Rows L2 FC
open Evl (Ex)
abbrev s_check_kind : Stmt := topS 44
abbrev s_check_value : Stmt := topS 45
abbrev s_check_clauses : Stmt := topS 47
abbrev s_check_lists : Stmt := topS 48
/-! ### the mirrors -/
def numsD (lo hi : Int) : PyData := .tuple [.str "numbers", .int lo, .int hi]
def rowsD (c : Str) : PyData := .tuple [.str "rows", .str c]
def fromD (a b : PyData) : PyData := .tuple [.str "from", a, b]
def bnd : PyData → Bool
  | .none => true
  | .int _ => true
  | _ => false
def loB : PyData → Int → Bool
  | .int a, i => decide (a ≤ i)
  | _, _ => true
def hiB : PyData → Int → Bool
  | .int b, i => decide (i ≤ b)
  | _, _ => true
/-- a pattern of numbers -/
inductive OkPat : PyData → Prop where
  | any : OkPat .none
  | range {a b : PyData} (ha : bnd a = true) (hb : bnd b = true) : OkPat (fromD a b)
def fit : PyData → Int → Bool
  | .tuple [_, a, b], i => loB a i && hiB b i
  | _, _ => true
def Rw_is_bound : List PyData → PyData → Prop := fun ds o => ∃ d, ds = [d] ∧ bnd d = true ∧ o = .bool true
def Rw_is_range_pattern : List PyData → PyData → Prop := fun ds o => ∃ a b, ds = [fromD a b] ∧ bnd a = true ∧ bnd b = true ∧ o = .bool true
def Rw_patterns_within : List PyData → PyData → Prop := fun ds o => ∃ kvs k p lo hi, ds = [dictOf kvs, .str k, p] ∧ OkPat p ∧ look kvs k = some (numsD lo hi) ∧ o = listX []
def Rw_is_pattern : List PyData → PyData → Prop := fun ds o => ∃ kvs k p lo hi, ds = [dictOf kvs, .str k, p] ∧ OkPat p ∧ look kvs k = some (numsD lo hi) ∧ o = .bool true
def Rw_pattern_fits : List PyData → PyData → Prop := fun ds o => ∃ p i, ds = [p, .int i] ∧ OkPat p ∧ o = .bool (fit p i)
def clauseD (c : PyData × Str) : PyData := .tuple [c.1, .str c.2]
def OkClause (c : PyData × Str) : Prop := OkPat c.1 ∧ isNameS c.2 = true
def Rw_is_clause : List PyData → PyData → Prop := fun ds o => ∃ kvs k c lo hi, ds = [dictOf kvs, .str k, clauseD c] ∧ OkClause c ∧ look kvs k = some (numsD lo hi) ∧ o = .bool true
def Rw_is_clauses : List PyData → PyData → Prop := fun ds o => ∃ (kvs : List (Str × PyData)) (k : Str) (cs : List (PyData × Str)) (lo hi : Int), ds = [dictOf kvs, .str k, .list (cs.map clauseD)] ∧ (∀ c ∈ cs, OkClause c) ∧ cs.length ≤ 1000 ∧ look kvs k = some (numsD lo hi) ∧ o = .bool true
/-- the place of the first clause that fits -/
def taken (cs : List (PyData × Str)) (i : Int) (o : PyData) : Prop :=
  (∃ m c, cs[m]? = some c ∧ (∀ j c', j < m → cs[j]? = some c' → fit c'.1 i = false) ∧ fit c.1 i = true ∧ o = .int (m : Nat)) ∨ ((∀ c ∈ cs, fit c.1 i = false) ∧ o = .none)
def Rw_first_fitting : List PyData → PyData → Prop := fun ds o => ∃ (cs : List (PyData × Str)) (i : Int), ds = [.list (cs.map clauseD), .int i] ∧ (∀ c ∈ cs, OkClause c) ∧ cs.length ≤ 1000 ∧ taken cs i o
def Rw_values_within : List PyData → PyData → Prop := fun ds o => ∃ kvs k v, ds = [dictOf kvs, .str k, v] ∧
  ((∃ lo hi i, look kvs k = some (numsD lo hi) ∧ v = .int i ∧ lo ≤ i ∧ i ≤ hi ∧ o = listX []) ∨
   (∃ (c : Str) (xs : List PyData), look kvs k = some (rowsD c) ∧ v = .list xs ∧ xs.length ≤ 1000 ∧ xs.all plain = true ∧ o = listX ((xs.map fun d => (PyData.str c, d)).map pairD)))
/-- a value, all that it holds -/
def ValueOk (kvs : List (Str × PyData)) (k : Str) (v : PyData) : Prop := ∃ n, Sweep (fun k t o => Rw_values_within [dictOf kvs, k, t] o) n [(.str k, v)] true
def Rw_check_kind : List PyData → PyData → Prop := fun ds o => ∃ kvs k, ds = [dictU kvs, .str k] ∧ KindsOk kvs ∧ (look kvs k).isSome = true ∧ o = .none
def Rw_check_value : List PyData → PyData → Prop := fun ds o => ∃ kvs k v, ds = [dictOf kvs, .str k, v] ∧ plain v = true ∧ ValueOk kvs k v ∧ o = .none
def Rw_check_pattern : List PyData → PyData → Prop := fun ds o => ∃ kvs k p lo hi, ds = [dictOf kvs, .str k, p] ∧ OkPat p ∧ look kvs k = some (numsD lo hi) ∧ o = .none
def Rw_check_clauses : List PyData → PyData → Prop := fun ds o => ∃ (kvs : List (Str × PyData)) (k : Str) (cs : List (PyData × Str)) (lo hi : Int), ds = [dictOf kvs, .str k, .list (cs.map clauseD)] ∧ (∀ c ∈ cs, OkClause c) ∧ cs.length ≤ 1000 ∧ look kvs k = some (numsD lo hi) ∧ o = .none
def Rw_check_lists : List PyData → PyData → Prop := fun ds o => ∃ (kvs : List (Str × PyData)) (k : Str) (cs : List (PyData × Str)) (lo hi : Int), ds = [dictU kvs, .str k, .list [.list (cs.map clauseD)]] ∧ KindsOk kvs ∧ (∀ c ∈ cs, OkClause c) ∧ cs.length ≤ 1000 ∧ look kvs k = some (numsD lo hi) ∧ o = .none
def Rw_fits : List PyData → PyData → Prop := fun ds o => ∃ kvs k p lo hi i, ds = [dictU kvs, .str k, p, .int i] ∧ KindsOk kvs ∧ look kvs k = some (numsD lo hi) ∧ OkPat p ∧ lo ≤ i ∧ i ≤ hi ∧ o = .bool (fit p i)
def Rw_taker : List PyData → PyData → Prop := fun ds o => ∃ (kvs : List (Str × PyData)) (k : Str) (cs : List (PyData × Str)) (lo hi i : Int), ds = [dictU kvs, .str k, .list (cs.map clauseD), .int i] ∧ KindsOk kvs ∧ look kvs k = some (numsD lo hi) ∧ (∀ c ∈ cs, OkClause c) ∧ cs.length ≤ 1000 ∧ lo ≤ i ∧ i ≤ hi ∧ taken cs i o
def lab (cs : List (PyData × Str)) : PyData → PyData
  | .int m => match cs[m.toNat]? with
    | some c => .str c.2
    | none => .none
  | _ => .none
def Rw_label : List PyData → PyData → Prop := fun ds o => ∃ (kvs : List (Str × PyData)) (k : Str) (cs : List (PyData × Str)) (lo hi i : Int) (o' : PyData), ds = [dictU kvs, .str k, .list (cs.map clauseD), .int i] ∧ KindsOk kvs ∧ look kvs k = some (numsD lo hi) ∧ (∀ c ∈ cs, OkClause c) ∧ cs.length ≤ 1000 ∧ lo ≤ i ∧ i ≤ hi ∧ taken cs i o' ∧ o = lab cs o'
section
variable {P : Program} {w : World} {K : PySem.W.Frag} {mg : Str → Option Value} {base : Heap} {f : Addr} {fd : FuncData} {G : List (Option PyData)}
theorem dt_tup {ta : TE} {ds : List PyData} (h : DE K ta G (.tuple ds)) : DT K (fun σ H Q => ta σ H fun x H' => ∃ k, TruV K x H' k ∧ Q k H') G (!ds.isEmpty) := fun σ B H x en Q q => h σ B H x en _ fun v B' H' g r => by
  have r := r.dp rfl
  cases r with
  | @tup a vs _ hs ha =>
    refine ⟨!ds.isEmpty, .inr (.inl ⟨vs, ex_t g.sub hs, ?_⟩), q B' H' g⟩
    have hl := dps_len ha
    cases vs <;> cases ds <;> simp at hl ⊢
theorem de_sound {t0 t1 t2 : TE} {fw : Addr} {fdw : FuncData} {psw : List Str} {kk : Nat} {W : List PyData → PyData → Prop} {dk k t : PyData} {b : Bool} {n : Nat}
    (Fw : FnOk P w K mg base CX0 kk fw fdw psw (spR K W)) (kw : PySem.W.keepIn K (.ref fw) = true) (bw : Binds K fdw psw [])
    (h0 : DE K t0 G dk) (h1 : DE K t1 G k) (h2 : DE K t2 G t) (p1 : plain k = true) (p2 : plain t = true) (sw : Sweep (fun k t o => W [dk, k, t] o) n [(k, t)] b) :
    DE K (tCall (spSound P w K mg base kk) [] E0 (tCons t0 (tCons t1 (tCons t2 (tCons (tC (.ref fw)) tNil))))) G (.bool b) := fun σ B H x en Q q =>
  h0 σ B H x en _ fun v0 B1 H1 g1 r0 => h1 σ B1 H1 g1.sub (en.ex g1.eb) _ fun v1 B2 H2 g2 r1 => h2 σ B2 H2 g2.sub ((en.ex g1.eb).ex g2.eb) _ fun v2 B3 H3 g3 r2 => by
    refine ⟨B3, v0, v1, v2, fw, fdw, psw, W, dk, k, t, b, n, g3.sub, Fw, kw, bw, rfl, (r0.ex g2.eb).ex g3.eb, (r1.dp p1 |> dp_ex g3.eb _ _), r2.dp p2, sw, fun v B' H' g r => ?_⟩
    exact q v B' H' (g1.trans (g2.trans (g3.trans g))) r
theorem OkPat.plain {p : PyData} (h : OkPat p) : FC.plain p = true := by
  cases h <;> rfl
theorem sc_is_bound : FnScope ["thing"] ["thing"] (defScope s_is_bound) := ⟨rfl, rfl, rfl, by decide +kernel, rfl, by decide +kernel, by decide +kernel⟩
theorem ok_is_bound (F : Fun K "is_bound" "is_bound" s_is_bound f fd) (cw : CL P w K mg base 1 "is_whole" Rw_is_whole) : FnOk P w K mg base CX0 2 f fd ["thing"] (spR K Rw_is_bound) := by
  refine F.ok sc_is_bound (spR_len (by rintro _ _ ⟨_, rfl, _⟩; rfl)) (fun cdv A outer s H vs Q E hr h => ?_)
  obtain ⟨B, ds, o, x, r, ⟨d, rfl, hb, rfl⟩, q⟩ := h
  refine ⟨_, pss_one (ps_ret (pe_or (pe_cmp (pc_isN (pv 0))) (pe_one (pe_cl cw hr (by decide) (by rfl) (pa_cons (pv 0) pa_nil))))), ?_⟩
  refine fin_rt ?_ x r q
  show DS K _ [some d] _
  refine ds_ret (de_is (de_or (de_isN (de_var rfl)) fun _ => de_call' (da_cons (de_var rfl) da_nil) ⟨d, rfl, rfl⟩) ?_)
  cases d <;> first | rfl | cases hb
theorem sc_is_range_pattern : FnScope ["thing"] ["thing"] (defScope s_is_range_pattern) := ⟨rfl, rfl, rfl, by decide +kernel, rfl, by decide +kernel, by decide +kernel⟩
theorem ok_is_range_pattern (F : Fun K "is_range_pattern" "is_range_pattern" s_is_range_pattern f fd) (M : Bl mg) (cb : CL P w K mg base 2 "is_bound" Rw_is_bound) : FnOk P w K mg base CX0 3 f fd ["thing"] (spR K Rw_is_range_pattern) := by
  refine F.ok sc_is_range_pattern (spR_len (by rintro _ _ ⟨_, _, rfl, _⟩; rfl)) (fun cdv A outer s H vs Q E hr h => ?_)
  obtain ⟨B, ds, o, x, r, ⟨a, b, rfl, ha, hb, rfl⟩, q⟩ := h
  have hu64 : (A.deeper (envOfC "is_range_pattern" (defScope s_is_range_pattern) s.heap.objs.size f cdv)).units + 64 < cLine := by have := hr.un; omega
  refine ⟨_, pss_one (ps_ret (pe_and (pe_cmpR (op_eqD hu64) (pe_callB call_lenR (by rfl) M.len PySem.boot_len (pa_cons (pv 0) pa_nil)) pe_int (nomark _)) (pe_and (pe_cmpR (op_eqD hu64) (pe_ix ix_tup (pv 0) pe_int (fun _ _ => rfl)) pe_str (nomark _))
    (pe_and (pe_cl cb hr (by decide) (by rfl) (pa_cons (pe_ix ix_tup (pv 0) pe_int (fun _ _ => rfl)) pa_nil)) (pe_one (pe_cl cb hr (by decide) (by rfl) (pa_cons (pe_ix ix_tup (pv 0) pe_int (fun _ _ => rfl)) pa_nil))))))), ?_⟩
  refine fin_rt ?_ x r q
  show DS K _ [some (fromD a b)] _
  refine ds_ret (de_is (de_and (de_op (de_cb (da_cons (de_var rfl) da_nil) cd_lenT) de_int (rd_eq rfl rfl rfl rfl)) fun _ => de_and (de_op (de_op (de_var rfl) de_int (rd_ixT (j := 0) rfl rfl)) de_str (rd_eq (by decide +kernel) (by decide +kernel) rfl rfl)) fun _ =>
    de_and (de_call' (da_cons (de_op (de_var rfl) de_int (rd_ixT (j := 1) rfl rfl)) da_nil) ⟨a, rfl, ha, rfl⟩) fun _ => de_call' (da_cons (de_op (de_var rfl) de_int (rd_ixT (j := 2) rfl rfl)) da_nil) ⟨b, rfl, hb, rfl⟩) ?_)
  exact congrArg PyData.bool (show (PyData.eqv (.int 3) (.int 3) && (PyData.eqv (.str "from") (.str "from") && (true && true))) = true by decide +kernel)
theorem sc_patterns_within : FnScope ["kinds", "kind", "thing", "form", "choice"] ["kinds", "kind", "thing"] (defScope s_patterns_within) := ⟨rfl, rfl, rfl, by decide +kernel, rfl, by decide +kernel, by decide +kernel⟩
theorem ok_patterns_within (F : Fun K "patterns_within" "patterns_within" s_patterns_within f fd) (M : Bl mg) (cr : CL P w K mg base 3 "is_range_pattern" Rw_is_range_pattern) : FnOk P w K mg base CX0 4 f fd ["kinds", "kind", "thing"] (spR K Rw_patterns_within) := by
  refine F.ok sc_patterns_within (spR_len (by rintro _ _ ⟨_, _, _, _, _, rfl, _⟩; rfl)) (fun cdv A outer s H vs Q E hr h => ?_)
  obtain ⟨B, ds, o, x, r, ⟨kvs, k, p, lo, hi, rfl, hp, hk, rfl⟩, q⟩ := h
  have hu := hu_of hr
  have hu64 : (A.deeper (envOfC "patterns_within" (defScope s_patterns_within) s.heap.objs.size f cdv)).units + 64 < cLine := by have := hr.un; omega
  refine ⟨_, pss_cons (ps_if (pt_cmp (pc_isN (pv 2))) (pss_one (ps_ret (pe_lst pa_nil))) pss_nil)
    (pss_cons (ps_if (pw_or (pt_not (pt_val (k_isi (pv 2) (by rfl) M.isi (by rfl) M.tuple PyProof.Rows.boot_tuple (by decide) (by decide)))) (pw_or1 (pt_not (pt_truth (pv 2) (by intro _; rfl))))).pt pss_never pss_nil)
    (pss_cons (ps_if (pt_cmpR (op_eqD hu64) (pe_ix ix_tup (pv 2) pe_int (fun _ _ => rfl)) pe_str (nomark _)) pss_never pss_nil)
    (pss_cons (ps_set (i := 3) sc_patterns_within.nd rfl (Or.inl rfl) (pe_dget hu (pv 0) (pv 1) (fun _ _ => rfl)))
    (pss_cons (ps_if (pt_cmpR (op_eqD hu64) (pe_ix ix_tup (pv 3) pe_int (fun _ _ => rfl)) pe_str (nomark _)) (pss_one (ps_ret (pe_ifExp (pt_val (pe_cl cr hr (by decide) (by rfl) (pa_cons (pv 2) pa_nil))) (pe_lst pa_nil) pe_dead))) pss_nil)
    pss_never)))), ?_⟩
  refine fin_rt ?_ x r q
  show DS K _ [some (dictOf kvs), some (.str k), some p, none, none] _
  cases hp with
  | any => exact ds_guard (b := true) (dt_is (dt_B (de_isN (de_var rfl))) rfl) (fun _ => ds_ret (de_lstX da_nil rfl (by decide))) (fun z => nomatch z)
  | @range a b ha hb =>
    refine ds_guard (b := false) (dt_is (dt_B (de_isN (de_var rfl))) rfl) (fun z => nomatch z) fun _ => ?_
    refine ds_guard (b := false) (dt_is (dt_or (dt_not (dt_B (de_ty (de_var rfl) rfl ktt))) fun _ => dt_not (dt_tup (de_var rfl))) rfl) (fun z => nomatch z) fun _ => ?_
    refine ds_guard (b := false) (dt_is (dt_test (de_op (de_op (de_var rfl) de_int (rd_ixT (j := 0) rfl rfl)) de_str (rd_eq (by decide +kernel) (by decide +kernel) rfl rfl))) (by decide +kernel)) (fun z => nomatch z) fun _ => ?_
    refine ds_seq (ds_set (de_dget (de_var rfl) (de_var rfl) hk)) ?_
    show DS K _ [some (dictOf kvs), some (.str k), some (fromD a b), some (numsD lo hi), none] _
    refine ds_guard (b := true) (dt_is (dt_test (de_op (de_op (de_var rfl) de_int (rd_ixT (j := 0) rfl rfl)) de_str (rd_eq (by decide +kernel) (by decide +kernel) rfl rfl))) (by decide +kernel)) (fun _ => ds_ret ?_) (fun z => nomatch z)
    exact de_if (b := true) (dt_B (de_call' (da_cons (de_var rfl) da_nil) ⟨a, b, rfl, ha, hb, rfl⟩)) (fun _ => de_lstX da_nil rfl (by decide)) (fun z => nomatch z)
theorem sc_is_pattern : FnScope ["kinds", "kind", "thing"] ["kinds", "kind", "thing"] (defScope s_is_pattern) := ⟨rfl, rfl, rfl, by decide +kernel, rfl, by decide +kernel, by decide +kernel⟩
theorem ok_is_pattern (F : Fun K "is_pattern" "is_pattern" s_is_pattern f fd) (cs : Cl P w K mg base 5 "is_sound" (spSound P w K mg base 4)) (cp : CL P w K mg base 4 "patterns_within" Rw_patterns_within) : FnOk P w K mg base CX0 6 f fd ["kinds", "kind", "thing"] (spR K Rw_is_pattern) := by
  refine F.ok sc_is_pattern (spR_len (by rintro _ _ ⟨_, _, _, _, _, rfl, _⟩; rfl)) (fun cdv A outer s H vs Q E hr h => ?_)
  obtain ⟨B, ds, o, x, r, ⟨kvs, k, p, lo, hi, rfl, hp, hk, rfl⟩, q⟩ := h
  obtain ⟨fw, fdw, psw, Fw, mw, kw, bw⟩ := cp.ex
  refine ⟨_, pss_one (ps_ret (pe_cl cs hr (by decide) (by rfl) (pa_cons (pv 0) (pa_cons (pv 1) (pa_cons (pv 2) (pa_cons (pe_glob (v := .ref fw) (by rfl) mw rfl) pa_nil)))))), ?_⟩
  refine fin_rt ?_ x r q
  show DS K _ [some (dictOf kvs), some (.str k), some p] _
  exact ds_ret (de_sound Fw kw bw (de_var rfl) (de_var rfl) (de_var rfl) rfl hp.plain (Sweep.leaf ⟨kvs, k, p, lo, hi, rfl, hp, hk, rfl⟩))
theorem sc_pattern_fits : FnScope ["pattern", "value", "choice"] ["pattern", "value"] (defScope s_pattern_fits) := ⟨rfl, rfl, rfl, by decide +kernel, rfl, by decide +kernel, by decide +kernel⟩
theorem ok_pattern_fits (F : Fun K "pattern_fits" "pattern_fits" s_pattern_fits f fd) : FnOk P w K mg base CX0 1 f fd ["pattern", "value"] (spR K Rw_pattern_fits) := by
  refine F.ok sc_pattern_fits (spR_len (by rintro _ _ ⟨_, _, rfl, _⟩; rfl)) (fun cdv A outer s H vs Q E hr h => ?_)
  obtain ⟨B, ds, o, x, r, ⟨p, i, rfl, hp, rfl⟩, q⟩ := h
  have hu64 : (A.deeper (envOfC "pattern_fits" (defScope s_pattern_fits) s.heap.objs.size f cdv)).units + 64 < cLine := by have := hr.un; omega
  refine ⟨_, pss_cons (ps_if (pt_cmp (pc_isN (pv 0))) (pss_one (ps_ret pe_bl)) pss_nil)
    (pss_cons (ps_if (pt_cmpR (op_eqD hu64) (pe_ix ix_tup (pv 0) pe_int (fun _ _ => rfl)) pe_str (nomark _)) pss_never pss_nil)
    (pss_cons (ps_if (pt_cmpR (op_eqD hu64) (pe_ix ix_tup (pv 0) pe_int (fun _ _ => rfl)) pe_str (nomark _)) (pss_one (ps_ret (pe_and (pe_or (pe_cmp (pc_isN (pe_ix ix_tup (pv 0) pe_int (fun _ _ => rfl)))) (pe_one (pe_cmpR op_le (pe_ix ix_tup (pv 0) pe_int (fun _ _ => rfl)) (pv 1) (nomark _))))
      (pe_one (pe_or (pe_cmp (pc_isN (pe_ix ix_tup (pv 0) pe_int (fun _ _ => rfl)))) (pe_one (pe_cmpR op_le (pv 1) (pe_ix ix_tup (pv 0) pe_int (fun _ _ => rfl)) (nomark _)))))))) pss_nil)
    pss_never)), ?_⟩
  refine fin_rt ?_ x r q
  show DS K _ [some p, some (.int i), none] _
  cases hp with
  | any => exact ds_guard (b := true) (dt_is (dt_B (de_isN (de_var rfl))) rfl) (fun _ => ds_ret de_bl) (fun z => nomatch z)
  | @range a b ha hb =>
    refine ds_guard (b := false) (dt_is (dt_B (de_isN (de_var rfl))) rfl) (fun z => nomatch z) fun _ => ?_
    refine ds_guard (b := false) (dt_is (dt_test (de_op (de_op (de_var rfl) de_int (rd_ixT (j := 0) rfl rfl)) de_str (rd_eq (by decide +kernel) (by decide +kernel) rfl rfl))) (by decide +kernel)) (fun z => nomatch z) fun _ => ?_
    refine ds_guard (b := true) (dt_is (dt_test (de_op (de_op (de_var rfl) de_int (rd_ixT (j := 0) rfl rfl)) de_str (rd_eq (by decide +kernel) (by decide +kernel) rfl rfl))) (by decide +kernel)) (fun _ => ds_ret ?_) (fun z => nomatch z)
    have h1 : DE K (tOrV (tIsN (tOp (rIxT K) (tVar 0) (tC (.int 1)))) (tOp (rI0 fun i j => .bl (decide (i ≤ j))) (tOp (rIxT K) (tVar 0) (tC (.int 1))) (tVar 1))) [some (fromD a b), some (.int i), none] (.bool (loB a i)) := by
      cases a with
      | none => exact de_is (de_or (c := true) (de_isN (de_op (de_var rfl) de_int (rd_ixT (j := 1) rfl rfl))) (fun z => nomatch z)) rfl
      | int a => exact de_is (de_or (de_isN (de_op (de_var rfl) de_int (rd_ixT (j := 1) rfl rfl))) fun _ => de_op (de_op (de_var rfl) de_int (rd_ixT (j := 1) rfl rfl)) (de_var rfl) rd_le) rfl
      | _ => cases ha
    have h2 : DE K (tOrV (tIsN (tOp (rIxT K) (tVar 0) (tC (.int 2)))) (tOp (rI0 fun i j => .bl (decide (i ≤ j))) (tVar 1) (tOp (rIxT K) (tVar 0) (tC (.int 2))))) [some (fromD a b), some (.int i), none] (.bool (hiB b i)) := by
      cases b with
      | none => exact de_is (de_or (c := true) (de_isN (de_op (de_var rfl) de_int (rd_ixT (j := 2) rfl rfl))) (fun z => nomatch z)) rfl
      | int b => exact de_is (de_or (de_isN (de_op (de_var rfl) de_int (rd_ixT (j := 2) rfl rfl))) fun _ => de_op (de_var rfl) (de_op (de_var rfl) de_int (rd_ixT (j := 2) rfl rfl)) rd_le) rfl
      | _ => cases hb
    exact de_and h1 fun _ => h2
end
end FP
namespace FP
open PySem PySem.Spec PyProof.Rows L2 FC
open Evl (Ex)
section
variable {P : Program} {w : World} {K : PySem.W.Frag} {mg : Str → Option Value} {base : Heap} {f : Addr} {fd : FuncData} {G : List (Option PyData)}
theorem sc_is_clause : FnScope ["kinds", "kind", "thing"] ["kinds", "kind", "thing"] (defScope s_is_clause) := ⟨rfl, rfl, rfl, by decide +kernel, rfl, by decide +kernel, by decide +kernel⟩
theorem ok_is_clause (F : Fun K "is_clause" "is_clause" s_is_clause f fd) (M : Bl mg) (cp : CL P w K mg base 6 "is_pattern" Rw_is_pattern) (cn : CL P w K mg base 1 "is_name" Rw_is_name) : FnOk P w K mg base CX0 7 f fd ["kinds", "kind", "thing"] (spR K Rw_is_clause) := by
  refine F.ok sc_is_clause (spR_len (by rintro _ _ ⟨_, _, _, _, _, rfl, _⟩; rfl)) (fun cdv A outer s H vs Q E hr h => ?_)
  obtain ⟨B, ds, o, x, r, ⟨kvs, k, c, lo, hi, rfl, ⟨hp, hn⟩, hk, rfl⟩, q⟩ := h
  have hu64 : (A.deeper (envOfC "is_clause" (defScope s_is_clause) s.heap.objs.size f cdv)).units + 64 < cLine := by have := hr.un; omega
  refine ⟨_, pss_cons (ps_if (pw_or (pt_not (pt_val (k_isi (pv 2) (by rfl) M.isi (by rfl) M.tuple PyProof.Rows.boot_tuple (by decide) (by decide)))) (pw_or1 (pt_cmpR (op_neD hu64) (pe_callB call_lenR (by rfl) M.len PySem.boot_len (pa_cons (pv 2) pa_nil)) pe_int (nomark _)))).pt (pss_one (ps_ret pe_bl)) pss_nil)
    (pss_one (ps_ret (pe_and (pe_cl cp hr (by decide) (by rfl) (pa_cons (pv 0) (pa_cons (pv 1) (pa_cons (pe_ix ix_tup (pv 2) pe_int (fun _ _ => rfl)) pa_nil)))) (pe_one (pe_cl cn hr (by decide) (by rfl) (pa_cons (pe_ix ix_tup (pv 2) pe_int (fun _ _ => rfl)) pa_nil)))))), ?_⟩
  refine fin_rt ?_ x r q
  show DS K _ [some (dictOf kvs), some (.str k), some (.tuple [c.1, .str c.2])] _
  refine ds_guard (b := false) (dt_is (dt_or (dt_not (dt_B (de_ty (de_var rfl) rfl ktt))) fun _ => dt_test (de_op (de_cb (da_cons (de_var rfl) da_nil) cd_lenT) de_int (rd_ne rfl rfl rfl rfl))) rfl) (fun z => nomatch z) fun _ => ?_
  exact ds_ret (de_is (de_and (de_call' (da_cons (de_var rfl) (da_cons (de_var rfl) (da_cons (de_op (de_var rfl) de_int (rd_ixT (j := 0) rfl rfl)) da_nil))) ⟨kvs, k, c.1, lo, hi, rfl, hp, hk, rfl⟩) fun _ => de_call' (da_cons (de_op (de_var rfl) de_int (rd_ixT (j := 1) rfl rfl)) da_nil) ⟨c.2, rfl, hn, rfl⟩) rfl)
theorem sc_is_clauses : FnScope ["kinds", "kind", "thing", "clause"] ["kinds", "kind", "thing"] (defScope s_is_clauses) := ⟨rfl, rfl, rfl, by decide +kernel, rfl, by decide +kernel, by decide +kernel⟩
theorem ok_is_clauses (F : Fun K "is_clauses" "is_clauses" s_is_clauses f fd) (M : Bl mg) (cc : CL P w K mg base 7 "is_clause" Rw_is_clause) : FnOk P w K mg base CX0 8 f fd ["kinds", "kind", "thing"] (spR K Rw_is_clauses) := by
  refine F.ok sc_is_clauses (spR_len (by rintro _ _ ⟨_, _, _, _, _, rfl, _⟩; rfl)) (fun cdv A outer s H vs Q E hr h => ?_)
  obtain ⟨B, ds, o, x, r, ⟨kvs, k, cs, lo, hi, rfl, hc, hl, hk, rfl⟩, q⟩ := h
  refine ⟨_, pss_one (ps_ret (pe_and (k_isi (pv 2) (by rfl) M.isi (by rfl) M.list PyProof.Rows.boot_list (by decide) (by decide)) (pe_one (pe_callB (cr_all rfl) (by rfl) M.all PyProof.Rows.boot_all (pa_cons
    (pe_lc (own := [("clause", 3)]) (g := gName 3) (tt := tYes) rfl sc_is_clauses.nd (pi_list (pv 2)) (blkOk_by (N := ["kinds", "kind", "thing", "clause"]) (sc := defScope s_is_clauses) (by decide +kernel)) (fun _ _ _ _ _ => pg_name (i := 3) sc_is_clauses.nd rfl (Or.inl rfl)) (fun _ _ _ _ _ => pts_nil)
      (fun _ _ _ _ _ => pe_cl cc hr (by decide) (by rfl) (pa_cons (pv 0) (pa_cons (pv 1) (pa_cons (pv 3) pa_nil))))) pa_nil))))), ?_⟩
  refine fin_rt ?_ x r q
  show DS K _ [some (dictOf kvs), some (.str k), some (.list (cs.map clauseD)), none] _
  have all1 : ∀ n, ((List.range n).map fun _ => true).all id = true := fun n => all_true fun _ _ => rfl
  refine ds_ret (de_is (de_and (de_ty (de_var rfl) rfl kll) fun _ => de_cb (da_cons (de_is (de_lc (fun _ => true) (fun _ => .bool true) (di_list (de_var rfl)) (by decide) (fun _ _ => dt_yes) (fun i hi _ => ?_) (fun _ _ _ => rfl) (by rw [List.length_map]; omega)) (congrArg PyData.list (madeG_bools (fun _ => true) _))) da_nil) cd_all) (by rw [all1]; rfl))
  rw [List.length_map] at hi
  have he : (cs.map clauseD)[i]? = some (clauseD cs[i]) := by rw [List.getElem?_map, List.getElem?_eq_getElem hi]; rfl
  show DE K _ [some (dictOf kvs), some (.str k), some (.list (cs.map clauseD)), (cs.map clauseD)[i]?] _
  rw [he]
  exact de_call' (da_cons (de_var rfl) (da_cons (de_var rfl) (da_cons (de_var rfl) da_nil))) ⟨kvs, k, cs[i], lo, _, rfl, hc _ (List.getElem_mem _), hk, rfl⟩
theorem sc_first_fitting : FnScope ["clauses", "value", "at", "pattern", "_"] ["clauses", "value"] (defScope s_first_fitting) := ⟨rfl, rfl, rfl, by decide +kernel, rfl, by decide +kernel, by decide +kernel⟩
theorem ok_first_fitting (F : Fun K "first_fitting" "first_fitting" s_first_fitting f fd) (M : Bl mg) (cp : CL P w K mg base 1 "pattern_fits" Rw_pattern_fits) : FnOk P w K mg base CX0 2 f fd ["clauses", "value"] (spR K Rw_first_fitting) := by
  refine F.ok sc_first_fitting (spR_len (by rintro _ _ ⟨_, _, rfl, _⟩; rfl)) (fun cdv A outer s H vs Q E hr h => ?_)
  obtain ⟨B, ds, o, x, r, ⟨cs, i, rfl, hc, hl, ht⟩, q⟩ := h
  have nd := sc_first_fitting.nd
  refine ⟨_, pss_cons (ps_for PassesOwn.never rfl (pi_enum (by rfl) M.enum (pa_cons (pv 0) pa_nil)) (pg_tup rfl (pgs_cons (pg_name (i := 2) nd rfl (.inl rfl)) (pgs_cons (pg_tup rfl (pgs_cons (pg_name (i := 3) nd rfl (.inl rfl)) (pgs_cons (pg_name (i := 4) nd rfl (.inl rfl)) pgs_nil))) pgs_nil)))
      (pss_one (ps_if (pt_val (pe_cl cp hr (by decide) (by rfl) (pa_cons (pv 3) (pa_cons (pv 1) pa_nil)))) (pss_one (ps_ret (pv 2))) pss_nil)))
    (pss_one (ps_ret pe_non)), ?_⟩
  refine fin_rt ?_ x r q
  show DS K _ [some (.list (cs.map clauseD)), some (.int i), none, none, none] _
  let ps : List (PyData × PyData) := cs.map fun c => (c.1, .str c.2)
  have hps : (ps.map fun p => PyData.tuple [p.1, p.2]) = cs.map clauseD := by
    show (cs.map _).map _ = _
    rw [List.map_map]
    rfl
  have hpl : ps.length = cs.length := List.length_map _
  have di : DI K (iEnum K (tCons (tVar 0) tNil)) (gTup K 2 (gCons (gName 2) (gCons (gTup K 2 (gCons (gName 3) (gCons (gName 4) gNil))) gNil))) [2, 3, 4] [some (.list (cs.map clauseD)), some (.int i), none, none, none] ps.length
      (fun i G2 => ((G2.set 2 (some (.int i))).set 3 (ps[i]?.map (·.1))).set 4 (ps[i]?.map (·.2))) := by
    refine di_enumP ?_
    rw [hps]
    exact da_cons (de_var rfl) da_nil
  let Gs : Nat → List (Option PyData) := fun m => match m with
    | 0 => [some (.list (cs.map clauseD)), some (.int i), none, none, none]
    | m + 1 => [some (.list (cs.map clauseD)), some (.int i), some (.int m), ps[m]?.map (·.1), ps[m]?.map (·.2)]
  have st : ∀ m (hm : m < cs.length), (((Gs m).set 2 (some (.int m))).set 3 (ps[m]?.map (·.1))).set 4 (ps[m]?.map (·.2)) = [some (.list (cs.map clauseD)), some (.int i), some (.int m), some cs[m].1, some (.str cs[m].2)] := by
    intro m hm
    have e : ps[m]? = some (cs[m].1, .str cs[m].2) := by
      show (cs.map _)[m]? = _
      rw [List.getElem?_map, List.getElem?_eq_getElem hm]
      rfl
    rw [e]
    cases m <;> rfl
  have test : ∀ m (hm : m < cs.length), DT K (tB (tCall (spR K Rw_pattern_fits) [] E0 (tCons (tVar 3) (tCons (tVar 1) tNil)))) [some (.list (cs.map clauseD)), some (.int i), some (.int m), some cs[m].1, some (.str cs[m].2)] (fit cs[m].1 i) := by
    intro m hm
    exact dt_B (de_call' (da_cons (de_var rfl) (da_cons (de_var rfl) da_nil)) ⟨_, i, rfl, (hc _ (List.getElem_mem hm)).1, rfl⟩)
  have go : ∀ m (hm : m < cs.length), fit cs[m].1 i = false → DS K (tIfS (tB (tCall (spR K Rw_pattern_fits) [] E0 (tCons (tVar 3) (tCons (tVar 1) tNil)))) (tRet (tVar 2)) tNext) ((((Gs m).set 2 (some (.int m))).set 3 (ps[m]?.map (·.1))).set 4 (ps[m]?.map (·.2))) (.nx (Gs (m + 1))) := by
    intro m hm hf
    rw [st m hm]
    refine ds_is (ds_if (b := false) (dt_is (test m hm) hf) (fun z => nomatch z) fun _ => ds_next) ?_
    have e : ps[m]? = some (cs[m].1, .str cs[m].2) := by
      show (cs.map _)[m]? = _
      rw [List.getElem?_map, List.getElem?_eq_getElem hm]
      rfl
    show Out.nx _ = Out.nx [some (.list (cs.map clauseD)), some (.int i), some (.int m), ps[m]?.map (·.1), ps[m]?.map (·.2)]
    rw [e]
    rfl
  rcases ht with ⟨m, c, hm, hbef, hfit, rfl⟩ | ⟨hall, rfl⟩
  · obtain ⟨hml, rfl⟩ := List.getElem?_eq_some_iff.mp hm
    refine ds_seqR (ds_forR m Gs di (by rw [hpl]; exact hml) rfl (fun j hj => ?_) ?_)
    · have hjl : j < cs.length := Nat.lt_trans hj hml
      exact go j hjl (hbef j _ hj (List.getElem?_eq_getElem hjl))
    · rw [st m hml]
      exact ds_if (b := true) (dt_is (test m hml) hfit) (fun _ => ds_ret (de_var rfl)) (fun z => nomatch z)
  · refine ds_seq (ds_for Gs di rfl fun j hj => ?_) (ds_ret de_non)
    rw [hpl] at hj
    exact go j hj (hall _ (List.getElem_mem hj))
theorem sc_values_within : FnScope ["kinds", "kind", "thing", "form", "cell"] ["kinds", "kind", "thing"] (defScope s_values_within) := ⟨rfl, rfl, rfl, by decide +kernel, rfl, by decide +kernel, by decide +kernel⟩
theorem madeG_map (ds : List PyData) (F : PyData → PyData) : madeG (fun _ => true) (fun i => F (ds.getD i .none)) ds.length = ds.map F := by
  unfold madeG
  rw [List.filter_eq_self.mpr (fun _ _ => rfl)]
  refine List.ext_getElem (by simp) fun i h1 h2 => ?_
  have h : i < ds.length := by simpa using h2
  simp [h]
theorem ok_values_within (F : Fun K "values_within" "values_within" s_values_within f fd) (M : Bl mg) (cw : CL P w K mg base 1 "is_whole" Rw_is_whole) : FnOk P w K mg base CX0 2 f fd ["kinds", "kind", "thing"] (spR K Rw_values_within) := by
  refine F.ok sc_values_within (spR_len (by rintro _ _ ⟨_, _, _, rfl, _⟩; rfl)) (fun cdv A outer s H vs Q E hr h => ?_)
  obtain ⟨B, ds, o, x, r, ⟨kvs, k, v, rfl, hv⟩, q⟩ := h
  have hu := hu_of hr
  have hu64 : (A.deeper (envOfC "values_within" (defScope s_values_within) s.heap.objs.size f cdv)).units + 64 < cLine := by have := hr.un; omega
  refine ⟨_, pss_cons (ps_set (i := 3) sc_values_within.nd rfl (Or.inr rfl) (pe_dget hu (pv 0) (pv 1) (fun _ _ => rfl)))
    (pss_cons (ps_if (pt_cmpR (op_eqD hu64) (pe_ix ix_tup (pv 3) pe_int (fun _ _ => rfl)) pe_str (nomark _)) (pss_one (ps_ret (pe_ifExp (pw_and (pt_val (pe_cl cw hr (by decide) (by rfl) (pa_cons (pv 2) pa_nil))) (pw_and1 (pt_chain op_le op_le (pe_ix ix_tup (pv 3) pe_int (fun _ _ => rfl)) (pv 2) (pe_ix ix_tup (pv 3) pe_int (fun _ _ => rfl))))).pt (pe_lst pa_nil) pe_dead))) pss_nil)
    (pss_cons (ps_if (pt_cmpR (op_eqD hu64) (pe_ix ix_tup (pv 3) pe_int (fun _ _ => rfl)) pe_str (nomark _)) pss_never pss_nil)
    (pss_cons (ps_if (pt_cmpR (op_eqD hu64) (pe_ix ix_tup (pv 3) pe_int (fun _ _ => rfl)) pe_str (nomark _)) pss_never pss_nil)
    (pss_one (ps_ret (pe_ifExp (pt_val (k_isi (pv 2) (by rfl) M.isi (by rfl) M.list PyProof.Rows.boot_list (by decide) (by decide)))
      (pe_lc (own := [("cell", 4)]) (g := gName 4) (tt := tYes) rfl sc_values_within.nd (pi_list (pv 2)) (blkOk_by (N := ["kinds", "kind", "thing", "form", "cell"]) (sc := defScope s_values_within) (by decide +kernel)) (fun _ _ _ _ _ => pg_name (i := 4) sc_values_within.nd rfl (Or.inl rfl)) (fun _ _ _ _ _ => pts_nil)
        (fun _ _ _ _ _ => pe_tup (pa_cons (pe_ix (r := rIxT K) ix_tup (pv 3) pe_int (fun _ _ => rfl)) (pa_cons (pv 4) pa_nil)))) pe_dead)))))), ?_⟩
  refine fin_rt ?_ x r q
  show DS K _ [some (dictOf kvs), some (.str k), some v, none, none] _
  rcases hv with ⟨lo, hi, i, hk, rfl, h1, h2, rfl⟩ | ⟨c, xs, hk, rfl, hl, hp, rfl⟩
  · refine ds_seq (ds_set (de_dget (de_var rfl) (de_var rfl) hk)) ?_
    show DS K _ [some (dictOf kvs), some (.str k), some (.int i), some (numsD lo hi), none] _
    refine ds_guard (b := true) (dt_is (dt_test (de_op (de_op (de_var rfl) de_int (rd_ixT (j := 0) rfl rfl)) de_str (rd_eq (by decide +kernel) (by decide +kernel) rfl rfl))) (by decide +kernel)) (fun _ => ds_ret ?_) (fun z => nomatch z)
    refine de_if (b := true) (dt_is (dt_and (dt_B (de_call' (da_cons (de_var rfl) da_nil) ⟨.int i, rfl, rfl⟩)) fun _ => dt_test (de_chain (de_op (de_var rfl) de_int (rd_ixT (j := 1) rfl rfl)) (de_var rfl) (fun _ => de_op (de_var rfl) de_int (rd_ixT (j := 2) rfl rfl)) rd_le fun _ => rd_le)) ?_) (fun _ => de_lstX da_nil rfl (by decide)) (fun z => nomatch z)
    rw [decide_eq_true h1, decide_eq_true h2]
    rfl
  · refine ds_seq (ds_set (de_dget (de_var rfl) (de_var rfl) hk)) ?_
    show DS K _ [some (dictOf kvs), some (.str k), some (.list xs), some (rowsD c), none] _
    refine ds_guard (b := false) (dt_is (dt_test (de_op (de_op (de_var rfl) de_int (rd_ixT (j := 0) rfl rfl)) de_str (rd_eq (by decide +kernel) (by decide +kernel) rfl rfl))) (by decide +kernel)) (fun z => nomatch z) fun _ => ?_
    refine ds_guard (b := false) (dt_is (dt_test (de_op (de_op (de_var rfl) de_int (rd_ixT (j := 0) rfl rfl)) de_str (rd_eq (by decide +kernel) (by decide +kernel) rfl rfl))) (by decide +kernel)) (fun z => nomatch z) fun _ => ?_
    refine ds_guard (b := false) (dt_is (dt_test (de_op (de_op (de_var rfl) de_int (rd_ixT (j := 0) rfl rfl)) de_str (rd_eq (by decide +kernel) (by decide +kernel) rfl rfl))) (by decide +kernel)) (fun z => nomatch z) fun _ => ?_
    refine ds_ret (de_if (b := true) (dt_B (de_ty (de_var rfl) rfl kll)) (fun _ => de_is (de_lcX (fun _ => true) (fun i => .tuple [.str c, xs.getD i .none]) (di_list (de_var rfl)) (by decide) (fun _ _ => dt_yes) (fun i hi _ => ?_) (fun _ _ _ => rfl) (by omega)) ?_) (fun z => nomatch z))
    · show DE K _ [some (dictOf kvs), some (.str k), some (.list xs), some (rowsD c), xs[i]?] _
      have e : xs[i]? = some (xs.getD i .none) := by
        rw [List.getElem?_eq_getElem hi, List.getD_eq_getElem?_getD, List.getElem?_eq_getElem hi]
        rfl
      have hpl : plain (xs.getD i .none) = true := by
        rw [List.getD_eq_getElem?_getD, List.getElem?_eq_getElem hi]
        exact List.all_eq_true.mp hp _ (List.getElem_mem hi)
      rw [e]
      exact de_tup (da_cons (de_op (de_var rfl) de_int (rd_ixT (j := 1) rfl rfl)) (da_cons (de_var rfl) da_nil)) (by simp only [List.all_cons, hpl]; rfl) (by show 2 ≤ 1000; decide)
    · rw [madeG_map xs (fun d => .tuple [.str c, d]), List.map_map]
      rfl
end
end FP
namespace FP
open PySem PySem.Spec PyProof.Rows L2 FC
open Evl (Ex)
section
variable {P : Program} {w : World} {K : PySem.W.Frag} {mg : Str → Option Value} {base : Heap} {f : Addr} {fd : FuncData} {G : List (Option PyData)}
theorem sc_check_kind : FnScope ["kinds", "kind"] ["kinds", "kind"] (defScope s_check_kind) := ⟨rfl, rfl, rfl, by decide +kernel, rfl, by decide +kernel, by decide +kernel⟩
theorem ok_check_kind (F : Fun K "check_kind" "check_kind" s_check_kind f fd) (c1 : CL P w K mg base 4 "is_kinds" Rw_is_kinds) (c2 : CL P w K mg base 1 "is_kind" Rw_is_kind) : FnOk P w K mg base CX0 5 f fd ["kinds", "kind"] (spR K Rw_check_kind) := by
  refine F.ok sc_check_kind (spR_len (by rintro _ _ ⟨_, _, rfl, _⟩; rfl)) (fun cdv A outer s H vs Q E hr h => ?_)
  obtain ⟨B, ds, o, x, r, ⟨kvs, k, rfl, ok, hk, rfl⟩, q⟩ := h
  refine ⟨_, pss_cons (ps_if (pt_not (pt_val (pe_cl c1 hr (by decide) (by rfl) (pa_cons (pv 0) pa_nil)))) pss_never pss_nil)
    (pss_one (ps_if (pt_not (pt_val (pe_cl c2 hr (by decide) (by rfl) (pa_cons (pv 0) (pa_cons (pv 1) pa_nil))))) pss_never pss_nil)), ?_⟩
  refine fin_nx (G' := [some (dictU kvs), some (.str k)]) ?_ x r q
  show DS K _ [some (dictU kvs), some (.str k)] _
  refine ds_seq (ds_if (b := false) (dt_is (dt_not (dt_B (de_call' (da_cons (de_var rfl) da_nil) ⟨kvs, rfl, ok, rfl⟩))) rfl) (fun z => nomatch z) fun _ => ds_next) ?_
  exact ds_if (b := false) (dt_is (dt_not (dt_B (de_call' (da_cons (de_ofU (de_var rfl)) (da_cons (de_var rfl) da_nil)) ⟨kvs, k, rfl, rfl⟩))) (by rw [hk]; rfl)) (fun z => nomatch z) fun _ => ds_next
theorem sc_check_value : FnScope ["kinds", "kind", "value"] ["kinds", "kind", "value"] (defScope s_check_value) := ⟨rfl, rfl, rfl, by decide +kernel, rfl, by decide +kernel, by decide +kernel⟩
theorem ok_check_value (F : Fun K "check_value" "check_value" s_check_value f fd) (cs : Cl P w K mg base 5 "is_sound" (spSound P w K mg base 4)) (cv : CL P w K mg base 4 "values_within" Rw_values_within) : FnOk P w K mg base CX0 6 f fd ["kinds", "kind", "value"] (spR K Rw_check_value) := by
  refine F.ok sc_check_value (spR_len (by rintro _ _ ⟨_, _, _, rfl, _⟩; rfl)) (fun cdv A outer s H vs Q E hr h => ?_)
  obtain ⟨B, ds, o, x, r, ⟨kvs, k, v, rfl, hp, ⟨n, hs⟩, rfl⟩, q⟩ := h
  obtain ⟨fw, fdw, psw, Fw, mw, kw, bw⟩ := cv.ex
  refine ⟨_, pss_one (ps_if (pt_not (pt_val (pe_cl cs hr (by decide) (by rfl) (pa_cons (pv 0) (pa_cons (pv 1) (pa_cons (pv 2) (pa_cons (pe_glob (v := .ref fw) (by rfl) mw rfl) pa_nil))))))) pss_never pss_nil), ?_⟩
  refine fin_nx (G' := [some (dictOf kvs), some (.str k), some v]) ?_ x r q
  show DS K _ [some (dictOf kvs), some (.str k), some v] _
  exact ds_if (b := false) (dt_is (dt_not (dt_B (de_sound Fw kw bw (de_var rfl) (de_var rfl) (de_var rfl) rfl hp hs))) rfl) (fun z => nomatch z) fun _ => ds_next
theorem sc_check_clauses : FnScope ["kinds", "kind", "clauses"] ["kinds", "kind", "clauses"] (defScope s_check_clauses) := ⟨rfl, rfl, rfl, by decide +kernel, rfl, by decide +kernel, by decide +kernel⟩
theorem ok_check_clauses (F : Fun K "check_clauses" "check_clauses" s_check_clauses f fd) (c1 : CL P w K mg base 8 "is_clauses" Rw_is_clauses) : FnOk P w K mg base CX0 9 f fd ["kinds", "kind", "clauses"] (spR K Rw_check_clauses) := by
  refine F.ok sc_check_clauses (spR_len (by rintro _ _ ⟨_, _, _, _, _, rfl, _⟩; rfl)) (fun cdv A outer s H vs Q E hr h => ?_)
  obtain ⟨B, ds, o, x, r, ⟨kvs, k, cs, lo, hi, rfl, hp, hl, hk, rfl⟩, q⟩ := h
  refine ⟨_, pss_one (ps_if (pt_not (pt_val (pe_cl c1 hr (by decide) (by rfl) (pa_cons (pv 0) (pa_cons (pv 1) (pa_cons (pv 2) pa_nil)))))) pss_never pss_nil), ?_⟩
  refine fin_nx (G' := [some (dictOf kvs), some (.str k), some (.list (cs.map clauseD))]) ?_ x r q
  show DS K _ [some (dictOf kvs), some (.str k), some (.list (cs.map clauseD))] _
  exact ds_if (b := false) (dt_is (dt_not (dt_B (de_call' (da_cons (de_var rfl) (da_cons (de_var rfl) (da_cons (de_var rfl) da_nil))) ⟨kvs, k, cs, lo, hi, rfl, hp, hl, hk, rfl⟩))) rfl) (fun z => nomatch z) fun _ => ds_next
theorem value_int {kvs : List (Str × PyData)} {k : Str} {lo hi i : Int} (hk : look kvs k = some (numsD lo hi)) (h1 : lo ≤ i) (h2 : i ≤ hi) : ValueOk kvs k (.int i) :=
  ⟨1, Sweep.leaf ⟨kvs, k, .int i, rfl, .inl ⟨lo, hi, i, hk, rfl, h1, h2, rfl⟩⟩⟩
theorem sc_check_lists : FnScope ["kinds", "kind", "lists", "clauses"] ["kinds", "kind", "lists"] (defScope s_check_lists) := ⟨rfl, rfl, rfl, by decide +kernel, rfl, by decide +kernel, by decide +kernel⟩
theorem ok_check_lists (F : Fun K "check_lists" "check_lists" s_check_lists f fd) (c1 : CL P w K mg base 5 "check_kind" Rw_check_kind) (c2 : CL P w K mg base 9 "check_clauses" Rw_check_clauses) : FnOk P w K mg base CX0 10 f fd ["kinds", "kind", "lists"] (spR K Rw_check_lists) := by
  refine F.ok sc_check_lists (spR_len (by rintro _ _ ⟨_, _, _, _, _, rfl, _⟩; rfl)) (fun cdv A outer s H vs Q E hr h => ?_)
  obtain ⟨B, ds, o, x, r, ⟨kvs, k, cs, lo, hi, rfl, ok, hc, hl, hk, rfl⟩, q⟩ := h
  refine ⟨_, pss_cons (ps_expr (pe_cl c1 hr (by decide) (by rfl) (pa_cons (pv 0) (pa_cons (pv 1) pa_nil))))
    (pss_one (ps_for PassesOwn.never rfl (pi_list (pv 2)) (pg_name (i := 3) sc_check_lists.nd rfl (Or.inl rfl)) (pss_one (ps_expr (pe_cl c2 hr (by decide) (by rfl) (pa_cons (pv 0) (pa_cons (pv 1) (pa_cons (pv 3) pa_nil)))))))), ?_⟩
  let Gs : Nat → List (Option PyData)
    | 0 => [some (dictU kvs), some (.str k), some (.list [.list (cs.map clauseD)]), none]
    | _ + 1 => [some (dictU kvs), some (.str k), some (.list [.list (cs.map clauseD)]), some (.list (cs.map clauseD))]
  refine fin_nx (G' := Gs 1) ?_ x r q
  show DS K _ [some (dictU kvs), some (.str k), some (.list [.list (cs.map clauseD)]), none] _
  refine ds_seq (ds_drop (de_call' (da_cons (de_var rfl) (da_cons (de_var rfl) da_nil)) ⟨kvs, k, rfl, ok, by rw [hk]; rfl, rfl⟩)) ?_
  refine ds_for Gs (di_list (ds := [.list (cs.map clauseD)]) (de_var rfl)) rfl fun i hi' => ?_
  obtain rfl : i = 0 := by
    have : i < 1 := hi'
    omega
  show DS K _ [some (dictU kvs), some (.str k), some (.list [.list (cs.map clauseD)]), some (.list (cs.map clauseD))] _
  exact ds_drop (de_call' (da_cons (de_ofU (de_var rfl)) (da_cons (de_var rfl) (da_cons (de_var rfl) da_nil))) ⟨kvs, k, cs, lo, hi, rfl, hc, hl, hk, rfl⟩)
end
end FP
/-! Keywords alone, told from behind, any number of them. -/
namespace FK
open PySem PySem.Spec PyProof.Rows L2 FC
open Evl (Ex)
/-! ### a call with keywords alone -/
section
variable {X : Cx} {k j : Nat} {f : Addr} {fd : FuncData} {ps ks : List Str} {sp : Sp} {x : Str} {p pos : Pos} {kws : List Keyword} {tk : TA}
def tCallW (sp : Sp) (m : Nat) (g : List V → List V) (tk : TA) : TE := fun σ H Q => tk σ H fun zs H2 => zs.length = m ∧ sp (g zs) H2 Q E0
theorem pe_clW (F : FnOk X.prog X.w X.K X.mg X.base CX0 k f fd ps sp) (hr : Room j X.A) (hkj : k ≤ j) (hg : Gl X x) (hm : X.mg x = some (.ref f)) (hk : PySem.W.keepIn X.K (.ref f) = true)
    (g : {α : Type} → List α → List α) (hb : ∀ (s : Shared) (ws : List Value), ws.length = ks.length → BindsTo s fd ⟨[], ks.zip ws⟩ (ps.zip (g ws))) (rel : ∀ {zs : List V} {ws : List Value}, zs.length = ks.length → Vals zs ws → Vals (g zs) (g ws))
    (hkw : PK X kws tk) (hall : (backToKw pos (keywordEach kws X.env)).all (·.1.isSome) = true := by rfl) (hks : (backToKw pos (keywordEach kws X.env)).filterMap (·.1) = ks := by rfl) (hdb : (x == ("__debug__" : Str)) = false := by decide)
    (hpl : ((backTo pos (starEach [] X.env)).any (·.1) || (backToKw pos (keywordEach kws X.env)).any (·.1.isNone)) = false := by rfl) : PE X (.Call (.Name x p) [] kws pos) (tCallW sp ks.length (g (α := V)) tk) := by
  refine ⟨fun pins s σ H Q I h => ?_⟩
  refine wpAny_Call_Name_kw (ld_glob I hg hm ?_ hdb)
  refine PySem.W.callWith_KW0 (h₀ := X.base) I.ok.mod.kin hk hall ?_ hpl
  refine thn (hkw.run pos pins s σ H _ I h) fun ws s2 q0 => ?_
  obtain ⟨zs, H2, I2, rz, hl, hsp⟩ := q0
  refine ⟨I2.kIn, ?_⟩
  rw [hks]
  have hwl : ws.length = ks.length := rz.length.symm.trans hl
  refine wpAny_call (codeAny_mono ((F.mono hkj).run X.A X.stack s2 H2 ⟨[], ks.zip ws⟩ (g ws) (g zs) Q E0 hr I2.env0 (hb s2 ws hwl) (rel hl rz) hsp) fun r s' hq => ?_)
  cases r with
  | error e => exact pass0 pins σ H2 s2 e s' I2 hq
  | ok fl =>
    cases fl with
    | ret u => exact I2.after hq
    | next => exact hq.elim
    | brk => exact hq.elim
    | cont => exact hq.elim
end
theorem paired_append {α β : Type} {R : α → β → Prop} : ∀ {as : List α} {bs : List β} {cs : List α} {ds : List β}, Paired R as bs → Paired R cs ds → Paired R (as ++ cs) (bs ++ ds)
  | _, _, _, _, .nil, h => h
  | _, _, _, _, .cons r t, h => .cons r (paired_append t h)
theorem paired_reverse {α β : Type} {R : α → β → Prop} : ∀ {as : List α} {bs : List β}, Paired R as bs → Paired R as.reverse bs.reverse
  | _, _, .nil => .nil
  | _, _, .cons r t => by
    rw [List.reverse_cons, List.reverse_cons]
    exact paired_append (paired_reverse t) (.cons r .nil)
theorem vals_reverse {n : Nat} {zs : List V} {ws : List Value} (_ : zs.length = n) (r : Vals zs ws) : Vals zs.reverse ws.reverse := paired_reverse r
/-- a def that may be called by position and by its names told from behind -/
structure ClW (P : Program) (w : World) (K : PySem.W.Frag) (mg : Str → Option Value) (base : Heap) (k : Nat) (x : Str) (ps : List Str) (sp : Sp) : Prop where
  ex : ∃ (f : Addr) (fd : FuncData), FnOk P w K mg base CX0 k f fd ps sp ∧ mg x = some (.ref f) ∧ PySem.W.keepIn K (.ref f) = true ∧ Binds K fd ps [] ∧ ∀ (s : Shared) (ws : List Value), ws.length = ps.reverse.length → BindsTo s fd ⟨[], ps.reverse.zip ws⟩ (ps.zip ws.reverse)
section
variable {P : Program} {w : World} {K : PySem.W.Frag} {mg : Str → Option Value} {base : Heap} {f : Addr} {fd : FuncData} {G G' : List (Option PyData)}
theorem ClW.cl {k : Nat} {x : Str} {ps : List Str} {sp : Sp} (c : ClW P w K mg base k x ps sp) : Cl P w K mg base k x sp := by
  obtain ⟨f, fd, F, m, kp, b, _⟩ := c.ex
  exact ⟨f, fd, ps, F, m, kp, b⟩
theorem de_callW {tk : TA} {n : Nat} {ds : List PyData} {o : PyData} {R : List PyData → PyData → Prop} (h : DA K tk G ds) (hn : ds.length = n) (hR : R ds.reverse o) : DE K (tCallW (spR K R) n (List.reverse (α := V)) tk) G o := fun σ B H x en Q q =>
  h σ B H x en _ fun vs B1 H1 g1 r1 => ⟨by rw [Paired.length r1, hn], B1, ds.reverse, o, g1.sub, paired_reverse r1, hR, fun v B' H' g2 r2 => q v B' H' (g1.trans g2) r2⟩
end
section
variable {X : Cx} {k j : Nat} {ps ks : List Str} {sp : Sp} {x : Str} {p pos : Pos} {kws : List Keyword} {tk : TA}
/-- the call -/
theorem pe_kw (c : ClW X.prog X.w X.K X.mg X.base k x ps sp) (hr : Room j X.A) (hkj : k ≤ j) (hg : Gl X x) (hks0 : ks = ps.reverse)
    (hkw : PK X kws tk) (hall : (backToKw pos (keywordEach kws X.env)).all (·.1.isSome) = true := by rfl) (hks : (backToKw pos (keywordEach kws X.env)).filterMap (·.1) = ks := by rfl) (hdb : (x == ("__debug__" : Str)) = false := by decide)
    (hpl : ((backTo pos (starEach [] X.env)).any (·.1) || (backToKw pos (keywordEach kws X.env)).any (·.1.isNone)) = false := by rfl) : PE X (.Call (.Name x p) [] kws pos) (tCallW sp ks.length (List.reverse (α := V)) tk) := by
  obtain ⟨f, fd, F, hm, kp, _, hb⟩ := c.ex
  subst hks0
  exact pe_clW F hr hkj hg hm kp List.reverse hb vals_reverse hkw hall hks hdb hpl
end
end FK
/-! Own classes whose methods are called by keywords alone; len of an own object. -/
namespace KB
open PySem PySem.Spec PyProof.Rows L2 FC
section
variable {X : Cx} {k j : Nat} {f C : Addr} {fd : FuncData} {ps ks : List Str} {sp : Sp} {m x : Str} {p pos apos : Pos} {kws : List Keyword} {o : Expr} {ta : TE} {tk : TA} {g : List Value → List Value → List Value} {gV : List V → List V → List V}
/-- o.m(k = v, ..) -/
def tMethW (C : Addr) (m : Str) (sp : Sp) (n : Nat) (gV : List V → List V → List V) (ta : TE) (tk : TA) : TE := fun σ H Q => ta σ H fun x H1 => ∃ a dx fs, x = .ref a ∧ H1 a = some (.ins C dx fs) ∧ fs.lookup m = none ∧ tk σ H1 fun zs H2 => zs.length = n ∧ sp (gV [.ref a] zs) H2 Q E0
theorem pe_mkw {pl : Sem Bool} (he : PE X o ta) (c : Cls X.K C) (hm : Meth X.K C m f) (F : FnOk X.prog X.w X.K X.mg X.base CX0 k f fd ps sp) (hr : Room j X.A) (hkj : k ≤ j) (hb : KBn X.K fd ps 1 ks g gV) (hkw : PK X kws tk)
    (hall : (backToKw pos (keywordEach kws X.env)).all (·.1.isSome) = true := by rfl) (hks : (backToKw pos (keywordEach kws X.env)).filterMap (·.1) = ks := by rfl)
    (hpl : ((backTo pos (starEach [] X.env)).any (·.1) || (backToKw pos (keywordEach kws X.env)).any (·.1.isNone)) = false := by rfl)
    (ht : eval (.Call (.Attribute o m apos) [] kws pos) X.env = (do
      let ov ← eval o X.env
      standAt apos.atName
      let (f, first) ← holding [ov] (getMethod ov m pl)
      callWith pos f first (backTo pos (starEach [] X.env)) (backToKw pos (keywordEach kws X.env))) := by rfl) :
    PE X (.Call (.Attribute o m apos) [] kws pos) (tMethW C m sp ks.length gV ta tk) := by
  refine ⟨fun pins s σ H Q I h => ?_⟩
  refine PySem.W.methodCall_KW (pl := pl) (thn (he.run pins s σ H _ I h) fun u s1 z => ?_) ht
  obtain ⟨y, H1, I1, rx, a, dx, fs, ex, ea, l, q⟩ := z
  subst ex
  obtain rfl : u = Value.ref a := rx
  refine getmeth_ok I1 ea c hm l ?_
  refine PySem.W.callWith_KW0 (first := [.ref a]) (h₀ := X.base) I.ok.mod.kin hm.kp hall ?_ hpl
  refine thn (hkw.run pos pins s1 σ H1 _ I1 q) fun ws s2 z => ?_
  obtain ⟨zs, H2, I2, rz, hl, hsp⟩ := z
  refine ⟨I2.kIn, ?_⟩
  rw [hks]
  have hwl : ws.length = ks.length := rz.length.symm.trans hl
  refine wpAny_call (codeAny_mono ((F.mono hkj).run X.A X.stack s2 H2 ⟨[.ref a] ++ [], ks.zip ws⟩ (g [.ref a] ws) (gV [.ref a] zs) Q E0 hr I2.env0 (hb.to s2 [.ref a] ws I2.kIn rfl hwl) (hb.rel (.cons rfl .nil) rz) hsp) fun r s' hq => ?_)
  cases r with
  | error e => exact pass0 pins σ H2 s2 e s' I2 hq
  | ok fl =>
    cases fl with
    | ret u => exact I2.after hq
    | next => exact hq.elim
    | brk => exact hq.elim
    | cont => exact hq.elim
/-- len(o), o of an own class with __len__ -/
theorem call_len_own (hm : Meth X.K C "__len__" f) (F : FnOk X.prog X.w X.K X.mg X.base CX0 k f fd ps sp) (hr : Room (j + 1) X.A) (hkj : k ≤ j) (hb : Binds X.K fd ps []) :
    CallR X (.builtin "len") (fun xs H Q => ∃ a dx fs, xs = [.ref a] ∧ H a = some (.ins C dx fs) ∧ sp [.ref a] H (fun v H' => ∃ n : Nat, v = .int n ∧ n < 2 ^ 62 ∧ Q (.int n) H') E0) := by
  intro pins s σ H xs us Q I r h
  obtain ⟨a, dx, fs, rfl, ea, hs⟩ := h
  cases r with
  | cons ra rr =>
    cases rr
    cases ra
    obtain ⟨mA, O, _, _, _, _⟩ := ins_get I.hok ea
    obtain ⟨od, J, _⟩ := O.look
    have hlen : ([Value.ref a] : List Value).length = ps.length := by
      have e := F.len _ _ _ _ hs
      exact e
    obtain ⟨m0, F0⟩ := I.fr
    refine PySem.W.len_K F0 I.ok.mod.kin J hm.at_ hm.fn ?_
    · refine wpAny_call (codeAny_mono ((F.mono hkj).run X.A.in1 X.stack s H ⟨[.ref a], []⟩ [.ref a] [.ref a] _ E0 hr.in1 I.env0.in1 (hb s [.ref a] I.kIn hlen) (.cons rfl .nil) hs) fun r s' hq => ?_)
      cases r with
      | error e => exact pass0 pins σ H s e s' I hq
      | ok fl =>
        cases fl with
        | ret u =>
          obtain ⟨v, H', I3, rv, n, ev, hn, q⟩ := I.after hq
          subst ev
          obtain ⟨t, rfl⟩ : ∃ t, u = Value.int n t := rv
          exact ⟨by omega, ⟨.int n, H', I3.tok _, ⟨_, rfl⟩, q⟩⟩
        | next => exact hq.elim
        | brk => exact hq.elim
        | cont => exact hq.elim
end
/-- the forms of the law's calls -/
example (env : Env) (p u v : Pos) (a b : Expr) : ∃ pl : Sem Bool, eval (.Call (.Attribute (.Name "book" p) "put" ⟨9, 3, 9, 8⟩) [] [⟨some "clause", a, u⟩, ⟨some "at", b, v⟩] ⟨9, 3, 9, 20⟩) env = (do
      let ov ← eval (.Name "book" p) env
      standAt (⟨9, 3, 9, 8⟩ : Pos).atName
      let (f, first) ← holding [ov] (getMethod ov "put" pl)
      callWith ⟨9, 3, 9, 20⟩ f first (backTo ⟨9, 3, 9, 20⟩ (starEach [] env)) (backToKw ⟨9, 3, 9, 20⟩ (keywordEach [⟨some "clause", a, u⟩, ⟨some "at", b, v⟩] env))) := ⟨_, by rfl⟩
end KB
/-! with o: of an own class, no error within. -/
namespace KB
open PySem PySem.Spec PyProof.Rows L2 FC
section
variable {X : Cx} {k j i : Nat} {C fe fx : Addr} {fde fdx : FuncData} {pse psx : List Str} {spE spX : Sp} {pos : Pos} {ctx : Expr} {body : List Stmt} {te : TE} {tb : TS}
def endsBy (P : Hp → (V → Hp → Prop) → Prop) (D : Ends) : Ends := { nx := fun σ H => P H fun _ H' => D.nx σ H', rt := fun v H => P H fun _ H' => D.rt v H', bk := fun σ H => P H fun _ H' => D.bk σ H', ct := fun σ H => P H fun _ H' => D.ct σ H' }
/-- with ctx: body -/
def tWith (C : Addr) (spE spX : Sp) (te : TE) (tb : TS) : TS := fun D σ H => te σ H fun x H1 => ∃ a dx fs, x = .ref a ∧ H1 a = some (.ins C dx fs) ∧
  spE [.ref a] H1 (fun _ H2 => tb (endsBy (fun H3 Q => spX [.ref a, .non, .non, .non] H3 Q E0) D) σ H2) E0
theorem ps_with (hxe : ∀ e s, X.xe e s → False) (he : PE X ctx te) (me : Meth X.K C "__enter__" fe) (Fe : FnOk X.prog X.w X.K X.mg X.base CX0 k fe fde pse spE) (be : Binds X.K fde pse [])
    (mx : Meth X.K C "__exit__" fx) (Fx : FnOk X.prog X.w X.K X.mg X.base CX0 i fx fdx psx spX) (bx : Binds X.K fdx psx []) (hr : Room j X.A) (hk : k ≤ j) (hi : i ≤ j) (hb : PSs X body tb) :
    PS X (.With [⟨ctx, none⟩] body pos) (tWith C spE spX te tb) := by
  refine ⟨fun pins s σ H D I h => ?_⟩
  refine PySem.W.kw_exec0 (thn (he.run pins s σ H _ I h) fun u s1 z => ?_)
  obtain ⟨x, H1, I1, rx, a, dx, fs, ex, ea, hs⟩ := z
  subst ex
  obtain rfl : u = Value.ref a := rx
  obtain ⟨mA, O, _, _, _, _⟩ := ins_get I1.hok ea
  obtain ⟨od, J, _⟩ := O.look
  obtain ⟨m0, F0⟩ := I1.fr
  have l1 : ([Value.ref a] : List Value).length = pse.length := Fe.len _ _ _ _ hs
  refine PySem.W.kw_in0 F0 I1.ok.mod.kin J me.at_ me.fn mx.at_ mx.fn ?_
  refine wpAny_call (codeAny_mono ((Fe.mono hk).run X.A X.stack s1 H1 ⟨[.ref a], []⟩ [.ref a] [.ref a] _ E0 hr I1.env0 (be s1 [.ref a] I1.kIn l1) (.cons rfl .nil) hs) fun r s' hq => ?_)
  cases r with
  | error e => exact pass0 pins σ H1 s1 e s' I1 hq
  | ok fl =>
    cases fl with
    | next => exact hq.elim
    | brk => exact hq.elim
    | cont => exact hq.elim
    | ret u =>
      obtain ⟨v, H2, I2, rv, q⟩ := I1.after hq
      refine wpAny_mono (hb.run pins s' σ H2 _ I2 q) (fun f s3 z => ?_) fun e s3 z => hxe e s3 z
      have leave : ∀ (σ3 : L2.St) (H3 : Hp) (s3 : Shared) (Q : V → Hp → Prop) (W : Shared → Prop), Inv X pins σ3 H3 s3 → spX [.ref a, .non, .non, .non] H3 Q E0 → (∀ v H4 s4, Inv X pins σ3 H4 s4 → Q v H4 → W s4) →
          wpAny (model X.prog X.w) X.A (call (.ref fx) [.ref a, .none, .none, .none]) (fun _ s' => W s') X.xe s3 := by
        intro σ3 H3 s3 Q W I3 h3 hw
        have l2 : ([Value.ref a, .none, .none, .none] : List Value).length = psx.length := Fx.len _ _ _ _ h3
        refine wpAny_call (codeAny_mono ((Fx.mono hi).run X.A X.stack s3 H3 ⟨[.ref a, .none, .none, .none], []⟩ [.ref a, .none, .none, .none] [.ref a, .non, .non, .non] _ E0 hr I3.env0 (bx s3 _ I3.kIn l2) (.cons rfl (.cons rfl (.cons rfl (.cons rfl .nil)))) h3) fun r s' hq => ?_)
        cases r with
        | error e => exact pass0 pins σ3 H3 s3 e s' I3 hq
        | ok fl =>
          cases fl with
          | next => exact hq.elim
          | brk => exact hq.elim
          | cont => exact hq.elim
          | ret u =>
            obtain ⟨v, H4, I4, _, q4⟩ := I3.after hq
            exact hw v H4 s' I4 q4
      cases f with
      | next =>
        obtain ⟨σ3, H3, I3, q3⟩ := z
        exact leave σ3 H3 s3 _ _ I3 q3 fun v H4 s4 I4 q4 => ⟨σ3, H4, I4, q4⟩
      | brk =>
        obtain ⟨σ3, H3, I3, q3⟩ := z
        exact leave σ3 H3 s3 _ _ I3 q3 fun v H4 s4 I4 q4 => ⟨σ3, H4, I4, q4⟩
      | cont =>
        obtain ⟨σ3, H3, I3, q3⟩ := z
        exact leave σ3 H3 s3 _ _ I3 q3 fun v H4 s4 I4 q4 => ⟨σ3, H4, I4, q4⟩
      | ret u =>
        obtain ⟨v, σ3, H3, I3, rv3, q3⟩ := z
        exact leave σ3 H3 s3 _ _ I3 q3 fun _ H4 s4 I4 q4 => ⟨v, σ3, H4, I4, rv3, q4⟩
end
end KB
/-! k95: the law's draws. -/
namespace KB
open PySem PySem.Spec PyProof.Rows L2 FC FP
open Evl (Ex)
abbrev s_purse : Stmt := topS 54
abbrev s_mixed : Stmt := topS 55
abbrev s_draw : Stmt := topS 56
abbrev s_purses : Stmt := topS 57
abbrev s_law : Stmt := topS 58
theorem fresh_ne {H : Hp} {a b : Addr} {o : HO} (ha : H a = none) (hb : H b = some o) : a ≠ b := fun e => by
  rw [e, hb] at ha
  cases ha
section
variable {X : Cx}
def CBig (i j : Int) : Prop := 0 ≤ j ∧ (Builtin.Int.intBits i : Int) * j ≤ 2 ^ 27
theorem big18 : CBig 10 18 := by unfold CBig; decide +kernel
theorem big60 : CBig 10 60 := by unfold CBig; decide +kernel
theorem big8 : CBig (10 ^ Int.toNat 60) 8 := by unfold CBig; decide +kernel
theorem pos8 : (0 : Int) < (10 ^ Int.toNat 60) ^ Int.toNat 8 := by decide +kernel
theorem op_powW : OpR X (binaryOp .Pow) (rI CBig fun i j => .int (i ^ j.toNat)) := opI fun _ _ _ _ _ _ _ hc q => PyProof.Rows.pow_int hc.1 hc.2 q
end

section
variable {P : Program} {w : World} {K : PySem.W.Frag} {mg : Str → Option Value} {base : Heap} {f : Addr} {fd : FuncData} {G : List (Option PyData)}
def spMixed : Sp := fun vs H Q _ => ∃ s t a : Int, vs = [.int s, .int t, .int a] ∧ 0 ≤ s ∧ s < 2 ^ 32 ∧ 0 ≤ t ∧ t ≤ 10000000 ∧ 0 ≤ a ∧ a ≤ 1000 ∧ ∀ r : Int, 0 ≤ r → r < 2147483587 → Q (.int r) H
theorem sc_mixed : FnScope ["seed", "turn", "spot", "mixed"] ["seed", "turn", "spot"] (defScope s_mixed) := ⟨rfl, rfl, rfl, by decide +kernel, rfl, by decide +kernel, by decide +kernel⟩
theorem ok_mixed (F : Fun K "_law_mixed" "_law_mixed" s_mixed f fd) : FnOk P w K mg base CX0 1 f fd ["seed", "turn", "spot"] spMixed := by
  refine F.ok sc_mixed (by rintro vs H Q E ⟨s, t, a, rfl, _⟩; rfl) (fun cdv A outer s H vs Q E hr h => ?_)
  obtain ⟨sd, t, a, rfl, h1, h2, h3, h4, h5, h6, q⟩ := h
  refine ⟨_, pss_cons (ps_set (i := 3) sc_mixed.nd rfl (Or.inl rfl) (pe_op op_add (pe_op op_mul (pv 0) pe_int) (pe_op op_mul (pe_op op_mul pe_int (pv 1)) (pv 1))))
    (pss_cons (ps_set (i := 3) sc_mixed.nd rfl (Or.inl rfl) (pe_op op_mod (pe_op op_add (pe_op op_add (pv 3) (pe_op op_mul pe_int (pv 2))) (pv 1)) pe_int))
    (pss_cons (ps_set (i := 3) sc_mixed.nd rfl (Or.inl rfl) (pe_op op_mod (pe_op op_add (pe_op op_mul (pv 3) (pv 3)) pe_int) pe_int))
    (pss_one (ps_ret (pe_op op_mod (pe_op op_mul (pv 3) pe_int) pe_int))))), ?_⟩
  refine ⟨_, rfl, _, _, rfl, rfl, .inr (by decide), _, rfl, _, _, rfl, rfl, .inl (by decide), _, rfl, _, _, rfl, rfl, .inr ⟨by omega, by omega⟩, _, _, rfl, rfl, ?_⟩
  refine ⟨_, rfl, _, rfl, _, _, rfl, rfl, .inl (by decide), _, _, rfl, rfl, _, rfl, _, _, rfl, rfl, _, _, rfl, rfl, (by show (0 : Int) < 2147483647; decide), ?_⟩
  generalize he : (sd * 69069 + 104729 * t * t + 7919 * a + t) % 2147483647 = e
  have e0 : 0 ≤ e := by rw [← he]; exact Int.emod_nonneg _ (by decide)
  have e1 : e < 2147483647 := by rw [← he]; exact Int.emod_lt_of_pos _ (by decide)
  refine ⟨_, rfl, _, rfl, _, _, rfl, rfl, .inl ⟨by omega, by omega⟩, _, _, rfl, rfl, _, _, rfl, rfl, (by show (0 : Int) < 2147483629; decide), ?_⟩
  generalize (e * e + 40503) % 2147483629 = e2
  refine ⟨_, rfl, _, _, rfl, rfl, .inr (by decide), _, _, rfl, rfl, (by show (0 : Int) < 2147483587; decide), ?_⟩
  exact q _ (Int.emod_nonneg _ (by decide)) (Int.emod_lt_of_pos _ (by decide))
def purseV (a b c d : Int) : List V := [.int a, .int b, .int c, .int d]
/-- a purse of which at most n draws were made -/
def Purse (H : Hp) (n : Int) (p : Addr) : Prop := ∃ a b c d : Int, H p = some (.lst (purseV a b c d)) ∧ 0 ≤ a ∧ 0 ≤ b ∧ b < 2147483629 ∧ 0 ≤ c ∧ c ≤ n ∧ 0 ≤ d ∧ d ≤ 1000
def spPurse (K : PySem.W.Frag) : Sp := fun vs H Q _ => ∃ (a : Addr) (ns : List Int) (i : Int), vs = [.ref a, .int i] ∧ SqL K H a (ns.map V.int) ∧ 0 ≤ i ∧ i ≤ 1000 ∧
  ∀ p H', Ex H H' → H p = none → Purse H' 0 p → Q (.ref p) H'
theorem sc_purse : FnScope ["script", "spot", "seed"] ["script", "spot"] (defScope s_purse) := ⟨rfl, rfl, rfl, by decide +kernel, rfl, by decide +kernel, by decide +kernel⟩
theorem ok_purse (F : Fun K "_law_purse" "_law_purse" s_purse f fd) (M : Bl mg) : FnOk P w K mg base CX0 1 f fd ["script", "spot"] (spPurse K) := by
  refine F.ok sc_purse (by rintro vs H Q E ⟨s, t, i, rfl, _⟩; rfl) (fun cdv A outer s H vs Q E hr h => ?_)
  obtain ⟨a, ns, i, rfl, hS, h1, h2, q⟩ := h
  refine ⟨_, pss_cons (ps_set (i := 2) sc_purse.nd rfl (Or.inl rfl) (pe_callB (cr_sum rfl) (by rfl) M.sum PyProof.Rows.boot_sum (pa_cons (pe_slice sl_list (pv 0) (po_some (pv 1)) (po_some (pe_op op_add (pv 1) pe_int))) pa_nil)))
    (pss_one (ps_ret (pe_lst (pa_cons (pe_op op_mod (pe_callB (call_max2 rfl) (by rfl) M.max PyProof.Rows.boot_max (pa_cons (pe_op op_sub (pv 2) (pe_op op_powW pe_int pe_int)) (pa_cons pe_int pa_nil))) (pe_op op_powW (pe_op op_powW pe_int pe_int) pe_int))
      (pa_cons (pe_op op_mod (pv 2) pe_int) (pa_cons pe_int (pa_cons (pv 1) pa_nil))))))), ?_⟩
  refine ⟨.ref a, rfl, .int i, rfl, i, rfl, .int i, rfl, i, 1, rfl, rfl, i + 1, rfl, a, ns.map V.int, rfl, hS, fun c hc => ?_⟩
  have ec : ∃ ms : List Int, cutV (ns.map V.int) (some i) (some (i + 1)) = ms.map V.int := by
    unfold cutV
    rw [← List.map_drop, ← List.map_take]
    exact ⟨_, rfl⟩
  obtain ⟨ms, ec⟩ := ec
  rw [ec]
  refine ⟨c, ms, rfl, .inl (.inl upd_same), ?_⟩
  refine ⟨_, rfl, _, _, rfl, rfl, big18, _, _, rfl, rfl, _, _, rfl, ?_⟩
  generalize (if (0 : Int) > ms.sum - 10 ^ (18 : Int).toNat then (0 : Int) else ms.sum - 10 ^ (18 : Int).toNat) = mx
  refine ⟨_, _, rfl, rfl, big60, _, _, rfl, rfl, big8, _, _, rfl, rfl, pos8, ?_⟩
  refine ⟨_, rfl, _, _, rfl, rfl, (by show (0 : Int) < 2147483629; decide), _, rfl, (by show 4 ≤ sizeLine; decide), fun p hp => ?_⟩
  have e1 : Ex H (upd H c (.lst (ms.map V.int))) := Evl.Ex.new hc
  exact q p _ (e1.trans (Evl.Ex.new hp)) (Evl.fresh_back e1 hp) ⟨_, _, 0, i, upd_same, Int.emod_nonneg _ (Int.ne_of_gt pos8), Int.emod_nonneg _ (by decide), Int.emod_lt_of_pos _ (by decide), by decide, by decide, h1, h2⟩
def spDraw : Sp := fun vs H Q _ => ∃ (p : Addr) (m n : Int), vs = [.ref p, .int m] ∧ 1 ≤ m ∧ m ≤ 1000 ∧ Purse H n p ∧ n ≤ 9000000 ∧
  ∀ (r : Int) (H' : Hp), 0 ≤ r → r < m → Purse H' (n + 1) p → (∀ q o, q ≠ p → H q = some o → H' q = some o) → Q (.int r) H'
theorem bits28 {m : Int} (h1 : 1 ≤ m) (h2 : m ≤ 1000) : ((Builtin.Int.intBits m : Nat) : Int) / 28 = 0 := by
  have key : ∀ n : Nat, n ≤ 1000 → Builtin.Int.intBits (n : Int) ≤ 10 := by
    intro n hn
    have := (by decide +kernel : ∀ n : Fin 1001, Builtin.Int.intBits ((n.val : Nat) : Int) ≤ 10)
    exact this ⟨n, by omega⟩
  have h := key m.toNat (by omega)
  rw [Int.toNat_of_nonneg (by omega)] at h
  omega

theorem sc_draw : FnScope ["purse", "many", "drawn", "found", "piece"] ["purse", "many"] (defScope s_draw) := ⟨rfl, rfl, rfl, by decide +kernel, rfl, by decide +kernel, by decide +kernel⟩
theorem ok_draw (F : Fun K "_law_draw" "_law_draw" s_draw f fd) (M : Bl mg) (cm : Cl P w K mg base 1 "_law_mixed" spMixed) : FnOk P w K mg base CX0 2 f fd ["purse", "many"] spDraw := by
  refine F.ok sc_draw (by rintro vs H Q E ⟨p, m, n, rfl, _⟩; rfl) (fun cdv A outer s H vs Q E hr h => ?_)
  obtain ⟨p, m, n, rfl, m1, m2, ⟨a, b, c, d, hp, a0, b0, b1, c0, c1, d0, d1⟩, hn, q⟩ := h
  have nd := sc_draw.nd
  refine ⟨_, pss_cons (ps_if (pt_cmpR op_gt (pe_ix ix_list (pv 0) pe_int (fun _ _ => rfl)) pe_int (nomark _))
      (pss_cons (ps_set (i := 2) nd rfl (Or.inl rfl) (pe_op op_mod (pe_ix ix_list (pv 0) pe_int (fun _ _ => rfl)) (pv 1)))
      (pss_cons (ps_asg (pe_op op_fdiv (pe_ix ix_list (pv 0) pe_int (fun _ _ => rfl)) (pv 1)) (pg_sub (pv 0) pe_int set_list))
      (pss_one (ps_ret (pv 2))))) pss_nil)
    (pss_cons (ps_set (i := 3) nd rfl (Or.inl rfl) pe_int)
    (pss_cons (ps_for PassesOwn.never rfl (pi_range1 (by rfl) M.range (pa_cons (pe_op op_add pe_int (pe_op op_fdiv (pe_bits (pv 1)) pe_int)) pa_nil)) (pg_name (i := 4) nd rfl (Or.inl rfl))
      (pss_cons (ps_asg (pe_op op_add (pe_ix ix_list (pv 0) pe_int (fun _ _ => rfl)) pe_int) (pg_sub (pv 0) pe_int set_list))
      (pss_one (ps_set (i := 3) nd rfl (Or.inl rfl) (pe_op op_add (pe_op op_mul (pv 3) pe_int) (pe_cl cm hr (by decide) (by rfl) (pa_cons (pe_ix ix_list (pv 0) pe_int (fun _ _ => rfl)) (pa_cons (pe_ix ix_list (pv 0) pe_int (fun _ _ => rfl)) (pa_cons (pe_ix ix_list (pv 0) pe_int (fun _ _ => rfl)) pa_nil)))))))))
    (pss_one (ps_ret (pe_op op_mod (pv 3) (pv 1)))))), ?_⟩
  have hL : ∀ H', H' p = some (.lst (purseV a b c d)) → SqL K H' p (purseV a b c d) := fun H' h => .inl (.inl h)
  refine ⟨.ref p, rfl, p, _, 0, .int a, rfl, rfl, hL _ hp, atI_nat (j := 0) rfl, a, 0, rfl, rfl, _, rfl, ite2 (fun ha => ?_) (fun ha => ?_)⟩
  · refine ⟨.ref p, rfl, p, _, 0, .int a, rfl, rfl, hL _ hp, atI_nat (j := 0) rfl, .int m, rfl, a, m, rfl, rfl, (by show (0 : Int) < m; omega), ?_⟩
    refine ⟨.ref p, rfl, p, _, 0, .int a, rfl, rfl, hL _ hp, atI_nat (j := 0) rfl, .int m, rfl, a, m, rfl, rfl, ⟨by omega, by omega⟩, .ref p, rfl, p, purseV a b c d, 0, 0, rfl, rfl, hp, rfl, ?_⟩
    refine ⟨_, rfl, ?_⟩
    exact q _ _ (Int.emod_nonneg _ (by omega)) (Int.emod_lt_of_pos _ (by omega)) ⟨a / m, b, c, d, upd_same, Int.ediv_nonneg a0 (by omega), b0, b1, c0, by omega, d0, d1⟩ (fun r o hr h => by rw [upd_ne hr]; exact h)
  · refine ⟨.int m, rfl, m, rfl, _, _, rfl, rfl, ⟨by decide, by decide⟩, 1, _, rfl, rfl, 1 + ((Builtin.Int.intBits m : Nat) : Int) / 28, rfl, ?_, ?_, ?_⟩
    · rw [bits28 m1 m2]; decide
    · rw [bits28 m1 m2]; decide
    · rw [bits28 m1 m2]
      refine for_range (lo := 0) (n := 1) (fun i σ H' => (i = 0 ∧ σ = [some (.ref p), some (.int m), none, some (.int 0), none] ∧ H' = H) ∨ (i = 1 ∧ ∃ (e : Int) (x4 : Option V), σ = [some (.ref p), some (.int m), none, some (.int e), x4] ∧ H' = upd H p (.lst (purseV a b (c + 1) d)))) (.inl ⟨rfl, rfl, rfl⟩) ?_ ?_
      · rintro i σ H' hi (⟨rfl, rfl, rfl⟩ | ⟨rfl, _⟩)
        · refine ⟨.ref p, rfl, p, _, 2, .int c, rfl, rfl, hL _ hp, atI_nat (j := 2) rfl, c, 1, rfl, rfl, .ref p, rfl, p, purseV a b c d, 2, 2, rfl, rfl, hp, rfl, ?_⟩
          have hp2 : (upd H' p (.lst (purseV a b (c + 1) d))) p = some (.lst (purseV a b (c + 1) d)) := upd_same
          refine ⟨.int 0, rfl, 0, 2147483587, rfl, rfl, .inl (by decide), .ref p, rfl, p, _, 1, .int b, rfl, rfl, .inl (.inl hp2), atI_nat (j := 1) rfl, .ref p, rfl, p, _, 2, .int (c + 1), rfl, rfl, .inl (.inl hp2), atI_nat (j := 2) rfl, .ref p, rfl, p, _, 3, .int d, rfl, rfl, .inl (.inl hp2), atI_nat (j := 3) rfl, b, c + 1, d, rfl, b0, by omega, by omega, by omega, d0, d1, fun r r0 r1 => ?_⟩
          exact ⟨_, r, rfl, rfl, .inr ⟨rfl, _, _, rfl, rfl⟩⟩
        · omega
      · rintro σ H' (⟨h, _⟩ | ⟨_, e, x4, rfl, rfl⟩)
        · omega
        · refine ⟨.int e, rfl, .int m, rfl, e, m, rfl, rfl, (by show (0 : Int) < m; omega), ?_⟩
          exact q _ _ (Int.emod_nonneg _ (by omega)) (Int.emod_lt_of_pos _ (by omega)) ⟨a, b, c + 1, d, upd_same, a0, b0, b1, by omega, by omega, d0, d1⟩ (fun r o hr h => by rw [upd_ne hr]; exact h)
end
theorem Purse.ex {H H' : Hp} {n : Int} {p : Addr} (h : Purse H n p) (e : Ex H H') : Purse H' n p := by
  obtain ⟨a, b, c, d, hp, r⟩ := h
  exact ⟨a, b, c, d, e _ _ hp, r⟩
theorem Purse.at {H H' : Hp} {n : Int} {p : Addr} (h : Purse H n p) (e : ∀ o, H p = some o → H' p = some o) : Purse H' n p := by
  obtain ⟨a, b, c, d, hp, r⟩ := h
  exact ⟨a, b, c, d, e _ hp, r⟩
theorem Purse.up {H : Hp} {n m : Int} {p : Addr} (h : Purse H n p) (e : n ≤ m) : Purse H m p := by
  obtain ⟨a, b, c, d, hp, r1, r2, r3, r4, r5, r6⟩ := h
  exact ⟨a, b, c, d, hp, r1, r2, r3, r4, Int.le_trans r5 e, r6⟩
section
variable {P : Program} {w : World} {K : PySem.W.Frag} {mg : Str → Option Value} {base : Heap} {f : Addr} {fd : FuncData} {G : List (Option PyData)}
def spPurses (K : PySem.W.Frag) : Sp := fun vs H Q _ => ∃ (a : Addr) (ns : List Int), vs = [.ref a, .int 12] ∧ SqL K H a (ns.map V.int) ∧ ns.length ≤ 63 ∧
  ∀ (p : Addr) (ps : List Addr) (H' : Hp), Ex H H' → H' p = some (.lst (ps.map V.ref)) → (∀ q ∈ ps, q ≠ p ∧ Purse H' 0 q) → ps.length ≤ 63 → Q (.ref p) H'
theorem sc_purses : FnScope ["script", "few", "spot"] ["script", "few"] (defScope s_purses) := ⟨rfl, rfl, rfl, by decide +kernel, rfl, by decide +kernel, by decide +kernel⟩
theorem ok_purses (F : Fun K "_law_purses" "_law_purses" s_purses f fd) (M : Bl mg) (hmin : mg "min" = none) (cp : Cl P w K mg base 1 "_law_purse" (spPurse K)) : FnOk P w K mg base CX0 2 f fd ["script", "few"] (spPurses K) := by
  refine F.ok sc_purses (by rintro vs H Q E ⟨_, _, rfl, _⟩; rfl) (fun cdv A0 outer s H vs Q E hr h => ?_)
  obtain ⟨a, ns, rfl, hS, hn, q⟩ := h
  have nd := sc_purses.nd
  refine ⟨_, pss_one (ps_ret (pe_lc (own := [("spot", 2)]) (g := gName 2) (tt := tYes) (te := tCall (spPurse K) [] E0 (tCons (tVar 0) (tCons (tVar 2) tNil))) rfl nd
    (pi_range1 (by rfl) M.range (pa_cons (pe_callB (call_max2 rfl) (by rfl) M.max PyProof.Rows.boot_max (pa_cons pe_int (pa_cons (pe_callB (call_min2 rfl) (by rfl) hmin PyProof.Rows.boot_min (pa_cons (pv 1) (pa_cons (pe_callB call_lenR (by rfl) M.len PySem.boot_len (pa_cons (pv 0) pa_nil)) pa_nil))) pa_nil))) pa_nil))
    (blkOk_by (N := ["script", "few", "spot"]) (sc := defScope s_purses) (by decide +kernel))
    (fun _ _ _ _ _ => pg_name (i := 2) nd rfl (Or.inl rfl)) (fun _ _ _ _ _ => pts_nil)
    (fun _ _ _ _ _ => pe_cl cp hr (by decide) (by rfl) (pa_cons (pv 0) (pa_cons (pv 2) pa_nil))))), ?_⟩
  refine ⟨.int 12, rfl, .ref a, rfl, _, _, rfl, .inl ⟨_, hS, rfl⟩, _, _, rfl, _, _, rfl, ?_⟩
  have hmx : ∀ m : Int, m = (if (if ((ns.map V.int).length : Int) < 12 then ((ns.map V.int).length : Int) else 12) > 1 then (if ((ns.map V.int).length : Int) < 12 then ((ns.map V.int).length : Int) else 12) else 1) → 1 ≤ m ∧ m ≤ 63 := by
    intro m hm
    rw [List.length_map] at hm
    split at hm <;> split at hm <;> omega
  generalize hm : (if (if ((ns.map V.int).length : Int) < 12 then ((ns.map V.int).length : Int) else 12) > 1 then (if ((ns.map V.int).length : Int) < 12 then ((ns.map V.int).length : Int) else 12) else 1) = m
  obtain ⟨m1, m2⟩ := hmx m hm.symm
  refine ⟨m, rfl, by omega, by omega, fun D hD => ?_⟩
  refine lc_it (walk_range (lo := 0) (n := m.toNat)) (te := tCall (spPurse K) [] E0 (tCons (tVar 0) (tCons (tVar 2) tNil))) (fun i H' => Ex H H' ∧ ∃ ps : List Addr, H' D = some (.lst (ps.map V.ref)) ∧ ps.length = i ∧ ∀ q ∈ ps, q ≠ D ∧ Purse H' 0 q) ⟨Evl.Ex.new hD, [], upd_same, rfl, fun _ h => by cases h⟩ (fun _ _ _ _ => trivial) ?_ ?_
  · rintro i x H' H2 hi ⟨e, ps, hd, hlen, hps⟩ ⟨rfl, rfl⟩
    refine ⟨rfl, ?_⟩
    dsimp only [tYes]
    rw [if_pos rfl]
    refine ⟨_, rfl, _, rfl, a, ns, 0 + (i : Int), rfl, ex_l e hS, by omega, by omega, fun p H3 e3 hp pu => ?_⟩
    have hpD : p ≠ D := fresh_ne hp hd
    refine ⟨_, e3 _ _ hd, by rw [List.length_map]; exact small1000 (by omega), Evl.Ex.mut (e.trans e3) hD, ps ++ [p], ?_, by rw [List.length_append, hlen]; rfl, fun q hq => ?_⟩
    · rw [upd_same, List.map_append]
      rfl
    · rcases List.mem_append.mp hq with hq | hq
      · obtain ⟨h1, h2⟩ := hps q hq
        exact ⟨h1, (h2.ex e3).at fun o ho => by rw [upd_ne h1]; exact ho⟩
      · have : q = p := by simpa using hq
        subst this
        exact ⟨hpD, pu.at fun o ho => by rw [upd_ne hpD]; exact ho⟩
  · rintro H' ⟨e, ps, hd, hlen, hps⟩
    exact q D ps H' e hd hps (by omega)
end
end KB
/-! k95: what the law wants of a book, whatever it is made of. -/
namespace KB
open PySem PySem.Spec PyProof.Rows L2 FC FP LamX NdefX
open Evl (Ex)
def gApp {α : Type} (us ws : List α) : List α := us ++ ws
def gPut {α : Type} : List α → List α → List α
  | [a], [c, i] => [a, i, c]
  | us, ws => us ++ ws
def gMk {α : Type} : List α → List α → List α
  | [x], [c, k, d] => [x, d, k, c]
  | us, ws => us ++ ws
/-- a method, called by keywords or without arguments -/
structure MW (P : Program) (w : World) (K : PySem.W.Frag) (mg : Str → Option Value) (base : Heap) (k : Nat) (C : Addr) (m : Str) (ks : List Str) (gV : List V → List V → List V) (sp : Sp) : Prop where
  ex : ∃ (f : Addr) (fd : FuncData) (ps : List Str) (g : List Value → List Value → List Value), Meth K C m f ∧ FnOk P w K mg base CX0 k f fd ps sp ∧ KBn K fd ps 1 ks g gV
structure M0 (P : Program) (w : World) (K : PySem.W.Frag) (mg : Str → Option Value) (base : Heap) (k : Nat) (C : Addr) (m : Str) (sp : Sp) : Prop where
  ex : ∃ (f : Addr) (fd : FuncData) (ps : List Str), Meth K C m f ∧ FnOk P w K mg base CX0 k f fd ps sp ∧ Binds K fd ps []
structure MkW (P : Program) (w : World) (K : PySem.W.Frag) (mg : Str → Option Value) (base : Heap) (k : Nat) (x : Str) (C : Addr) (ks : List Str) (gV : List V → List V → List V) (sp : Sp) : Prop where
  ex : ∃ (f : Addr) (fd : FuncData) (ps : List Str) (g : List Value → List Value → List Value), Mk K C f ∧ mg x = some (.ref C) ∧ FnOk P w K mg base CX0 k f fd ps sp ∧ KBn K fd ps 1 ks g gV
section
variable {X : Cx} {k j : Nat} {C : Addr} {ks : List Str} {sp : Sp} {m x : Str} {p pos apos : Pos} {kws : List Keyword} {o : Expr} {ta : TE} {tk : TA} {gV : List V → List V → List V}
theorem pe_mw {pl : Sem Bool} (he : PE X o ta) (c : Cls X.K C) (h : MW X.prog X.w X.K X.mg X.base k C m ks gV sp) (hr : Room j X.A) (hkj : k ≤ j) (hkw : PK X kws tk)
    (hall : (backToKw pos (keywordEach kws X.env)).all (·.1.isSome) = true := by rfl) (hks : (backToKw pos (keywordEach kws X.env)).filterMap (·.1) = ks := by rfl)
    (hpl : ((backTo pos (starEach [] X.env)).any (·.1) || (backToKw pos (keywordEach kws X.env)).any (·.1.isNone)) = false := by rfl)
    (ht : eval (.Call (.Attribute o m apos) [] kws pos) X.env = (do
      let ov ← eval o X.env
      standAt apos.atName
      let (f, first) ← holding [ov] (getMethod ov m pl)
      callWith pos f first (backTo pos (starEach [] X.env)) (backToKw pos (keywordEach kws X.env))) := by rfl) :
    PE X (.Call (.Attribute o m apos) [] kws pos) (tMethW C m sp ks.length gV ta tk) := by
  obtain ⟨f, fd, ps, g, hm, F, hb⟩ := h.ex
  exact pe_mkw he c hm F hr hkj hb hkw hall hks hpl ht
theorem pe_m0w {pl : Sem Bool} (he : PE X o ta) (c : Cls X.K C) (h : M0 X.prog X.w X.K X.mg X.base k C m sp) (hr : Room j X.A) (hkj : k ≤ j)
    (ht : eval (.Call (.Attribute o m apos) [] [] pos) X.env = (do
      let ov ← eval o X.env
      standAt apos.atName
      let (f, first) ← holding [ov] (getMethod ov m pl)
      callWith pos f first (backTo pos (starEach [] X.env)) (backToKw pos (keywordEach [] X.env))) := by rfl) :
    PE X (.Call (.Attribute o m apos) [] [] pos) (tMeth C m sp [] E0 ta tNil) := by
  obtain ⟨f, fd, ps, hm, F, hb⟩ := h.ex
  exact pe_meth0 he c hm (F.mono hkj) hr hb .nil pass0 ht
theorem call_lenw (h : M0 X.prog X.w X.K X.mg X.base k C "__len__" sp) (hr : Room (j + 1) X.A) (hkj : k ≤ j) :
    CallR X (.builtin "len") (fun xs H Q => ∃ a dx fs, xs = [.ref a] ∧ H a = some (.ins C dx fs) ∧ sp [.ref a] H (fun v H' => ∃ n : Nat, v = .int n ∧ n < 2 ^ 62 ∧ Q (.int n) H') E0) := by
  obtain ⟨f, fd, ps, hm, F, hb⟩ := h.ex
  exact call_len_own hm F hr hkj hb
theorem pe_mkw0 (h : MkW X.prog X.w X.K X.mg X.base k x C ks gV sp) (hr : Room (j + 1) X.A) (hkj : k ≤ j) (hg : Gl X x) (hkw : PK X kws tk)
    (hall : (backToKw pos (keywordEach kws X.env)).all (·.1.isSome) = true := by rfl) (hks : (backToKw pos (keywordEach kws X.env)).filterMap (·.1) = ks := by rfl) (hdb : (x == ("__debug__" : Str)) = false := by decide)
    (hpl : ((backTo pos (starEach [] X.env)).any (·.1) || (backToKw pos (keywordEach kws X.env)).any (·.1.isNone)) = false := by rfl) :
    PE X (.Call (.Name x p) [] kws pos) (tMakeK C 0 ks.length sp gV E0 tNil tk) := by
  obtain ⟨f, fd, ps, g, M, hm, F, hb⟩ := h.ex
  exact pe_makeK0 M (F.mono hkj) hr hg hm hb pass0 hkw hall hks hdb hpl
end
/-! ### the book, told -/
abbrev BkT := Hp → Hp → Addr → List (PyData × Str) → Prop
def methods : List Str := ["label", "put", "attempt", "drop", "clauses"]
/-- Bk H0 H a cs: the book a holds the clauses cs; what stood in H0, ahead of it, still stands -/
structure BkOk (C : Addr) (T : List NTab) (Bk : BkT) : Prop where
  ins : ∀ {H0 H a cs}, Bk H0 H a cs → ∃ dx fs, H a = some (.ins C dx fs) ∧ ∀ m ∈ methods, fs.lookup m = none
  old : ∀ {H0 H a cs}, Bk H0 H a cs → ExtN H0 H
  tab : ∀ {H0 H a cs}, Bk H0 H a cs → TabsN T H
  ext : ∀ {H0 H H' a cs}, Bk H0 H a cs → ExtN H H' → TabsN T H' → Bk H0 H' a cs
theorem BkOk.ex {C : Addr} {T : List NTab} {Bk : BkT} (b : BkOk C T Bk) {H0 H H' : Hp} {a : Addr} {cs : List (PyData × Str)} (h : Bk H0 H a cs) (e : Ex H H') : Bk H0 H' a cs := b.ext h (.of e) ((b.tab h).ext e)
def cl0 (low : Int) : PyData × Str := (fromD (.int low) .none, "yes")
def cl1 : PyData × Str := (.none, "no")
def kindN : List (Str × PyData) := [("n", numsD 0 9)]
section
variable (K : PySem.W.Frag) (C : Addr) (T : List NTab) (Bk : BkT) (mk : Addr → NF)
def spInit : Sp := fun vs H Q _ => ∃ (x dx : Addr) (kd cl : V) (low : Int) (B H0 : Hp), vs = [.ref x, kd, .str "n", cl] ∧ Ex B H ∧ RtA K B [kd, cl] [dictU kindN, .list [clauseD (cl0 low)]] ∧ 0 ≤ low ∧ low ≤ 8 ∧ H x = some (.ins C dx []) ∧ H dx = some (.own x) ∧ dx ≠ x ∧ B x = none ∧ B dx = none ∧
  ExtN H0 H ∧ H0 x = none ∧ H0 dx = none ∧ TabsN T H ∧ ∀ H', Bk H0 H' x [cl0 low] → Q .non H'
def spLabel : Sp := fun vs H Q _ => ∃ (a : Addr) (low : Int) (H0 : Hp), vs = [.ref a, .int low] ∧ Bk H0 H a [cl0 low] ∧ 0 ≤ low ∧ low ≤ 8 ∧ ∀ H', Bk H0 H' a [cl0 low] → Q (.str "yes") H'
def spPut : Sp := fun vs H Q _ => ∃ (a : Addr) (cl : V) (low : Int) (B H0 : Hp), vs = [.ref a, .int 1, cl] ∧ Bk H0 H a [cl0 low] ∧ 0 ≤ low ∧ low ≤ 8 ∧ Ex B H ∧ Rt K B cl (clauseD cl1) ∧ ∀ H', Bk H0 H' a [cl0 low, cl1] → Q .non H'
def spLen : Sp := fun vs H Q _ => ∃ (a : Addr) (low : Int) (H0 : Hp), vs = [.ref a] ∧ Bk H0 H a [cl0 low, cl1] ∧ ∀ H', Bk H0 H' a [cl0 low, cl1] → Q (.int 2) H'
def spAtt : Sp := fun vs H Q _ => ∃ (a nf c' : Addr) (low : Int) (H0 : Hp), vs = [.ref a, .ref nf] ∧ Bk H0 H a [cl0 low, cl1] ∧ 0 ≤ low ∧ low ≤ 8 ∧ H nf = some (FnO nf (mk c')) ∧ H c' = some (CodeO c' (mk c').qual) ∧
  ∀ v B' H', Ex B' H' → Rt K B' v (.list [clauseD (cl0 low), clauseD cl1]) → Bk H0 H' a [cl0 low, cl1] → Q v H'
def spDrop : Sp := fun vs H Q _ => ∃ (a : Addr) (low : Int) (H0 : Hp), vs = [.ref a, .int 0] ∧ Bk H0 H a [cl0 low, cl1] ∧ 0 ≤ low ∧ low ≤ 8 ∧ ∀ v B' H', Ex B' H' → Rt K B' v (clauseD (cl0 low)) → Bk H0 H' a [cl1] → Q v H'
def spCls : Sp := fun vs H Q _ => ∃ (a : Addr) (low : Int) (cs : List (PyData × Str)) (H0 : Hp), vs = [.ref a] ∧ (cs = [cl0 low, cl1] ∨ cs = [cl1]) ∧ 0 ≤ low ∧ low ≤ 8 ∧ Bk H0 H a cs ∧ ∀ v B' H', Ex B' H' → Rt K B' v (.list (cs.map clauseD)) → Bk H0 H' a cs → Q v H'
end
/-! ### the law's own def within -/
def forBody : Stmt → List Stmt
  | .For _ _ b _ _ => b
  | _ => []
abbrev actSt : Stmt := (forBody ((defBody s_law).getD 0 (.Pass ⟨0, 0, 0, 0⟩))).getD 3 (.Pass ⟨0, 0, 0, 0⟩)
def actQual : Str := (envOfC "law" (defScope s_law) 0 0 .none).qual ++ "_law_action"
def mkAct : Addr → NF := NF.of actSt "_law_action" actQual []
/-- everything that the law asks of the program -/
structure BookOk (P : Program) (w : World) (K : PySem.W.Frag) (mg : Str → Option Value) (base : Heap) (k : Nat) (C : Addr) (T : List NTab) (Bk : BkT) : Prop where
  cls : Cls K C
  ok : BkOk C T Bk
  make : MkW P w K mg base k "Book" C ["clauses", "kind", "kinds"] gMk (spInit K C T Bk)
  label : MW P w K mg base k C "label" ["value"] gApp (spLabel Bk)
  put : MW P w K mg base k C "put" ["clause", "at"] gPut (spPut K Bk)
  len : M0 P w K mg base k C "__len__" (spLen Bk)
  att : MW P w K mg base k C "attempt" ["action"] gApp (spAtt K Bk mkAct)
  drop : MW P w K mg base k C "drop" ["at"] gApp (spDrop K Bk)
  clauses : M0 P w K mg base k C "clauses" (spCls K Bk)
end KB
/-! k95: the law. -/
namespace KB
open PySem PySem.Spec PyProof.Rows L2 FC FP LamX NdefX
open Evl (Ex)
theorem seq_set {te : TE} {i : Nat} {t : TS} {D : Ends} {σ : L2.St} {H : Hp} (h : te σ H fun v H1 => t D (σ.set i (some v)) H1) : tSeq (tAsg te (gName i)) t D σ H := h
theorem seq_of {t u : TS} {D : Ends} {σ : L2.St} {H : Hp} (h : t { D with nx := u D } σ H) : tSeq t u D σ H := h
theorem ifn_test {t : TT} {u : TS} {D : Ends} {σ : L2.St} {H : Hp} (h : t σ H fun c H1 => if c = true then False else u D σ H1) : tSeq (tIfS t tNever tNext) u D σ H := h
theorem ifn_last {t : TT} {D : Ends} {σ : L2.St} {H : Hp} (h : t σ H fun c H1 => if c = true then False else D.nx σ H1) : tIfS t tNever tNext D σ H := h
/-- a def whose code object is told -/
structure FunC (K : PySem.W.Frag) (x qual : Str) (st : Stmt) (f c : Addr) (fd : FuncData) : Prop where
  ex : ∃ (oc : Value) (od : Option Addr) (kV doc pm : Value) (an : Option Addr) (ct : Value) (osl : Array (Option Value)), fd = PySem.W.fnOf x qual (defArgs st) (defBody st) (defScope st) .none kV doc pm an (.ref c) ct ∧ K.lookup f = some ⟨oc, od, .func fd, osl⟩ ∧ PySem.W.codeIn K (.ref c) qual = true
abbrev lawNames : List Str := ["script", "purse", "low", "book", "_law_action"]
def tabs (Pt : Addr) : List NTab := [(Pt, fun _ _ => actQual)]
def spLaw (K : PySem.W.Frag) (Pt : Addr) : Sp := fun vs H Q _ => ∃ (a : Addr) (ns : List Int), vs = [.ref a] ∧ SqL K H a (ns.map V.int) ∧ ns.length ≤ 63 ∧ H Pt = some (.tbl #[]) ∧ ∀ H', Q (.bl true) H'
theorem sc_law : FnScope lawNames ["script"] (defScope s_law) := ⟨rfl, rfl, rfl, by decide +kernel, rfl, by decide +kernel, by decide +kernel⟩
theorem act_nofree : ∀ y ∈ (C8.fnScope actSt).names, y.2 ≠ .free := by decide +kernel
/-- the purses, of which at most n draws were made from each -/
def Pu (p : Addr) (ps : List Addr) (n : Int) (H : Hp) : Prop := H p = some (.lst (ps.map V.ref)) ∧ ∀ q ∈ ps, q ≠ p ∧ Purse H n q
theorem Pu.ext {p : Addr} {ps : List Addr} {n : Int} {H H' : Hp} (h : Pu p ps n H) (e : ExtN H H') : Pu p ps n H' :=
  ⟨e _ _ h.1 (fun _ z => nomatch z), fun q hq => ⟨(h.2 q hq).1, (h.2 q hq).2.at fun o ho => e _ _ ho (by obtain ⟨_, _, _, _, hl, _⟩ := (h.2 q hq).2; rw [hl] at ho; cases ho; exact fun _ z => nomatch z)⟩⟩
theorem Pu.draw {p q : Addr} {ps : List Addr} {n : Int} {H H' : Hp} (h : Pu p ps n H) (hq : q ∈ ps) (pu : Purse H' (n + 1) q) (fr : ∀ a o, a ≠ q → H a = some o → H' a = some o) : Pu p ps (n + 1) H' := by
  refine ⟨fr _ _ (h.2 q hq).1.symm h.1, fun q' hq' => ⟨(h.2 q' hq').1, ?_⟩⟩
  by_cases e : q' = q
  · subst e
    exact pu
  · exact ((h.2 q' hq').2.at fun o ho => fr _ _ e ho).up (by omega)
theorem tabs_draw {T : List NTab} {H H' : Hp} {q : Addr} {xs : List V} (h : TabsN T H) (hq : H q = some (.lst xs)) (fr : ∀ a o, a ≠ q → H a = some o → H' a = some o) : TabsN T H' := fun p hp => by
  obtain ⟨ps, h1, h2, h3⟩ := h p hp
  refine ⟨ps, fr _ _ (fun z => ?_) h1, h2, fun pos cv hc => ?_⟩
  · rw [z, hq] at h1
    cases h1
  · obtain ⟨c, e1, e2⟩ := h3 pos cv hc
    refine ⟨c, e1, fr _ _ (fun z => ?_) e2⟩
    rw [z, hq] at e2
    have y : HO.lst xs = CodeO _ _ := Option.some.inj e2
    unfold CodeO at y
    cases y
theorem de_disp1 {K : PySem.W.Frag} {G : List (Option PyData)} {te : TE} {k : Str} {d : PyData} (h : DE K te G d) (hp : plain d = true) : DE K (tDisp [(tC (.str k), te)]) G (dictU [(k, d)]) := fun σ B H x en Q q => fun p hp0 => by
  have g0 : Go B H B (upd H p (.dK [])) := Go.own x hp0
  have nb : B p = none := sub_none x hp0
  refine h σ B _ g0.sub en _ fun v B1 H1 g1 r1 => ?_
  have e1 : H1 p = some (.dK []) := g1.eh p _ upd_same
  have nb1 : B1 p = none := g1.fr p _ upd_same nb
  refine ⟨e1, [(Sum.inr k, v)], rfl, by show 1 ≤ 15; decide, ?_⟩
  have em : mergeK [] [((Sum.inr k : Key), v)] = [((Sum.inr k : Key), v)] := rfl
  rw [em]
  have gg : Go B H (upd B1 p (.dK [(Sum.inr k, v)])) (upd H1 p (.dK [(Sum.inr k, v)])) := by
    have g2 := g0.trans g1
    refine ⟨g2.eb.trans (Evl.Ex.new nb1), Evl.Ex.mut g2.eh hp0, fun a o e => ?_, fun a o e na => ?_⟩
    · by_cases ha : a = p
      · subst ha
        rw [upd_same] at e ⊢
        exact e
      · rw [upd_ne ha] at e ⊢
        exact g1.sub a o e
    · have ha : a ≠ p := by
        intro z
        subst z
        rw [hp0] at e
        cases e
      rw [upd_ne ha]
      exact g2.fr a o e na
  refine q _ _ _ gg (.dictU upd_same (.cons ⟨rfl, dp_ex (Evl.Ex.new nb1) _ _ (r1.dp hp)⟩ .nil) (by simp))
theorem en_low {K : PySem.W.Frag} {H : Hp} {x0 x1 x3 x4 : Option V} {r : Int} : En K H [x0, x1, some (.int r), x3, x4] [none, none, some (.int r), none, none] := ⟨rfl, fun i d e => by
  match i with
  | 0 => cases e
  | 1 => cases e
  | 2 =>
    cases e
    exact ⟨_, rfl, .d (.int r)⟩
  | 3 => cases e
  | 4 => cases e
  | n + 5 => cases e⟩
theorem nine {p : Int → Bool} (h : ∀ n : Fin 9, p ((n.val : Nat) : Int) = true) {r : Int} (h0 : 0 ≤ r) (h1 : r ≤ 8) : p r = true := by
  have z := h ⟨r.toNat, by omega⟩
  rwa [show (((⟨r.toNat, by omega⟩ : Fin 9).val : Nat) : Int) = r from Int.toNat_of_nonneg h0] at z
theorem eq_clause {r : Int} (h0 : 0 ≤ r) (h1 : r ≤ 8) : PyData.eqv (clauseD (cl0 r)) (clauseD (cl0 r)) = true := nine (p := fun r => PyData.eqv (clauseD (cl0 r)) (clauseD (cl0 r))) (by decide +kernel) h0 h1
theorem eq_clauses {r : Int} (h0 : 0 ≤ r) (h1 : r ≤ 8) : PyData.eqv (.list [clauseD (cl0 r), clauseD cl1]) (.list [clauseD (cl0 r), clauseD cl1]) = true := nine (p := fun r => PyData.eqv (.list [clauseD (cl0 r), clauseD cl1]) (.list [clauseD (cl0 r), clauseD cl1])) (by decide +kernel) h0 h1
theorem sh_clause {r : Int} (h0 : 0 ≤ r) (h1 : r ≤ 8) : SeqAt.shaped (clauseD (cl0 r)) = true := nine (p := fun r => SeqAt.shaped (clauseD (cl0 r))) (by decide +kernel) h0 h1
theorem sh_clauses {r : Int} (h0 : 0 ≤ r) (h1 : r ≤ 8) : SeqAt.shaped (.list [clauseD (cl0 r), clauseD cl1]) = true := nine (p := fun r => SeqAt.shaped (.list [clauseD (cl0 r), clauseD cl1])) (by decide +kernel) h0 h1
theorem make_step {K : PySem.W.Frag} {G : List (Option PyData)} {ds : List PyData} {C : Addr} {m : Nat} {sp : Sp} {gV : List V → List V → List V} {tk : TA} {σ : L2.St} {B H : Hp} {Q : VK} (hda : DA K tk G ds) (x : Ex B H) (en : En K B σ G) (hm : ds.length = m)
    (q : ∀ zs B' H', Go B H B' H' → RtA K B' zs ds → ∀ x dx, H' x = none → H' dx = none → dx ≠ x → sp (gV [.ref x] zs) (upd (upd H' dx (.own x)) x (.ins C dx [])) (fun v H3 => v = .non ∧ Q (.ref x) H3) E0) : tMakeK C 0 m sp gV E0 tNil tk σ H Q :=
  hda σ B H x en _ fun zs B' H' g r => ⟨rfl, r.length.trans hm, q zs B' H' g r⟩
theorem methW_step {C : Addr} {m : Str} {sp : Sp} {n i : Nat} {gV : List V → List V → List V} {tk : TA} {σ : L2.St} {H : Hp} {Q : VK} {a dx : Addr} {fs : List (Str × V)} (h1 : σ[i]? = some (some (.ref a))) (h2 : H a = some (.ins C dx fs)) (h3 : fs.lookup m = none)
    (h4 : tk σ H fun zs H2 => zs.length = n ∧ sp (gV [.ref a] zs) H2 Q E0) : tMethW C m sp n gV (tVar i) tk σ H Q := ⟨_, h1, a, dx, fs, rfl, h2, h3, h4⟩
theorem or_step {tA tB' : TT} {σ : L2.St} {H : Hp} {Q : Bool → Hp → Prop} (h : tA σ H fun c H1 => if c = true then Q true H1 else tB' σ H1 Q) : tOr tA tB' σ H Q := h
theorem test_step {r : R2} {ta tb : TE} {σ : L2.St} {H : Hp} {Q : Bool → Hp → Prop} (h : ta σ H fun x H1 => tb σ H1 fun y H2 => r x y H2 fun z H3 => ∃ k, z = .bl k ∧ Q k H3) : tTest (tOp r ta tb) σ H Q := h
theorem ne_step {K : PySem.W.Frag} {x y : V} {d : PyData} {H : Hp} {Q : Bool → Hp → Prop} (h1 : Dp K H x d) (h2 : Dp K H y d) (hs : SeqAt.shaped d = true) (he : PyData.eqv d d = true) (q : Q false H) : rNeD K x y H fun z H3 => ∃ k, z = .bl k ∧ Q k H3 :=
  ⟨d, d, h1, h2, hs, hs, false, by rw [he]; rfl, q⟩
theorem nec_step {K : PySem.W.Frag} {x y : V} {d : PyData} {σ : L2.St} {H : Hp} {Q : Bool → Hp → Prop} (h1 : Dp K H x d) (h2 : Dp K H y d) (hs : SeqAt.shaped d = true) (he : PyData.eqv d d = true) (q : Q false H) : tC y σ H fun y H2 => rNeD K x y H2 fun z H3 => ∃ k, z = .bl k ∧ Q k H3 :=
  ne_step h1 h2 hs he q
section
variable {P : Program} {w : World} {K : PySem.W.Frag} {mg : Str → Option Value} {base : Heap} {f c Pt C : Addr} {fd : FuncData} {Bk : BkT} {k : Nat}
theorem ok_law (F : FunC K "law" "law" s_law f c fd) (M : Bl mg) (TB : TabB base mg c Pt) (cps : Cl P w K mg base 2 "_law_purses" (spPurses K)) (cd : Cl P w K mg base 2 "_law_draw" spDraw) (BO : BookOk P w K mg base k C (tabs Pt) Bk) (hk : 2 ≤ k) :
    FnOk P w K mg base CX0 (k + 2) f fd ["script"] (spLaw K Pt) := by
  obtain ⟨oc, od, kV, doc, pm, an, ct, osl, rfl, lk, hcd⟩ := F.ex
  refine fn_of lk hcd sc_law (by rintro vs H Q E ⟨a, ns, rfl, _⟩; rfl) fun A outer s H vs Q E hr h => ?_
  have nd := sc_law.nd
  have hu64 : (A.deeper (envOfC "law" (defScope s_law) s.heap.objs.size f (.ref c))).units + 64 < cLine := by have := hr.un; omega
  have hr0 : Room k (A.deeper (envOfC "law" (defScope s_law) s.heap.objs.size f (.ref c))) := hr.mono (by omega)
  suffices hh : ∃ t, PSs (cxOf CX0 P w K mg base lawNames "law" (defScope s_law) f (.ref c) A outer s H E).nox (defBody s_law) t ∧ t { nx := fun _ H' => Q .non H', rt := Q } (start lawNames vs) H from by
    obtain ⟨t, h1, h2⟩ := hh
    exact ⟨t, h1.nox, h2⟩
  obtain ⟨a, ns, rfl, hS, hlen, hT, q⟩ := h
  refine ⟨_, pss_cons (ps_for PassesOwn.never rfl (pi_list (pe_cl cps hr0 hk (by rfl) (pa_cons (pv 0) (pa_cons pe_int pa_nil)))) (pg_name (i := 1) nd rfl (Or.inl rfl))
      (pss_cons (ps_set (i := 2) nd rfl (Or.inl rfl) (pe_cl cd hr0 hk (by rfl) (pa_cons (pv 1) (pa_cons pe_int pa_nil))))
      (pss_cons (ps_set (i := 3) nd rfl (Or.inl rfl) (pe_mkw0 BO.make hr (Nat.le_refl _) (by rfl) (pk_cons (pe_lst (pa_cons (pe_tup (pa_cons (pe_tup (pa_cons pe_str (pa_cons (pv 2) (pa_cons pe_non pa_nil)))) (pa_cons pe_str pa_nil))) pa_nil)) (pk_cons pe_str (pk_cons (pe_disp (pps_cons pe_str (pe_tup (pa_cons pe_str (pa_cons pe_int (pa_cons pe_int pa_nil)))) pps_nil) rfl rfl (by simp) (by show 1 ≤ 15; decide)) pk_nil)))))
      (pss_cons (ps_if (pw_or (pt_cmpR (op_neD hu64) (pe_mw (pv 3) BO.cls BO.label hr0 (Nat.le_refl _) (pk_cons (pv 2) pk_nil)) pe_str (nomark _)) (pw_or (pt_cmpR op_notN1 (pe_mw (pv 3) BO.cls BO.put hr0 (Nat.le_refl _) (pk_cons (pe_tup (pa_cons pe_non (pa_cons pe_str pa_nil))) (pk_cons pe_int pk_nil))) pe_non (nomark _))
          (pw_or1 (pt_cmpR (op_neD hu64) (pe_callB (call_lenw BO.len hr (Nat.le_refl _)) (by rfl) M.len PySem.boot_len (pa_cons (pv 3) pa_nil)) pe_int (nomark _))))).pt pss_never pss_nil)
      (pss_cons (ps_ndefS (T := tabs Pt) (st := actSt) (name := "_law_action") (i := 4) rfl TB rfl (List.mem_singleton.mpr rfl) rfl (fun p hp hq => by rw [List.mem_singleton.mp hp]) (fun y hy e => absurd e (act_nofree y hy)) rfl rfl rfl nd rfl (Or.inl rfl) (Or.inr rfl))
      (pss_cons (ps_if (pt_cmpR (op_neD hu64) (pe_mw (pv 3) BO.cls BO.att hr0 (Nat.le_refl _) (pk_cons (pv 4) pk_nil)) (pe_lst (pa_cons (pe_tup (pa_cons (pe_tup (pa_cons pe_str (pa_cons (pv 2) (pa_cons pe_non pa_nil)))) (pa_cons pe_str pa_nil))) (pa_cons (pe_tup (pa_cons pe_non (pa_cons pe_str pa_nil))) pa_nil))) (nomark _)) pss_never pss_nil)
      (pss_one (ps_if (pw_or (pt_cmpR (op_neD hu64) (pe_mw (pv 3) BO.cls BO.drop hr0 (Nat.le_refl _) (pk_cons pe_int pk_nil)) (pe_tup (pa_cons (pe_tup (pa_cons pe_str (pa_cons (pv 2) (pa_cons pe_non pa_nil)))) (pa_cons pe_str pa_nil))) (nomark _))
          (pw_or1 (pt_cmpR (op_neD hu64) (pe_m0w (pv 3) BO.cls BO.clauses hr0 (Nat.le_refl _)) (pe_lst (pa_cons (pe_tup (pa_cons pe_non (pa_cons pe_str pa_nil))) pa_nil)) (nomark _)))).pt pss_never pss_nil))))))))
    (pss_one (ps_ret pe_bl)), ?_⟩
  refine ⟨.ref a, rfl, a, ns, rfl, hS, hlen, fun p ps H0 e0 hp hps hl => ?_⟩
  have hT0 : TabsN (tabs Pt) H0 := fun t ht => by
    rw [List.mem_singleton.mp ht]
    exact .nil (e0 _ _ hT)
  refine ⟨p, rfl, ⟨_, .inl (.inl hp)⟩, ?_⟩
  refine for_it (walk_list (K := K) (a := p) (xs := ps.map V.ref)) (fun i σ H' => σ.length = 5 ∧ Pu p ps (i : Int) H' ∧ TabsN (tabs Pt) H') ⟨rfl, ⟨hp, fun q hq => ⟨(hps q hq).1, (hps q hq).2.up (by decide)⟩⟩, hT0⟩ (fun i σ H' _ h => .inl (.inl h.2.1.1)) ?_ ?_
  · rintro i x σ H1 H1' hi ⟨len, hpu, ht⟩ ⟨rfl, hx⟩
    have hil : i < 63 := by
      have : i < (ps.map V.ref).length := hi
      rw [List.length_map] at this
      omega
    rw [List.getElem?_map] at hx
    obtain ⟨q0, hq0, rfl⟩ := Option.map_eq_some_iff.mp hx
    have hmem : q0 ∈ ps := List.mem_of_getElem? hq0
    match σ, len with
    | [x0, x1, x2, x3, x4], _ =>
    refine seq_set ?_
    refine ⟨_, rfl, q0, 9, _, rfl, by decide, by decide, (hpu.2 q0 hmem).2, by omega, fun r Hc r0 r1 pu fr => ?_⟩
    have ht1 : TabsN (tabs Pt) Hc := by
      obtain ⟨_, _, _, _, hl0, _⟩ := (hpu.2 q0 hmem).2
      exact tabs_draw ht hl0 fr
    have pu1 := hpu.draw hmem pu fr
    refine seq_set ?_
    refine make_step (K := K) (G := [none, none, some (.int r), none, none]) (B := Hc) (da_cons (de_lst (da_cons (de_tup (da_cons (de_tup (da_cons de_str (da_cons (de_var rfl) (da_cons de_non da_nil))) rfl (by show 3 ≤ 1000; decide)) (da_cons de_str da_nil)) rfl (by show 2 ≤ 1000; decide)) da_nil) rfl (by show 1 ≤ 1000; decide)) (da_cons de_str (da_cons (de_disp1 (de_tup (da_cons de_str (da_cons de_int (da_cons de_int da_nil))) rfl (by show 3 ≤ 1000; decide)) rfl) da_nil))) (Evl.Ex.refl _) en_low rfl fun zs B' H' g rr bk dx nb nd ne => ?_
    cases rr with
    | @cons cl _ _ _ rc rr =>
    cases rr with
    | cons rn rr =>
    cases rr with
    | @cons kd _ _ _ rd rr =>
    cases rr
    have rn := rt_str rn
    subst rn
    have nb2 : (upd H' dx (.own bk)) bk = none := by
      rw [upd_ne (Ne.symm ne)]
      exact nb
    have e2 : Ex H' (upd (upd H' dx (.own bk)) bk (.ins C dx [])) := (Evl.Ex.new nd).trans (Evl.Ex.new nb2)
    refine ⟨bk, dx, kd, cl, r, B', H', rfl, g.sub.trans e2, .cons rd (.cons rc .nil), r0, by omega, upd_same, by rw [upd_ne ne, upd_same], ne, sub_none g.sub nb, sub_none g.sub nd, .of e2, nb, nd, (ht1.ext g.eh).ext e2, fun H3 hb => ⟨rfl, ?_⟩⟩
    have pu2 := pu1.ext (.of g.eh)
    refine ifn_test ?_
    refine or_step ?_
    refine test_step ?_
    obtain ⟨d3, f3, i3, l3⟩ := BO.ok.ins hb
    refine methW_step rfl i3 (l3 _ (by decide)) ?_
    refine ⟨_, rfl, rfl, bk, r, H', rfl, hb, r0, by omega, fun H4 hb4 => ?_⟩
    refine nec_step (d := .str "yes") (.str _) (.str _) (by decide +kernel) (by decide +kernel) ?_
    try dsimp only
    rw [if_neg Bool.false_ne_true]
    refine or_step ?_
    refine test_step ?_
    obtain ⟨d4, f4, i4, l4⟩ := BO.ok.ins hb4
    refine methW_step rfl i4 (l4 _ (by decide)) ?_
    have da4 : DA K (tCons (tTup (tCons (tC .non) (tCons (tC (.str "no")) tNil))) (tCons (tC (.int 1)) tNil)) [none, none, some (.int r), none, none] [clauseD cl1, .int 1] := da_cons (de_tup (da_cons de_non (da_cons de_str da_nil)) rfl (by show 2 ≤ 1000; decide)) (da_cons de_int da_nil)
    refine da4 _ H4 H4 (Evl.Ex.refl _) en_low _ fun zs5 B5 H5 g5 rr5 => ?_
    cases rr5 with
    | @cons cv _ _ _ rc5 rr5 =>
    cases rr5 with
    | cons ri5 rr5 =>
    cases rr5
    have ri5 := rt_int ri5
    subst ri5
    refine ⟨rfl, bk, cv, r, B5, H', rfl, BO.ok.ex hb4 g5.eh, r0, by omega, g5.sub, rc5, fun H6 hb6 => ?_⟩
    refine ⟨rfl, false, by simp, ?_⟩
    try dsimp only
    rw [if_neg Bool.false_ne_true]
    refine test_step ?_
    obtain ⟨d6, f6, i6, l6⟩ := BO.ok.ins hb6
    refine ⟨_, rfl, bk, d6, f6, rfl, i6, bk, r, H', rfl, hb6, fun H7 hb7 => ⟨2, rfl, by decide, ?_⟩⟩
    refine nec_step (d := .int 2) (.int _) (.int _) (by decide +kernel) (by decide +kernel) ?_
    try dsimp only
    rw [if_neg Bool.false_ne_true]
    refine seq_of ?_
    refine ⟨BO.ok.tab hb7, fun nf c' H8 e8 t8 n8 hf hc => ?_⟩
    have hb8 := BO.ok.ext hb7 e8 t8
    try dsimp only
    refine ifn_test ?_
    refine test_step ?_
    obtain ⟨d8, f8, i8, l8⟩ := BO.ok.ins hb8
    refine methW_step rfl i8 (l8 _ (by decide)) ?_
    refine ⟨_, rfl, rfl, bk, nf, c', r, H', rfl, hb8, r0, by omega, hf, hc, fun v9 B9 H9 e9 r9 hb9 => ?_⟩
    have de9 : DE K (tLst (tCons (tTup (tCons (tTup (tCons (tC (.str "from")) (tCons (tVar 2) (tCons (tC .non) tNil)))) (tCons (tC (.str "yes")) tNil))) (tCons (tTup (tCons (tC .non) (tCons (tC (.str "no")) tNil))) tNil))) [none, none, some (.int r), none, none] (.list [clauseD (cl0 r), clauseD cl1]) :=
      de_lst (da_cons (de_tup (da_cons (de_tup (da_cons de_str (da_cons (de_var rfl) (da_cons de_non da_nil))) rfl (by show 3 ≤ 1000; decide)) (da_cons de_str da_nil)) rfl (by show 2 ≤ 1000; decide)) (da_cons (de_tup (da_cons de_non (da_cons de_str da_nil)) rfl (by show 2 ≤ 1000; decide)) da_nil)) rfl (by show 2 ≤ 1000; decide)
    refine de9 _ H9 H9 (Evl.Ex.refl _) en_low _ fun y10 B10 H10 g10 r10 => ?_
    refine ne_step (dp_ex g10.eh _ _ (dp_ex e9 _ _ (r9.dp rfl))) (dp_ex g10.sub _ _ (r10.dp rfl)) (sh_clauses r0 (by omega)) (eq_clauses r0 (by omega)) ?_
    try dsimp only
    rw [if_neg Bool.false_ne_true]
    have hb10 := BO.ok.ex hb9 g10.eh
    refine ifn_last ?_
    refine or_step ?_
    refine test_step ?_
    obtain ⟨d10, f10, i10, l10⟩ := BO.ok.ins hb10
    refine methW_step rfl i10 (l10 _ (by decide)) ?_
    refine ⟨rfl, bk, r, H', rfl, hb10, r0, by omega, fun v11 B11 H11 e11 r11 hb11 => ?_⟩
    have de11 : DE K (tTup (tCons (tTup (tCons (tC (.str "from")) (tCons (tVar 2) (tCons (tC .non) tNil)))) (tCons (tC (.str "yes")) tNil))) [none, none, some (.int r), none, none] (clauseD (cl0 r)) :=
      de_tup (da_cons (de_tup (da_cons de_str (da_cons (de_var rfl) (da_cons de_non da_nil))) rfl (by show 3 ≤ 1000; decide)) (da_cons de_str da_nil)) rfl (by show 2 ≤ 1000; decide)
    refine de11 _ H11 H11 (Evl.Ex.refl _) en_low _ fun y12 B12 H12 g12 r12 => ?_
    refine ne_step (dp_ex g12.eh _ _ (dp_ex e11 _ _ (r11.dp rfl))) (dp_ex g12.sub _ _ (r12.dp rfl)) (sh_clause r0 (by omega)) (eq_clause r0 (by omega)) ?_
    try dsimp only
    rw [if_neg Bool.false_ne_true]
    have hb12 := BO.ok.ex hb11 g12.eh
    refine test_step ?_
    obtain ⟨d12, f12, i12, l12⟩ := BO.ok.ins hb12
    refine ⟨_, rfl, bk, d12, f12, rfl, i12, l12 _ (by decide), bk, r, [cl1], H', rfl, .inr rfl, r0, by omega, hb12, fun v13 B13 H13 e13 r13 hb13 => ?_⟩
    have de13 : DE K (tLst (tCons (tTup (tCons (tC .non) (tCons (tC (.str "no")) tNil))) tNil)) [none, none, some (.int r), none, none] (.list [clauseD cl1]) := de_lst (da_cons (de_tup (da_cons de_non (da_cons de_str da_nil)) rfl (by show 2 ≤ 1000; decide)) da_nil) rfl (by show 1 ≤ 1000; decide)
    refine de13 _ H13 H13 (Evl.Ex.refl _) en_low _ fun y14 B14 H14 g14 r14 => ?_
    refine ne_step (dp_ex g14.eh _ _ (dp_ex e13 _ _ (r13.dp rfl))) (dp_ex g14.sub _ _ (r14.dp rfl)) (by decide +kernel) (by decide +kernel) ?_
    try dsimp only
    rw [if_neg Bool.false_ne_true]
    have hb14 := BO.ok.ex hb13 g14.eh
    have pu3 := pu2.ext (BO.ok.old hb14)
    rw [show (i : Int) + 1 = ((i + 1 : Nat) : Int) by omega] at pu3
    exact ⟨rfl, pu3, BO.ok.tab hb14⟩
  · rintro σ H' ⟨_, _, _⟩
    exact q H'
end
end KB
/-! k95: the law's own code object, and the law at the head. -/
namespace KB
open PySem PySem.Spec PyProof.Rows L2 FC FP LamX NdefX
open Evl (Ex)
/-- the law's def at f, its code object at c, the table of the defs within at Pt -/
structure OwnCode (K : PySem.W.Frag) (f c Pt : Addr) : Prop where
  ex : ∃ (oc : Value) (od an od2 : Option Addr) (osl sl : Array (Option Value)) (kV dc pm ct : Value) (vs : Array Value) (file : Str) (tf tg tt : Tok) (flags text : Int) (inF : Bool),
    K.lookup f = some ⟨oc, od, .func (PySem.W.fnOf "law" "law" (defArgs s_law) (defBody s_law) (defScope s_law) .none kV dc pm an (.ref c) ct), osl⟩ ∧ PySem.W.codeIn K (.ref c) "law" = true ∧ K.lookup c = some ⟨.type "code", od2, .fields vs, sl⟩ ∧ vs[11]? = some (.ref Pt) ∧
    vs.getD 18 .none = .str file tf ∧ vs.getD 7 .none = .int flags tg ∧ vs.getD 9 .none = .bool inF ∧ vs.getD 10 .none = .int text tt ∧ c ≠ Pt ∧ K.lookup Pt = none
theorem OwnCode.mk' {K : PySem.W.Frag} {f c Pt : Addr} {oc : Value} {od an od2 : Option Addr} {osl sl : Array (Option Value)} {kV dc pm ct : Value} {vs : Array Value} {file : Str} {tf tg tt : Tok} {flags text : Int} {inF : Bool}
    (h1 : K.lookup f = some ⟨oc, od, .func (PySem.W.fnOf "law" "law" (defArgs s_law) (defBody s_law) (defScope s_law) .none kV dc pm an (.ref c) ct), osl⟩) (h2 : PySem.W.codeIn K (.ref c) "law" = true) (h3 : K.lookup c = some ⟨.type "code", od2, .fields vs, sl⟩) (h4 : vs[11]? = some (.ref Pt))
    (h5 : vs.getD 18 .none = .str file tf) (h6 : vs.getD 7 .none = .int flags tg) (h7 : vs.getD 9 .none = .bool inF) (h8 : vs.getD 10 .none = .int text tt) (h9 : (c == Pt) = false) (h10 : K.lookup Pt = none) : OwnCode K f c Pt :=
  ⟨oc, od, an, od2, osl, sl, kV, dc, pm, ct, vs, file, tf, tg, tt, flags, text, inF, h1, h2, h3, h4, h5, h6, h7, h8, by simpa using h9, h10⟩
theorem OwnCode.fun {K : PySem.W.Frag} {f c Pt : Addr} (o : OwnCode K f c Pt) : ∃ fd : FuncData, FunC K "law" "law" s_law f c fd ∧ ∀ (s : Shared) (u : Value), BindsTo s fd ⟨[u], []⟩ [("script", u)] := by
  obtain ⟨oc, od, an, od2, osl, sl, kV, dc, pm, ct, vs, file, tf, tg, tt, flags, text, inF, h1, h2, h3, h4, h5, h6, h7, h8, h9, h10⟩ := o.ex
  exact ⟨_, ⟨oc, od, kV, dc, pm, an, ct, osl, rfl, h1, h2⟩, fun s u => .of_eq rfl⟩
theorem law_at {l : PySem.W.OpenLaw} {w : World} {K : PySem.W.Frag} {k : Nat} {mg : Str → Option Value} {fa c Pt : Addr} {h : Heap} (o : OwnCode K fa c Pt) (KX : K.In h) (own : OwnTab K fa h)
    (F : ∀ (fd : FuncData) (base : Heap), FunC K "law" "law" s_law fa c fd → K.In base → base.Ns mainGlobals mg → TabB base mg c Pt → FnOk l.prog w K mg base CX0 k fa fd ["script"] (spLaw K Pt)) : LawAtS l w K CX0 k 63 "script" mg fa h := by
  obtain ⟨fd, Fc, hb⟩ := o.fun
  obtain ⟨oc, od, an, od2, osl, sl, kV, dc, pm, ct, vs, file, tf, tg, tt, flags, text, inF, h1, h2, h3, h4, h5, h6, h7, h8, h9, h10⟩ := o.ex
  have g4 : vs.getD 11 .none = .ref Pt := by
    rw [Array.getD_eq_getD_getElem?, h4]
    rfl
  refine ⟨fd, [(c, Pt)], spLaw K Pt, fun p hp => ?_, fun p hp => ?_, fun p hp => ?_, hb, fun H a ns hl _ hT hS => ⟨a, ns, rfl, hS, hl, hT _ (List.mem_singleton.mpr rfl), fun _ => rfl⟩, fun base B N T => F fd base Fc B N (T _ (List.mem_singleton.mpr rfl))⟩
  · rw [List.mem_singleton.mp hp]
    exact own c Pt _ _ _ _ _ _ h1 rfl rfl h3 h4
  · rw [List.mem_singleton.mp hp]
    exact h10
  · rw [List.mem_singleton.mp hp]
    exact ⟨_, vs, file, tf, flags, tg, inF, text, tt, KX _ _ h3, rfl, rfl, h4, g4, h5, h6, h7, h8, h9⟩
theorem law_top {l : PySem.W.OpenLaw} {w : World} {K : PySem.W.Frag} {k : Nat} {mg : Str → Option Value} {fa f0 c Pt : Addr} {h : Heap} (hn : PySem.W.nsIn K mainGlobals "law" = some (some (.ref f0))) (o : OwnCode K f0 c Pt) (KX : K.In h) (G : h.Ns mainGlobals mg) (hmg : mg "law" = some (.ref fa)) (own : OwnTab K fa h)
    (F : ∀ (fd : FuncData) (base : Heap), FunC K "law" "law" s_law f0 c fd → K.In base → base.Ns mainGlobals mg → TabB base mg c Pt → FnOk l.prog w K mg base CX0 k f0 fd ["script"] (spLaw K Pt)) : LawAtS l w K CX0 k 63 "script" mg fa h := by
  have e := hmg.symm.trans (PySem.W.mg_of KX G hn)
  cases e
  exact law_at o KX own F
end KB
/-! k95: the law's own def within, called with the book. -/
namespace KB
open PySem PySem.Spec PyProof.Rows L2 FC FP LamX NdefX
open Evl (Ex)
section
variable {P : Program} {w : World} {K : PySem.W.Frag} {mg : Str → Option Value} {base : Heap} {k : Nat} {C : Addr} {T : List NTab} {Bk : BkT}
theorem act_ok (cls : Cls K C) (ok : BkOk C T Bk) (h : M0 P w K mg base k C "clauses" (spCls K Bk)) (f c' : Addr) : NOk P w K mg base CX0 (k + 1) f (mkAct c') ["same"] [] (fun _ => spCls K Bk) := by
  refine nok_of (N := ["same"]) (nscope_by (show nscB ["same"] ["same"] [] (C8.fnScope actSt) = true by decide +kernel)) (fun _ _ _ us hl => match us, hl with | [_], _ => rfl) (by rintro ws vs H Q E ⟨a, low, cs, H0, rfl, _⟩; rfl) (fun A outer s H vs ws Q E hr hf hc hw hs => ?_)
  obtain ⟨a, low, cs, H0, rfl, hcs, h0, h1, hb, q⟩ := hs
  obtain ⟨dx, fs, hi, hl⟩ := ok.ins hb
  cases ws with
  | cons _ _ => cases hw
  | nil =>
    refine ⟨_, pss_one (ps_ret (pe_m0w (pv 0) cls h hr (Nat.le_refl _))), ?_⟩
    exact ⟨_, rfl, a, dx, fs, rfl, hi, hl _ (by decide), a, low, cs, H0, rfl, hcs, h0, h1, hb, q⟩
theorem caps_nil {X : Cx} : Caps X [] [] [] := ⟨fun _ _ e => (nomatch e), fun _ h => (nomatch h), fun _ h => (nomatch h), rfl⟩
/-- action(self), the action in slot i -/
theorem pe_act {X : Cx} {j i : Nat} {x : Str} {e : Expr} {t : TA} {p pos : Pos} (fn : ∀ f c', NOk X.prog X.w X.K X.mg X.base CX0 k f (mkAct c') ["same"] [] (fun _ => spCls X.K Bk)) (hr : Room j X.A) (hk : k ≤ j) (hN : X.N[i]? = some x) (hv : Vis X.env.scope x) (ha : PA X [e] t)
    (hd : (x == ("__debug__" : Str)) = false := by decide) (hcd : (x == ("__classdict__" : Str)) = false := by decide)
    (he : starEach [e] X.env = (false, eval e X.env) :: starEach [] X.env := by rfl) (hpl : (backTo pos (starEach [] X.env)).any (·.1) = false := by rfl) :
    PE X (.Call (.Name x p) [e] [] pos) (tCallN mkAct i [] (fun _ _ _ => spCls X.K Bk) E0 t) :=
  pe_calln (sp := fun _ _ _ => spCls X.K Bk) fn (fun _ => rfl) (fun _ => caps_nil) hr hk pass0 hN hv ha hd hcd he hpl
end
end KB
/-! Data stays where only tables of code objects change. -/
namespace KB
open PySem PySem.Spec PyProof.Rows L2 FC FP LamX
open Evl (Ex)
theorem rd_N {H H' : Hp} {a : Addr} {u : HO} (e : ExtN H H') (hu : ∀ ps, u ≠ .tbl ps) (h : Rd H a u) : Rd H' a u := by
  rcases h with h | ⟨o, h⟩
  · exact .inl (e _ _ h hu)
  · exact .inr ⟨o, e _ _ h fun _ z => nomatch z⟩
theorem l_N {K : PySem.W.Frag} {H H' : Hp} {a : Addr} {xs : List V} (e : ExtN H H') (h : SqL K H a xs) : SqL K H' a xs := h.elim (fun z => .inl (rd_N e (fun _ z => nomatch z) z)) .inr
theorem t_N {K : PySem.W.Frag} {H H' : Hp} {a : Addr} {xs : List V} (e : ExtN H H') (h : SqT K H a xs) : SqT K H' a xs := h.elim (fun z => .inl (rd_N e (fun _ z => nomatch z) z)) .inr
mutual
theorem dp_N {K : PySem.W.Frag} {H H' : Hp} (e : ExtN H H') : ∀ (d : PyData) (v : V), Dp K H v d → Dp K H' v d
  | .none, _, h => by cases h; exact .non
  | .bool b, _, h => by cases h; exact .bl b
  | .int i, _, h => by cases h; exact .int i
  | .str s, _, h => by cases h; exact .str s
  | .list ds, _, h => by
    cases h with
    | lst hs ha => exact .lst (l_N e hs) (dps_N e ds _ ha)
  | .tuple ds, _, h => by
    cases h with
    | tup hs ha => exact .tup (t_N e hs) (dps_N e ds _ ha)
  | .dict _, _, h => by cases h
theorem dps_N {K : PySem.W.Frag} {H H' : Hp} (e : ExtN H H') : ∀ (ds : List PyData) (vs : List V), DpAll K H vs ds → DpAll K H' vs ds
  | [], _, h => by cases h; exact .nil
  | d :: ds, _, h => by
    cases h with
    | cons r t => exact .cons (dp_N e d _ r) (dps_N e ds _ t)
end
theorem kr_N {K : PySem.W.Frag} {H H' : Hp} (e : ExtN H H') : ∀ {ks : List (Key × V)} {kvs : List (Str × PyData)}, KR K H ks kvs → KR K H' ks kvs
  | _, _, .nil => .nil
  | _, _, .cons r t => .cons ⟨r.1, dp_N e _ _ r.2⟩ (kr_N e t)
theorem rt_N {K : PySem.W.Frag} {H H' : Hp} {v : V} {x : PyData} (e : ExtN H H') (h : Rt K H v x) : Rt K H' v x := by
  cases h with
  | d h => exact .d (dp_N e _ _ h)
  | dict e1 h nd => exact .dict (rd_N e (fun _ z => nomatch z) e1) (kr_N e h) nd
  | dictU e1 h nd => exact .dictU (e _ _ e1 fun _ z => nomatch z) (kr_N e h) nd
  | dictL e1 h nd => exact .dictL (e _ _ e1 fun _ z => nomatch z) (kr_N e h) nd
  | lstX e1 h => exact .lstX (e _ _ e1 fun _ z => nomatch z) (dps_N e _ _ h)
end KB
/-! How the book's methods bind the law's keywords. -/
namespace KB
open PySem PySem.Spec PyProof.Rows L2 FC FP
section
variable {K : PySem.W.Frag} {x qual : Str} {st : Stmt} {f : Addr} {fd : FuncData}
/-- .. of a def without defaults: h is told for each number of values by rfl -/
theorem kbn_of {n : Nat} {ps ks : List Str} {g : List Value → List Value → List Value} {gV : List V → List V → List V} (F : Fun K x qual st f fd)
    (h : ∀ (kV doc pm : Value) (an : Option Addr) (cdv ct : Value) (us ws : List Value), us.length = n → ws.length = ks.length → bindArgs (PySem.W.fnOf x qual (defArgs st) (defBody st) (defScope st) .none kV doc pm an cdv ct) ⟨us, ks.zip ws⟩ = pure (ps.zip (g us ws)))
    (rel : ∀ {vs : List V} {us : List Value} {zs : List V} {ws : List Value}, Vals vs us → Vals zs ws → Vals (gV vs zs) (g us ws)) : KBn K fd ps n ks g gV := by
  obtain ⟨oc, od, kV, doc, pm, an, cdv, ct, osl, rfl, lk, hcd⟩ := F.ex
  exact ⟨fun s us ws _ h1 h2 => .of_eq (h kV doc pm an cdv ct us ws h1 h2), rel⟩
theorem rel_app {vs : List V} {us : List Value} {zs : List V} {ws : List Value} (r : Vals vs us) (z : Vals zs ws) : Vals (gApp vs zs) (gApp us ws) := r.append z
theorem rel_put {vs : List V} {us : List Value} {zs : List V} {ws : List Value} (r : Vals vs us) (z : Vals zs ws) : Vals (gPut vs zs) (gPut us ws) := by
  cases r with
  | nil => exact z
  | cons r1 r =>
    cases r with
    | cons r2 r => exact (Vals.append (.cons r1 (.cons r2 r)) z)
    | nil =>
      cases z with
      | nil => exact .cons r1 .nil
      | cons z1 z =>
        cases z with
        | nil => exact .cons r1 (.cons z1 .nil)
        | cons z2 z =>
          cases z with
          | nil => exact .cons r1 (.cons z2 (.cons z1 .nil))
          | cons z3 z => exact .cons r1 (.cons z1 (.cons z2 (.cons z3 z)))
theorem rel_mk {vs : List V} {us : List Value} {zs : List V} {ws : List Value} (r : Vals vs us) (z : Vals zs ws) : Vals (gMk vs zs) (gMk us ws) := by
  cases r with
  | nil => exact z
  | cons r1 r =>
    cases r with
    | cons r2 r => exact (Vals.append (.cons r1 (.cons r2 r)) z)
    | nil =>
      cases z with
      | nil => exact .cons r1 .nil
      | cons z1 z =>
        cases z with
        | nil => exact .cons r1 (.cons z1 .nil)
        | cons z2 z =>
          cases z with
          | nil => exact .cons r1 (.cons z1 (.cons z2 .nil))
          | cons z3 z =>
            cases z with
            | nil => exact .cons r1 (.cons z3 (.cons z2 (.cons z1 .nil)))
            | cons z4 z => exact .cons r1 (.cons z1 (.cons z2 (.cons z3 (.cons z4 z))))
end
/-! tried on a stub's methods -/
section
variable {K : PySem.W.Frag} {f : Addr} {fd : FuncData}
end
end KB
/-! The landed book: what it is copied and checked by. -/
namespace KB
open PySem PySem.Spec PyProof.Rows L2 FC FP
open Evl (Ex)
abbrev s_is_count : Stmt := topS 11
abbrev s_copied : Stmt := topS 16
abbrev s_check_clause : Stmt := topS 46
abbrev s_check_position : Stmt := topS 49
def Rw_is_count : List PyData → PyData → Prop := fun ds o => ∃ i : Int, ds = [.int i] ∧ 0 ≤ i ∧ o = .bool true
def Rw_check_position : List PyData → PyData → Prop := fun ds o => ∃ n i : Int, ds = [.int n, .int i] ∧ 0 ≤ i ∧ i < n ∧ o = .none
def Rw_check_clause : List PyData → PyData → Prop := fun ds o => ∃ kvs k c lo hi, ds = [dictOf kvs, .str k, clauseD c] ∧ OkClause c ∧ look kvs k = some (numsD lo hi) ∧ o = .none
/-! ### the items of a dict; a dict that is told by its items -/
theorem dc_it {J : It} {n : Nat} {G : Hp → Prop} {Y : Nat → Hp → V → Hp → Prop} (w : Walk J n G Y) {g : TG} {tt : TT} {tk tv : TE} {vs : List Nat} {σ : L2.St} {H1 : Hp} {D : Addr} {Qd : Hp → Prop} (Pv : Nat → Hp → Prop) (h0 : Pv 0 (upd H1 D (.dK []))) (hG : ∀ i H, i ≤ n → Pv i H → G H)
    (hs : ∀ i x H H', i < n → Pv i H → Y i H x H' → g x (wipe σ vs) H' fun σ2 H2 => wipe σ2 vs = wipe σ vs ∧ tt σ2 H2 fun b H3 =>
      if b = true then tk σ2 H3 fun y H4 => tv σ2 H4 fun z H5 => ∃ kvs k, y = kV k ∧ H5 D = some (.dK kvs) ∧ kvs.length < sizeLine ∧ Pv (i + 1) (upd H5 D (.dK (putK kvs k z))) else Pv (i + 1) H3) (hd : ∀ H, Pv n H → Qd H) :
    ∃ W : Nat → Nat → Hp → Prop, (∃ m, W 0 m (upd H1 D (.dK []))) ∧ ∀ i m H, W i m H →
      (J.stop i H ∧ Qd H) ∨ (J.go i H ∧ ∃ Nx : Hp → Prop, (∀ H', Nx H' → ∃ m', m' < m ∧ W (i + 1) m' H') ∧ ∀ x H', J.yld i H x H' → g x (wipe σ vs) H' fun σ2 H2 => wipe σ2 vs = wipe σ vs ∧ tt σ2 H2 fun b H3 =>
        if b = true then tk σ2 H3 fun y H4 => tv σ2 H4 fun z H5 => ∃ kvs k, y = kV k ∧ H5 D = some (.dK kvs) ∧ kvs.length < sizeLine ∧ Nx (upd H5 D (.dK (putK kvs k z))) else Nx H3) := by
  refine ⟨fun i m H => m = n - i ∧ i ≤ n ∧ Pv i H, ⟨n, by simp, Nat.zero_le _, h0⟩, ?_⟩
  rintro i m H ⟨rfl, hi, p⟩
  have q := hG i H hi p
  by_cases hlt : i < n
  · refine .inr ⟨w.goes i H hlt q, Pv (i + 1), fun H' p' => ⟨n - (i + 1), by omega, rfl, hlt, p'⟩, fun x H' y => hs i x H H' hlt p (w.yields i H x H' hlt q y)⟩
  · have e : i = n := by omega
    subst e
    exact .inl ⟨w.stops H q, hd H p⟩
section
variable {K : PySem.W.Frag} {G : List (Option PyData)} {te td : TE} {kvs : List (Str × PyData)}
theorem di_items {a : Addr} {j k : Nat} (h : DE K td G (dictL a kvs)) : DI K (iItems td) (gTup K 2 (gCons (gName j) (gCons (gName k) gNil))) [j, k] G kvs.length (fun i G2 => (G2.set j (keyD kvs i)).set k (valD kvs i)) := fun σ B H x en R q =>
  h σ B H x en _ fun v B1 H1 g1 r1 => by
    obtain ⟨o, ks, rfl, e, kr, nd⟩ := rt_dictL r1
    refine ⟨a, o, ks, rfl, g1.sub _ _ e, ?_⟩
    have hl : ks.length = kvs.length := Paired.length kr
    refine q _ B1 H1 (YPair (fun i => ks[i]?.map fun kv => kV kv.1) (fun i => ks[i]?.map Prod.snd)) g1 ?_ fun i hi B2 H2 σ2 G2 y H3 e1 e2 en2 hy Q kk => ?_
    · rw [← hl]
      exact walk_items.mono (fun H2 ee => ee _ _ e) fun _ _ _ _ _ _ y => y
    · obtain ⟨t, y1, y2, rfl, ht, rfl, h1, h2⟩ := hy
      obtain ⟨⟨ky, v⟩, hk⟩ : ∃ p, ks[i]? = some p := ⟨_, List.getElem?_eq_getElem (by omega)⟩
      have h1 : ks[i]?.map (fun kv => kV kv.1) = some y1 := h1
      have h2 : ks[i]?.map Prod.snd = some y2 := h2
      rw [hk] at h1 h2
      obtain ⟨s, d, h3, rfl, h4⟩ := kr_get kr hk
      have z1 : y1 = .str s := (Option.some.inj h1).symm
      have z2 : y2 = v := (Option.some.inj h2).symm
      subst z1 z2
      have gn : Go B2 H2 B2 (upd H2 t (.tup [.str s, y2])) := Go.own e2 ht
      refine ⟨t, _, rfl, .inl (.inl upd_same), rfl, _, _, rfl, _, _, rfl, rfl, ?_⟩
      refine kk _ B2 _ gn ?_ fun vs hv => ?_
      · show En K _ _ ((G2.set j (keyD kvs i)).set k (valD kvs i))
        unfold keyD valD
        rw [h3]
        exact (en2.set j (.d (.str s))).set k (.d (dp_ex e1 _ _ h4))
      · rw [wipe_set (hv k (by simp)), wipe_set (hv j (by simp))]
theorem de_lockU {i : Nat} {t : TE} {kvs' : List (Str × PyData)} (hG : G[i]? = some (some (dictU kvs))) (h : ∀ a, DE K t (lockG G i a kvs) (dictU kvs')) : DE K (tLockE t) G (dictU kvs') := fun σ B H x en Q q => by
  obtain ⟨a, ks, hv, e, kr, nd, lk⟩ := go_lock x en hG
  refine ⟨a, .dK ks, x _ _ e, trivial, fun od => ?_⟩
  obtain ⟨x1, en1⟩ := lk od
  refine h a σ _ _ x1 en1 _ fun v B' H' g r => ⟨g.eh _ _ upd_same, ?_⟩
  obtain ⟨a', ks', rfl, e', kr', nd'⟩ := rt_dictU r
  have ea : B' a = some (.frz od (.dK ks)) := g.eb _ _ upd_same
  have ne : a' ≠ a := fun z => by
    rw [z, ea] at e'
    cases e'
  exact q _ _ _ (go_unlock x e g) (.dictU (by rw [upd_ne ne]; exact e') (kr_rd (fun b u hu hr => rd_unlock ea hu hr) kr') nd')
theorem putK_new {ks : List (Key × V)} {k : Key} {v : V} (h : ∀ p ∈ ks, p.1 ≠ k) : putK ks k v = ks ++ [(k, v)] := by
  unfold putK
  rw [if_neg]
  intro z
  obtain ⟨p, hp, e⟩ := List.any_eq_true.mp z
  exact h p hp (of_decide_eq_true e)
theorem kr_keys {B : Hp} {ks : List (Key × V)} {kvs : List (Str × PyData)} (h : KR K B ks kvs) {s : Str} (hn : ∀ q ∈ kvs, q.1 ≠ s) : ∀ p ∈ ks, p.1 ≠ (Sum.inr s : Key) := by
  induction h with
  | nil => intro p hp; cases hp
  | @cons p q l1 l2 r t ih =>
    intro p' hp'
    rcases List.mem_cons.mp hp' with rfl | hp'
    · rw [r.1]
      intro z
      exact hn q (List.mem_cons_self ..) (Sum.inr.inj z)
    · exact ih (fun q' hq' => hn q' (List.mem_cons_of_mem _ hq')) p' hp'
def itemsG (kd : Nat → Str) (d : Nat → PyData) (i : Nat) : List (Str × PyData) := (List.range i).map fun j => (kd j, d j)
theorem itemsG_succ {kd : Nat → Str} {d : Nat → PyData} {i : Nat} : itemsG kd d (i + 1) = itemsG kd d i ++ [(kd i, d i)] := by
  unfold itemsG
  rw [List.range_succ, List.map_append]
  rfl
theorem itemsG_len {kd : Nat → Str} {d : Nat → PyData} {i : Nat} : (itemsG kd d i).length = i := by simp [itemsG]
theorem itemsG_nd {kd : Nat → Str} {d : Nat → PyData} {n : Nat} (nd : ∀ i j, i < n → j < n → kd i = kd j → i = j) : ((itemsG kd d n).map (·.1)).Nodup := by
  unfold itemsG
  rw [List.map_map]
  rw [List.nodup_iff_pairwise_ne]
  rw [List.pairwise_map]
  refine List.Pairwise.imp_of_mem ?_ List.nodup_range
  intro a b ha hb hab e
  exact hab (nd a b (List.mem_range.mp ha) (List.mem_range.mp hb) e)
structure DcI (K : PySem.W.Frag) (B1 H1 : Hp) (D : Addr) (kvs : List (Str × PyData)) (B' H' : Hp) : Prop where
  go : Go B1 H1 B' H'
  nD : B' D = none
  acc : ∃ ks, H' D = some (.dK ks) ∧ KR K B' ks kvs
theorem DcI.step {B1 H1 B' H' B2 H2 : Hp} {D : Addr} {kvs : List (Str × PyData)} (p : DcI K B1 H1 D kvs B' H') (g : Go B' H' B2 H2) : DcI K B1 H1 D kvs B2 H2 := by
  obtain ⟨ks, h1, h2⟩ := p.acc
  exact ⟨p.go.trans g, g.fr D _ h1 p.nD, ks, g.eh D _ h1, kr_ex g.eb h2⟩
theorem DcI.app {B1 H1 B' H' : Hp} {D : Addr} {kvs : List (Str × PyData)} {y : V} {d : PyData} {s : Str} (p : DcI K B1 H1 D kvs B' H') (n1 : H1 D = none) (hl : kvs.length ≤ 2000) (hs : ∀ q ∈ kvs, q.1 ≠ s) (r : Dp K B' y d) :
    ∃ acc k, V.str s = kV k ∧ H' D = some (.dK acc) ∧ acc.length < sizeLine ∧ DcI K B1 H1 D (kvs ++ [(s, d)]) B' (upd H' D (.dK (putK acc k y))) := by
  obtain ⟨ks, h1, h2⟩ := p.acc
  have hlen : ks.length = kvs.length := Paired.length h2
  refine ⟨ks, Sum.inr s, rfl, h1, Nat.lt_of_le_of_lt (by rw [hlen]; exact hl) (by decide), ⟨⟨p.go.eb, Evl.Ex.mut p.go.eh n1, Evl.Ex.mut p.go.sub p.nD, p.go.fr⟩, p.nD, _, upd_same, ?_⟩⟩
  rw [putK_new (kr_keys h2 hs)]
  exact FK.paired_append h2 (.cons ⟨rfl, r⟩ .nil)
theorem de_dcU {wi : TI} {g : TG} {T : List Nat} {n : Nat} {ff : Nat → List (Option PyData) → List (Option PyData)} {vs : List Nat} {tk tv : TE} (kd : Nat → Str) (d : Nat → PyData) (hi : DI K wi g T G n ff) (hT : ∀ j ∈ T, j ∈ vs) (hk : ∀ i, i < n → DE K tk (ff i (wipeG G vs)) (.str (kd i))) (hv : ∀ i, i < n → DE K tv (ff i (wipeG G vs)) (d i))
    (hp : ∀ i, i < n → plain (d i) = true) (hn : n ≤ 2000) (nd : ∀ i j, i < n → j < n → kd i = kd j → i = j) : DE K (tDc wi g tYes tk tv vs) G (dictU (itemsG kd d n)) := fun σ B H x en Q q =>
  hi σ B H x en _ fun J B1 H1 Y g1 W turn => fun D hD => by
    refine dc_it W (fun i H' => ∃ B', DcI K B1 H1 D (itemsG kd d i) B' H') ⟨B1, Go.own g1.sub hD, sub_none g1.sub hD, [], upd_same, .nil⟩ (fun i H' _ ⟨B', p'⟩ => p'.go.eb.trans p'.go.sub) (fun i y H2 H3 hil ⟨B2, p2⟩ hy => ?_) (fun H2 ⟨B2, p2⟩ => ?_)
    · refine turn i hil B2 H2 (wipe σ vs) (wipeG G vs) y H3 p2.go.eb p2.go.sub ((en.ex (g1.eb.trans p2.go.eb)).wipe vs) hy _ fun σ' B3 H4 g3 en3 hw => ⟨?_, ?_⟩
      · exact (hw vs hT).trans (wipe_wipe fun _ h => h)
      · dsimp only [tYes]
        rw [if_pos rfl]
        have p3 := p2.step g3
        refine hk i hil σ' B3 H4 g3.sub en3 _ fun z1 B4 H5 g4 r4 => ?_
        have p4 := p3.step g4
        refine hv i hil σ' B4 H5 g4.sub (en3.ex g4.eb) _ fun z B5 H6 g5 r5 => ?_
        have p5 := p4.step g5
        cases rt_str r4
        obtain ⟨acc, k, h0, h1, h2, h3⟩ := p5.app (s := kd i) (d := d i) hD (by rw [itemsG_len]; omega) (fun q' hq' => by
          unfold itemsG at hq'
          obtain ⟨j, hj, rfl⟩ := List.mem_map.mp hq'
          have hj := List.mem_range.mp hj
          intro e
          have := nd j i (by omega) hil e
          omega) (r5.dp (hp i hil))
        refine ⟨acc, k, h0, h1, h2, B5, ?_⟩
        rw [itemsG_succ]
        exact h3
    · obtain ⟨ks, h1, h2⟩ := p2.acc
      have gg : Go B H (upd B2 D (.dK ks)) H2 := by
        have g2 := g1.trans p2.go
        refine ⟨g2.eb.trans (Evl.Ex.new p2.nD), g2.eh, fun a o e => ?_, fun a o e nb => ?_⟩
        · by_cases ha : a = D
          · subst ha
            rw [upd_same] at e
            rw [← e]
            exact h1
          · rw [upd_ne ha] at e
            exact g2.sub a o e
        · have ha : a ≠ D := by
            intro z
            subst z
            have := Evl.fresh_back g1.eh hD
            rw [this] at e
            cases e
          rw [upd_ne ha]
          exact g2.fr a o e nb
      exact q _ _ _ gg (.dictU upd_same (kr_ex (Evl.Ex.new p2.nD) h2) (itemsG_nd nd))
theorem itemsG_id : itemsG (keyS kvs) (fun i => (valD kvs i).getD .none) kvs.length = kvs := by
  refine List.ext_getElem? fun i => ?_
  unfold itemsG
  by_cases h : i < kvs.length
  · rw [List.getElem?_map, List.getElem?_range h]
    have e1 : keyS kvs i = (kvs[i]).1 := by
      unfold keyS
      rw [List.getD_eq_getElem?_getD, List.getElem?_eq_getElem h]
      rfl
    have e2 : (valD kvs i).getD .none = (kvs[i]).2 := by
      unfold valD
      rw [List.getElem?_eq_getElem h]
      rfl
    show some (keyS kvs i, (valD kvs i).getD .none) = _
    rw [e1, e2, List.getElem?_eq_getElem h]
  · rw [List.getElem?_eq_none (by simp; omega), List.getElem?_eq_none (by omega)]
end
/-! ### the checks -/
section
variable {P : Program} {w : World} {K : PySem.W.Frag} {mg : Str → Option Value} {base : Heap} {f : Addr} {fd : FuncData}
theorem sc_is_count : FnScope ["thing"] ["thing"] (defScope s_is_count) := ⟨rfl, rfl, rfl, by decide +kernel, rfl, by decide +kernel, by decide +kernel⟩
theorem ok_is_count (F : Fun K "is_count" "is_count" s_is_count f fd) (cw : CL P w K mg base 1 "is_whole" Rw_is_whole) : FnOk P w K mg base CX0 2 f fd ["thing"] (spR K Rw_is_count) := by
  refine F.ok sc_is_count (spR_len (by rintro _ _ ⟨_, rfl, _⟩; rfl)) (fun cdv A outer s H vs Q E hr h => ?_)
  obtain ⟨B, ds, o, x, r, ⟨i, rfl, hi, rfl⟩, q⟩ := h
  refine ⟨_, pss_one (ps_ret (pe_and (pe_cl cw hr (by decide) (by rfl) (pa_cons (pv 0) pa_nil)) (pe_one (pe_cmpR op_ge (pv 0) pe_int (nomark _))))), ?_⟩
  refine fin_rt ?_ x r q
  show DS K _ [some (.int i)] _
  exact ds_ret (de_is (de_and (de_call' (da_cons (de_var rfl) da_nil) ⟨.int i, rfl, rfl⟩) fun _ => de_op (de_var rfl) de_int rd_ge) (by rw [show isWhole (.int i) = true from rfl, decide_eq_true hi]; rfl))
theorem sc_check_position : FnScope ["many", "at"] ["many", "at"] (defScope s_check_position) := ⟨rfl, rfl, rfl, by decide +kernel, rfl, by decide +kernel, by decide +kernel⟩
theorem ok_check_position (F : Fun K "check_position" "check_position" s_check_position f fd) (cw : CL P w K mg base 2 "is_count" Rw_is_count) : FnOk P w K mg base CX0 3 f fd ["many", "at"] (spR K Rw_check_position) := by
  refine F.ok sc_check_position (spR_len (by rintro _ _ ⟨_, _, rfl, _⟩; rfl)) (fun cdv A outer s H vs Q E hr h => ?_)
  obtain ⟨B, ds, o, x, r, ⟨n, i, rfl, hi, hn, rfl⟩, q⟩ := h
  refine ⟨_, pss_one (ps_if (pw_or (pt_not (pt_val (pe_cl cw hr (by decide) (by rfl) (pa_cons (pv 1) pa_nil)))) (pw_or1 (pt_cmpR op_ge (pv 1) (pv 0) (nomark _)))).pt pss_never pss_nil), ?_⟩
  refine fin_nx (G' := [some (.int n), some (.int i)]) ?_ x r q
  show DS K _ [some (.int n), some (.int i)] _
  exact ds_if (b := false) (dt_is (dt_or (dt_not (dt_B (de_call' (da_cons (de_var rfl) da_nil) ⟨i, rfl, hi, rfl⟩))) fun _ => dt_test (de_op (de_var rfl) (de_var rfl) rd_ge)) (by rw [decide_eq_false (show ¬ n ≤ i by omega)]; rfl)) (fun z => nomatch z) fun _ => ds_next
theorem sc_check_clause : FnScope ["kinds", "kind", "clause"] ["kinds", "kind", "clause"] (defScope s_check_clause) := ⟨rfl, rfl, rfl, by decide +kernel, rfl, by decide +kernel, by decide +kernel⟩
theorem ok_check_clause (F : Fun K "check_clause" "check_clause" s_check_clause f fd) (c1 : CL P w K mg base 7 "is_clause" Rw_is_clause) : FnOk P w K mg base CX0 8 f fd ["kinds", "kind", "clause"] (spR K Rw_check_clause) := by
  refine F.ok sc_check_clause (spR_len (by rintro _ _ ⟨_, _, _, _, _, rfl, _⟩; rfl)) (fun cdv A outer s H vs Q E hr h => ?_)
  obtain ⟨B, ds, o, x, r, ⟨kvs, k, c, lo, hi, rfl, hp, hk, rfl⟩, q⟩ := h
  refine ⟨_, pss_one (ps_if (pt_not (pt_val (pe_cl c1 hr (by decide) (by rfl) (pa_cons (pv 0) (pa_cons (pv 1) (pa_cons (pv 2) pa_nil)))))) pss_never pss_nil), ?_⟩
  refine fin_nx (G' := [some (dictOf kvs), some (.str k), some (clauseD c)]) ?_ x r q
  show DS K _ [some (dictOf kvs), some (.str k), some (clauseD c)] _
  exact ds_if (b := false) (dt_is (dt_not (dt_B (de_call' (da_cons (de_var rfl) (da_cons (de_var rfl) (da_cons (de_var rfl) da_nil))) ⟨kvs, k, c, lo, hi, rfl, hp, hk, rfl⟩))) rfl) (fun z => nomatch z) fun _ => ds_next
end
end KB
/-! The landed book: copies. -/
namespace KB
open PySem PySem.Spec PyProof.Rows L2 FC FP
open Evl (Ex)
/-- data of lists and tuples, at most n deep -/
inductive Cp : Nat → PyData → Prop where
  | leaf {n d} (h1 : kitB (tyN d) "list" = some false) (h2 : kitB (tyN d) "tuple" = some false) (h3 : kitB (tyN d) "dict" = some false) (hp : plain d = true) : Cp n d
  | lst {n ds} (h : ∀ d ∈ ds, Cp n d) (hl : ds.length ≤ 900) (hp : ds.all plain = true) : Cp (n + 1) (.list ds)
  | tup {n ds} (h : ∀ d ∈ ds, Cp n d) (hl : ds.length ≤ 900) (hp : ds.all plain = true) : Cp (n + 1) (.tuple ds)
def Rw_copied (n : Nat) : List PyData → PyData → Prop := fun ds o => ∃ d, ds = [d] ∧ Cp n d ∧ o = d
def Rw_copiedD (n : Nat) : List PyData → PyData → Prop := fun ds o => ∃ kvs, ds = [dictU kvs] ∧ (∀ q ∈ kvs, Cp n q.2 ∧ plain q.2 = true) ∧ kvs.length ≤ 900 ∧ (kvs.map (·.1)).Nodup ∧ o = dictU kvs
def rTup (K : PySem.W.Frag) : List V → Hp → VK → Prop := fun xs H Q => ∃ p ys, xs = [.ref p] ∧ ((SqL K H p ys ∧ ∀ l, H l = none → Q (.ref l) (upd H l (.tup ys))) ∨ (SqT K H p ys ∧ Q (.ref p) H))
theorem cd_tup {K : PySem.W.Frag} {ds : List PyData} : CD K (rTup K) [.list ds] (.tuple ds) := fun B H vs x r Q q => by
  cases r with
  | cons r1 r2 =>
    cases r2
    have r1 := r1.dp rfl
    cases r1 with
    | @lst a us _ hs ha => exact ⟨_, _, rfl, .inl ⟨ex_l x hs, fun l nl => q _ (upd B l (.tup us)) _ (Go.new x nl) (.d (.tup (SqT.of upd_same) (dps_ex (Evl.Ex.new (sub_none x nl)) _ _ ha)))⟩⟩
theorem madeG_id (ds : List PyData) : madeG (fun _ => true) (fun i => ds.getD i .none) ds.length = ds := (madeG_map ds id).trans (List.map_id _)
section
variable {P : Program} {w : World} {K : PySem.W.Frag} {mg : Str → Option Value} {base : Heap} {f : Addr} {fd : FuncData}
theorem sc_copied : FnScope ["thing", "inner", "key"] ["thing"] (defScope s_copied) := ⟨rfl, rfl, rfl, by decide +kernel, rfl, by decide +kernel, by decide +kernel⟩
theorem ok_copied (F : Fun K "copied" "copied" s_copied f fd) (M : Bl mg) (hm : mg "copied" = some (.ref f)) : ∀ n, FnOk P w K mg base CX0 (n + 2) f fd ["thing"] (spR K (Rw_copied n)) := by
  have main : ∀ (n : Nat) (R : List PyData → PyData → Prop) (k : Nat), CL P w K mg base k "copied" R → (∀ d, Cp n d → (∃ m, n = m + 1 ∧ ∀ e, Cp m e → R [e] e) ∨ (kitB (tyN d) "list" = some false ∧ kitB (tyN d) "tuple" = some false ∧ kitB (tyN d) "dict" = some false)) → FnOk P w K mg base CX0 (k + 1) f fd ["thing"] (spR K (Rw_copied n)) := by
    intro n R k cl hR
    refine F.ok sc_copied (spR_len (by rintro _ _ ⟨_, rfl, _⟩; rfl)) (fun cdv A outer s H vs Q E hr h => ?_)
    obtain ⟨B, ds, o, x, r, ⟨d, rfl, hc, rfl⟩, q⟩ := h
    have nd := sc_copied.nd
    refine ⟨_, pss_cons (ps_if (pt_val (k_isi (pv 0) (by rfl) M.isi (by rfl) M.list PyProof.Rows.boot_list (by decide) (by decide))) (pss_one (ps_ret (pe_lc (own := [("inner", 1)]) (g := gName 1) (tt := tYes) rfl nd (pi_list (pv 0)) (blkOk_by (N := ["thing", "inner", "key"]) (sc := defScope s_copied) (by decide +kernel)) (fun _ _ _ _ _ => pg_name (i := 1) nd rfl (Or.inl rfl)) (fun _ _ _ _ _ => pts_nil)
      (fun _ _ _ _ _ => pe_cl cl hr (Nat.le_refl _) (by rfl) (pa_cons (pv 1) pa_nil))))) pss_nil)
      (pss_cons (ps_if (pt_val (k_isi (pv 0) (by rfl) M.isi (by rfl) M.tuple PyProof.Rows.boot_tuple (by decide) (by decide))) (pss_one (ps_ret (pe_callTy (r := rTup K) call_tuple_of (by rfl) M.tuple PyProof.Rows.boot_tuple (pa_cons (pe_lc (own := [("inner", 1)]) (g := gName 1) (tt := tYes) rfl nd (pi_tup (pv 0)) (blkOk_by (N := ["thing", "inner", "key"]) (sc := defScope s_copied) (by decide +kernel)) (fun _ _ _ _ _ => pg_name (i := 1) nd rfl (Or.inl rfl)) (fun _ _ _ _ _ => pts_nil)
      (fun _ _ _ _ _ => pe_cl cl hr (Nat.le_refl _) (by rfl) (pa_cons (pv 1) pa_nil))) pa_nil)))) pss_nil)
      (pss_cons (ps_if (pt_val (k_isi (pv 0) (by rfl) M.isi (by rfl) M.dict PyProof.Rows.boot_dict (by decide) (by decide))) pss_never pss_nil)
      (pss_one (ps_ret (pv 0))))), ?_⟩
    refine fin_rt ?_ x r q
    show DS K _ [some o, none, none] _
    rcases hR o hc with ⟨m, rfl, hm⟩ | ⟨h1, h2, h3⟩
    · cases hc with
      | leaf h1 h2 h3 hp => exact ds_guard (b := false) (dt_B (de_isi (de_var rfl) h1)) (fun z => nomatch z) fun _ => ds_guard (b := false) (dt_B (de_isi (de_var rfl) h2)) (fun z => nomatch z) fun _ => ds_guard (b := false) (dt_B (de_isi (de_var rfl) h3)) (fun z => nomatch z) fun _ => ds_ret (de_var rfl)
      | @lst _ ds h hl hp =>
        refine ds_guard (b := true) (dt_B (de_ty (de_var rfl) rfl kll)) (fun _ => ds_ret (de_is (de_lc (fun _ => true) (fun i => ds.getD i .none) (di_list (de_var rfl)) (by decide) (fun _ _ => dt_yes) (fun i hi _ => ?_) (fun i hi _ => ?_) (by omega)) (congrArg PyData.list (madeG_id ds)))) (fun z => nomatch z)
        · show DE K _ [some (.list ds), ds[i]?, none] _
          have e : ds[i]? = some (ds.getD i .none) := by rw [List.getElem?_eq_getElem hi, List.getD_eq_getElem?_getD, List.getElem?_eq_getElem hi]; rfl
          rw [e]
          exact de_call' (da_cons (de_var rfl) da_nil) (hm _ (h _ (by rw [List.getD_eq_getElem?_getD, List.getElem?_eq_getElem hi]; exact List.getElem_mem _)))
        · exact List.all_eq_true.mp hp _ (by rw [List.getD_eq_getElem?_getD, List.getElem?_eq_getElem hi]; exact List.getElem_mem _)
      | @tup _ ds h hl hp =>
        refine ds_guard (b := false) (dt_B (de_ty (m := "tuple") (de_var rfl) rfl (by decide +kernel))) (fun z => nomatch z) fun _ => ds_guard (b := true) (dt_B (de_ty (de_var rfl) rfl ktt)) (fun _ => ds_ret (de_cb (da_cons (de_is (de_lc (fun _ => true) (fun i => ds.getD i .none) (di_tup (de_var rfl)) (by decide) (fun _ _ => dt_yes) (fun i hi _ => ?_) (fun i hi _ => ?_) (by omega)) (congrArg PyData.list (madeG_id ds))) da_nil) cd_tup)) (fun z => nomatch z)
        · show DE K _ [some (.tuple ds), ds[i]?, none] _
          have e : ds[i]? = some (ds.getD i .none) := by rw [List.getElem?_eq_getElem hi, List.getD_eq_getElem?_getD, List.getElem?_eq_getElem hi]; rfl
          rw [e]
          exact de_call' (da_cons (de_var rfl) da_nil) (hm _ (h _ (by rw [List.getD_eq_getElem?_getD, List.getElem?_eq_getElem hi]; exact List.getElem_mem _)))
        · exact List.all_eq_true.mp hp _ (by rw [List.getD_eq_getElem?_getD, List.getElem?_eq_getElem hi]; exact List.getElem_mem _)
    · exact ds_guard (b := false) (dt_B (de_isi (de_var rfl) h1)) (fun z => nomatch z) fun _ => ds_guard (b := false) (dt_B (de_isi (de_var rfl) h2)) (fun z => nomatch z) fun _ => ds_guard (b := false) (dt_B (de_isi (de_var rfl) h3)) (fun z => nomatch z) fun _ => ds_ret (de_var rfl)
  have bb : Binds K fd ["thing"] [] := F.binds (ps := ["thing"]) fun _ _ _ _ _ _ us hl => match us, hl with | [_], _ => rfl
  intro n
  induction n with
  | zero =>
    have c0 : FnOk P w K mg base CX0 1 f fd ["thing"] (spR K fun _ _ => False) := ⟨fun vs H Q E h => by obtain ⟨_, _, _, _, _, z, _⟩ := h; exact z.elim, fun A outer s H args us vs Q E hr e0 hb r h => by obtain ⟨_, _, _, _, _, z, _⟩ := h; exact z.elim⟩
    exact main 0 (fun _ _ => False) 1 ⟨f, fd, _, c0, hm, F.kp, bb⟩ fun d hc => .inr (by cases hc with | leaf h1 h2 h3 hp => exact ⟨h1, h2, h3⟩)
  | succ n ih => exact main (n + 1) (Rw_copied n) (n + 2) ⟨f, fd, _, ih, hm, F.kp, bb⟩ fun d hc => .inl ⟨n, rfl, fun e he => ⟨e, rfl, he, rfl⟩⟩
theorem kdl : kitB "dict" "list" = some false := by decide +kernel
theorem kdt : kitB "dict" "tuple" = some false := by decide +kernel
theorem ok_copiedD {n : Nat} (F : Fun K "copied" "copied" s_copied f fd) (M : Bl mg) (cl : CL P w K mg base (n + 2) "copied" (Rw_copied n)) : FnOk P w K mg base CX0 (n + 3) f fd ["thing"] (spR K (Rw_copiedD n)) := by
  refine F.ok sc_copied (spR_len (by rintro _ _ ⟨_, rfl, _⟩; rfl)) (fun cdv A outer s H vs Q E hr h => ?_)
  obtain ⟨B, ds, o, x, r, ⟨kvs, rfl, hc, hl, hnd, rfl⟩, q⟩ := h
  have nd := sc_copied.nd
  refine ⟨_, pss_cons (ps_if (pt_val (k_isi (pv 0) (by rfl) M.isi (by rfl) M.list PyProof.Rows.boot_list (by decide) (by decide))) pss_never pss_nil)
    (pss_cons (ps_if (pt_val (k_isi (pv 0) (by rfl) M.isi (by rfl) M.tuple PyProof.Rows.boot_tuple (by decide) (by decide))) pss_never pss_nil)
    (pss_cons (ps_if (pt_val (k_isi (pv 0) (by rfl) M.isi (by rfl) M.dict PyProof.Rows.boot_dict (by decide) (by decide))) (pss_one (ps_ret (pe_lock
        (pe_dc (own := [("key", 2), ("inner", 1)]) (g := gTup K 2 (gCons (gName 2) (gCons (gName 1) gNil))) (tt := tYes) (tk := tVar 2) (tv := tCall (spR K (Rw_copied n)) [] E0 (tCons (tVar 1) tNil)) rfl nd (pi_items (pv 0)) (blkOk_by (N := ["thing", "inner", "key"]) (sc := defScope s_copied) (by decide +kernel))
          (fun _ _ _ _ _ => pg_tup rfl (pgs_cons (pg_name (i := 2) nd rfl (Or.inl rfl)) (pgs_cons (pg_name (i := 1) nd rfl (Or.inl rfl)) pgs_nil))) (fun _ _ _ _ _ => pts_nil) (fun _ _ _ _ _ => pv 2) (fun _ _ _ _ _ => pe_cl cl hr (Nat.le_refl _) (by rfl) (pa_cons (pv 1) pa_nil)))))) pss_nil)
    pss_never)), ?_⟩
  refine fin_rt ?_ x r q
  show DS K _ [some (dictU kvs), none, none] _
  refine ds_guard (b := false) (dt_B (de_ty (de_var rfl) rfl kdl)) (fun z => nomatch z) fun _ => ds_guard (b := false) (dt_B (de_ty (de_var rfl) rfl kdt)) (fun z => nomatch z) fun _ => ds_guard (b := true) (dt_B (de_ty (de_var rfl) rfl kdd)) (fun _ => ds_ret ?_) (fun z => nomatch z)
  refine de_lockU (i := 0) (kvs := kvs) rfl fun a => ?_
  show DE K _ [some (dictL a kvs), none, none] _
  have hv : ∀ {i}, i < kvs.length → valD kvs i = some ((valD kvs i).getD .none) := fun {i} hi => by
    unfold valD
    rw [List.getElem?_eq_getElem hi]
    rfl
  have hm : ∀ {i} (hi : i < kvs.length), (valD kvs i).getD .none = (kvs[i]).2 := fun {i} hi => by
    unfold valD
    rw [List.getElem?_eq_getElem hi]
    rfl
  refine de_is (de_dcU (keyS kvs) (fun i => (valD kvs i).getD .none) (di_items (a := a) (de_var rfl)) (by decide) (fun i hi => ?_) (fun i hi => ?_) (fun i hi => ?_) (by omega) (fun i j hi hj e => ?_)) (congrArg dictU itemsG_id)
  · show DE K _ [some (dictL a kvs), valD kvs i, keyD kvs i] _
    rw [keyD_at hi]
    exact de_var rfl
  · show DE K _ [some (dictL a kvs), valD kvs i, keyD kvs i] _
    rw [hv hi]
    exact de_call' (da_cons (de_var rfl) da_nil) ⟨_, rfl, by rw [hm hi]; exact (hc _ (List.getElem_mem hi)).1, rfl⟩
  · show plain ((valD kvs i).getD .none) = true
    rw [hm hi]
    exact (hc _ (List.getElem_mem hi)).2
  · have e1 : (kvs.map (·.1))[i]'(by rw [List.length_map]; exact hi) = (kvs.map (·.1))[j]'(by rw [List.length_map]; exact hj) := by
      unfold keyS at e
      rw [List.getD_eq_getElem?_getD, List.getElem?_eq_getElem hi, List.getD_eq_getElem?_getD, List.getElem?_eq_getElem hj] at e
      rw [List.getElem_map, List.getElem_map]
      exact e
    exact (List.getElem_inj hnd).mp e1
end
end KB
/-! The landed book: what it is made of, its methods. -/
namespace KB
open PySem PySem.Spec PyProof.Rows L2 FC FP LamX NdefX
open Evl (Ex)
abbrev s_binit : Stmt := inClass (topS 51) 0
abbrev s_bclauses : Stmt := inClass (topS 51) 1
abbrev s_blen : Stmt := inClass (topS 51) 2
abbrev s_blabel : Stmt := inClass (topS 51) 3
abbrev s_bput : Stmt := inClass (topS 51) 5
abbrev s_bdrop : Stmt := inClass (topS 51) 6
abbrev s_bchange : Stmt := inClass (topS 51) 7
abbrev s_btrial : Stmt := inClass (topS 51) 9
abbrev s_battempt : Stmt := inClass (topS 51) 10
abbrev s_tinit : Stmt := inClass (topS 52) 0
abbrev s_tenter : Stmt := inClass (topS 52) 1
abbrev s_texit : Stmt := inClass (topS 52) 2
theorem lk_hd {f : Str} {v : V} {r : List (Str × V)} : List.lookup f ((f, v) :: r) = some v := by simp
theorem lk_tl {f g : Str} {v : V} {r : List (Str × V)} (h : (f == g) = false) : List.lookup f ((g, v) :: r) = List.lookup f r := by
  rw [List.lookup_cons, h]
/-- a class Book, a class Trial -/
structure KBk (K : PySem.W.Frag) (C : Addr) : Prop where
  cl : Cls K C
  nK : NoAttr K C "kinds"
  nD : NoAttr K C "kind"
  nL : NoAttr K C "listed"
  nP : NoAttr K C "past"
structure KTr (K : PySem.W.Frag) (C : Addr) : Prop where
  cl : Cls K C
  nB : NoAttr K C "book"
  nL : NoAttr K C "listed"
  nP : NoAttr K C "past"
def bkF (vk vl : V) (p : Addr) : List (Str × V) := [("kinds", vk), ("kind", .str "n"), ("listed", vl), ("past", .ref p)]
def trF (b vl vp : V) : List (Str × V) := [("book", b), ("listed", vl), ("past", vp)]
section
variable {vk vl b vp : V} {p : Addr}
theorem bkF_kinds : (bkF vk vl p).lookup ("kinds" : Str) = some vk := lk_hd
theorem bkF_kind : (bkF vk vl p).lookup ("kind" : Str) = some (.str "n") := (lk_tl (by decide +kernel)).trans lk_hd
theorem bkF_listed : (bkF vk vl p).lookup ("listed" : Str) = some vl := (lk_tl (by decide +kernel)).trans ((lk_tl (by decide +kernel)).trans lk_hd)
theorem bkF_past : (bkF vk vl p).lookup ("past" : Str) = some (.ref p) := (lk_tl (by decide +kernel)).trans ((lk_tl (by decide +kernel)).trans ((lk_tl (by decide +kernel)).trans lk_hd))
theorem bkF_no {m : Str} (h1 : (m == ("kinds" : Str)) = false) (h2 : (m == ("kind" : Str)) = false) (h3 : (m == ("listed" : Str)) = false) (h4 : (m == ("past" : Str)) = false) : (bkF vk vl p).lookup m = none := by
  unfold bkF
  rw [lk_tl h1, lk_tl h2, lk_tl h3, lk_tl h4]
  rfl
theorem trF_book : (trF b vl vp).lookup ("book" : Str) = some b := lk_hd
theorem trF_listed : (trF b vl vp).lookup ("listed" : Str) = some vl := (lk_tl (by decide +kernel)).trans lk_hd
theorem trF_past : (trF b vl vp).lookup ("past" : Str) = some vp := (lk_tl (by decide +kernel)).trans ((lk_tl (by decide +kernel)).trans lk_hd)
theorem bkF_setL {w : V} : putF "listed" w (bkF vk vl p) = bkF vk w p := by
  unfold bkF
  rw [putF, if_neg (by decide +kernel), putF, if_neg (by decide +kernel), putF, if_pos rfl]
theorem bkF_setP {w : Addr} : putF "past" (.ref w) (bkF vk vl p) = bkF vk vl w := by
  unfold bkF
  rw [putF, if_neg (by decide +kernel), putF, if_neg (by decide +kernel), putF, if_neg (by decide +kernel), putF, if_pos rfl]
theorem trF_setL {w : V} : putF "listed" w (trF b vl vp) = trF b w vp := by
  unfold trF
  rw [putF, if_neg (by decide +kernel), putF, if_pos rfl]
theorem trF_setP {w : V} : putF "past" w (trF b vl vp) = trF b vl w := by
  unfold trF
  rw [putF, if_neg (by decide +kernel), putF, if_neg (by decide +kernel), putF, if_pos rfl]
theorem bk_put1 : putF "kinds" vk ([] : List (Str × V)) = ([("kinds", vk)] : List (Str × V)) := rfl
theorem bk_put2 {d : V} : putF "kind" d ([("kinds", vk)] : List (Str × V)) = ([("kinds", vk), ("kind", d)] : List (Str × V)) := by
  rw [putF, if_neg (by decide +kernel), putF]
theorem bk_put3 {d : V} : putF "listed" vl ([("kinds", vk), ("kind", d)] : List (Str × V)) = ([("kinds", vk), ("kind", d), ("listed", vl)] : List (Str × V)) := by
  rw [putF, if_neg (by decide +kernel), putF, if_neg (by decide +kernel), putF]
theorem bk_put4 : putF "past" (.ref p) ([("kinds", vk), ("kind", V.str "n"), ("listed", vl)] : List (Str × V)) = bkF vk vl p := by
  rw [putF, if_neg (by decide +kernel), putF, if_neg (by decide +kernel), putF, if_neg (by decide +kernel), putF]
  rfl
theorem tr_put1 : putF "book" b ([] : List (Str × V)) = ([("book", b)] : List (Str × V)) := rfl
theorem tr_put2 : putF "listed" vl ([("book", b)] : List (Str × V)) = ([("book", b), ("listed", vl)] : List (Str × V)) := by
  rw [putF, if_neg (by decide +kernel), putF]
theorem tr_put3 : putF "past" vp ([("book", b), ("listed", vl)] : List (Str × V)) = trF b vl vp := by
  rw [putF, if_neg (by decide +kernel), putF, if_neg (by decide +kernel), putF]
  rfl
end
/-- how many changes a book of the law has gone through -/
def pm : List (PyData × Str) → Nat
  | [c] => if c.2 = "yes" then 0 else 2
  | _ => 1
theorem pm_le (cs : List (PyData × Str)) : pm cs ≤ 2 := by
  unfold pm
  split
  · split <;> decide
  · decide
/-- a heap without its tables -/
def noT (B : Hp) : Hp := fun b => match B b with
  | some (.tbl _) => none
  | x => x
theorem noT_at {B : Hp} {b : Addr} {o : HO} (h : noT B b = some o) : B b = some o ∧ ∀ ps, o ≠ .tbl ps := by
  unfold noT at h
  split at h
  · cases h
  · rename_i x hx
    exact ⟨h, fun ps e => by
      subst e
      exact hx _ h⟩
theorem noT_N (B : Hp) : ExtN B (noT B) := fun b o h ht => by
  unfold noT
  rw [h]
  cases o with
  | tbl ps => exact (ht ps rfl).elim
  | _ => rfl
theorem noT_none {B : Hp} {b : Addr} (h : B b = none) : noT B b = none := by
  unfold noT
  rw [h]
theorem noT_ex {B H : Hp} (h : ExtN B H) : Ex (noT B) H := fun b o e => by
  obtain ⟨h1, h2⟩ := noT_at e
  exact h _ _ h1 h2
/-- nothing of H0 at p, but it be a table -/
def Fr (H0 : Hp) (p : Addr) : Prop := ∀ o, H0 p = some o → ∃ ps, o = .tbl ps
theorem Fr.of {H0 : Hp} {p : Addr} (h : H0 p = none) : Fr H0 p := fun o e => by
  rw [h] at e
  cases e
theorem Fr.new {H0 H : Hp} {p : Addr} (e : ExtN H0 H) (h : H p = none) : Fr H0 p := fun o ho => by
  apply Classical.byContradiction
  intro z
  have := e _ _ ho fun ps y => z ⟨ps, y⟩
  rw [h] at this
  cases this
theorem extN_fr2 {H0 H H' : Hp} {a p : Addr} (h : ExtN H0 H) (fa : Fr H0 a) (fp : Fr H0 p) (fr : ∀ b o, b ≠ a → b ≠ p → H b = some o → H' b = some o) : ExtN H0 H' := fun b o hb ht => by
  refine fr b o (fun e => ?_) (fun e => ?_) (h b o hb ht)
  · subst e
    obtain ⟨ps, y⟩ := fa o hb
    exact ht ps y
  · subst e
    obtain ⟨ps, y⟩ := fp o hb
    exact ht ps y
theorem tabs_fr2 {T : List NTab} {H H' : Hp} {a p C dx : Addr} {fs : List (Str × V)} {us : List V} (h : TabsN T H) (ha : H a = some (.ins C dx fs)) (hp : H p = some (.lst us)) (fr : ∀ b o, b ≠ a → b ≠ p → H b = some o → H' b = some o) : TabsN T H' := fun q hq => by
  obtain ⟨ps, h1, h2, h3⟩ := h q hq
  refine ⟨ps, fr _ _ (fun z => ?_) (fun z => ?_) h1, h2, fun pos cv hc => ?_⟩
  · rw [z, ha] at h1
    cases h1
  · rw [z, hp] at h1
    cases h1
  · obtain ⟨c, e1, e2⟩ := h3 pos cv hc
    refine ⟨c, e1, fr _ _ (fun z => ?_) (fun z => ?_) e2⟩
    · rw [z, ha] at e2
      have y : HO.ins C dx fs = CodeO _ _ := Option.some.inj e2
      unfold CodeO at y
      cases y
    · rw [z, hp] at e2
      have y : HO.lst us = CodeO _ _ := Option.some.inj e2
      unfold CodeO at y
      cases y
/-- the heap that the book's data stand in -/
structure BkD (K : PySem.W.Frag) (C : Addr) (cs : List (PyData × Str)) (H0 H : Hp) (a : Addr) (dx : Addr) (vk vl : V) (p : Addr) (us : List V) (B : Hp) : Prop where
  ob : H a = some (.ins C dx (bkF vk vl p))
  sub : Ex B H
  rk : Rt K B vk (dictU kindN)
  rl : Rt K B vl (.list (cs.map clauseD))
  past : H p = some (.lst us)
  few : us.length ≤ pm cs
  na : B a = none
  np : B p = none
  oa : Fr H0 a
  op : Fr H0 p
structure BkS (K : PySem.W.Frag) (C : Addr) (T : List NTab) (H0 H : Hp) (a : Addr) (cs : List (PyData × Str)) : Prop where
  ex : ∃ dx vk vl p us B, BkD K C cs H0 H a dx vk vl p us B
  old : ExtN H0 H
  tab : TabsN T H
theorem ins_ne_lst {H : Hp} {a p C dx : Addr} {fs : List (Str × V)} {us : List V} (h1 : H a = some (.ins C dx fs)) (h2 : H p = some (.lst us)) : a ≠ p := fun e => by
  rw [e, h2] at h1
  cases h1
section
variable {P : Program} {w : World} {K : PySem.W.Frag} {mg : Str → Option Value} {base : Heap} {C CT : Addr} {T : List NTab} {H0 H H' B B' : Hp} {a dx p : Addr} {vk vl : V} {us : List V} {cs : List (PyData × Str)}
theorem BkD.ne (d : BkD K C cs H0 H a dx vk vl p us B) : a ≠ p := ins_ne_lst d.ob d.past
theorem BkD.ext (d : BkD K C cs H0 H a dx vk vl p us B) (e : ExtN H H') : BkD K C cs H0 H' a dx vk vl p us (noT B) :=
  ⟨e _ _ d.ob (fun _ z => (nomatch z)), noT_ex (fun b o h ht => e _ _ (d.sub _ _ h) ht), rt_N (noT_N B) d.rk, rt_N (noT_N B) d.rl, e _ _ d.past (fun _ z => (nomatch z)), d.few, noT_none d.na, noT_none d.np, d.oa, d.op⟩
theorem BkD.go (d : BkD K C cs H0 H a dx vk vl p us B) (g : Go B H B' H') : BkD K C cs H0 H' a dx vk vl p us B' :=
  ⟨g.eh _ _ d.ob, g.sub, d.rk.ex g.eb, d.rl.ex g.eb, g.eh _ _ d.past, d.few, g.fr _ _ d.ob d.na, g.fr _ _ d.past d.np, d.oa, d.op⟩
theorem bkS_ok : BkOk C T (BkS K C T) where
  ins := fun h => by
    obtain ⟨dx, vk, vl, p, us, B, d⟩ := h.ex
    refine ⟨dx, _, d.ob, fun m hm => ?_⟩
    have key : ∀ m ∈ methods, ((m == ("kinds" : Str)) = false ∧ (m == ("kind" : Str)) = false) ∧ ((m == ("listed" : Str)) = false ∧ (m == ("past" : Str)) = false) := by decide +kernel
    obtain ⟨⟨h1, h2⟩, h3, h4⟩ := key m hm
    exact bkF_no h1 h2 h3 h4
  old := fun h => h.old
  tab := fun h => h.tab
  ext := fun h e t => by
    obtain ⟨dx, vk, vl, p, us, B, d⟩ := h.ex
    exact ⟨⟨dx, vk, vl, p, us, noT B, d.ext e⟩, fun b o hb ht => e _ _ (h.old _ _ hb ht) ht, t⟩
end
end KB
/-! The landed book: its methods. -/
namespace KB
open PySem PySem.Spec PyProof.Rows L2 FC FP LamX NdefX
open Evl (Ex)
section
variable {P : Program} {w : World} {K : PySem.W.Frag} {mg : Str → Option Value} {base : Heap} {f : Addr} {fd : FuncData} {C CT : Addr} {T : List NTab}
def spChange (C : Addr) : Sp := fun vs H Q _ => ∃ (a dx p : Addr) (vk vl y : V) (us : List V), vs = [.ref a, y] ∧ H a = some (.ins C dx (bkF vk vl p)) ∧ H p = some (.lst us) ∧ us.length ≤ 100 ∧
  ∀ H', H' a = some (.ins C dx (bkF vk y p)) → H' p = some (.lst (us ++ [vl])) → (∀ b o, b ≠ a → b ≠ p → H b = some o → H' b = some o) → Q .non H'
theorem sc_bchange : FnScope ["self", "listed"] ["self", "listed"] (defScope s_bchange) := ⟨rfl, rfl, rfl, by decide +kernel, rfl, by decide +kernel, by decide +kernel⟩
theorem ok_bchange (F : Fun K "change" "Book.change" s_bchange f fd) (TB : KBk K C) : FnOk P w K mg base CX0 1 f fd ["self", "listed"] (spChange C) := by
  refine F.ok sc_bchange (by rintro vs H Q E ⟨_, _, _, _, _, _, _, rfl, _⟩; rfl) (fun cdv A0 outer s H vs Q E hr h => ?_)
  obtain ⟨a, dx, p, vk, vl, y, us, rfl, ha, hp, hl, q⟩ := h
  refine ⟨_, pss_cons (ps_expr (pe_bm PySem.F.plainAttrs_list PySem.F.slot_list_append PySem.F.type_list_append mt_append (pe_fld (pv 0) rfl) (pa_cons (pe_fld (pv 0) rfl) pa_nil)))
    (pss_one (ps_fld (pv 0) (pv 1) rfl)), ?_⟩
  have ne : a ≠ p := ins_ne_lst ha hp
  refine ⟨.ref a, rfl, a, C, dx, _, .ref p, rfl, ha, TB.cl, TB.nP, bkF_past, .inl ⟨rfl, _, .inl (.inl hp)⟩, ?_⟩
  refine ⟨.ref a, rfl, a, C, dx, _, vl, rfl, ha, TB.cl, TB.nL, bkF_listed, ?_⟩
  refine ⟨p, us, vl, rfl, rfl, hp, Nat.lt_of_le_of_lt hl (by decide), ?_⟩
  refine ⟨y, rfl, .ref a, rfl, a, C, dx, bkF vk vl p, rfl, by rw [upd_ne ne]; exact ha, TB.cl, TB.nL, (by show 4 < 1000; decide), ?_⟩
  rw [bkF_setL]
  refine q _ upd_same ?_ fun b o h1 h2 h3 => ?_
  · rw [upd_ne ne.symm, upd_same]
  · rw [upd_ne h1, upd_ne h2]
    exact h3
/-! ### a trial -/
def spTI (CT : Addr) : Sp := fun vs H Q _ => ∃ (t dt : Addr) (b : V), vs = [.ref t, b] ∧ H t = some (.ins CT dt []) ∧ ∀ H', H' t = some (.ins CT dt (trF b .non .non)) → (∀ c o, c ≠ t → H c = some o → H' c = some o) → Q .non H'
theorem sc_tinit : FnScope ["self", "book"] ["self", "book"] (defScope s_tinit) := ⟨rfl, rfl, rfl, by decide +kernel, rfl, by decide +kernel, by decide +kernel⟩
theorem ok_tinit (F : Fun K "__init__" "Trial.__init__" s_tinit f fd) (TT : KTr K CT) : FnOk P w K mg base CX0 1 f fd ["self", "book"] (spTI CT) := by
  refine F.ok sc_tinit (by rintro vs H Q E ⟨_, _, _, rfl, _⟩; rfl) (fun cdv A0 outer s H vs Q E hr h => ?_)
  obtain ⟨t, dt, b, rfl, ht, q⟩ := h
  refine ⟨_, pss_cons (ps_fld (pv 0) (pv 1) rfl) (pss_cons (ps_fld (pv 0) pe_non rfl) (pss_one (ps_fld (pv 0) pe_non rfl))), ?_⟩
  refine ⟨b, rfl, .ref t, rfl, t, CT, dt, [], rfl, ht, TT.cl, TT.nB, (by show 0 < 1000; decide), ?_⟩
  rw [tr_put1]
  refine ⟨.ref t, rfl, t, CT, dt, _, rfl, upd_same, TT.cl, TT.nL, (by show 1 < 1000; decide), ?_⟩
  rw [tr_put2]
  refine ⟨.ref t, rfl, t, CT, dt, _, rfl, upd_same, TT.cl, TT.nP, (by show 2 < 1000; decide), ?_⟩
  rw [tr_put3]
  refine q _ upd_same fun c o hc h => ?_
  rw [upd_ne hc, upd_ne hc, upd_ne hc]
  exact h
theorem bk_ne_tr {H : Hp} {a t C CT dx dt p : Addr} {vk vl b y z : V} (ha : H a = some (.ins C dx (bkF vk vl p))) (ht : H t = some (.ins CT dt (trF b y z))) : a ≠ t := fun e => by
  rw [e, ht] at ha
  have h := Option.some.inj ha
  have h2 : trF b y z = bkF vk vl p := by injection h
  have h3 : (3 : Nat) = 4 := congrArg List.length h2
  exact absurd h3 (by decide)
def spEnter (C CT : Addr) : Sp := fun vs H Q _ => ∃ (t dt a dx p : Addr) (vk vl y z : V) (us : List V), vs = [.ref t] ∧ H t = some (.ins CT dt (trF (.ref a) y z)) ∧ H a = some (.ins C dx (bkF vk vl p)) ∧ H p = some (.lst us) ∧
  ∀ l H', H l = none → H' t = some (.ins CT dt (trF (.ref a) vl (.ref l))) → H' l = some (.lst us) → (∀ b o, b ≠ t → H b = some o → H' b = some o) → Q (.ref a) H'
theorem sc_tenter : FnScope ["self"] ["self"] (defScope s_tenter) := ⟨rfl, rfl, rfl, by decide +kernel, rfl, by decide +kernel, by decide +kernel⟩
theorem ok_tenter (F : Fun K "__enter__" "Trial.__enter__" s_tenter f fd) (M : Bl mg) (TB : KBk K C) (TT : KTr K CT) : FnOk P w K mg base CX0 1 f fd ["self"] (spEnter C CT) := by
  refine F.ok sc_tenter (by rintro vs H Q E ⟨_, _, _, _, _, _, _, _, _, _, rfl, _⟩; rfl) (fun cdv A0 outer s H vs Q E hr h => ?_)
  obtain ⟨t, dt, a, dx, p, vk, vl, y, z, us, rfl, ht, ha, hp, q⟩ := h
  refine ⟨_, pss_cons (ps_fld (pv 0) (pe_fld (pe_fld (pv 0) rfl) rfl) rfl) (pss_cons (ps_fld (pv 0) (pe_callTy call_list_of (by rfl) M.list PyProof.Rows.boot_list (pa_cons (pe_fld (pe_fld (pv 0) rfl) rfl) pa_nil)) rfl) (pss_one (ps_ret (pe_fld (pv 0) rfl)))), ?_⟩
  have ne : a ≠ t := bk_ne_tr ha ht
  have np : p ≠ t := (ins_ne_lst ht hp).symm
  refine ⟨.ref t, rfl, t, CT, dt, _, .ref a, rfl, ht, TT.cl, TT.nB, trF_book, a, C, dx, _, vl, rfl, ha, TB.cl, TB.nL, bkF_listed, .ref t, rfl, t, CT, dt, _, rfl, ht, TT.cl, TT.nL, (by show 3 < 1000; decide), ?_⟩
  rw [trF_setL]
  have ha1 : (upd H t (.ins CT dt (trF (.ref a) vl z))) a = some (.ins C dx (bkF vk vl p)) := by
    rw [upd_ne ne]
    exact ha
  have hp1 : (upd H t (.ins CT dt (trF (.ref a) vl z))) p = some (.lst us) := by
    rw [upd_ne np]
    exact hp
  refine ⟨.ref t, rfl, t, CT, dt, _, .ref a, rfl, upd_same, TT.cl, TT.nB, trF_book, a, C, dx, _, .ref p, rfl, ha1, TB.cl, TB.nP, bkF_past, p, us, rfl, .inl (.inl (.inl hp1)), fun l nl => ?_⟩
  have nlt : l ≠ t := fun e => by
    rw [e, upd_same] at nl
    cases nl
  refine ⟨.ref t, rfl, t, CT, dt, _, rfl, by rw [upd_ne nlt.symm]; exact upd_same, TT.cl, TT.nP, (by show 3 < 1000; decide), ?_⟩
  rw [trF_setP]
  refine ⟨.ref t, rfl, t, CT, dt, _, .ref a, rfl, upd_same, TT.cl, TT.nB, trF_book, ?_⟩
  have nl0 : H l = none := by
    rw [upd_ne nlt] at nl
    exact nl
  refine q l _ nl0 upd_same ?_ fun b o hb h => ?_
  · rw [upd_ne nlt, upd_same]
  · have hbl : b ≠ l := fun e => by
      rw [e, nl0] at h
      cases h
    rw [upd_ne hb, upd_ne hbl, upd_ne hb]
    exact h
def spExit (C CT : Addr) : Sp := fun vs H Q _ => ∃ (t dt a dx p l : Addr) (vk vl y : V) (x1 x2 x3 : V), vs = [.ref t, x1, x2, x3] ∧ H t = some (.ins CT dt (trF (.ref a) vl (.ref l))) ∧ H a = some (.ins C dx (bkF vk y p)) ∧
  ∀ H', H' a = some (.ins C dx (bkF vk vl l)) → (∀ b o, b ≠ a → H b = some o → H' b = some o) → Q .non H'
theorem sc_texit : FnScope ["self", "kind", "value", "trace", "book"] ["self", "kind", "value", "trace"] (defScope s_texit) := ⟨rfl, rfl, rfl, by decide +kernel, rfl, by decide +kernel, by decide +kernel⟩
theorem ok_texit (F : Fun K "__exit__" "Trial.__exit__" s_texit f fd) (TB : KBk K C) (TT : KTr K CT) : FnOk P w K mg base CX0 1 f fd ["self", "kind", "value", "trace"] (spExit C CT) := by
  refine F.ok sc_texit (by rintro vs H Q E ⟨_, _, _, _, _, _, _, _, _, _, _, _, rfl, _⟩; rfl) (fun cdv A0 outer s H vs Q E hr h => ?_)
  obtain ⟨t, dt, a, dx, p, l, vk, vl, y, x1, x2, x3, rfl, ht, ha, q⟩ := h
  have nd := sc_texit.nd
  refine ⟨_, pss_cons (ps_set (i := 4) nd rfl (Or.inl rfl) (pe_fld (pv 0) rfl)) (pss_cons (ps_fld (pv 4) (pe_fld (pv 0) rfl) rfl) (pss_one (ps_fld (pv 4) (pe_fld (pv 0) rfl) rfl))), ?_⟩
  have ne : a ≠ t := bk_ne_tr ha ht
  refine ⟨.ref t, rfl, t, CT, dt, _, .ref a, rfl, ht, TT.cl, TT.nB, trF_book, ?_⟩
  refine ⟨.ref t, rfl, t, CT, dt, _, vl, rfl, ht, TT.cl, TT.nL, trF_listed, .ref a, rfl, a, C, dx, _, rfl, ha, TB.cl, TB.nL, (by show 4 < 1000; decide), ?_⟩
  rw [bkF_setL]
  refine ⟨.ref t, rfl, t, CT, dt, _, .ref l, rfl, by rw [upd_ne ne.symm]; exact ht, TT.cl, TT.nP, trF_past, .ref a, rfl, a, C, dx, _, rfl, upd_same, TB.cl, TB.nP, (by show 4 < 1000; decide), ?_⟩
  rw [bkF_setP]
  refine q _ upd_same fun b o hb h => ?_
  rw [upd_ne hb, upd_ne hb]
  exact h
def spTrial (CT : Addr) : Sp := fun vs H Q _ => ∃ a : Addr, vs = [.ref a] ∧ ∀ t dt H', H t = none → Ex H H' → H' t = some (.ins CT dt (trF (.ref a) .non .non)) → Q (.ref t) H'
theorem sc_btrial : FnScope ["self"] ["self"] (defScope s_btrial) := ⟨rfl, rfl, rfl, by decide +kernel, rfl, by decide +kernel, by decide +kernel⟩
theorem ok_btrial {g : Addr} {gd : FuncData} (F : Fun K "trial" "Book.trial" s_btrial f fd) (MT : Mk K CT g) (GT : FnOk P w K mg base CX0 1 g gd ["self", "book"] (spTI CT)) (bT : Binds K gd ["self", "book"] []) (mT : mg "Trial" = some (.ref CT)) : FnOk P w K mg base CX0 3 f fd ["self"] (spTrial CT) := by
  refine F.ok sc_btrial (by rintro vs H Q E ⟨_, rfl, _⟩; rfl) (fun cdv A0 outer s H vs Q E hr h => ?_)
  obtain ⟨a, rfl, q⟩ := h
  refine ⟨_, pss_one (ps_ret (pe_make MT GT (hr.mono (by decide)) (by rfl) mT bT .nil pass0 (pa_cons (pv 0) pa_nil))), ?_⟩
  refine ⟨.ref a, rfl, fun t dt nt nd hne => ⟨t, dt, .ref a, rfl, upd_same, fun H' ht fr => ⟨rfl, q t dt H' nt (fun c o h => ?_) ht⟩⟩⟩
  have h1 : c ≠ t := fun e => by
    rw [e, nt] at h
    cases h
  have h2 : c ≠ dt := fun e => by
    rw [e, nd] at h
    cases h
  refine fr c o h1 ?_
  rw [upd_ne h1, upd_ne h2]
  exact h
end
end KB
/-! The landed book: made, asked, changed. -/
namespace KB
open PySem PySem.Spec PyProof.Rows L2 FC FP LamX NdefX
open Evl (Ex)
/-- a promise that is implied -/
theorem fn_imp {P : Program} {w : World} {K : PySem.W.Frag} {mg : Str → Option Value} {base : Heap} {k : Nat} {f : Addr} {fd : FuncData} {ps : List Str} {sp sp' : Sp} (F : FnOk P w K mg base CX0 k f fd ps sp) (h : ∀ vs H Q E, sp' vs H Q E → sp vs H Q E) : FnOk P w K mg base CX0 k f fd ps sp' :=
  ⟨fun vs H Q E z => F.len vs H Q E (h vs H Q E z), fun A outer s H args us vs Q E hr e0 hb r z => F.run A outer s H args us vs Q E hr e0 hb r (h vs H Q E z)⟩
theorem go_own {B H H' : Hp} (x : Ex B H) (e : Ex H H') : Go B H B H' := ⟨Evl.Ex.refl _, e, x.trans e, fun _ _ _ h => h⟩
theorem cp_none {n : Nat} : Cp n .none := .leaf (by decide +kernel) (by decide +kernel) (by decide +kernel) rfl
theorem cp_str {n : Nat} {s : Str} : Cp n (.str s) := .leaf (by show kitB "str" "list" = some false; decide +kernel) (by show kitB "str" "tuple" = some false; decide +kernel) (by show kitB "str" "dict" = some false; decide +kernel) rfl
theorem cp_int {n : Nat} {i : Int} : Cp n (.int i) := .leaf (by show kitB "int" "list" = some false; decide +kernel) (by show kitB "int" "tuple" = some false; decide +kernel) (by show kitB "int" "dict" = some false; decide +kernel) rfl
theorem all3 {n : Nat} {a b c : PyData} (ha : Cp n a) (hb : Cp n b) (hc : Cp n c) : ∀ d ∈ [a, b, c], Cp n d := by
  intro d hd
  rcases List.mem_cons.mp hd with rfl | hd
  · exact ha
  · rcases List.mem_cons.mp hd with rfl | hd
    · exact hb
    · rw [List.mem_singleton.mp hd]
      exact hc
theorem all2 {n : Nat} {a b : PyData} (ha : Cp n a) (hb : Cp n b) : ∀ d ∈ [a, b], Cp n d := by
  intro d hd
  rcases List.mem_cons.mp hd with rfl | hd
  · exact ha
  · rw [List.mem_singleton.mp hd]
    exact hb
theorem all1 {n : Nat} {a : PyData} (ha : Cp n a) : ∀ d ∈ [a], Cp n d := by
  intro d hd
  rw [List.mem_singleton.mp hd]
  exact ha
theorem Cp.up {n : Nat} {d : PyData} (h : Cp n d) : Cp (n + 1) d := by
  induction h with
  | leaf h1 h2 h3 hp => exact .leaf h1 h2 h3 hp
  | lst h hl hp ih => exact .lst (fun d hd => ih d hd) hl hp
  | tup h hl hp ih => exact .tup (fun d hd => ih d hd) hl hp
theorem cp_cl0 {low : Int} : Cp 2 (clauseD (cl0 low)) := .tup (all2 (.tup (all3 cp_str cp_int cp_none) (by show 3 ≤ 900; decide) rfl) cp_str) (by show 2 ≤ 900; decide) rfl
theorem cp_cl1 : Cp 2 (clauseD cl1) := .tup (all2 cp_none cp_str) (by show 2 ≤ 900; decide) rfl
theorem cp_l0 {low : Int} : Cp 3 (.list ([cl0 low].map clauseD)) := .lst (all1 cp_cl0) (by show 1 ≤ 900; decide) rfl
theorem cp_l1 : Cp 3 (.list ([cl1].map clauseD)) := .lst (all1 cp_cl1) (by show 1 ≤ 900; decide) rfl
theorem cp_l01 {low : Int} : Cp 3 (.list ([cl0 low, cl1].map clauseD)) := .lst (all2 cp_cl0 cp_cl1) (by show 2 ≤ 900; decide) rfl
theorem cp_kinds : ∀ q ∈ kindN, Cp 1 q.2 ∧ plain q.2 = true := by
  intro q hq
  rw [List.mem_singleton.mp hq]
  exact ⟨.tup (all3 cp_str cp_int cp_int) (by show 3 ≤ 900; decide) rfl, rfl⟩
theorem kinds_ok : KindsOk kindN := ⟨by decide, by decide, by
  intro q hq
  rw [List.mem_singleton.mp hq]
  decide +kernel, by
  intro q hq
  rw [List.mem_singleton.mp hq]
  exact .nums (by decide), by decide⟩
theorem look_n : look kindN "n" = some (numsD 0 9) := by
  unfold kindN look
  rw [List.find?_cons, decide_eq_true rfl]
  rfl
theorem ok_cl0 {low : Int} : OkClause (cl0 low) := ⟨.range rfl rfl, by show isNameS "yes" = true; decide +kernel⟩
theorem ok_cl1 : OkClause cl1 := ⟨.any, by decide +kernel⟩
theorem ok_l0 {low : Int} : ∀ c ∈ [cl0 low], OkClause c := by
  intro c hc
  rw [List.mem_singleton.mp hc]
  exact ok_cl0
/-- a heap without two places -/
def cut (H : Hp) (a p : Addr) : Hp := fun b => if b = a ∨ b = p then none else H b
theorem cut_ex {B H : Hp} {a p : Addr} (e : Ex B H) (ha : B a = none) (hp : B p = none) : Ex B (cut H a p) := fun b o h => by
  unfold cut
  rw [if_neg]
  · exact e b o h
  · rintro (z | z)
    · rw [z, ha] at h
      cases h
    · rw [z, hp] at h
      cases h
theorem cut_sub {H : Hp} {a p : Addr} : Ex (cut H a p) H := fun b o h => by
  unfold cut at h
  split at h
  · cases h
  · exact h
theorem cut_l {H : Hp} {a p : Addr} : (cut H a p) a = none := by
  unfold cut
  rw [if_pos (.inl rfl)]
theorem cut_r {H : Hp} {a p : Addr} : (cut H a p) p = none := by
  unfold cut
  rw [if_pos (.inr rfl)]
theorem cl1_cut {K : PySem.W.Frag} {H : Hp} {a p C dx : Addr} {fs : List (Str × V)} {us : List V} {v : V} (r : Rt K H v (clauseD cl1)) (ha : H a = some (.ins C dx fs)) (hp : H p = some (.lst us)) : Rt K (cut H a p) v (clauseD cl1) := by
  have r := r.dp rfl
  cases r with
  | @tup b vs _ hs hz =>
    cases hz with
    | cons h1 hz =>
      cases hz with
      | cons h2 hz =>
        cases hz
        have h1 : Dp K H _ .none := h1
        have h2 : Dp K H _ (.str "no") := h2
        cases h1
        cases h2
        refine .d (.tup ?_ (.cons .non (.cons (.str _) .nil)))
        have key : ∀ o, (∀ us, o ≠ .lst us) → (∀ C dx fs, o ≠ .ins C dx fs) → H b = some o → (cut H a p) b = some o := fun o n1 n2 h => by
          unfold cut
          rw [if_neg]
          · exact h
          · rintro (z | z)
            · rw [z, ha] at h
              exact n2 _ _ _ (Option.some.inj h).symm
            · rw [z, hp] at h
              exact n1 _ (Option.some.inj h).symm
        rcases hs with (h | ⟨o, h⟩) | h
        · exact .inl (.inl (key _ (fun _ z => nomatch z) (fun _ _ _ z => nomatch z) h))
        · exact .inl (.inr ⟨o, key _ (fun _ z => nomatch z) (fun _ _ _ z => nomatch z) h⟩)
        · exact .inr h
section
variable {P : Program} {w : World} {K : PySem.W.Frag} {mg : Str → Option Value} {base : Heap} {f : Addr} {fd : FuncData} {C CT : Addr} {T : List NTab}
variable {H0 H H' B B' : Hp} {a dx p : Addr} {vk vl : V} {us : List V} {cs : List (PyData × Str)}
theorem BkS.of (h : BkS K C T H0 H a cs) (d : BkD K C cs H0 H' a dx vk vl p us B) (e : Ex H H') : BkS K C T H0 H' a cs := ⟨⟨dx, vk, vl, p, us, B, d⟩, h.old.trans (.of e), h.tab.ext e⟩
/-! ### __init__ -/
theorem sc_binit : FnScope ["self", "kinds", "kind", "clauses"] ["self", "kinds", "kind", "clauses"] (defScope s_binit) := ⟨rfl, rfl, rfl, by decide +kernel, rfl, by decide +kernel, by decide +kernel⟩
theorem ok_binit (F : Fun K "__init__" "Book.__init__" s_binit f fd) (TB : KBk K C) (cl : CL P w K mg base 10 "check_lists" Rw_check_lists) (cD : CL P w K mg base 4 "copied" (Rw_copiedD 1)) (cc : CL P w K mg base 5 "copied" (Rw_copied 3)) : FnOk P w K mg base CX0 11 f fd ["self", "kinds", "kind", "clauses"] (spInit K C T (BkS K C T)) := by
  refine F.ok sc_binit (by rintro vs H Q E ⟨_, _, _, _, _, _, _, rfl, _⟩; rfl) (fun cdv A0 outer s H vs Q E hr h => ?_)
  obtain ⟨x, dx, kd, cv, low, B, H0, rfl, sub, rr, l0, l8, hx, hdx, hne, nx, ndx, old, ox, odx, tab, q⟩ := h
  refine ⟨_, pss_cons (ps_expr (pe_cl cl hr (by decide) (by rfl) (pa_cons (pv 1) (pa_cons (pv 2) (pa_cons (pe_lst (pa_cons (pv 3) pa_nil)) pa_nil)))))
    (pss_cons (ps_fld (pv 0) (pe_cl cD hr (by decide) (by rfl) (pa_cons (pv 1) pa_nil)) rfl)
    (pss_cons (ps_fld (pv 0) (pv 2) rfl)
    (pss_cons (ps_fld (pv 0) (pe_cl cc hr (by decide) (by rfl) (pa_cons (pv 3) pa_nil)) rfl)
    (pss_one (ps_fld (pv 0) (pe_lst pa_nil) rfl))))), ?_⟩
  cases rr with
  | cons rk rr =>
  cases rr with
  | cons rl rr =>
  cases rr
  refine ⟨kd, rfl, .str "n", rfl, cv, rfl, (by show 1 ≤ sizeLine; decide), fun l nl => ?_⟩
  have nlB : B l = none := sub_none sub nl
  have e1 : Ex H (upd H l (.lst [cv])) := Evl.Ex.new nl
  have b1 : Ex B (upd B l (.lst [cv])) := Evl.Ex.new nlB
  have g1 : Go B H (upd B l (.lst [cv])) (upd H l (.lst [cv])) := Go.new sub nl
  refine ⟨_, [dictU kindN, .str "n", .list [.list ([cl0 low].map clauseD)]], .none, g1.sub, .cons (rk.ex g1.eb) (.cons (.d (.str _)) (.cons (.d (.lst (.inl (.inl upd_same)) (.cons (dp_ex g1.eb _ _ (rl.dp rfl)) .nil))) .nil)), ⟨kindN, "n", [cl0 low], 0, 9, rfl, kinds_ok, ok_l0, by show 1 ≤ 1000; decide, look_n, rfl⟩, fun v1 B1 H1 g2 _ => ?_⟩
  have g3 := g1.trans g2
  refine ⟨kd, rfl, B1, [dictU kindN], dictU kindN, g3.sub, .cons (rk.ex g3.eb) .nil, ⟨kindN, rfl, cp_kinds, by decide, by decide, rfl⟩, fun vk B2 H2 g4 r2 => ?_⟩
  have g5 := g3.trans g4
  have nx2 : B2 x = none := g5.fr _ _ hx nx
  refine ⟨.ref x, rfl, x, C, dx, [], rfl, g5.eh _ _ hx, TB.cl, TB.nK, (by show 0 < 1000; decide), ?_⟩
  rw [bk_put1]
  refine ⟨.str "n", rfl, .ref x, rfl, x, C, dx, _, rfl, upd_same, TB.cl, TB.nD, (by show 1 < 1000; decide), ?_⟩
  rw [bk_put2]
  have e3 : Ex B2 (upd (upd H2 x (.ins C dx [("kinds", vk)])) x (.ins C dx [("kinds", vk), ("kind", .str "n")])) := Evl.Ex.mut (Evl.Ex.mut g5.sub nx2) nx2
  have f3 : ∀ b o, b ≠ x → H2 b = some o → (upd (upd H2 x (.ins C dx [("kinds", vk)])) x (.ins C dx [("kinds", vk), ("kind", .str "n")])) b = some o := fun b o hb h => by
    rw [upd_ne hb, upd_ne hb]
    exact h
  have o3 : (upd (upd H2 x (.ins C dx [("kinds", vk)])) x (.ins C dx [("kinds", vk), ("kind", .str "n")])) x = some (.ins C dx [("kinds", vk), ("kind", .str "n")]) := upd_same
  generalize (upd (upd H2 x (.ins C dx [("kinds", vk)])) x (.ins C dx [("kinds", vk), ("kind", .str "n")])) = H3 at e3 f3 o3
  refine ⟨cv, rfl, B2, [.list ([cl0 low].map clauseD)], .list ([cl0 low].map clauseD), e3, .cons (rl.ex g5.eb) .nil, ⟨_, rfl, cp_l0, rfl⟩, fun vl B4 H4 g6 r4 => ?_⟩
  have nx4 : B4 x = none := g6.fr _ _ o3 nx2
  refine ⟨.ref x, rfl, x, C, dx, _, rfl, g6.eh _ _ o3, TB.cl, TB.nL, (by show 2 < 1000; decide), ?_⟩
  rw [bk_put3]
  have e4 : Ex B4 (upd H4 x (.ins C dx [("kinds", vk), ("kind", .str "n"), ("listed", vl)])) := Evl.Ex.mut g6.sub nx4
  have f4 : ∀ b o, b ≠ x → H2 b = some o → (upd H4 x (.ins C dx [("kinds", vk), ("kind", .str "n"), ("listed", vl)])) b = some o := fun b o hb h => by
    rw [upd_ne hb]
    exact g6.eh _ _ (f3 b o hb h)
  have o4 : (upd H4 x (.ins C dx [("kinds", vk), ("kind", .str "n"), ("listed", vl)])) x = some (.ins C dx [("kinds", vk), ("kind", .str "n"), ("listed", vl)]) := upd_same
  generalize (upd H4 x (.ins C dx [("kinds", vk), ("kind", .str "n"), ("listed", vl)])) = H5 at e4 f4 o4
  refine ⟨Nat.zero_le _, fun pp npp => ?_⟩
  have pne : pp ≠ x := fresh_ne npp o4
  refine ⟨.ref x, rfl, x, C, dx, _, rfl, by rw [upd_ne pne.symm]; exact o4, TB.cl, TB.nP, (by show 3 < 1000; decide), ?_⟩
  rw [bk_put4]
  have nB : B4 pp = none := sub_none e4 npp
  have fF : ∀ b o, b ≠ x → H b = some o → (upd (upd H5 pp (.lst [])) x (.ins C dx (bkF vk vl pp))) b = some o := fun b o hb h => by
    have h2 := f4 b o hb (g5.eh _ _ h)
    have hbp : b ≠ pp := fun e => by
      rw [e, npp] at h2
      cases h2
    rw [upd_ne hb, upd_ne hbp]
    exact h2
  have npH : H pp = none := by
    cases e : H pp with
    | none => rfl
    | some o =>
      have := f4 pp o pne (g5.eh _ _ e)
      rw [npp] at this
      cases this
  refine q _ ⟨⟨dx, vk, vl, pp, [], B4, ⟨upd_same, Evl.Ex.mut (Evl.Ex.mut e4 nB) nx4, (r2.ex g6.eb), r4, by rw [upd_ne pne]; exact upd_same, Nat.zero_le _, nx4, nB, .of ox, .new old npH⟩⟩, extN_fr2 old (.of ox) (.of ox) fun b o h1 _ h => fF b o h1 h, ?_⟩
  refine fun t ht => ?_
  obtain ⟨ps, h1, h2, h3⟩ := tab t ht
  refine ⟨ps, fF _ _ (fun z => by rw [z, hx] at h1; cases h1) h1, h2, fun pos c hc => ?_⟩
  obtain ⟨c', e1', e2'⟩ := h3 pos c hc
  refine ⟨c', e1', fF _ _ (fun z => ?_) e2'⟩
  rw [z, hx] at e2'
  have y : HO.ins C dx [] = CodeO _ _ := Option.some.inj e2'
  unfold CodeO at y
  cases y
/-! ### label -/
theorem sc_blabel : FnScope ["self", "value", "at"] ["self", "value"] (defScope s_blabel) := ⟨rfl, rfl, rfl, by decide +kernel, rfl, by decide +kernel, by decide +kernel⟩
theorem ok_blabel (F : Fun K "label" "Book.label" s_blabel f fd) (TB : KBk K C) (cv : CL P w K mg base 6 "check_value" Rw_check_value) (cf : CL P w K mg base 2 "first_fitting" Rw_first_fitting) : FnOk P w K mg base CX0 7 f fd ["self", "value"] (spLabel (BkS K C T)) := by
  refine F.ok sc_blabel (by rintro vs H Q E ⟨_, _, _, rfl, _⟩; rfl) (fun cdv A0 outer s H vs Q E hr h => ?_)
  obtain ⟨a, low, H0, rfl, hb, l0, l8, q⟩ := h
  obtain ⟨dx, vk, vl, p, us, B, d⟩ := hb.ex
  have nd := sc_blabel.nd
  refine ⟨_, pss_cons (ps_expr (pe_cl cv hr (by decide) (by rfl) (pa_cons (pe_fld (pv 0) rfl) (pa_cons (pe_fld (pv 0) rfl) (pa_cons (pv 1) pa_nil)))))
    (pss_cons (ps_set (i := 2) nd rfl (Or.inl rfl) (pe_cl cf hr (by decide) (by rfl) (pa_cons (pe_fld (pv 0) rfl) (pa_cons (pv 1) pa_nil))))
    (pss_one (ps_ret (pe_ifExp (pt_cmp (pc_isN (pv 2))) pe_non (pe_ix ix_tup (pe_ix ix_list (pe_fld (pv 0) rfl) (pv 2) (fun _ _ => rfl)) pe_int (fun _ _ => rfl)))))), ?_⟩
  refine ⟨.ref a, rfl, a, C, dx, _, vk, rfl, d.ob, TB.cl, TB.nK, bkF_kinds, .ref a, rfl, a, C, dx, _, .str "n", rfl, d.ob, TB.cl, TB.nD, bkF_kind, .int low, rfl, B, [dictOf kindN, .str "n", .int low], .none, d.sub, .cons (rt_ofU d.rk) (.cons (.d (.str _)) (.cons (.d (.int _)) .nil)), ⟨kindN, "n", .int low, rfl, rfl, value_int look_n l0 (by omega), rfl⟩, fun v1 B1 H1 g1 _ => ?_⟩
  have d1 := d.go g1
  refine ⟨.ref a, rfl, a, C, dx, _, vl, rfl, d1.ob, TB.cl, TB.nL, bkF_listed, .int low, rfl, B1, [.list ([cl0 low].map clauseD), .int low], .int 0, d1.sub, .cons d1.rl (.cons (.d (.int _)) .nil), ⟨[cl0 low], low, rfl, ok_l0, by show 1 ≤ 1000; decide, .inl ⟨0, cl0 low, rfl, fun j c' h => absurd h (by omega), ?_, rfl⟩⟩, fun v2 B2 H2 g2 r2 => ?_⟩
  · show (decide (low ≤ low) && true) = true
    rw [decide_eq_true (Int.le_refl low)]
    rfl
  cases rt_int r2
  have d2 := d1.go g2
  refine ⟨.int 0, rfl, _, rfl, iteF ?_⟩
  refine ⟨.ref a, rfl, a, C, dx, _, vl, rfl, d2.ob, TB.cl, TB.nL, bkF_listed, .int 0, rfl, ?_⟩
  refine rd_ixL (j := 0) (d := clauseD (cl0 low)) (ds := [cl0 low].map clauseD) rfl rfl B2 H2 _ _ d2.sub d2.rl (.d (.int _)) _ fun z B3 H3 g3 r3 => ?_
  refine rd_ixT (j := 1) (d := .str "yes") rfl rfl B3 H3 _ _ g3.sub r3 (.d (.int _)) _ fun z2 B4 H4 g4 r4 => ?_
  cases rt_str r4
  have gg := (g1.trans g2).trans (g3.trans g4)
  exact q H4 (hb.of (d.go gg) gg.eh)
/-! ### clauses, len -/
def spCls2 (K : PySem.W.Frag) (C : Addr) : Sp := fun vs H Q _ => ∃ (a dx p : Addr) (vk vl : V) (cs : List (PyData × Str)) (B : Hp), vs = [.ref a] ∧ H a = some (.ins C dx (bkF vk vl p)) ∧ Ex B H ∧ Rt K B vl (.list (cs.map clauseD)) ∧ Cp 3 (.list (cs.map clauseD)) ∧ ∀ v B' H', Go B H B' H' → Rt K B' v (.list (cs.map clauseD)) → Q v H'
theorem sc_bclauses : FnScope ["self"] ["self"] (defScope s_bclauses) := ⟨rfl, rfl, rfl, by decide +kernel, rfl, by decide +kernel, by decide +kernel⟩
theorem ok_bclauses (F : Fun K "clauses" "Book.clauses" s_bclauses f fd) (TB : KBk K C) (cc : CL P w K mg base 5 "copied" (Rw_copied 3)) : FnOk P w K mg base CX0 6 f fd ["self"] (spCls2 K C) := by
  refine F.ok sc_bclauses (by rintro vs H Q E ⟨_, _, _, _, _, _, _, rfl, _⟩; rfl) (fun cdv A0 outer s H vs Q E hr h => ?_)
  obtain ⟨a, dx, p, vk, vl, cs, B, rfl, ha, sub, rl, hcp, q⟩ := h
  refine ⟨_, pss_one (ps_ret (pe_cl cc hr (by decide) (by rfl) (pa_cons (pe_fld (pv 0) rfl) pa_nil))), ?_⟩
  exact ⟨.ref a, rfl, a, C, dx, _, vl, rfl, ha, TB.cl, TB.nL, bkF_listed, B, [.list (cs.map clauseD)], .list (cs.map clauseD), sub, .cons rl .nil, ⟨_, rfl, hcp, rfl⟩, fun v B' H' g r => q v B' H' g r⟩
theorem cls_imp : ∀ vs H Q E, spCls K (BkS K C T) vs H Q E → spCls2 K C vs H Q E := by
  rintro vs H Q E ⟨a, low, cs, H0, rfl, hcs, l0, l8, hb, q⟩
  obtain ⟨dx, vk, vl, p, us, B, d⟩ := hb.ex
  refine ⟨a, dx, p, vk, vl, cs, B, rfl, d.ob, d.sub, d.rl, ?_, fun v B' H' g r => q v B' H' g.sub r (hb.of (d.go g) g.eh)⟩
  rcases hcs with rfl | rfl
  · exact cp_l01
  · exact cp_l1
theorem sc_blen : FnScope ["self"] ["self"] (defScope s_blen) := ⟨rfl, rfl, rfl, by decide +kernel, rfl, by decide +kernel, by decide +kernel⟩
theorem ok_blen (F : Fun K "__len__" "Book.__len__" s_blen f fd) (M : Bl mg) (TB : KBk K C) : FnOk P w K mg base CX0 1 f fd ["self"] (spLen (BkS K C T)) := by
  refine F.ok sc_blen (by rintro vs H Q E ⟨_, _, _, rfl, _⟩; rfl) (fun cdv A0 outer s H vs Q E hr h => ?_)
  obtain ⟨a, low, H0, rfl, hb, q⟩ := h
  obtain ⟨dx, vk, vl, p, us, B, d⟩ := hb.ex
  refine ⟨_, pss_one (ps_ret (pe_callB call_lenR (by rfl) M.len PySem.boot_len (pa_cons (pe_fld (pv 0) rfl) pa_nil))), ?_⟩
  refine ⟨.ref a, rfl, a, C, dx, _, vl, rfl, d.ob, TB.cl, TB.nL, bkF_listed, ?_⟩
  refine cd_lenL (ds := [cl0 low, cl1].map clauseD) B H [vl] d.sub (.cons d.rl .nil) _ fun z B1 H1 g1 r1 => ?_
  cases rt_int r1
  exact q H1 (hb.of (d.go g1) g1.eh)
end
end KB
/-! The landed book: put, drop, attempt. -/
namespace KB
open PySem PySem.Spec PyProof.Rows L2 FC FP LamX NdefX
open Evl (Ex)
theorem cut01 (x : V) : cutV [x] none (some 1) = [x] := by rfl
theorem cut10 (x : V) : cutV [x] (some 1) none = [] := by rfl
theorem cut00 (x y : V) : cutV [x, y] none (some 0) = [] := by rfl
theorem cut1n (x y : V) : cutV [x, y] (some 1) none = [y] := by rfl
section
variable {P : Program} {w : World} {K : PySem.W.Frag} {mg : Str → Option Value} {base : Heap} {f : Addr} {fd : FuncData} {C CT : Addr} {T : List NTab}
theorem ne_new {H H' : Hp} {a b : Addr} {o : HO} (e : Ex H H') (ha : H a = some o) (nb : H' b = none) : a ≠ b := fun z => by
  have := e _ _ ha
  rw [z, nb] at this
  cases this
theorem list1 {B : Hp} {v : V} {d : PyData} (r : Rt K B v (.list [d])) : ∃ al x0, v = .ref al ∧ SqL K B al [x0] ∧ Dp K B x0 d := by
  have r := r.dp rfl
  cases r with
  | lst hs hz =>
    cases hz with
    | cons h1 hz =>
      cases hz
      exact ⟨_, _, rfl, hs, h1⟩
theorem list2 {B : Hp} {v : V} {d e : PyData} (r : Rt K B v (.list [d, e])) : ∃ al x0 x1, v = .ref al ∧ SqL K B al [x0, x1] ∧ Dp K B x0 d ∧ Dp K B x1 e := by
  have r := r.dp rfl
  cases r with
  | lst hs hz =>
    cases hz with
    | cons h1 hz =>
      cases hz with
      | cons h2 hz =>
        cases hz
        exact ⟨_, _, _, rfl, hs, h1, h2⟩
theorem sc_bput : FnScope ["self", "at", "clause"] ["self", "at", "clause"] (defScope s_bput) := ⟨rfl, rfl, rfl, by decide +kernel, rfl, by decide +kernel, by decide +kernel⟩
theorem ok_bput {g : Addr} {gd : FuncData} (F : Fun K "put" "Book.put" s_bput f fd) (M : Bl mg) (TB : KBk K C) (cp : CL P w K mg base 3 "check_position" Rw_check_position) (ck : CL P w K mg base 8 "check_clause" Rw_check_clause) (cc : CL P w K mg base 5 "copied" (Rw_copied 3))
    (mC : Meth K C "change" g) (GC : FnOk P w K mg base CX0 1 g gd ["self", "listed"] (spChange C)) (bC : Binds K gd ["self", "listed"] []) : FnOk P w K mg base CX0 9 f fd ["self", "at", "clause"] (spPut K (BkS K C T)) := by
  refine F.ok sc_bput (by rintro vs H Q E ⟨_, _, _, _, _, rfl, _⟩; rfl) (fun cdv A0 outer s H vs Q E hr h => ?_)
  obtain ⟨a, cv, low, Bc, H0, rfl, hb, l0, l8, subc, rc, q⟩ := h
  obtain ⟨dx, vk, vl, p, us, B0, d0⟩ := hb.ex
  refine ⟨_, pss_cons (ps_expr (pe_cl cp hr (by decide) (by rfl) (pa_cons (pe_op op_add (pe_callB call_lenR (by rfl) M.len PySem.boot_len (pa_cons (pe_fld (pv 0) rfl) pa_nil)) pe_int) (pa_cons (pv 1) pa_nil))))
    (pss_cons (ps_expr (pe_cl ck hr (by decide) (by rfl) (pa_cons (pe_fld (pv 0) rfl) (pa_cons (pe_fld (pv 0) rfl) (pa_cons (pv 2) pa_nil)))))
    (pss_one (ps_expr (pe_meth (pv 0) TB.cl mC GC (hr.mono (by decide)) bC .nil pass0 (pa_cons (pe_op op_cat (pe_op op_cat (pe_slice sl_list (pe_fld (pv 0) rfl) po_none (po_some (pv 1))) (pe_lst (pa_cons (pe_cl cc hr (by decide) (by rfl) (pa_cons (pv 2) pa_nil)) pa_nil))) (pe_slice sl_list (pe_fld (pv 0) rfl) (po_some (pv 1)) po_none)) pa_nil))))), ?_⟩
  have d : BkD K C [cl0 low] H0 H a dx vk vl p us (cut H a p) := ⟨d0.ob, cut_sub, d0.rk.ex (cut_ex d0.sub d0.na d0.np), d0.rl.ex (cut_ex d0.sub d0.na d0.np), d0.past, d0.few, cut_l, cut_r, d0.oa, d0.op⟩
  have rcv : Rt K (cut H a p) cv (clauseD cl1) := cl1_cut (rc.ex subc) d0.ob d0.past
  clear subc rc d0
  generalize cut H a p = B at d rcv
  obtain ⟨al, x0, rfl, hs, h0⟩ := list1 d.rl
  refine ⟨.ref a, rfl, a, C, dx, _, .ref al, rfl, d.ob, TB.cl, TB.nL, bkF_listed, .ref al, 1, rfl, .inl ⟨_, ex_l d.sub hs, rfl⟩, _, _, rfl, rfl, .int 1, rfl, B, [.int 2, .int 1], .none, d.sub, .cons (.d (.int _)) (.cons (.d (.int _)) .nil), ⟨2, 1, rfl, by decide, by decide, rfl⟩, fun v2 B2 H2 g2 _ => ?_⟩
  have d2 := d.go g2
  refine ⟨.ref a, rfl, a, C, dx, _, vk, rfl, d2.ob, TB.cl, TB.nK, bkF_kinds, .ref a, rfl, a, C, dx, _, .str "n", rfl, d2.ob, TB.cl, TB.nD, bkF_kind, cv, rfl, B2, [dictOf kindN, .str "n", clauseD cl1], .none, d2.sub, .cons (rt_ofU d2.rk) (.cons (.d (.str _)) (.cons (rcv.ex g2.eb) .nil)), ⟨kindN, "n", cl1, 0, 9, rfl, ok_cl1, look_n, rfl⟩, fun v3 B3 H3 g3 _ => ?_⟩
  have d3 := d2.go g3
  have g13 := g2.trans g3
  have hs := ex_l g13.eb hs
  have h0 := dp_ex g13.eb _ _ h0
  refine ⟨.ref a, rfl, a, dx, _, rfl, d3.ob, bkF_no (by decide +kernel) (by decide +kernel) (by decide +kernel) (by decide +kernel), ?_⟩
  refine ⟨.ref a, rfl, a, C, dx, _, .ref al, rfl, d3.ob, TB.cl, TB.nL, bkF_listed, .int 1, rfl, 1, rfl, al, [x0], rfl, ex_l d3.sub hs, fun la nla => ?_⟩
  rw [cut01]
  have ea : Ex H3 (upd H3 la (.lst [x0])) := Evl.Ex.new nla
  have sa := d3.sub.trans ea
  refine ⟨cv, rfl, B3, [clauseD cl1], clauseD cl1, sa, .cons (rcv.ex g13.eb) .nil, ⟨_, rfl, cp_cl1.up, rfl⟩, fun v4 B4 H4 g4 r4 => ?_⟩
  have d4 : BkD K C [cl0 low] H0 H4 a dx vk (.ref al) p us B4 := (BkD.go (H' := H4) (B' := B4) ⟨ea _ _ d3.ob, sa, d3.rk, d3.rl, ea _ _ d3.past, d3.few, d3.na, d3.np, d3.oa, d3.op⟩ g4)
  refine ⟨(by show 1 ≤ sizeLine; decide), fun lb nlb => ?_⟩
  have eb : Ex H4 (upd H4 lb (.lst [v4])) := Evl.Ex.new nlb
  refine ⟨la, lb, [x0], [v4], rfl, rfl, eb _ _ (g4.eh _ _ upd_same), upd_same, (by show 2 ≤ sizeLine; decide), fun lc nlc => ?_⟩
  have ec : Ex H4 (upd (upd H4 lb (.lst [v4])) lc (.lst ([x0] ++ [v4]))) := eb.trans (Evl.Ex.new nlc)
  have oc : (upd (upd H4 lb (.lst [v4])) lc (.lst ([x0] ++ [v4]))) lc = some (.lst ([x0] ++ [v4])) := upd_same
  generalize (upd (upd H4 lb (.lst [v4])) lc (.lst ([x0] ++ [v4]))) = H5 at ec oc
  refine ⟨.ref a, rfl, a, C, dx, _, .ref al, rfl, ec _ _ d4.ob, TB.cl, TB.nL, bkF_listed, .int 1, rfl, 1, rfl, al, [x0], rfl, ex_l (g4.eb.trans (d4.sub.trans ec)) hs, fun ld nld => ?_⟩
  rw [cut10]
  have ed : Ex H5 (upd H5 ld (.lst [])) := Evl.Ex.new nld
  refine ⟨lc, ld, [x0] ++ [v4], [], rfl, rfl, ed _ _ oc, upd_same, (by show 2 ≤ sizeLine; decide), fun L nL => ?_⟩
  have eL := (ec.trans ed).trans (Evl.Ex.new (o := .lst (([x0] ++ [v4]) ++ [])) nL)
  have oL : (upd (upd H5 ld (.lst [])) L (.lst (([x0] ++ [v4]) ++ []))) L = some (.lst [x0, v4]) := upd_same
  have nL4 : H4 L = none := Evl.fresh_back (ec.trans ed) nL
  generalize (upd (upd H5 ld (.lst [])) L (.lst (([x0] ++ [v4]) ++ []))) = H6 at eL oL
  have e06 : Ex H H6 := ((g13.eh.trans ea).trans g4.eh).trans eL
  have few := d.few
  refine ⟨a, dx, p, vk, .ref al, .ref L, us, rfl, eL _ _ d4.ob, eL _ _ d4.past, by have := pm_le [cl0 low]; omega, fun H7 ha hp fr => ?_⟩
  have aL : a ≠ L := ne_new (Evl.Ex.refl _) d4.ob nL4
  have pL : p ≠ L := ne_new (Evl.Ex.refl _) d4.past nL4
  have s7 : Ex (upd B4 L (.lst [x0, v4])) H7 := fun b o hbo => by
    by_cases z : b = L
    · subst z
      rw [upd_same] at hbo
      rw [← hbo]
      exact fr _ _ aL.symm pL.symm oL
    · rw [upd_ne z] at hbo
      refine fr _ _ (fun y => ?_) (fun y => ?_) (eL _ _ (d4.sub _ _ hbo))
      · rw [y, d4.na] at hbo
        cases hbo
      · rw [y, d4.np] at hbo
        cases hbo
  have x4 : Ex B4 (upd B4 L (.lst [x0, v4])) := Evl.Ex.new (sub_none d4.sub nL4)
  refine q H7 ⟨⟨dx, vk, .ref L, p, us ++ [.ref al], _, ⟨ha, s7, d4.rk.ex x4, .d (.lst (.inl (.inl upd_same)) (.cons (dp_ex (g4.eb.trans x4) _ _ h0) (.cons (dp_ex x4 _ _ (r4.dp rfl)) .nil))), hp, ?_, by rw [upd_ne aL]; exact d4.na, by rw [upd_ne pL]; exact d4.np, d.oa, d.op⟩⟩, extN_fr2 (hb.old.trans (.of e06)) d.oa d.op fr, tabs_fr2 (hb.tab.ext e06) (e06 _ _ d.ob) (e06 _ _ d.past) fr⟩
  rw [List.length_append]
  have h1 : us.length ≤ 0 := few
  show us.length + 1 ≤ 1
  omega
/-! ### drop -/
theorem sc_bdrop : FnScope ["self", "at", "clause"] ["self", "at"] (defScope s_bdrop) := ⟨rfl, rfl, rfl, by decide +kernel, rfl, by decide +kernel, by decide +kernel⟩
theorem ok_bdrop {g : Addr} {gd : FuncData} (F : Fun K "drop" "Book.drop" s_bdrop f fd) (M : Bl mg) (TB : KBk K C) (cp : CL P w K mg base 3 "check_position" Rw_check_position) (cc : CL P w K mg base 5 "copied" (Rw_copied 3))
    (mC : Meth K C "change" g) (GC : FnOk P w K mg base CX0 1 g gd ["self", "listed"] (spChange C)) (bC : Binds K gd ["self", "listed"] []) : FnOk P w K mg base CX0 6 f fd ["self", "at"] (spDrop K (BkS K C T)) := by
  refine F.ok sc_bdrop (by rintro vs H Q E ⟨_, _, _, rfl, _⟩; rfl) (fun cdv A0 outer s H vs Q E hr h => ?_)
  obtain ⟨a, low, H0, rfl, hb, l0, l8, q⟩ := h
  obtain ⟨dx, vk, vl, p, us, B, d⟩ := hb.ex
  have nd := sc_bdrop.nd
  refine ⟨_, pss_cons (ps_expr (pe_cl cp hr (by decide) (by rfl) (pa_cons (pe_callB call_lenR (by rfl) M.len PySem.boot_len (pa_cons (pe_fld (pv 0) rfl) pa_nil)) (pa_cons (pv 1) pa_nil))))
    (pss_cons (ps_set (i := 2) nd rfl (Or.inl rfl) (pe_cl cc hr (by decide) (by rfl) (pa_cons (pe_ix ix_list (pe_fld (pv 0) rfl) (pv 1) (fun _ _ => rfl)) pa_nil)))
    (pss_cons (ps_expr (pe_meth (pv 0) TB.cl mC GC (hr.mono (by decide)) bC .nil pass0 (pa_cons (pe_op op_cat (pe_slice sl_list (pe_fld (pv 0) rfl) po_none (po_some (pv 1))) (pe_slice sl_list (pe_fld (pv 0) rfl) (po_some (pe_op op_add (pv 1) pe_int)) po_none)) pa_nil)))
    (pss_one (ps_ret (pv 2))))), ?_⟩
  obtain ⟨al, x0, x1, rfl, hs, h0, h1⟩ := list2 d.rl
  refine ⟨.ref a, rfl, a, C, dx, _, .ref al, rfl, d.ob, TB.cl, TB.nL, bkF_listed, .ref al, 2, rfl, .inl ⟨_, ex_l d.sub hs, rfl⟩, .int 0, rfl, B, [.int 2, .int 0], .none, d.sub, .cons (.d (.int _)) (.cons (.d (.int _)) .nil), ⟨2, 0, rfl, by decide, by decide, rfl⟩, fun v2 B2 H2 g2 _ => ?_⟩
  have d2 := d.go g2
  refine ⟨.ref a, rfl, a, C, dx, _, .ref al, rfl, d2.ob, TB.cl, TB.nL, bkF_listed, .int 0, rfl, al, [x0, x1], 0, x0, rfl, rfl, ex_l (g2.eb.trans d2.sub) hs, rfl, ?_⟩
  refine ⟨B2, [clauseD (cl0 low)], clauseD (cl0 low), d2.sub, .cons (.d (dp_ex g2.eb _ _ h0)) .nil, ⟨_, rfl, cp_cl0.up, rfl⟩, fun v4 B4 H4 g4 r4 => ?_⟩
  have d4 := d2.go g4
  have g14 := g2.trans g4
  have hs := ex_l g14.eb hs
  have h1 := dp_ex g14.eb _ _ h1
  refine ⟨.ref a, rfl, a, dx, _, rfl, d4.ob, bkF_no (by decide +kernel) (by decide +kernel) (by decide +kernel) (by decide +kernel), ?_⟩
  refine ⟨.ref a, rfl, a, C, dx, _, .ref al, rfl, d4.ob, TB.cl, TB.nL, bkF_listed, .int 0, rfl, 0, rfl, al, [x0, x1], rfl, ex_l d4.sub hs, fun la nla => ?_⟩
  rw [cut00]
  have ea : Ex H4 (upd H4 la (.lst [])) := Evl.Ex.new nla
  have oa : (upd H4 la (.lst [])) la = some (.lst []) := upd_same
  generalize (upd H4 la (.lst [])) = H5 at ea oa
  refine ⟨.ref a, rfl, a, C, dx, _, .ref al, rfl, ea _ _ d4.ob, TB.cl, TB.nL, bkF_listed, .int 0, rfl, 0, 1, rfl, rfl, 0 + 1, rfl, al, [x0, x1], rfl, ex_l (d4.sub.trans ea) hs, fun lb nlb => ?_⟩
  rw [show (0 : Int) + 1 = 1 from rfl, cut1n]
  have eb : Ex H5 (upd H5 lb (.lst [x1])) := Evl.Ex.new nlb
  refine ⟨la, lb, [], [x1], rfl, rfl, eb _ _ oa, upd_same, (by show 1 ≤ sizeLine; decide), fun L nL => ?_⟩
  have eL := (ea.trans eb).trans (Evl.Ex.new (o := .lst ([] ++ [x1])) nL)
  have oL : (upd (upd H5 lb (.lst [x1])) L (.lst ([] ++ [x1]))) L = some (.lst [x1]) := upd_same
  have nL4 : H4 L = none := Evl.fresh_back (ea.trans eb) nL
  generalize (upd (upd H5 lb (.lst [x1])) L (.lst ([] ++ [x1]))) = H6 at eL oL
  have e06 : Ex H H6 := g14.eh.trans eL
  have few := d.few
  refine ⟨a, dx, p, vk, .ref al, .ref L, us, rfl, eL _ _ d4.ob, eL _ _ d4.past, by have := pm_le [cl0 low, cl1]; omega, fun H7 ha hp fr => ?_⟩
  refine ⟨v4, rfl, ?_⟩
  have aL : a ≠ L := ne_new (Evl.Ex.refl _) d4.ob nL4
  have pL : p ≠ L := ne_new (Evl.Ex.refl _) d4.past nL4
  have s7 : Ex (upd B4 L (.lst [x1])) H7 := fun b o hbo => by
    by_cases z : b = L
    · subst z
      rw [upd_same] at hbo
      rw [← hbo]
      exact fr _ _ aL.symm pL.symm oL
    · rw [upd_ne z] at hbo
      refine fr _ _ (fun y => ?_) (fun y => ?_) (eL _ _ (d4.sub _ _ hbo))
      · rw [y, d4.na] at hbo
        cases hbo
      · rw [y, d4.np] at hbo
        cases hbo
  have x4 : Ex B4 (upd B4 L (.lst [x1])) := Evl.Ex.new (sub_none d4.sub nL4)
  refine q v4 _ H7 s7 (r4.ex x4) ⟨⟨dx, vk, .ref L, p, us ++ [.ref al], _, ⟨ha, s7, d4.rk.ex x4, .d (.lst (.inl (.inl upd_same)) (.cons (dp_ex x4 _ _ h1) .nil)), hp, ?_, by rw [upd_ne aL]; exact d4.na, by rw [upd_ne pL]; exact d4.np, d.oa, d.op⟩⟩, extN_fr2 (hb.old.trans (.of e06)) d.oa d.op fr, tabs_fr2 (hb.tab.ext e06) (e06 _ _ d.ob) (e06 _ _ d.past) fr⟩
  rw [List.length_append]
  have h1 : us.length ≤ 1 := few
  have h2 : pm [cl1] = 2 := by decide +kernel
  rw [h2]
  show us.length + 1 ≤ 2
  omega
end
end KB
/-! The landed book: attempt. -/
namespace KB
open PySem PySem.Spec PyProof.Rows L2 FC FP LamX NdefX
open Evl (Ex)
section
variable {P : Program} {w : World} {K : PySem.W.Frag} {mg : Str → Option Value} {base : Heap} {f : Addr} {fd : FuncData} {C CT : Addr} {T : List NTab}
/-! ### attempt -/
theorem act_ok2 (cls : Cls K C) {k : Nat} (h : M0 P w K mg base k C "clauses" (spCls2 K C)) (f c' : Addr) : NOk P w K mg base CX0 (k + 1) f (mkAct c') ["same"] [] (fun _ => spCls2 K C) := by
  refine nok_of (N := ["same"]) (nscope_by (show nscB ["same"] ["same"] [] (C8.fnScope actSt) = true by decide +kernel)) (fun _ _ _ us hl => match us, hl with | [_], _ => rfl) (by rintro ws vs H Q E ⟨_, _, _, _, _, _, _, rfl, _⟩; rfl) (fun A outer s H vs ws Q E hr hf hc hw hs => ?_)
  obtain ⟨a, dx, p, vk, vl, cs, B, rfl, ha, sub, rl, hcp, q⟩ := hs
  cases ws with
  | cons _ _ => cases hw
  | nil =>
    refine ⟨_, pss_one (ps_ret (pe_m0w (pv 0) cls h hr (Nat.le_refl _))), ?_⟩
    exact ⟨_, rfl, a, dx, _, rfl, ha, bkF_no (by decide +kernel) (by decide +kernel) (by decide +kernel) (by decide +kernel), a, dx, p, vk, vl, cs, B, rfl, ha, sub, rl, hcp, q⟩
theorem pe_act2 {X : Cx} {sp2 : Sp} {k j i : Nat} {x : Str} {e : Expr} {t : TA} {p pos : Pos} (fn : ∀ f c', NOk X.prog X.w X.K X.mg X.base CX0 k f (mkAct c') ["same"] [] (fun _ => sp2)) (hr : Room j X.A) (hk : k ≤ j) (hN : X.N[i]? = some x) (hv : Vis X.env.scope x) (ha : PA X [e] t)
    (hd : (x == ("__debug__" : Str)) = false := by decide) (hcd : (x == ("__classdict__" : Str)) = false := by decide)
    (he : starEach [e] X.env = (false, eval e X.env) :: starEach [] X.env := by rfl) (hpl : (backTo pos (starEach [] X.env)).any (·.1) = false := by rfl) :
    PE X (.Call (.Name x p) [e] [] pos) (tCallN mkAct i [] (fun _ _ _ => sp2) E0 t) :=
  pe_calln (sp := fun _ _ _ => sp2) fn (fun _ => rfl) (fun _ => caps_nil) hr hk pass0 hN hv ha hd hcd he hpl
theorem sc_battempt : FnScope ["self", "action"] ["self", "action"] (defScope s_battempt) := ⟨rfl, rfl, rfl, by decide +kernel, rfl, by decide +kernel, by decide +kernel⟩
theorem ok_battempt {gT gE gX : Addr} {gdT gdE gdX : FuncData} (F : Fun K "attempt" "Book.attempt" s_battempt f fd) (TB : KBk K C) (h : M0 P w K mg base 6 C "clauses" (spCls2 K C))
    (mT : Meth K C "trial" gT) (GT : FnOk P w K mg base CX0 3 gT gdT ["self"] (spTrial CT)) (bT : Binds K gdT ["self"] [])
    (mE : Meth K CT "__enter__" gE) (GE : FnOk P w K mg base CX0 1 gE gdE ["self"] (spEnter C CT)) (bE : Binds K gdE ["self"] [])
    (mX : Meth K CT "__exit__" gX) (GX : FnOk P w K mg base CX0 1 gX gdX ["self", "kind", "value", "trace"] (spExit C CT)) (bX : Binds K gdX ["self", "kind", "value", "trace"] []) : FnOk P w K mg base CX0 8 f fd ["self", "action"] (spAtt K (BkS K C T) mkAct) := by
  refine F.ok sc_battempt (by rintro vs H Q E ⟨_, _, _, _, _, rfl, _⟩; rfl) (fun cdv A outer s H vs Q E hr h0 => ?_)
  obtain ⟨a, nf, c', low, H0, rfl, hb, l0, l8, hf, hc, q⟩ := h0
  obtain ⟨dx, vk, vl, p, us, B, d⟩ := hb.ex
  refine ⟨_, pss_one (ps_with (fun _ _ z => z) (pe_meth0 (pv 0) TB.cl mT GT (hr.mono (by decide)) bT .nil pass0) mE GE bE mX GX bX hr (by decide) (by decide) (pss_one (ps_ret (pe_act2 (i := 1) (fun f c' => act_ok2 TB.cl h f c') hr (by decide) rfl (Or.inl rfl) (pa_cons (pv 0) pa_nil))))), ?_⟩
  refine ⟨.ref a, rfl, a, dx, _, rfl, d.ob, bkF_no (by decide +kernel) (by decide +kernel) (by decide +kernel) (by decide +kernel), a, rfl, fun t dt H1 nt e1 ht => ?_⟩
  refine ⟨t, dt, _, rfl, ht, t, dt, a, dx, p, vk, vl, .non, .non, us, rfl, ht, e1 _ _ d.ob, e1 _ _ d.past, fun l H2 nl ht2 hl2 fr2 => ?_⟩
  have e02 : Ex H H2 := fun b o hbo => fr2 b o (fun z => by rw [z, nt] at hbo; cases hbo) (e1 _ _ hbo)
  refine ⟨nf, c', rfl, e02 _ _ hf, .ref a, rfl, e02 _ _ hf, e02 _ _ hc, a, dx, p, vk, vl, [cl0 low, cl1], B, rfl, e02 _ _ d.ob, d.sub.trans e02, d.rl, cp_l01, fun v B3 H3 g3 r3 => ?_⟩
  have nlH : H l = none := Evl.fresh_back e1 nl
  have nlB : B l = none := sub_none d.sub nlH
  refine ⟨t, dt, a, dx, p, l, vk, vl, vl, .non, .non, .non, rfl, g3.eh _ _ ht2, g3.eh _ _ (e02 _ _ d.ob), fun H4 ha fr => ?_⟩
  have al : a ≠ l := ne_new (Evl.Ex.refl _) d.ob nlH
  have na3 : B3 a = none := g3.fr _ _ (e02 _ _ d.ob) d.na
  have nl3 : B3 l = none := g3.fr _ _ hl2 nlB
  have s4 : Ex B3 H4 := fun b o hbo => fr _ _ (fun z => by rw [z, na3] at hbo; cases hbo) (g3.sub _ _ hbo)
  have e03 : Ex H H3 := e02.trans g3.eh
  refine q v B3 H4 s4 r3 ⟨⟨dx, vk, vl, l, us, B3, ⟨ha, s4, d.rk.ex g3.eb, d.rl.ex g3.eb, fr _ _ al.symm (g3.eh _ _ hl2), d.few, na3, nl3, d.oa, .new hb.old nlH⟩⟩, extN_fr2 (hb.old.trans (.of e03)) d.oa d.oa fun b o h1 _ hh => fr b o h1 hh, tabs_fr2 (hb.tab.ext e03) (e03 _ _ d.ob) (e03 _ _ d.past) fun b o h1 _ hh => fr b o h1 hh⟩
end
end KB
namespace KB
open PySem PySem.Spec PyProof.Rows L2 FC FP LamX NdefX
open Evl (Ex)
/-! ### the end -/
/-- where a def stands, as the top has left it -/
structure At (K : PySem.W.Frag) (x : Str) (st : Stmt) (f : Addr) : Prop where
  ex : ∃ (oc : Value) (od an : Option Addr) (sl : Array (Option Value)) (kV dc pm cd ct : Value), PySem.W.nsIn K mainGlobals x = some (some (.ref f)) ∧ K.lookup f = some ⟨oc, od, .func (PySem.W.fnOf x x (defArgs st) (defBody st) (defScope st) .none kV dc pm an cd ct), sl⟩ ∧ PySem.W.codeIn K cd x = true ∧ PySem.W.keepIn K (.ref f) = true
theorem At.mk' {K : PySem.W.Frag} {x : Str} {st : Stmt} {f : Addr} {oc : Value} {od an : Option Addr} {sl : Array (Option Value)} {kV dc pm cd ct : Value} (a : PySem.W.nsIn K mainGlobals x = some (some (.ref f))) (l : K.lookup f = some ⟨oc, od, .func (PySem.W.fnOf x x (defArgs st) (defBody st) (defScope st) .none kV dc pm an cd ct), sl⟩) (c : PySem.W.codeIn K cd x = true) (k : PySem.W.keepIn K (.ref f) = true) : At K x st f :=
  ⟨oc, od, an, sl, kV, dc, pm, cd, ct, a, l, c, k⟩
theorem At.fun {K : PySem.W.Frag} {x : Str} {st : Stmt} {f : Addr} (a : At K x st f) : ∃ fd, Fun K x x st f fd := by
  obtain ⟨oc, od, an, sl, kV, dc, pm, cd, ct, _, l, c, k⟩ := a.ex
  exact ⟨_, fun_mk l c k⟩
theorem At.mg {K : PySem.W.Frag} {x : Str} {st : Stmt} {f : Addr} (a : At K x st f) {h : Heap} {mg : Str → Option Value} (X : K.In h) (G : h.Ns mainGlobals mg) : mg x = some (.ref f) := by
  obtain ⟨oc, od, an, sl, kV, dc, pm, cd, ct, e, _⟩ := a.ex
  exact PySem.W.mg_of X G e
/-- where a method stands -/
structure AtM (K : PySem.W.Frag) (C : Addr) (m q : Str) (st : Stmt) (f : Addr) : Prop where
  ex : ∃ (oc : Value) (od an : Option Addr) (sl : Array (Option Value)) (kV dc pm cd ct : Value), PySem.W.findIn K (.ref C) m = some (some (.ref f)) ∧ PySem.W.isFn K (.ref f) = true ∧ K.lookup f = some ⟨oc, od, .func (PySem.W.fnOf m q (defArgs st) (defBody st) (defScope st) .none kV dc pm an cd ct), sl⟩ ∧ PySem.W.codeIn K cd q = true ∧ PySem.W.keepIn K (.ref f) = true
theorem AtM.mk' {K : PySem.W.Frag} {C : Addr} {m q : Str} {st : Stmt} {f : Addr} {oc : Value} {od an : Option Addr} {sl : Array (Option Value)} {kV dc pm cd ct : Value} (a : PySem.W.findIn K (.ref C) m = some (some (.ref f))) (i : PySem.W.isFn K (.ref f) = true) (l : K.lookup f = some ⟨oc, od, .func (PySem.W.fnOf m q (defArgs st) (defBody st) (defScope st) .none kV dc pm an cd ct), sl⟩) (c : PySem.W.codeIn K cd q = true) (k : PySem.W.keepIn K (.ref f) = true) : AtM K C m q st f :=
  ⟨oc, od, an, sl, kV, dc, pm, cd, ct, a, i, l, c, k⟩
theorem AtM.fun {K : PySem.W.Frag} {C : Addr} {m q : Str} {st : Stmt} {f : Addr} (a : AtM K C m q st f) : ∃ fd, Fun K m q st f fd := by
  obtain ⟨oc, od, an, sl, kV, dc, pm, cd, ct, _, _, l, c, k⟩ := a.ex
  exact ⟨_, fun_mk l c k⟩
theorem AtM.meth {K : PySem.W.Frag} {C : Addr} {m q : Str} {st : Stmt} {f : Addr} (a : AtM K C m q st f) : Meth K C m f := by
  obtain ⟨oc, od, an, sl, kV, dc, pm, cd, ct, a, i, l, c, k⟩ := a.ex
  exact ⟨a, i, k⟩
structure Top (K : PySem.W.Frag) (CB CT : Addr) : Prop where
  gB : PySem.W.nsIn K mainGlobals "Book" = some (some (.ref CB))
  pgB : PySem.W.plainGet K CB Str.empty = true
  hdB : PySem.W.hasDictIn K CB = true
  poB : PySem.W.plainOver K CB = true
  saB : PySem.W.findIn K (.ref CB) "__setattr__" = some (some (.builtin "object.__setattr__"))
  mkB : PySem.W.makesIn K CB = true
  kcB : PySem.W.keepIn K (.ref CB) = true
  nB_kinds : PySem.W.findIn K (.ref CB) "kinds" = some none
  nB_kind : PySem.W.findIn K (.ref CB) "kind" = some none
  nB_listed : PySem.W.findIn K (.ref CB) "listed" = some none
  nB_past : PySem.W.findIn K (.ref CB) "past" = some none
  gT : PySem.W.nsIn K mainGlobals "Trial" = some (some (.ref CT))
  pgT : PySem.W.plainGet K CT Str.empty = true
  hdT : PySem.W.hasDictIn K CT = true
  poT : PySem.W.plainOver K CT = true
  saT : PySem.W.findIn K (.ref CT) "__setattr__" = some (some (.builtin "object.__setattr__"))
  mkT : PySem.W.makesIn K CT = true
  kcT : PySem.W.keepIn K (.ref CT) = true
  nT_book : PySem.W.findIn K (.ref CT) "book" = some none
  nT_listed : PySem.W.findIn K (.ref CT) "listed" = some none
  nT_past : PySem.W.findIn K (.ref CT) "past" = some none
  mB__init__ : ∃ f, AtM K CB "__init__" "Book.__init__" s_binit f
  mBclauses : ∃ f, AtM K CB "clauses" "Book.clauses" s_bclauses f
  mB__len__ : ∃ f, AtM K CB "__len__" "Book.__len__" s_blen f
  mBlabel : ∃ f, AtM K CB "label" "Book.label" s_blabel f
  mBput : ∃ f, AtM K CB "put" "Book.put" s_bput f
  mBdrop : ∃ f, AtM K CB "drop" "Book.drop" s_bdrop f
  mBchange : ∃ f, AtM K CB "change" "Book.change" s_bchange f
  mBtrial : ∃ f, AtM K CB "trial" "Book.trial" s_btrial f
  mBattempt : ∃ f, AtM K CB "attempt" "Book.attempt" s_battempt f
  mT__init__ : ∃ f, AtM K CT "__init__" "Trial.__init__" s_tinit f
  mT__enter__ : ∃ f, AtM K CT "__enter__" "Trial.__enter__" s_tenter f
  mT__exit__ : ∃ f, AtM K CT "__exit__" "Trial.__exit__" s_texit f
  ais_whole : ∃ f, At K "is_whole" s_is_whole f
  ais_count : ∃ f, At K "is_count" s_is_count f
  ais_name : ∃ f, At K "is_name" s_is_name f
  ais_sound : ∃ f, At K "is_sound" s_is_sound f
  acopied : ∃ f, At K "copied" s_copied f
  ais_kind : ∃ f, At K "is_kind" s_is_kind f
  ais_kinds : ∃ f, At K "is_kinds" s_is_kinds f
  ais_form : ∃ f, At K "is_form" s_is_form f
  ais_bounds : ∃ f, At K "is_bounds" s_is_bounds f
  aall_have_values : ∃ f, At K "all_have_values" s_all_have_values f
  acan_be_built : ∃ f, At K "can_be_built" s_can_be_built f
  ais_pattern : ∃ f, At K "is_pattern" s_is_pattern f
  apatterns_within : ∃ f, At K "patterns_within" s_patterns_within f
  ais_range_pattern : ∃ f, At K "is_range_pattern" s_is_range_pattern f
  ais_bound : ∃ f, At K "is_bound" s_is_bound f
  apattern_fits : ∃ f, At K "pattern_fits" s_pattern_fits f
  ais_clause : ∃ f, At K "is_clause" s_is_clause f
  ais_clauses : ∃ f, At K "is_clauses" s_is_clauses f
  afirst_fitting : ∃ f, At K "first_fitting" s_first_fitting f
  avalues_within : ∃ f, At K "values_within" s_values_within f
  acheck_kind : ∃ f, At K "check_kind" s_check_kind f
  acheck_value : ∃ f, At K "check_value" s_check_value f
  acheck_clause : ∃ f, At K "check_clause" s_check_clause f
  acheck_clauses : ∃ f, At K "check_clauses" s_check_clauses f
  acheck_lists : ∃ f, At K "check_lists" s_check_lists f
  acheck_position : ∃ f, At K "check_position" s_check_position f
  a_law_purse : ∃ f, At K "_law_purse" s_purse f
  a_law_mixed : ∃ f, At K "_law_mixed" s_mixed f
  a_law_draw : ∃ f, At K "_law_draw" s_draw f
  a_law_purses : ∃ f, At K "_law_purses" s_purses f
  z_isinstance : PySem.W.nsIn K mainGlobals "isinstance" = some none
  z_len : PySem.W.nsIn K mainGlobals "len" = some none
  z_all : PySem.W.nsIn K mainGlobals "all" = some none
  z_int : PySem.W.nsIn K mainGlobals "int" = some none
  z_bool : PySem.W.nsIn K mainGlobals "bool" = some none
  z_str : PySem.W.nsIn K mainGlobals "str" = some none
  z_tuple : PySem.W.nsIn K mainGlobals "tuple" = some none
  z_list : PySem.W.nsIn K mainGlobals "list" = some none
  z_dict : PySem.W.nsIn K mainGlobals "dict" = some none
  z_enumerate : PySem.W.nsIn K mainGlobals "enumerate" = some none
  z_range : PySem.W.nsIn K mainGlobals "range" = some none
  z_max : PySem.W.nsIn K mainGlobals "max" = some none
  z_sum : PySem.W.nsIn K mainGlobals "sum" = some none
  z_min : PySem.W.nsIn K mainGlobals "min" = some none
section
variable {P : Program} {w : World} {K : PySem.W.Frag} {mg : Str → Option Value} {base : Heap}
theorem cl1' {x : Str} {st : Stmt} {f : Addr} {fd : FuncData} {ps : List Str} {k : Nat} {sp : Sp} (F : Fun K x x st f fd) (G : FnOk P w K mg base CX0 k f fd ps sp) (hm : mg x = some (.ref f)) (hb : ∀ (kV doc pm : Value) (an : Option Addr) (cdv ct : Value) (us : List Value), us.length = ps.length → bindArgs (PySem.W.fnOf x x (defArgs st) (defBody st) (defScope st) .none kV doc pm an cdv ct) ⟨us, []⟩ = pure (ps.zip us)) : Cl P w K mg base k x sp := ⟨f, fd, ps, G, hm, F.kp, F.binds hb⟩
theorem all_ok {CB CT f0 c Pt : Addr} (T : Top K CB CT) {h : Heap} (X : K.In h) (G : h.Ns mainGlobals mg) {fd : FuncData} (F : FunC K "law" "law" s_law f0 c fd) (TBs : TabB base mg c Pt) : FnOk P w K mg base CX0 13 f0 fd ["script"] (spLaw K Pt) := by
  obtain ⟨f_is_whole, a_is_whole⟩ := T.ais_whole
  obtain ⟨d_is_whole, F_is_whole⟩ := a_is_whole.fun
  have m_is_whole := a_is_whole.mg X G
  obtain ⟨f_is_count, a_is_count⟩ := T.ais_count
  obtain ⟨d_is_count, F_is_count⟩ := a_is_count.fun
  have m_is_count := a_is_count.mg X G
  obtain ⟨f_is_name, a_is_name⟩ := T.ais_name
  obtain ⟨d_is_name, F_is_name⟩ := a_is_name.fun
  have m_is_name := a_is_name.mg X G
  obtain ⟨f_is_sound, a_is_sound⟩ := T.ais_sound
  obtain ⟨d_is_sound, F_is_sound⟩ := a_is_sound.fun
  have m_is_sound := a_is_sound.mg X G
  obtain ⟨f_copied, a_copied⟩ := T.acopied
  obtain ⟨d_copied, F_copied⟩ := a_copied.fun
  have m_copied := a_copied.mg X G
  obtain ⟨f_is_kind, a_is_kind⟩ := T.ais_kind
  obtain ⟨d_is_kind, F_is_kind⟩ := a_is_kind.fun
  have m_is_kind := a_is_kind.mg X G
  obtain ⟨f_is_kinds, a_is_kinds⟩ := T.ais_kinds
  obtain ⟨d_is_kinds, F_is_kinds⟩ := a_is_kinds.fun
  have m_is_kinds := a_is_kinds.mg X G
  obtain ⟨f_is_form, a_is_form⟩ := T.ais_form
  obtain ⟨d_is_form, F_is_form⟩ := a_is_form.fun
  have m_is_form := a_is_form.mg X G
  obtain ⟨f_is_bounds, a_is_bounds⟩ := T.ais_bounds
  obtain ⟨d_is_bounds, F_is_bounds⟩ := a_is_bounds.fun
  have m_is_bounds := a_is_bounds.mg X G
  obtain ⟨f_all_have_values, a_all_have_values⟩ := T.aall_have_values
  obtain ⟨d_all_have_values, F_all_have_values⟩ := a_all_have_values.fun
  have m_all_have_values := a_all_have_values.mg X G
  obtain ⟨f_can_be_built, a_can_be_built⟩ := T.acan_be_built
  obtain ⟨d_can_be_built, F_can_be_built⟩ := a_can_be_built.fun
  have m_can_be_built := a_can_be_built.mg X G
  obtain ⟨f_is_pattern, a_is_pattern⟩ := T.ais_pattern
  obtain ⟨d_is_pattern, F_is_pattern⟩ := a_is_pattern.fun
  have m_is_pattern := a_is_pattern.mg X G
  obtain ⟨f_patterns_within, a_patterns_within⟩ := T.apatterns_within
  obtain ⟨d_patterns_within, F_patterns_within⟩ := a_patterns_within.fun
  have m_patterns_within := a_patterns_within.mg X G
  obtain ⟨f_is_range_pattern, a_is_range_pattern⟩ := T.ais_range_pattern
  obtain ⟨d_is_range_pattern, F_is_range_pattern⟩ := a_is_range_pattern.fun
  have m_is_range_pattern := a_is_range_pattern.mg X G
  obtain ⟨f_is_bound, a_is_bound⟩ := T.ais_bound
  obtain ⟨d_is_bound, F_is_bound⟩ := a_is_bound.fun
  have m_is_bound := a_is_bound.mg X G
  obtain ⟨f_pattern_fits, a_pattern_fits⟩ := T.apattern_fits
  obtain ⟨d_pattern_fits, F_pattern_fits⟩ := a_pattern_fits.fun
  have m_pattern_fits := a_pattern_fits.mg X G
  obtain ⟨f_is_clause, a_is_clause⟩ := T.ais_clause
  obtain ⟨d_is_clause, F_is_clause⟩ := a_is_clause.fun
  have m_is_clause := a_is_clause.mg X G
  obtain ⟨f_is_clauses, a_is_clauses⟩ := T.ais_clauses
  obtain ⟨d_is_clauses, F_is_clauses⟩ := a_is_clauses.fun
  have m_is_clauses := a_is_clauses.mg X G
  obtain ⟨f_first_fitting, a_first_fitting⟩ := T.afirst_fitting
  obtain ⟨d_first_fitting, F_first_fitting⟩ := a_first_fitting.fun
  have m_first_fitting := a_first_fitting.mg X G
  obtain ⟨f_values_within, a_values_within⟩ := T.avalues_within
  obtain ⟨d_values_within, F_values_within⟩ := a_values_within.fun
  have m_values_within := a_values_within.mg X G
  obtain ⟨f_check_kind, a_check_kind⟩ := T.acheck_kind
  obtain ⟨d_check_kind, F_check_kind⟩ := a_check_kind.fun
  have m_check_kind := a_check_kind.mg X G
  obtain ⟨f_check_value, a_check_value⟩ := T.acheck_value
  obtain ⟨d_check_value, F_check_value⟩ := a_check_value.fun
  have m_check_value := a_check_value.mg X G
  obtain ⟨f_check_clause, a_check_clause⟩ := T.acheck_clause
  obtain ⟨d_check_clause, F_check_clause⟩ := a_check_clause.fun
  have m_check_clause := a_check_clause.mg X G
  obtain ⟨f_check_clauses, a_check_clauses⟩ := T.acheck_clauses
  obtain ⟨d_check_clauses, F_check_clauses⟩ := a_check_clauses.fun
  have m_check_clauses := a_check_clauses.mg X G
  obtain ⟨f_check_lists, a_check_lists⟩ := T.acheck_lists
  obtain ⟨d_check_lists, F_check_lists⟩ := a_check_lists.fun
  have m_check_lists := a_check_lists.mg X G
  obtain ⟨f_check_position, a_check_position⟩ := T.acheck_position
  obtain ⟨d_check_position, F_check_position⟩ := a_check_position.fun
  have m_check_position := a_check_position.mg X G
  obtain ⟨f__law_purse, a__law_purse⟩ := T.a_law_purse
  obtain ⟨d__law_purse, F__law_purse⟩ := a__law_purse.fun
  have m__law_purse := a__law_purse.mg X G
  obtain ⟨f__law_mixed, a__law_mixed⟩ := T.a_law_mixed
  obtain ⟨d__law_mixed, F__law_mixed⟩ := a__law_mixed.fun
  have m__law_mixed := a__law_mixed.mg X G
  obtain ⟨f__law_draw, a__law_draw⟩ := T.a_law_draw
  obtain ⟨d__law_draw, F__law_draw⟩ := a__law_draw.fun
  have m__law_draw := a__law_draw.mg X G
  obtain ⟨f__law_purses, a__law_purses⟩ := T.a_law_purses
  obtain ⟨d__law_purses, F__law_purses⟩ := a__law_purses.fun
  have m__law_purses := a__law_purses.mg X G
  obtain ⟨f_B__init__, a_B__init__⟩ := T.mB__init__
  obtain ⟨d_B__init__, F_B__init__⟩ := a_B__init__.fun
  have m_B__init__ := a_B__init__.meth
  have b_B__init__ := F_B__init__.binds (ps := ["self", "kinds", "kind", "clauses"]) fun _ _ _ _ _ _ us hl => match us, hl with | [_, _, _, _], _ => rfl
  obtain ⟨f_Bclauses, a_Bclauses⟩ := T.mBclauses
  obtain ⟨d_Bclauses, F_Bclauses⟩ := a_Bclauses.fun
  have m_Bclauses := a_Bclauses.meth
  have b_Bclauses := F_Bclauses.binds (ps := ["self"]) fun _ _ _ _ _ _ us hl => match us, hl with | [_], _ => rfl
  obtain ⟨f_B__len__, a_B__len__⟩ := T.mB__len__
  obtain ⟨d_B__len__, F_B__len__⟩ := a_B__len__.fun
  have m_B__len__ := a_B__len__.meth
  have b_B__len__ := F_B__len__.binds (ps := ["self"]) fun _ _ _ _ _ _ us hl => match us, hl with | [_], _ => rfl
  obtain ⟨f_Blabel, a_Blabel⟩ := T.mBlabel
  obtain ⟨d_Blabel, F_Blabel⟩ := a_Blabel.fun
  have m_Blabel := a_Blabel.meth
  have b_Blabel := F_Blabel.binds (ps := ["self", "value"]) fun _ _ _ _ _ _ us hl => match us, hl with | [_, _], _ => rfl
  obtain ⟨f_Bput, a_Bput⟩ := T.mBput
  obtain ⟨d_Bput, F_Bput⟩ := a_Bput.fun
  have m_Bput := a_Bput.meth
  have b_Bput := F_Bput.binds (ps := ["self", "at", "clause"]) fun _ _ _ _ _ _ us hl => match us, hl with | [_, _, _], _ => rfl
  obtain ⟨f_Bdrop, a_Bdrop⟩ := T.mBdrop
  obtain ⟨d_Bdrop, F_Bdrop⟩ := a_Bdrop.fun
  have m_Bdrop := a_Bdrop.meth
  have b_Bdrop := F_Bdrop.binds (ps := ["self", "at"]) fun _ _ _ _ _ _ us hl => match us, hl with | [_, _], _ => rfl
  obtain ⟨f_Bchange, a_Bchange⟩ := T.mBchange
  obtain ⟨d_Bchange, F_Bchange⟩ := a_Bchange.fun
  have m_Bchange := a_Bchange.meth
  have b_Bchange := F_Bchange.binds (ps := ["self", "listed"]) fun _ _ _ _ _ _ us hl => match us, hl with | [_, _], _ => rfl
  obtain ⟨f_Btrial, a_Btrial⟩ := T.mBtrial
  obtain ⟨d_Btrial, F_Btrial⟩ := a_Btrial.fun
  have m_Btrial := a_Btrial.meth
  have b_Btrial := F_Btrial.binds (ps := ["self"]) fun _ _ _ _ _ _ us hl => match us, hl with | [_], _ => rfl
  obtain ⟨f_Battempt, a_Battempt⟩ := T.mBattempt
  obtain ⟨d_Battempt, F_Battempt⟩ := a_Battempt.fun
  have m_Battempt := a_Battempt.meth
  have b_Battempt := F_Battempt.binds (ps := ["self", "action"]) fun _ _ _ _ _ _ us hl => match us, hl with | [_, _], _ => rfl
  obtain ⟨f_T__init__, a_T__init__⟩ := T.mT__init__
  obtain ⟨d_T__init__, F_T__init__⟩ := a_T__init__.fun
  have m_T__init__ := a_T__init__.meth
  have b_T__init__ := F_T__init__.binds (ps := ["self", "book"]) fun _ _ _ _ _ _ us hl => match us, hl with | [_, _], _ => rfl
  obtain ⟨f_T__enter__, a_T__enter__⟩ := T.mT__enter__
  obtain ⟨d_T__enter__, F_T__enter__⟩ := a_T__enter__.fun
  have m_T__enter__ := a_T__enter__.meth
  have b_T__enter__ := F_T__enter__.binds (ps := ["self"]) fun _ _ _ _ _ _ us hl => match us, hl with | [_], _ => rfl
  obtain ⟨f_T__exit__, a_T__exit__⟩ := T.mT__exit__
  obtain ⟨d_T__exit__, F_T__exit__⟩ := a_T__exit__.fun
  have m_T__exit__ := a_T__exit__.meth
  have b_T__exit__ := F_T__exit__.binds (ps := ["self", "kind", "value", "trace"]) fun _ _ _ _ _ _ us hl => match us, hl with | [_, _, _, _], _ => rfl
  have M : Bl mg := ⟨PySem.W.mg_none_of X G T.z_isinstance, PySem.W.mg_none_of X G T.z_len, PySem.W.mg_none_of X G T.z_all, PySem.W.mg_none_of X G T.z_int, PySem.W.mg_none_of X G T.z_bool, PySem.W.mg_none_of X G T.z_str, PySem.W.mg_none_of X G T.z_tuple, PySem.W.mg_none_of X G T.z_list, PySem.W.mg_none_of X G T.z_dict, PySem.W.mg_none_of X G T.z_enumerate, PySem.W.mg_none_of X G T.z_range, PySem.W.mg_none_of X G T.z_max, PySem.W.mg_none_of X G T.z_sum⟩
  have hmin := PySem.W.mg_none_of X G T.z_min
  have TB : KBk K CB := ⟨⟨T.pgB, T.hdB, T.poB, T.saB⟩, T.nB_kinds, T.nB_kind, T.nB_listed, T.nB_past⟩
  have TT : KTr K CT := ⟨⟨T.pgT, T.hdT, T.poT, T.saT⟩, T.nT_book, T.nT_listed, T.nT_past⟩
  have mgB := PySem.W.mg_of X G T.gB
  have mgT := PySem.W.mg_of X G T.gT
  have MB : Mk K CB f_B__init__ := ⟨T.mkB, m_B__init__.at_, m_B__init__.fn, T.kcB⟩
  have MT : Mk K CT f_T__init__ := ⟨T.mkT, m_T__init__.at_, m_T__init__.fn, T.kcT⟩
  have c_is_whole := cl1' (P := P) (w := w) (base := base) F_is_whole (ok_is_whole F_is_whole M) m_is_whole (fun _ _ _ _ _ _ us hl => match us, hl with | [_], _ => rfl)
  have c_is_count := cl1' (P := P) (w := w) (base := base) F_is_count (ok_is_count F_is_count c_is_whole) m_is_count (fun _ _ _ _ _ _ us hl => match us, hl with | [_], _ => rfl)
  have c_is_name := cl1' (P := P) (w := w) (base := base) F_is_name (ok_is_name F_is_name M) m_is_name (fun _ _ _ _ _ _ us hl => match us, hl with | [_], _ => rfl)
  have c_is_kind := cl1' (P := P) (w := w) (base := base) F_is_kind (ok_is_kind F_is_kind M) m_is_kind (fun _ _ _ _ _ _ us hl => match us, hl with | [_, _], _ => rfl)
  have c_is_bounds := cl1' (P := P) (w := w) (base := base) F_is_bounds (ok_is_bounds F_is_bounds M c_is_whole) m_is_bounds (fun _ _ _ _ _ _ us hl => match us, hl with | [_, _], _ => rfl)
  have c_is_form := cl1' (P := P) (w := w) (base := base) F_is_form (ok_is_form F_is_form M c_is_bounds c_is_kind) m_is_form (fun _ _ _ _ _ _ us hl => match us, hl with | [_, _], _ => rfl)
  have c_can_be_built := cl1' (P := P) (w := w) (base := base) F_can_be_built (ok_can_be_built F_can_be_built M) m_can_be_built (fun _ _ _ _ _ _ us hl => match us, hl with | [_, _], _ => rfl)
  have c_all_have_values := cl1' (P := P) (w := w) (base := base) F_all_have_values (ok_all_have_values F_all_have_values M c_can_be_built) m_all_have_values (fun _ _ _ _ _ _ us hl => match us, hl with | [_], _ => rfl)
  have c_is_kinds := cl1' (P := P) (w := w) (base := base) F_is_kinds (ok_is_kinds F_is_kinds M c_is_name c_is_form c_all_have_values) m_is_kinds (fun _ _ _ _ _ _ us hl => match us, hl with | [_], _ => rfl)
  have c_is_sound := cl1' (P := P) (w := w) (base := base) F_is_sound (ok_is_sound (kk := 4) F_is_sound) m_is_sound (fun _ _ _ _ _ _ us hl => match us, hl with | [_, _, _, _], _ => rfl)
  have c_is_bound := cl1' (P := P) (w := w) (base := base) F_is_bound (ok_is_bound F_is_bound c_is_whole) m_is_bound (fun _ _ _ _ _ _ us hl => match us, hl with | [_], _ => rfl)
  have c_is_range_pattern := cl1' (P := P) (w := w) (base := base) F_is_range_pattern (ok_is_range_pattern F_is_range_pattern M c_is_bound) m_is_range_pattern (fun _ _ _ _ _ _ us hl => match us, hl with | [_], _ => rfl)
  have c_patterns_within := cl1' (P := P) (w := w) (base := base) F_patterns_within (ok_patterns_within F_patterns_within M c_is_range_pattern) m_patterns_within (fun _ _ _ _ _ _ us hl => match us, hl with | [_, _, _], _ => rfl)
  have c_is_pattern := cl1' (P := P) (w := w) (base := base) F_is_pattern (ok_is_pattern F_is_pattern c_is_sound c_patterns_within) m_is_pattern (fun _ _ _ _ _ _ us hl => match us, hl with | [_, _, _], _ => rfl)
  have c_pattern_fits := cl1' (P := P) (w := w) (base := base) F_pattern_fits (ok_pattern_fits F_pattern_fits) m_pattern_fits (fun _ _ _ _ _ _ us hl => match us, hl with | [_, _], _ => rfl)
  have c_is_clause := cl1' (P := P) (w := w) (base := base) F_is_clause (ok_is_clause F_is_clause M c_is_pattern c_is_name) m_is_clause (fun _ _ _ _ _ _ us hl => match us, hl with | [_, _, _], _ => rfl)
  have c_is_clauses := cl1' (P := P) (w := w) (base := base) F_is_clauses (ok_is_clauses F_is_clauses M c_is_clause) m_is_clauses (fun _ _ _ _ _ _ us hl => match us, hl with | [_, _, _], _ => rfl)
  have c_first_fitting := cl1' (P := P) (w := w) (base := base) F_first_fitting (ok_first_fitting F_first_fitting M c_pattern_fits) m_first_fitting (fun _ _ _ _ _ _ us hl => match us, hl with | [_, _], _ => rfl)
  have c_values_within := cl1' (P := P) (w := w) (base := base) F_values_within ((ok_values_within F_values_within M c_is_whole).mono (show 2 ≤ 4 by decide)) m_values_within (fun _ _ _ _ _ _ us hl => match us, hl with | [_, _, _], _ => rfl)
  have c_check_kind := cl1' (P := P) (w := w) (base := base) F_check_kind (ok_check_kind F_check_kind c_is_kinds c_is_kind) m_check_kind (fun _ _ _ _ _ _ us hl => match us, hl with | [_, _], _ => rfl)
  have c_check_value := cl1' (P := P) (w := w) (base := base) F_check_value (ok_check_value F_check_value c_is_sound c_values_within) m_check_value (fun _ _ _ _ _ _ us hl => match us, hl with | [_, _, _], _ => rfl)
  have c_check_clause := cl1' (P := P) (w := w) (base := base) F_check_clause (ok_check_clause F_check_clause c_is_clause) m_check_clause (fun _ _ _ _ _ _ us hl => match us, hl with | [_, _, _], _ => rfl)
  have c_check_clauses := cl1' (P := P) (w := w) (base := base) F_check_clauses (ok_check_clauses F_check_clauses c_is_clauses) m_check_clauses (fun _ _ _ _ _ _ us hl => match us, hl with | [_, _, _], _ => rfl)
  have c_check_lists := cl1' (P := P) (w := w) (base := base) F_check_lists (ok_check_lists F_check_lists c_check_kind c_check_clauses) m_check_lists (fun _ _ _ _ _ _ us hl => match us, hl with | [_, _, _], _ => rfl)
  have c_check_position := cl1' (P := P) (w := w) (base := base) F_check_position (ok_check_position F_check_position c_is_count) m_check_position (fun _ _ _ _ _ _ us hl => match us, hl with | [_, _], _ => rfl)
  have Gcp := ok_copied (P := P) (w := w) (base := base) F_copied M m_copied
  have c_cp1 := cl1' (P := P) (w := w) (base := base) F_copied (Gcp 1) m_copied (fun _ _ _ _ _ _ us hl => match us, hl with | [_], _ => rfl)
  have c_cp3 := cl1' (P := P) (w := w) (base := base) F_copied (Gcp 3) m_copied (fun _ _ _ _ _ _ us hl => match us, hl with | [_], _ => rfl)
  have c_cpD := cl1' (P := P) (w := w) (base := base) F_copied (ok_copiedD (n := 1) F_copied M c_cp1) m_copied (fun _ _ _ _ _ _ us hl => match us, hl with | [_], _ => rfl)
  have G_change := ok_bchange (P := P) (w := w) (mg := mg) (base := base) F_Bchange TB
  have G_tinit := ok_tinit (P := P) (w := w) (mg := mg) (base := base) F_T__init__ TT
  have G_enter := ok_tenter (P := P) (w := w) (mg := mg) (base := base) F_T__enter__ M TB TT
  have G_exit := ok_texit (P := P) (w := w) (mg := mg) (base := base) F_T__exit__ TB TT
  have G_trial := ok_btrial (P := P) (w := w) (mg := mg) (base := base) F_Btrial MT G_tinit b_T__init__ mgT
  have G_init := ok_binit (P := P) (w := w) (mg := mg) (base := base) (T := tabs Pt) F_B__init__ TB c_check_lists c_cpD c_cp3
  have G_label := ok_blabel (P := P) (w := w) (mg := mg) (base := base) (T := tabs Pt) F_Blabel TB c_check_value c_first_fitting
  have G_cls := ok_bclauses (P := P) (w := w) (mg := mg) (base := base) F_Bclauses TB c_cp3
  have G_len := ok_blen (P := P) (w := w) (mg := mg) (base := base) (T := tabs Pt) F_B__len__ M TB
  have G_put := ok_bput (P := P) (w := w) (mg := mg) (base := base) (T := tabs Pt) F_Bput M TB c_check_position c_check_clause c_cp3 m_Bchange G_change b_Bchange
  have G_drop := ok_bdrop (P := P) (w := w) (mg := mg) (base := base) (T := tabs Pt) F_Bdrop M TB c_check_position c_cp3 m_Bchange G_change b_Bchange
  have G_att := ok_battempt (P := P) (w := w) (mg := mg) (base := base) (T := tabs Pt) F_Battempt TB ⟨f_Bclauses, d_Bclauses, _, m_Bclauses, G_cls, b_Bclauses⟩ m_Btrial G_trial b_Btrial m_T__enter__ G_enter b_T__enter__ m_T__exit__ G_exit b_T__exit__
  have BO : BookOk P w K mg base 11 CB (tabs Pt) (BkS K CB (tabs Pt)) := {
    cls := TB.cl
    ok := bkS_ok
    make := ⟨f_B__init__, d_B__init__, _, gMk, MB, mgB, G_init, (kbn_of F_B__init__ (fun _ _ _ _ _ _ us ws h1 h2 => match us, ws, h1, h2 with | [_], [_, _, _], _, _ => rfl) rel_mk)⟩
    label := ⟨f_Blabel, d_Blabel, _, gApp, m_Blabel, G_label.mono (by decide), (kbn_of F_Blabel (fun _ _ _ _ _ _ us ws h1 h2 => match us, ws, h1, h2 with | [_], [_], _, _ => rfl) rel_app)⟩
    put := ⟨f_Bput, d_Bput, _, gPut, m_Bput, G_put.mono (by decide), (kbn_of F_Bput (fun _ _ _ _ _ _ us ws h1 h2 => match us, ws, h1, h2 with | [_], [_, _], _, _ => rfl) rel_put)⟩
    len := ⟨f_B__len__, d_B__len__, _, m_B__len__, G_len.mono (by decide), b_B__len__⟩
    att := ⟨f_Battempt, d_Battempt, _, gApp, m_Battempt, G_att.mono (by decide), (kbn_of F_Battempt (fun _ _ _ _ _ _ us ws h1 h2 => match us, ws, h1, h2 with | [_], [_], _, _ => rfl) rel_app)⟩
    drop := ⟨f_Bdrop, d_Bdrop, _, gApp, m_Bdrop, G_drop.mono (by decide), (kbn_of F_Bdrop (fun _ _ _ _ _ _ us ws h1 h2 => match us, ws, h1, h2 with | [_], [_], _, _ => rfl) rel_app)⟩
    clauses := ⟨f_Bclauses, d_Bclauses, _, m_Bclauses, (fn_imp G_cls cls_imp).mono (by decide), b_Bclauses⟩ }
  have c__law_purse := cl1' (P := P) (w := w) (base := base) F__law_purse (ok_purse F__law_purse M) m__law_purse (fun _ _ _ _ _ _ us hl => match us, hl with | [_, _], _ => rfl)
  have c__law_mixed := cl1' (P := P) (w := w) (base := base) F__law_mixed (ok_mixed F__law_mixed) m__law_mixed (fun _ _ _ _ _ _ us hl => match us, hl with | [_, _, _], _ => rfl)
  have c__law_draw := cl1' (P := P) (w := w) (base := base) F__law_draw (ok_draw F__law_draw M c__law_mixed) m__law_draw (fun _ _ _ _ _ _ us hl => match us, hl with | [_, _], _ => rfl)
  have c__law_purses := cl1' (P := P) (w := w) (base := base) F__law_purses (ok_purses F__law_purses M hmin c__law_purse) m__law_purses (fun _ _ _ _ _ _ us hl => match us, hl with | [_, _], _ => rfl)
  exact ok_law F M TBs c__law_purses c__law_draw BO (by decide)
end
end KB
open PySem PySem.W PyProof.Rows
set_option maxRecDepth 100000 in
set_option maxHeartbeats 0 in
theorem PySem.Challenge.cw_firstclause_k95_books_by_name_holds : PySem.Challenge.rw_firstclause_k95_books_by_name.Holds := by
  w_on; o_law; k_head; (case hw => w_witness2)
  k_fill
  refine LamX.walk_ofOwn (l := PySem.Challenge.rw_firstclause_k95_books_by_name) (n := 63) (k := 13) (x := "script") (CX := fun _ => L2.CX0) rfl (by decide) rfl ⟨rfl, by decide, by decide⟩ ?hrec (fun w h Y => PySem.W.km_in_of Y) ?F (fun _ _ _ _ _ h => h)
  case hrec => kernel_rfl
  case F =>
    intro w mg fa h Y KX G hmg own
    refine' KB.law_top (f0 := _) (c := _) (Pt := _) ?hn (KB.OwnCode.mk' ?o1 ?o2 ?o3 ?o4 ?o5 ?o6 ?o7 ?o8 ?o9 ?o10) KX G hmg own fun fd base Fc B N TB => ?f
    (case hn => k_is); (case o1 => k_is); (case o2 => k_is); (case o3 => k_is); (case o4 => rfl); (case o5 => rfl); (case o6 => rfl); (case o7 => rfl); (case o8 => rfl); (case o9 => kernel_rfl); (case o10 => kernel_rfl)
    case f =>
      refine' KB.all_ok (CB := _) (CT := _) ?T KX G Fc TB
      case T =>
        refine' ⟨?gB, ?pgB, ?hdB, ?poB, ?saB, ?mkB, ?kcB, ?nB_kinds, ?nB_kind, ?nB_listed, ?nB_past, ?gT, ?pgT, ?hdT, ?poT, ?saT, ?mkT, ?kcT, ?nT_book, ?nT_listed, ?nT_past, ⟨_, KB.AtM.mk' ?ma0 ?mi0 ?ml0 ?mc0 ?mk0⟩, ⟨_, KB.AtM.mk' ?ma1 ?mi1 ?ml1 ?mc1 ?mk1⟩, ⟨_, KB.AtM.mk' ?ma2 ?mi2 ?ml2 ?mc2 ?mk2⟩, ⟨_, KB.AtM.mk' ?ma3 ?mi3 ?ml3 ?mc3 ?mk3⟩, ⟨_, KB.AtM.mk' ?ma4 ?mi4 ?ml4 ?mc4 ?mk4⟩, ⟨_, KB.AtM.mk' ?ma5 ?mi5 ?ml5 ?mc5 ?mk5⟩, ⟨_, KB.AtM.mk' ?ma6 ?mi6 ?ml6 ?mc6 ?mk6⟩, ⟨_, KB.AtM.mk' ?ma7 ?mi7 ?ml7 ?mc7 ?mk7⟩, ⟨_, KB.AtM.mk' ?ma8 ?mi8 ?ml8 ?mc8 ?mk8⟩, ⟨_, KB.AtM.mk' ?ma9 ?mi9 ?ml9 ?mc9 ?mk9⟩, ⟨_, KB.AtM.mk' ?ma10 ?mi10 ?ml10 ?mc10 ?mk10⟩, ⟨_, KB.AtM.mk' ?ma11 ?mi11 ?ml11 ?mc11 ?mk11⟩, ⟨_, KB.At.mk' ?a0 ?l0 ?c0 ?k0⟩, ⟨_, KB.At.mk' ?a1 ?l1 ?c1 ?k1⟩, ⟨_, KB.At.mk' ?a2 ?l2 ?c2 ?k2⟩, ⟨_, KB.At.mk' ?a3 ?l3 ?c3 ?k3⟩, ⟨_, KB.At.mk' ?a4 ?l4 ?c4 ?k4⟩, ⟨_, KB.At.mk' ?a5 ?l5 ?c5 ?k5⟩, ⟨_, KB.At.mk' ?a6 ?l6 ?c6 ?k6⟩, ⟨_, KB.At.mk' ?a7 ?l7 ?c7 ?k7⟩, ⟨_, KB.At.mk' ?a8 ?l8 ?c8 ?k8⟩, ⟨_, KB.At.mk' ?a9 ?l9 ?c9 ?k9⟩, ⟨_, KB.At.mk' ?a10 ?l10 ?c10 ?k10⟩, ⟨_, KB.At.mk' ?a11 ?l11 ?c11 ?k11⟩, ⟨_, KB.At.mk' ?a12 ?l12 ?c12 ?k12⟩, ⟨_, KB.At.mk' ?a13 ?l13 ?c13 ?k13⟩, ⟨_, KB.At.mk' ?a14 ?l14 ?c14 ?k14⟩, ⟨_, KB.At.mk' ?a15 ?l15 ?c15 ?k15⟩, ⟨_, KB.At.mk' ?a16 ?l16 ?c16 ?k16⟩, ⟨_, KB.At.mk' ?a17 ?l17 ?c17 ?k17⟩, ⟨_, KB.At.mk' ?a18 ?l18 ?c18 ?k18⟩, ⟨_, KB.At.mk' ?a19 ?l19 ?c19 ?k19⟩, ⟨_, KB.At.mk' ?a20 ?l20 ?c20 ?k20⟩, ⟨_, KB.At.mk' ?a21 ?l21 ?c21 ?k21⟩, ⟨_, KB.At.mk' ?a22 ?l22 ?c22 ?k22⟩, ⟨_, KB.At.mk' ?a23 ?l23 ?c23 ?k23⟩, ⟨_, KB.At.mk' ?a24 ?l24 ?c24 ?k24⟩, ⟨_, KB.At.mk' ?a25 ?l25 ?c25 ?k25⟩, ⟨_, KB.At.mk' ?a26 ?l26 ?c26 ?k26⟩, ⟨_, KB.At.mk' ?a27 ?l27 ?c27 ?k27⟩, ⟨_, KB.At.mk' ?a28 ?l28 ?c28 ?k28⟩, ⟨_, KB.At.mk' ?a29 ?l29 ?c29 ?k29⟩, ?z_isinstance, ?z_len, ?z_all, ?z_int, ?z_bool, ?z_str, ?z_tuple, ?z_list, ?z_dict, ?z_enumerate, ?z_range, ?z_max, ?z_sum, ?z_min⟩
        (case gB => k_is)
        (case pgB => k_is)
        (case hdB => k_is)
        (case poB => k_is)
        (case saB => k_is)
        (case mkB => k_is)
        (case kcB => k_is)
        (case nB_kinds => k_is)
        (case nB_kind => k_is)
        (case nB_listed => k_is)
        (case nB_past => k_is)
        (case gT => k_is)
        (case pgT => k_is)
        (case hdT => k_is)
        (case poT => k_is)
        (case saT => k_is)
        (case mkT => k_is)
        (case kcT => k_is)
        (case nT_book => k_is)
        (case nT_listed => k_is)
        (case nT_past => k_is)
        (case ma0 => k_is); (case mi0 => k_is); (case ml0 => k_is); (case mc0 => k_is); (case mk0 => k_is)
        (case ma1 => k_is); (case mi1 => k_is); (case ml1 => k_is); (case mc1 => k_is); (case mk1 => k_is)
        (case ma2 => k_is); (case mi2 => k_is); (case ml2 => k_is); (case mc2 => k_is); (case mk2 => k_is)
        (case ma3 => k_is); (case mi3 => k_is); (case ml3 => k_is); (case mc3 => k_is); (case mk3 => k_is)
        (case ma4 => k_is); (case mi4 => k_is); (case ml4 => k_is); (case mc4 => k_is); (case mk4 => k_is)
        (case ma5 => k_is); (case mi5 => k_is); (case ml5 => k_is); (case mc5 => k_is); (case mk5 => k_is)
        (case ma6 => k_is); (case mi6 => k_is); (case ml6 => k_is); (case mc6 => k_is); (case mk6 => k_is)
        (case ma7 => k_is); (case mi7 => k_is); (case ml7 => k_is); (case mc7 => k_is); (case mk7 => k_is)
        (case ma8 => k_is); (case mi8 => k_is); (case ml8 => k_is); (case mc8 => k_is); (case mk8 => k_is)
        (case ma9 => k_is); (case mi9 => k_is); (case ml9 => k_is); (case mc9 => k_is); (case mk9 => k_is)
        (case ma10 => k_is); (case mi10 => k_is); (case ml10 => k_is); (case mc10 => k_is); (case mk10 => k_is)
        (case ma11 => k_is); (case mi11 => k_is); (case ml11 => k_is); (case mc11 => k_is); (case mk11 => k_is)
        (case a0 => k_is); (case l0 => k_is); (case c0 => k_is); (case k0 => k_is)
        (case a1 => k_is); (case l1 => k_is); (case c1 => k_is); (case k1 => k_is)
        (case a2 => k_is); (case l2 => k_is); (case c2 => k_is); (case k2 => k_is)
        (case a3 => k_is); (case l3 => k_is); (case c3 => k_is); (case k3 => k_is)
        (case a4 => k_is); (case l4 => k_is); (case c4 => k_is); (case k4 => k_is)
        (case a5 => k_is); (case l5 => k_is); (case c5 => k_is); (case k5 => k_is)
        (case a6 => k_is); (case l6 => k_is); (case c6 => k_is); (case k6 => k_is)
        (case a7 => k_is); (case l7 => k_is); (case c7 => k_is); (case k7 => k_is)
        (case a8 => k_is); (case l8 => k_is); (case c8 => k_is); (case k8 => k_is)
        (case a9 => k_is); (case l9 => k_is); (case c9 => k_is); (case k9 => k_is)
        (case a10 => k_is); (case l10 => k_is); (case c10 => k_is); (case k10 => k_is)
        (case a11 => k_is); (case l11 => k_is); (case c11 => k_is); (case k11 => k_is)
        (case a12 => k_is); (case l12 => k_is); (case c12 => k_is); (case k12 => k_is)
        (case a13 => k_is); (case l13 => k_is); (case c13 => k_is); (case k13 => k_is)
        (case a14 => k_is); (case l14 => k_is); (case c14 => k_is); (case k14 => k_is)
        (case a15 => k_is); (case l15 => k_is); (case c15 => k_is); (case k15 => k_is)
        (case a16 => k_is); (case l16 => k_is); (case c16 => k_is); (case k16 => k_is)
        (case a17 => k_is); (case l17 => k_is); (case c17 => k_is); (case k17 => k_is)
        (case a18 => k_is); (case l18 => k_is); (case c18 => k_is); (case k18 => k_is)
        (case a19 => k_is); (case l19 => k_is); (case c19 => k_is); (case k19 => k_is)
        (case a20 => k_is); (case l20 => k_is); (case c20 => k_is); (case k20 => k_is)
        (case a21 => k_is); (case l21 => k_is); (case c21 => k_is); (case k21 => k_is)
        (case a22 => k_is); (case l22 => k_is); (case c22 => k_is); (case k22 => k_is)
        (case a23 => k_is); (case l23 => k_is); (case c23 => k_is); (case k23 => k_is)
        (case a24 => k_is); (case l24 => k_is); (case c24 => k_is); (case k24 => k_is)
        (case a25 => k_is); (case l25 => k_is); (case c25 => k_is); (case k25 => k_is)
        (case a26 => k_is); (case l26 => k_is); (case c26 => k_is); (case k26 => k_is)
        (case a27 => k_is); (case l27 => k_is); (case c27 => k_is); (case k27 => k_is)
        (case a28 => k_is); (case l28 => k_is); (case c28 => k_is); (case k28 => k_is)
        (case a29 => k_is); (case l29 => k_is); (case c29 => k_is); (case k29 => k_is)
        (case z_isinstance => k_is)
        (case z_len => k_is)
        (case z_all => k_is)
        (case z_int => k_is)
        (case z_bool => k_is)
        (case z_str => k_is)
        (case z_tuple => k_is)
        (case z_list => k_is)
        (case z_dict => k_is)
        (case z_enumerate => k_is)
        (case z_range => k_is)
        (case z_max => k_is)
        (case z_sum => k_is)
        (case z_min => k_is)
