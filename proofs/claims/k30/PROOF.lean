import PyProof.Rows.All
import Wide.All
import OpenK.AllK
import Wide.FinOn
import HandS.ForMost
import HandS.IsInst
import HandS.SortInts
import HandS.AnyAll
import HandS.Walk
import HandS.TupAny
import HandS.Deep
import HandS.GenList
import HandS.Nested
import HandS.Defaults
import HandS.Wide
import HandS.WideBits
import HandS.Style
import HandS.Text
import HandS.SetFor
import HandS.Strs
import HandS.Set
import KE.KDictZip
import PyProof.ListNew
import PyProof.ZipIter
import PyProof.Rows.ZipForRows
import HandS.TupSets
import HandS.HeadHook4
import HandS.EndTab
import HandS.EndOwn
import HandS.Head2
import HandS.HeadEnd
import PyProof.ReprBulk
import KE.KStateDown
import HandS.Head0
import HandS.Head1
import HandS.HeadHook1
import HandS.HeadHook2
import HandS.HeadHook3
import PySem.Challenge.RW_webnames_k30_any_value_as_colouring
section
set_option Elab.async false
set_option linter.all false
set_option maxRecDepth 100000
set_option maxHeartbeats 1000000
/-! Values without a heap: what a slot owns, what is frozen, what a step may touch. -/
namespace Vi
open PySem PySem.Spec PyProof.Rows L2

abbrev D := PyData
/-- an object that stays, or a table of code objects that has grown -/
def Lq (o u : HO) : Prop := u = o ∨ ∃ ps qs, o = .tbl ps ∧ u = .tbl qs ∧ (TriplesOk ps.toList → TriplesOk qs.toList)
theorem Lq.rfl {o : HO} : Lq o o := .inl (Eq.refl o)
theorem Lq.trans {a b c : HO} (h : Lq a b) (g : Lq b c) : Lq a c := by
  rcases h with h | ⟨p, q, h1, h2, h3⟩
  · subst h; exact g
  · rcases g with g | ⟨p', q', g1, g2, g3⟩
    · subst g; exact .inr ⟨p, q, h1, h2, h3⟩
    · subst h2; cases g1
      exact .inr ⟨p, q', h1, g2, fun z => g3 (h3 z)⟩
theorem Lq.lst {xs : List V} {u : HO} (h : Lq (.lst xs) u) : u = .lst xs := by
  rcases h with h | ⟨p, q, h1, _⟩
  · exact h
  · cases h1
theorem Lq.tup {xs : List V} {u : HO} (h : Lq (.tup xs) u) : u = .tup xs := by
  rcases h with h | ⟨p, q, h1, _⟩
  · exact h
  · cases h1
theorem Lq.frz {o : Obj} {x u : HO} (h : Lq (.frz o x) u) : u = .frz o x := by
  rcases h with h | ⟨p, q, h1, _⟩
  · exact h
  · cases h1
def Kp (H G : Hp) : Prop := ∀ a o, H a = some o → ∃ u, G a = some u ∧ Lq o u
theorem Kp.rfl {H : Hp} : Kp H H := fun _ o h => ⟨o, h, .rfl⟩
theorem Kp.trans {A B C : Hp} (h : Kp A B) (g : Kp B C) : Kp A C := fun a o e => by
  obtain ⟨u, e1, l1⟩ := h a o e
  obtain ⟨v, e2, l2⟩ := g a u e1
  exact ⟨v, e2, l1.trans l2⟩
theorem Kp.lst {H G : Hp} (h : Kp H G) {a : Addr} {xs : List V} (e : H a = some (.lst xs)) : G a = some (.lst xs) := by
  obtain ⟨u, e1, l⟩ := h a _ e
  rw [l.lst] at e1; exact e1
theorem Kp.tup {H G : Hp} (h : Kp H G) {a : Addr} {xs : List V} (e : H a = some (.tup xs)) : G a = some (.tup xs) := by
  obtain ⟨u, e1, l⟩ := h a _ e
  rw [l.tup] at e1; exact e1
theorem Kp.frz {H G : Hp} (h : Kp H G) {a : Addr} {o : Obj} {x : HO} (e : H a = some (.frz o x)) : G a = some (.frz o x) := by
  obtain ⟨u, e1, l⟩ := h a _ e
  rw [l.frz] at e1; exact e1
theorem Kp.free {H G : Hp} (h : Kp H G) {a : Addr} (e : G a = none) : H a = none := by
  cases q : H a with
  | none => exact Eq.refl _
  | some o =>
    obtain ⟨u, e1, _⟩ := h a o q
    rw [e] at e1; cases e1
theorem Kp.new {H : Hp} {p : Addr} {o : HO} (h : H p = none) : Kp H (upd H p o) := fun a u e => by
  rw [upd_ne (ne_of_none e h)]; exact ⟨u, e, .rfl⟩
theorem Kp.tab {H G : Hp} (h : Kp H G) {P : Addr} (t : GxR.TabG H P) : GxR.TabG G P := by
  obtain ⟨ps, e, tr⟩ := t
  obtain ⟨u, e1, l⟩ := h P _ e
  rcases l with l | ⟨p, q, h1, h2, h3⟩
  · subst l; exact ⟨ps, e1, tr⟩
  · cases h1; subst h2; exact ⟨q, e1, h3 tr⟩
theorem Kp.sqL {K : PySem.W.Frag} {H G : Hp} {a : Addr} {xs : List V} (h : Kp H G) (s : SqL K H a xs) : SqL K G a xs := by
  rcases s with (s | ⟨o, s⟩) | s
  · exact .inl (.inl (h.lst s))
  · exact .inl (.inr ⟨o, h.frz s⟩)
  · exact .inr s
theorem Kp.sqT {K : PySem.W.Frag} {H G : Hp} {a : Addr} {xs : List V} (h : Kp H G) (s : SqT K H a xs) : SqT K G a xs := by
  rcases s with (s | ⟨o, s⟩) | s
  · exact .inl (.inl (h.tup s))
  · exact .inl (.inr ⟨o, h.frz s⟩)
  · exact .inr s
mutual
theorem dp_mono {K : PySem.W.Frag} {H G : Hp} (h : Kp H G) : ∀ {v : V} {d : D}, Dp K H v d → Dp K G v d
  | _, _, .non => .non
  | _, _, .bl b => .bl b
  | _, _, .int i => .int i
  | _, _, .str x => .str x
  | _, _, .lst s a => .lst (h.sqL s) (dpa_mono h a)
  | _, _, .tup s a => .tup (h.sqT s) (dpa_mono h a)
theorem dpa_mono {K : PySem.W.Frag} {H G : Hp} (h : Kp H G) : ∀ {vs : List V} {ds : List D}, DpAll K H vs ds → DpAll K G vs ds
  | _, _, .nil => .nil
  | _, _, .cons a b => .cons (dp_mono h a) (dpa_mono h b)
end
theorem dpa_len {K : PySem.W.Frag} {H : Hp} : ∀ {vs : List V} {ds : List D}, DpAll K H vs ds → vs.length = ds.length
  | _, _, .nil => rfl
  | _, _, .cons _ b => by rw [List.length_cons, List.length_cons, dpa_len b]
theorem dpa_get {K : PySem.W.Frag} {H : Hp} : ∀ {vs : List V} {ds : List D} {i : Nat} {d : D}, DpAll K H vs ds → ds[i]? = some d → ∃ v, vs[i]? = some v ∧ Dp K H v d
  | _, _, _, _, .nil, e => by simp at e
  | _, _, 0, _, .cons a _, e => by simp at e; subst e; exact ⟨_, rfl, a⟩
  | _, _, i + 1, d, .cons _ b, e => by
    obtain ⟨v, h1, h2⟩ := dpa_get (i := i) (d := d) b (by simpa using e)
    exact ⟨v, by simpa using h1, h2⟩
theorem dpa_getV {K : PySem.W.Frag} {H : Hp} : ∀ {vs : List V} {ds : List D} {i : Nat} {v : V}, DpAll K H vs ds → vs[i]? = some v → ∃ d, ds[i]? = some d ∧ Dp K H v d
  | _, _, _, _, .nil, e => by simp at e
  | _, _, 0, _, .cons a _, e => by simp at e; subst e; exact ⟨_, rfl, a⟩
  | _, _, i + 1, v, .cons _ b, e => by
    obtain ⟨d, h1, h2⟩ := dpa_getV (i := i) (v := v) b (by simpa using e)
    exact ⟨d, by simpa using h1, h2⟩
theorem dpa_app {K : PySem.W.Frag} {H : Hp} : ∀ {vs ws : List V} {ds es : List D}, DpAll K H vs ds → DpAll K H ws es → DpAll K H (vs ++ ws) (ds ++ es)
  | _, _, _, _, .nil, h => h
  | _, _, _, _, .cons a b, h => .cons a (dpa_app b h)
theorem dpa_take {K : PySem.W.Frag} {H : Hp} : ∀ {vs : List V} {ds : List D} (n : Nat), DpAll K H vs ds → DpAll K H (vs.take n) (ds.take n)
  | _, _, 0, _ => .nil
  | _, _, _ + 1, .nil => .nil
  | _, _, n + 1, .cons a b => .cons a (dpa_take n b)
theorem dpa_drop {K : PySem.W.Frag} {H : Hp} : ∀ {vs : List V} {ds : List D} (n : Nat), DpAll K H vs ds → DpAll K H (vs.drop n) (ds.drop n)
  | _, _, 0, h => h
  | _, _, _ + 1, .nil => .nil
  | _, _, n + 1, .cons _ b => dpa_drop n b
theorem dpa_set {K : PySem.W.Frag} {H : Hp} {v : V} {d : D} (h : Dp K H v d) : ∀ {vs : List V} {ds : List D} (n : Nat), DpAll K H vs ds → DpAll K H (vs.set n v) (ds.set n d)
  | _, _, _, .nil => .nil
  | _, _, 0, .cons _ b => .cons h b
  | _, _, n + 1, .cons a b => .cons a (dpa_set h n b)
theorem dpa_erase {K : PySem.W.Frag} {H : Hp} : ∀ {vs : List V} {ds : List D} (n : Nat), DpAll K H vs ds → DpAll K H (vs.eraseIdx n) (ds.eraseIdx n)
  | _, _, _, .nil => .nil
  | _, _, 0, .cons _ b => b
  | _, _, n + 1, .cons a b => .cons a (dpa_erase n b)
theorem dpa_ints {K : PySem.W.Frag} {H : Hp} : ∀ (ns : List Int), DpAll K H (ns.map V.int) (ns.map .int)
  | [] => .nil
  | n :: r => .cons (.int n) (dpa_ints r)
theorem dpa_ints_inv {K : PySem.W.Frag} {H : Hp} : ∀ {ns : List Int} {vs : List V}, DpAll K H vs (ns.map .int) → vs = ns.map V.int
  | [], _, h => by cases h; rfl
  | n :: r, _, h => by
    cases h with
    | cons a b => cases a; rw [dpa_ints_inv b]; rfl
theorem dp_list {K : PySem.W.Frag} {H : Hp} {v : V} {ds : List D} (h : Dp K H v (.list ds)) : ∃ p xs, v = .ref p ∧ SqL K H p xs ∧ DpAll K H xs ds := by
  cases h with
  | lst s a => exact ⟨_, _, rfl, s, a⟩
theorem dp_tuple {K : PySem.W.Frag} {H : Hp} {v : V} {ds : List D} (h : Dp K H v (.tuple ds)) : ∃ p xs, v = .ref p ∧ SqT K H p xs ∧ DpAll K H xs ds := by
  cases h with
  | tup s a => exact ⟨_, _, rfl, s, a⟩
theorem dp_int {K : PySem.W.Frag} {H : Hp} {v : V} {i : Int} (h : Dp K H v (.int i)) : v = .int i := by cases h; rfl
theorem dp_bool {K : PySem.W.Frag} {H : Hp} {v : V} {i : Bool} (h : Dp K H v (.bool i)) : v = .bl i := by cases h; rfl
theorem dp_str {K : PySem.W.Frag} {H : Hp} {v : V} {i : Str} (h : Dp K H v (.str i)) : v = .str i := by cases h; rfl
theorem dp_none {K : PySem.W.Frag} {H : Hp} {v : V} (h : Dp K H v .none) : v = .non := by cases h; rfl

/-- an item of an own mixed list: frozen data, an own list of frozen things, an own list of own lists -/
inductive I where
  | fz (d : D) | ow (ds : List D) | oo (dss : List (List D))
def I.toD : I → D
  | .fz d => d
  | .ow ds => .list ds
  | .oo dss => .list (dss.map .list)
/-- what a slot or a value on its way is: frozen data, an own list of frozen things, an own list of own lists, a lent list, an own mixed list -/
inductive O where
  | fz (d : D) | ow (ds : List D) | oo (dss : List (List D)) | ln (ds : List D) | mx (is : List I)
def O.toD : O → D
  | .fz d => d
  | .ow ds => .list ds
  | .oo dss => .list (dss.map .list)
  | .ln ds => .list ds
  | .mx is => .list (is.map I.toD)
def addr? : V → Option Addr
  | .ref a => some a
  | _ => none
def kids (H : Hp) (p : Addr) : List Addr := match H p with
  | some (.lst xs) => xs.filterMap addr?
  | _ => []
def I.fp (H : Hp) (v : V) : I → List Addr
  | .fz _ => []
  | .ow _ => match v with
    | .ref p => [p]
    | _ => []
  | .oo _ => match v with
    | .ref p => p :: kids H p
    | _ => []
def fpI (H : Hp) : List V → List I → List Addr
  | v :: vs, i :: is => i.fp H v ++ fpI H vs is
  | _, _ => []
def mkids (H : Hp) (p : Addr) (is : List I) : List Addr := match H p with
  | some (.lst xs) => fpI H xs is
  | _ => []
def O.fp (H : Hp) (v : V) : O → List Addr
  | .fz _ => []
  | .ow _ => match v with
    | .ref p => [p]
    | _ => []
  | .ln _ => match v with
    | .ref p => [p]
    | _ => []
  | .oo _ => match v with
    | .ref p => p :: kids H p
    | _ => []
  | .mx is => match v with
    | .ref p => p :: mkids H p is
    | _ => []
theorem kids_refs {H : Hp} {p : Addr} {qs : List Addr} (h : H p = some (.lst (qs.map V.ref))) : kids H p = qs := by
  unfold kids; rw [h]
  show (qs.map V.ref).filterMap addr? = qs
  induction qs generalizing H with
  | nil => rfl
  | cons q r ih =>
    have := ih (H := fun _ => some (.lst (r.map V.ref))) rfl
    show q :: (r.map V.ref).filterMap addr? = q :: r
    rw [this]
theorem mkids_at {H : Hp} {p : Addr} {xs : List V} {is : List I} (h : H p = some (.lst xs)) : mkids H p is = fpI H xs is := by
  unfold mkids; rw [h]
/-- an own list of frozen things at p -/
def OwL (K : PySem.W.Frag) (F H : Hp) (p : Addr) (ds : List D) : Prop := ∃ xs, H p = some (.lst xs) ∧ F p = none ∧ DpAll K F xs ds
inductive OwA (K : PySem.W.Frag) (F H : Hp) : List Addr → List (List D) → Prop
  | nil : OwA K F H [] []
  | cons {q : Addr} {qs : List Addr} {ds : List D} {dss : List (List D)} : OwL K F H q ds → OwA K F H qs dss → OwA K F H (q :: qs) (ds :: dss)
def OkI (K : PySem.W.Frag) (F H : Hp) (v : V) : I → Prop
  | .fz d => Dp K F v d
  | .ow ds => ∃ p, v = .ref p ∧ OwL K F H p ds
  | .oo dss => ∃ p qs, v = .ref p ∧ H p = some (.lst (qs.map V.ref)) ∧ F p = none ∧ OwA K F H qs dss
inductive OkIs (K : PySem.W.Frag) (F H : Hp) : List V → List I → Prop
  | nil : OkIs K F H [] []
  | cons {v : V} {vs : List V} {i : I} {is : List I} : OkI K F H v i → OkIs K F H vs is → OkIs K F H (v :: vs) (i :: is)
def Ok (K : PySem.W.Frag) (F H : Hp) (v : V) : O → Prop
  | .fz d => Dp K F v d
  | .ow ds => ∃ p, v = .ref p ∧ OwL K F H p ds
  | .ln ds => ∃ p, v = .ref p ∧ OwL K F H p ds
  | .oo dss => ∃ p qs, v = .ref p ∧ H p = some (.lst (qs.map V.ref)) ∧ F p = none ∧ OwA K F H qs dss
  | .mx is => ∃ p xs, v = .ref p ∧ H p = some (.lst xs) ∧ F p = none ∧ OkIs K F H xs is
theorem owl_frame {K : PySem.W.Frag} {F H F' H' : Hp} {p : Addr} {ds : List D} (kf : Kp F F') (h : OwL K F H p ds) (hh : H' p = H p) (hf : F' p = none) : OwL K F' H' p ds := by
  obtain ⟨xs, e1, e2, e3⟩ := h
  exact ⟨xs, hh.trans e1, hf, dpa_mono kf e3⟩
theorem owa_frame {K : PySem.W.Frag} {F H F' H' : Hp} (kf : Kp F F') : ∀ {qs : List Addr} {dss : List (List D)}, OwA K F H qs dss → (∀ a ∈ qs, H' a = H a ∧ F' a = none) → OwA K F' H' qs dss
  | _, _, .nil, _ => .nil
  | _, _, .cons a b, h => .cons (owl_frame kf a (h _ List.mem_cons_self).1 (h _ List.mem_cons_self).2) (owa_frame kf b fun q hq => h q (List.mem_cons_of_mem _ hq))
theorem owa_mem {K : PySem.W.Frag} {F H : Hp} : ∀ {qs : List Addr} {dss : List (List D)}, OwA K F H qs dss → ∀ a ∈ qs, ∃ ds, OwL K F H a ds
  | _, _, .nil, a, h => by cases h
  | _, _, .cons x y, a, h => by
    rcases List.mem_cons.mp h with e | e
    · subst e; exact ⟨_, x⟩
    · exact owa_mem y a e
theorem okI_fp {K : PySem.W.Frag} {F H : Hp} {v : V} {o : I} (h : OkI K F H v o) : ∀ a ∈ o.fp H v, (∃ xs, H a = some (.lst xs)) ∧ F a = none := by
  intro a ha
  cases o with
  | fz d => cases ha
  | ow ds =>
    obtain ⟨p, rfl, xs, e1, e2, _⟩ := h
    have : a = p := by simpa [I.fp] using ha
    subst this; exact ⟨⟨xs, e1⟩, e2⟩
  | oo dss =>
    obtain ⟨p, qs, rfl, e1, e2, e3⟩ := h
    simp only [I.fp, kids_refs e1] at ha
    rcases List.mem_cons.mp ha with e | e
    · subst e; exact ⟨⟨_, e1⟩, e2⟩
    · obtain ⟨ds, xs, q1, q2, _⟩ := owa_mem e3 a e
      exact ⟨⟨xs, q1⟩, q2⟩
theorem okIs_fp {K : PySem.W.Frag} {F H : Hp} : ∀ {vs : List V} {is : List I}, OkIs K F H vs is → ∀ a ∈ fpI H vs is, (∃ xs, H a = some (.lst xs)) ∧ F a = none
  | _, _, .nil, a, h => by cases h
  | _, _, .cons x y, a, h => by
    rcases List.mem_append.mp h with e | e
    · exact okI_fp x a e
    · exact okIs_fp y a e
theorem fpI_frame1 {K : PySem.W.Frag} {F H H' : Hp} {v : V} {o : I} (h : OkI K F H v o) (hh : ∀ a ∈ o.fp H v, H' a = H a) : o.fp H' v = o.fp H v := by
  cases o with
  | fz d => rfl
  | ow ds => rfl
  | oo dss =>
    obtain ⟨p, qs, rfl, e1, e2, e3⟩ := h
    have hp : H' p = H p := hh p (by show p ∈ p :: kids H p; exact List.mem_cons_self)
    show p :: kids H' p = p :: kids H p
    rw [kids_refs e1, kids_refs (hp.trans e1)]
theorem fpI_frame {K : PySem.W.Frag} {F H H' : Hp} : ∀ {vs : List V} {is : List I}, OkIs K F H vs is → (∀ a ∈ fpI H vs is, H' a = H a) → fpI H' vs is = fpI H vs is
  | _, _, .nil, _ => rfl
  | _, _, .cons x y, h => by
    unfold fpI
    rw [fpI_frame1 x fun a ha => h a (List.mem_append_left _ ha), fpI_frame y fun a ha => h a (List.mem_append_right _ ha)]
theorem okI_frame {K : PySem.W.Frag} {F H F' H' : Hp} {v : V} {o : I} (kf : Kp F F') (h : OkI K F H v o) (hh : ∀ a ∈ o.fp H v, H' a = H a ∧ F' a = none) : OkI K F' H' v o := by
  cases o with
  | fz d => exact dp_mono kf h
  | ow ds =>
    obtain ⟨p, rfl, w⟩ := h
    have := hh p (by simp [I.fp])
    exact ⟨p, rfl, owl_frame kf w this.1 this.2⟩
  | oo dss =>
    obtain ⟨p, qs, rfl, e1, e2, e3⟩ := h
    have g : ∀ a ∈ p :: qs, H' a = H a ∧ F' a = none := fun a ha => hh a (by simp only [I.fp, kids_refs e1]; exact ha)
    exact ⟨p, qs, rfl, (g p List.mem_cons_self).1.trans e1, (g p List.mem_cons_self).2, owa_frame kf e3 fun a ha => g a (List.mem_cons_of_mem _ ha)⟩
theorem okIs_frame {K : PySem.W.Frag} {F H F' H' : Hp} (kf : Kp F F') : ∀ {vs : List V} {is : List I}, OkIs K F H vs is → (∀ a ∈ fpI H vs is, H' a = H a ∧ F' a = none) → OkIs K F' H' vs is
  | _, _, .nil, _ => .nil
  | _, _, .cons x y, h => .cons (okI_frame kf x fun a ha => h a (List.mem_append_left _ ha)) (okIs_frame kf y fun a ha => h a (List.mem_append_right _ ha))
/-- the addresses of an own thing: lists that are tracked and not frozen -/
theorem ok_fp {K : PySem.W.Frag} {F H : Hp} {v : V} {o : O} (h : Ok K F H v o) : ∀ a ∈ o.fp H v, (∃ xs, H a = some (.lst xs)) ∧ F a = none := by
  intro a ha
  cases o with
  | fz d => cases ha
  | ow ds => exact okI_fp (o := .ow ds) h a ha
  | ln ds => exact okI_fp (o := .ow ds) h a ha
  | oo dss => exact okI_fp (o := .oo dss) h a ha
  | mx is =>
    obtain ⟨p, xs, rfl, e1, e2, e3⟩ := h
    simp only [O.fp, mkids_at e1] at ha
    rcases List.mem_cons.mp ha with e | e
    · subst e; exact ⟨⟨_, e1⟩, e2⟩
    · exact okIs_fp e3 a e
theorem fp_frame {K : PySem.W.Frag} {F H H' : Hp} {v : V} {o : O} (h : Ok K F H v o) (hh : ∀ a ∈ o.fp H v, H' a = H a) : o.fp H' v = o.fp H v := by
  cases o with
  | fz d => rfl
  | ow ds => rfl
  | ln ds => rfl
  | oo dss => exact fpI_frame1 (o := .oo dss) h hh
  | mx is =>
    obtain ⟨p, xs, rfl, e1, e2, e3⟩ := h
    have hp : H' p = H p := hh p (by show p ∈ p :: mkids H p is; exact List.mem_cons_self)
    show p :: mkids H' p is = p :: mkids H p is
    rw [mkids_at e1, mkids_at (hp.trans e1), fpI_frame e3 fun a ha => hh a (by show a ∈ p :: mkids H p is; rw [mkids_at e1]; exact List.mem_cons_of_mem _ ha)]
theorem ok_frame {K : PySem.W.Frag} {F H F' H' : Hp} {v : V} {o : O} (kf : Kp F F') (h : Ok K F H v o) (hh : ∀ a ∈ o.fp H v, H' a = H a ∧ F' a = none) : Ok K F' H' v o := by
  cases o with
  | fz d => exact dp_mono kf h
  | ow ds => exact okI_frame (o := .ow ds) kf h hh
  | ln ds => exact okI_frame (o := .ow ds) kf h hh
  | oo dss => exact okI_frame (o := .oo dss) kf h hh
  | mx is =>
    obtain ⟨p, xs, rfl, e1, e2, e3⟩ := h
    have g : ∀ a ∈ p :: fpI H xs is, H' a = H a ∧ F' a = none := fun a ha => hh a (by simp only [O.fp, mkids_at e1]; exact ha)
    exact ⟨p, xs, rfl, (g p List.mem_cons_self).1.trans e1, (g p List.mem_cons_self).2, okIs_frame kf e3 fun a ha => g a (List.mem_cons_of_mem _ ha)⟩

/-- the module's objects, and the tables of code objects that the defs hold -/
structure Lay where
  K : PySem.W.Frag
  T : List Addr
instance : Coe Lay PySem.W.Frag := ⟨Lay.K⟩
abbrev Δ := List (Option O)
def Own (H : Hp) (σ : L2.St) (δ : Δ) (i : Nat) (a : Addr) : Prop := ∃ v o, σ[i]? = some (some v) ∧ δ[i]? = some (some o) ∧ a ∈ o.fp H v
def Held (H : Hp) (σ : L2.St) (δ : Δ) (a : Addr) : Prop := ∃ i, Own H σ δ i a
structure Rep (K : Lay) (F H : Hp) (σ : L2.St) (δ : Δ) : Prop where
  kp : Kp F H
  len : σ.length = δ.length
  ok : ∀ (i : Nat) (o : O), δ[i]? = some (some o) → ∃ v, σ[i]? = some (some v) ∧ Ok K F H v o ∧ (o.fp H v).Nodup
  ap : ∀ i j a, Own H σ δ i a → Own H σ δ j a → i = j
  tb : ∀ T ∈ K.T, GxR.TabG F T
theorem Rep.tab {K : Lay} {F H : Hp} {σ : L2.St} {δ : Δ} (r : Rep K F H σ δ) {T : Addr} (h : T ∈ K.T) : GxR.TabG H T := r.kp.tab (r.tb T h)
theorem Rep.held {K : Lay} {F H : Hp} {σ : L2.St} {δ : Δ} (r : Rep K F H σ δ) {a : Addr} (h : Held H σ δ a) : (∃ xs, H a = some (.lst xs)) ∧ F a = none := by
  obtain ⟨i, v, o, e1, e2, e3⟩ := h
  obtain ⟨v', e4, e5, _⟩ := r.ok i o e2
  rw [e1] at e4; cases e4
  exact ok_fp e5 a e3
/-- a value on its way, apart from the slots -/
structure Tmp (K : Lay) (F H : Hp) (σ : L2.St) (δ : Δ) (v : V) (o : O) : Prop where
  ok : Ok K F H v o
  nd : (o.fp H v).Nodup
  ap : ∀ a ∈ o.fp H v, ¬ Held H σ δ a
/-- from one state to another: what was frozen is frozen; what the slots do not hold is as it was; only new things and what the slots held was frozen or is held -/
structure Go (F H : Hp) (σ : L2.St) (δ : Δ) (F' H' : Hp) (σ' : L2.St) (δ' : Δ) : Prop where
  kf : Kp F F'
  kh : ∀ a o, H a = some o → ¬ Held H σ δ a → ∃ u, H' a = some u ∧ Lq o u
  nf : ∀ a, F' a ≠ none → F a ≠ none ∨ H a = none ∨ Held H σ δ a
  hd : ∀ a, Held H' σ' δ' a → Held H σ δ a ∨ H a = none
  st : ∀ a, H a ≠ none → H' a ≠ none
  ln : ∀ (i : Nat) (ds : List D), δ[i]? = some (some (O.ln ds)) → σ'[i]? = σ[i]? ∧ ∃ es, δ'[i]? = some (some (O.ln es))
theorem Go.rfl {F H : Hp} {σ : L2.St} {δ : Δ} : Go F H σ δ F H σ δ := ⟨.rfl, fun _ o e _ => ⟨o, e, .rfl⟩, fun _ h => .inl h, fun _ h => .inl h, fun _ h => h, fun _ ds h => ⟨Eq.refl _, ds, h⟩⟩
theorem Go.trans {F H F1 H1 F2 H2 : Hp} {σ σ1 σ2 : L2.St} {δ δ1 δ2 : Δ} (a : Go F H σ δ F1 H1 σ1 δ1) (b : Go F1 H1 σ1 δ1 F2 H2 σ2 δ2) : Go F H σ δ F2 H2 σ2 δ2 where
  kf := a.kf.trans b.kf
  kh := fun x o e n => by
    obtain ⟨u, e1, l1⟩ := a.kh x o e n
    obtain ⟨w, e2, l2⟩ := b.kh x u e1 fun h => by
      rcases a.hd x h with q | q
      · exact n q
      · rw [e] at q; cases q
    exact ⟨w, e2, l1.trans l2⟩
  nf := fun x h => by
    rcases b.nf x h with q | q | q
    · exact a.nf x q
    · by_cases z : H x = none
      · exact .inr (.inl z)
      · exact absurd q (a.st x z)
    · rcases a.hd x q with z | z
      · exact .inr (.inr z)
      · exact .inr (.inl z)
  hd := fun x h => by
    rcases b.hd x h with q | q
    · exact a.hd x q
    · by_cases z : H x = none
      · exact .inr z
      · exact absurd q (a.st x z)
  st := fun x h => b.st x (a.st x h)
  ln := fun i ds h => by
    obtain ⟨e1, es, e2⟩ := a.ln i ds h
    obtain ⟨e3, es', e4⟩ := b.ln i es e2
    exact ⟨e3.trans e1, es', e4⟩
theorem Tmp.frame {K : Lay} {F H F' H' : Hp} {σ σ' : L2.St} {δ δ' : Δ} {v : V} {o : O} (t : Tmp K F H σ δ v o) (g : Go F H σ δ F' H' σ' δ') : Tmp K F' H' σ' δ' v o ∧ o.fp H' v = o.fp H v := by
  have same : ∀ a ∈ o.fp H v, H' a = H a ∧ F' a = none := fun a ha => by
    obtain ⟨⟨xs, e1⟩, e2⟩ := ok_fp t.ok a ha
    have nh := t.ap a ha
    obtain ⟨u, e3, l⟩ := g.kh a _ e1 nh
    refine ⟨?_, ?_⟩
    · rw [e3, l.lst, e1]
    · cases q : F' a with
      | none => rfl
      | some x =>
        rcases g.nf a (by rw [q]; simp) with z | z | z
        · exact absurd e2 z
        · rw [e1] at z; cases z
        · exact absurd z nh
  have fe := fp_frame t.ok fun a ha => (same a ha).1
  refine ⟨⟨ok_frame g.kf t.ok same, by rw [fe]; exact t.nd, fun a ha h => ?_⟩, fe⟩
  rw [fe] at ha
  obtain ⟨⟨xs, e1⟩, _⟩ := ok_fp t.ok a ha
  rcases g.hd a h with z | z
  · exact t.ap a ha z
  · rw [e1] at z; cases z
end Vi
end
section
set_option Elab.async false
set_option linter.all false
set_option maxRecDepth 100000
set_option maxHeartbeats 1000000
namespace Vi
open PySem PySem.Spec PyProof.Rows L2
inductive P where
  | tm (o : O) | sl (i : Nat)
def P.data (δ : Δ) : P → Option D
  | .tm o => some o.toD
  | .sl i => match δ[i]? with
    | some (some o) => some o.toD
    | _ => none
section
variable {K : Lay} {F H F' H' F0 H0 F1 H1 F2 H2 : Hp} {σ : L2.St} {δ δ' δ0 δ1 δ2 : Δ} {v x y : V} {p q : P} {o : O} {d e : D}
def PR (K : Lay) (F H : Hp) (σ : L2.St) (δ : Δ) (v : V) : P → Prop
  | .tm o => Tmp K F H σ δ v o
  | .sl i => σ[i]? = some (some v) ∧ ∃ o, δ[i]? = some (some o)
def P.fp (H : Hp) (v : V) : P → List Addr
  | .tm o => o.fp H v
  | .sl _ => []
/-- behind an expression -/
structure Aft (K : Lay) (F H : Hp) (σ : L2.St) (δ : Δ) (F' H' : Hp) (δ' : Δ) : Prop where
  rep : Rep K F' H' σ δ'
  go : Go F H σ δ F' H' σ δ'
  un : ∀ (i : Nat) (o : O), δ[i]? = some (some o) → ∃ o', δ'[i]? = some (some o')
  nl : ∀ (i : Nat) (es : List D), δ'[i]? = some (some (O.ln es)) → ∃ fs, δ[i]? = some (some (O.ln fs))
theorem Aft.rfl (r : Rep K F H σ δ) : Aft K F H σ δ F H δ := ⟨r, .rfl, fun _ o h => ⟨o, h⟩, fun _ es h => ⟨es, h⟩⟩
theorem Aft.trans (a : Aft K F H σ δ F1 H1 δ1) (b : Aft K F1 H1 σ δ1 F2 H2 δ2) : Aft K F H σ δ F2 H2 δ2 :=
  ⟨b.rep, a.go.trans b.go, fun i o h => let ⟨o1, h1⟩ := a.un i o h; b.un i o1 h1, fun i es h => let ⟨fs, h1⟩ := b.nl i es h; a.nl i fs h1⟩
def Nw (H : Hp) (σ : L2.St) (δ : Δ) (H' : Hp) (v : V) (p : P) : Prop := ∀ a ∈ p.fp H' v, Held H σ δ a ∨ H a = none
def SX (K : Lay) (te : TE) (f : Δ → Option (P × Δ)) : Prop := ∀ δ p δ', f δ = some (p, δ') → ∀ σ F H, Rep K F H σ δ → ∀ Q : VK,
  (∀ v F' H', Aft K F H σ δ F' H' δ' → PR K F' H' σ δ' v p → Nw H σ δ H' v p → Q v H') → te σ H Q
/-- frozen behind it -/
def SD (K : Lay) (te : TE) (g : Δ → Option (D × Δ)) : Prop := ∀ δ d δ', g δ = some (d, δ') → ∀ σ F H, Rep K F H σ δ → ∀ Q : VK,
  (∀ v F' H', Aft K F H σ δ F' H' δ' → Dp K F' v d → Q v H') → te σ H Q
def ST (K : Lay) (tt : TT) (g : Δ → Option (Bool × Δ)) : Prop := ∀ δ b δ', g δ = some (b, δ') → ∀ σ F H, Rep K F H σ δ → ∀ Q : Bool → Hp → Prop,
  (∀ F' H', Aft K F H σ δ F' H' δ' → Q b H') → tt σ H Q
/-- several, each frozen -/
def SDs (K : Lay) (ta : TA) (g : Δ → Option (List D × Δ)) : Prop := ∀ δ ds δ', g δ = some (ds, δ') → ∀ σ F H, Rep K F H σ δ → ∀ Q : List V → Hp → Prop,
  (∀ vs F' H', Aft K F H σ δ F' H' δ' → DpAll K F' vs ds → Q vs H') → ta σ H Q
theorem owa_dp (kp : Kp F H) : ∀ {qs : List Addr} {dss : List (List D)}, OwA K F H qs dss → DpAll K H (qs.map V.ref) (dss.map .list)
  | _, _, .nil => .nil
  | _, _, .cons ⟨xs, a1, a2, a3⟩ b => .cons (.lst (SqL.of a1) (dpa_mono kp a3)) (owa_dp kp b)
theorem okI_dp (kp : Kp F H) {i : I} (h : OkI K F H v i) : Dp K H v i.toD := by
  cases i with
  | fz d => exact dp_mono kp h
  | ow ds =>
    obtain ⟨p, rfl, xs, e1, _, e3⟩ := h
    exact .lst (SqL.of e1) (dpa_mono kp e3)
  | oo dss =>
    obtain ⟨p, qs, rfl, e1, _, e3⟩ := h
    exact .lst (SqL.of e1) (owa_dp kp e3)
theorem okIs_dp (kp : Kp F H) : ∀ {vs : List V} {is : List I}, OkIs K F H vs is → DpAll K H vs (is.map I.toD)
  | _, _, .nil => .nil
  | _, _, .cons a b => .cons (okI_dp kp a) (okIs_dp kp b)
theorem ok_dp (kp : Kp F H) (h : Ok K F H v o) : Dp K H v o.toD := by
  cases o with
  | fz d => exact dp_mono kp h
  | ow ds =>
    obtain ⟨p, rfl, xs, e1, _, e3⟩ := h
    exact .lst (SqL.of e1) (dpa_mono kp e3)
  | ln ds =>
    obtain ⟨p, rfl, xs, e1, _, e3⟩ := h
    exact .lst (SqL.of e1) (dpa_mono kp e3)
  | oo dss =>
    obtain ⟨p, qs, rfl, e1, _, e3⟩ := h
    exact .lst (SqL.of e1) (owa_dp kp e3)
  | mx is =>
    obtain ⟨p, xs, rfl, e1, _, e3⟩ := h
    exact .lst (SqL.of e1) (okIs_dp kp e3)
theorem pr_dp (r : Rep K F H σ δ) (h : PR K F H σ δ v p) (e : p.data δ = some d) : Dp K H v d := by
  cases p with
  | tm o => cases e; exact ok_dp r.kp h.ok
  | sl i =>
    obtain ⟨h1, o, h2⟩ := h
    simp only [P.data, h2, Option.some.injEq] at e
    subst e
    obtain ⟨v', e1, e2, _⟩ := r.ok i o h2
    rw [h1] at e1; cases e1
    exact ok_dp r.kp e2
theorem PR.step (h : PR K F H σ δ v p) (a : Aft K F H σ δ F' H' δ') : PR K F' H' σ δ' v p ∧ p.fp H' v = p.fp H v := by
  cases p with
  | tm o => exact Tmp.frame h a.go
  | sl i =>
    obtain ⟨h1, o, h2⟩ := h
    exact ⟨⟨h1, a.un i o h2⟩, rfl⟩
theorem Nw.step (n : Nw H σ δ H1 v p) (a : Aft K F1 H1 σ δ1 F2 H2 δ2) (h : PR K F1 H1 σ δ1 v p) : Nw H σ δ H2 v p := fun z hz => n z (by rw [← (h.step a).2]; exact hz)
theorem Nw.from (g : Go F H σ δ F1 H1 σ δ1) (n : Nw H1 σ δ1 H2 v p) : Nw H σ δ H2 v p := fun z hz => by
  rcases n z hz with q | q
  · exact g.hd z q
  · by_cases w : H z = none
    · exact .inr w
    · exact absurd q (g.st z w)
/-! ### freezing -/
def frz (F H : Hp) (A : List Addr) : Hp := fun a => if a ∈ A then H a else F a
theorem frz_in {A : List Addr} {a : Addr} (h : a ∈ A) : frz F H A a = H a := if_pos h
theorem frz_out {A : List Addr} {a : Addr} (h : a ∉ A) : frz F H A a = F a := if_neg h
theorem frz_kp {A : List Addr} (h : ∀ a ∈ A, F a = none) : Kp F (frz F H A) := fun a o e => ⟨o, by
  rw [frz_out (fun ha => by rw [h a ha] at e; cases e)]; exact e, .rfl⟩
theorem frz_up {A : List Addr} (kp : Kp F H) : Kp (frz F H A) H := fun a o e => by
  by_cases ha : a ∈ A
  · rw [frz_in ha] at e; exact ⟨o, e, .rfl⟩
  · rw [frz_out ha] at e; exact kp a o e
theorem owa_frz {A : List Addr} (kf : Kp F (frz F H A)) : ∀ {qs : List Addr} {dss : List (List D)}, OwA K F H qs dss → (∀ a ∈ qs, a ∈ A) → DpAll K (frz F H A) (qs.map V.ref) (dss.map .list)
  | _, _, .nil, _ => .nil
  | _, _, .cons ⟨xs, a1, a2, a3⟩ b, h => .cons (.lst (SqL.of (by rw [frz_in (h _ List.mem_cons_self)]; exact a1)) (dpa_mono kf a3)) (owa_frz kf b fun a ha => h a (List.mem_cons_of_mem _ ha))
theorem okI_frz {A : List Addr} (kf : Kp F (frz F H A)) {i : I} (h : OkI K F H v i) (hA : ∀ a ∈ i.fp H v, a ∈ A) : Dp K (frz F H A) v i.toD := by
  cases i with
  | fz d => exact dp_mono kf h
  | ow ds =>
    obtain ⟨p, rfl, xs, e1, _, e3⟩ := h
    exact .lst (SqL.of (by rw [frz_in (hA p (by simp [I.fp]))]; exact e1)) (dpa_mono kf e3)
  | oo dss =>
    obtain ⟨p, qs, rfl, e1, _, e3⟩ := h
    have ek : I.fp H (.ref p) (.oo dss) = p :: qs := by show p :: kids H p = _; rw [kids_refs e1]
    exact .lst (SqL.of (by rw [frz_in (hA p (by rw [ek]; exact List.mem_cons_self))]; exact e1)) (owa_frz kf e3 fun a ha => hA a (by rw [ek]; exact List.mem_cons_of_mem _ ha))
theorem okIs_frz {A : List Addr} (kf : Kp F (frz F H A)) : ∀ {vs : List V} {is : List I}, OkIs K F H vs is → (∀ a ∈ fpI H vs is, a ∈ A) → DpAll K (frz F H A) vs (is.map I.toD)
  | _, _, .nil, _ => .nil
  | _, _, .cons a b, h => .cons (okI_frz kf a fun x hx => h x (List.mem_append_left _ hx)) (okIs_frz kf b fun x hx => h x (List.mem_append_right _ hx))
theorem ok_frz (h : Ok K F H v o) : Dp K (frz F H (o.fp H v)) v o.toD := by
  have kf : Kp F (frz F H (o.fp H v)) := frz_kp fun a ha => (ok_fp h a ha).2
  cases o with
  | fz d => exact dp_mono kf h
  | ow ds =>
    obtain ⟨p, rfl, xs, e1, _, e3⟩ := h
    exact .lst (SqL.of (by rw [frz_in (by simp [O.fp])]; exact e1)) (dpa_mono kf e3)
  | ln ds =>
    obtain ⟨p, rfl, xs, e1, _, e3⟩ := h
    exact .lst (SqL.of (by rw [frz_in (by simp [O.fp])]; exact e1)) (dpa_mono kf e3)
  | oo dss =>
    obtain ⟨p, qs, rfl, e1, _, e3⟩ := h
    have ek : O.fp H (.ref p) (.oo dss) = p :: qs := by show p :: kids H p = _; rw [kids_refs e1]
    exact .lst (SqL.of (by rw [frz_in (by rw [ek]; exact List.mem_cons_self)]; exact e1)) (owa_frz kf e3 fun a ha => by rw [ek]; exact List.mem_cons_of_mem _ ha)
  | mx is =>
    obtain ⟨p, xs, rfl, e1, _, e3⟩ := h
    have ek : O.fp H (.ref p) (.mx is) = p :: fpI H xs is := by show p :: mkids H p is = _; rw [mkids_at e1]
    exact .lst (SqL.of (by rw [frz_in (by rw [ek]; exact List.mem_cons_self)]; exact e1)) (okIs_frz kf e3 fun a ha => by rw [ek]; exact List.mem_cons_of_mem _ ha)
/-- freezing what no slot holds -/
theorem Rep.frzA (r : Rep K F H σ δ) {A : List Addr} (hA : ∀ a ∈ A, F a = none) (nh : ∀ a ∈ A, ¬ Held H σ δ a) : Rep K (frz F H A) H σ δ := by
  refine ⟨frz_up r.kp, r.len, fun i o h => ?_, r.ap, fun T hT => (frz_kp hA).tab (r.tb T hT)⟩
  obtain ⟨v, e1, e2, e3⟩ := r.ok i o h
  exact ⟨v, e1, ok_frame (frz_kp hA) e2 fun a ha => ⟨rfl, by rw [frz_out (fun z => nh a z ⟨i, v, o, e1, h, ha⟩)]; exact (ok_fp e2 a ha).2⟩, e3⟩
theorem set_get_ne {α : Type} {l : List α} {i j : Nat} {a : α} (h : i ≠ j) : (l.set i a)[j]? = l[j]? := List.getElem?_set_ne h
theorem set_get_eq {α : Type} {l : List α} {i : Nat} {a b : α} (h : l[i]? = some b) : (l.set i a)[i]? = some a := by
  rw [List.getElem?_set_self]; exact (List.getElem?_eq_some_iff.mp h).1
def isLn : O → Bool
  | .ln _ => true
  | _ => false
/-- a slot's own thing frozen -/
theorem Rep.frzSlot (r : Rep K F H σ δ) {i : Nat} (h : δ[i]? = some (some o)) (hv : σ[i]? = some (some v)) (hn : isLn o = false) :
    Rep K (frz F H (o.fp H v)) H σ (δ.set i (some (.fz o.toD))) ∧ Go F H σ δ (frz F H (o.fp H v)) H σ (δ.set i (some (.fz o.toD))) ∧ Dp K (frz F H (o.fp H v)) v o.toD := by
  obtain ⟨v', e1, e2, e3⟩ := r.ok i o h
  rw [hv] at e1; cases e1
  have hA : ∀ a ∈ o.fp H v, F a = none := fun a ha => (ok_fp e2 a ha).2
  have own_of : ∀ j a, Own H σ (δ.set i (some (.fz o.toD))) j a → j ≠ i ∧ Own H σ δ j a := fun j a ⟨w, u, q1, q2, q3⟩ => by
    by_cases hj : i = j
    · subst hj
      rw [set_get_eq h] at q2; cases q2; cases q3
    · rw [set_get_ne hj] at q2
      exact ⟨fun z => hj z.symm, w, u, q1, q2, q3⟩
  refine ⟨⟨frz_up r.kp, by rw [List.length_set]; exact r.len, fun j u hj => ?_, fun j k a hj hk => r.ap j k a (own_of j a hj).2 (own_of k a hk).2, fun T hT => (frz_kp hA).tab (r.tb T hT)⟩, ⟨frz_kp hA, fun a o e _ => ⟨o, e, .rfl⟩, fun a ha => ?_, fun a ⟨j, hj⟩ => .inl ⟨j, (own_of j a hj).2⟩, fun _ z => z, fun j ds hj => ⟨rfl, ds, ?_⟩⟩, ok_frz e2⟩
  · by_cases hij : i = j
    · subst hij
      rw [set_get_eq h] at hj; cases hj
      exact ⟨v, hv, ok_frz e2, by simp [O.fp]⟩
    · rw [set_get_ne hij] at hj
      obtain ⟨w, q1, q2, q3⟩ := r.ok j u hj
      refine ⟨w, q1, ok_frame (frz_kp hA) q2 fun a ha => ⟨rfl, ?_⟩, q3⟩
      rw [frz_out fun z => hij (r.ap i j a ⟨v, o, hv, h, z⟩ ⟨w, u, q1, hj, ha⟩)]
      exact (ok_fp q2 a ha).2
  · by_cases z : a ∈ o.fp H v
    · exact .inr (.inr ⟨i, v, o, hv, h, z⟩)
    · rw [frz_out z] at ha; exact .inl ha
  · by_cases hij : i = j
    · subst hij
      rw [h] at hj; cases hj; cases hn
    · rw [set_get_ne hij]; exact hj
def force : P → Δ → Option (D × Δ)
  | .tm (.ln _), _ => none
  | .tm o, δ => some (o.toD, δ)
  | .sl i, δ => match δ[i]? with
    | some (some (.ln _)) => none
    | some (some o) => some (o.toD, δ.set i (some (.fz o.toD)))
    | _ => none
theorem force_ok (a : Aft K F0 H0 σ δ0 F H δ) (h : PR K F H σ δ v p) (n : Nw H0 σ δ0 H v p) (e : force p δ = some (d, δ1)) :
    ∃ F', Aft K F0 H0 σ δ0 F' H δ1 ∧ Dp K F' v d ∧ Kp F F' ∧ ∀ z, F' z ≠ none → F z ≠ none ∨ z ∈ p.fp H v ∨ Held H σ δ z := by
  cases p with
  | tm o =>
    have ho : isLn o = false ∧ d = o.toD ∧ δ1 = δ := by cases o <;> simp_all [force, isLn]
    obtain ⟨_, rfl, rfl⟩ := ho
    have hA : ∀ z ∈ o.fp H v, F z = none := fun z hz => (ok_fp h.ok z hz).2
    refine ⟨frz F H (o.fp H v), ⟨a.rep.frzA hA h.ap, ⟨a.go.kf.trans (frz_kp hA), a.go.kh, fun z hz => ?_, a.go.hd, a.go.st, a.go.ln⟩, a.un, a.nl⟩, ok_frz h.ok, frz_kp hA, fun z hz => ?_⟩
    · by_cases hm : z ∈ o.fp H v
      · rcases n z hm with w | w
        · exact .inr (.inr w)
        · exact .inr (.inl w)
      · rw [frz_out hm] at hz; exact a.go.nf z hz
    · by_cases hm : z ∈ o.fp H v
      · exact .inr (.inl hm)
      · rw [frz_out hm] at hz; exact .inl hz
  | sl i =>
    obtain ⟨h1, o, h2⟩ := h
    have ho : isLn o = false ∧ d = o.toD ∧ δ1 = δ.set i (some (.fz o.toD)) := by
      cases o <;> simp only [force, h2] at e <;> cases e <;> exact ⟨rfl, rfl, rfl⟩
    obtain ⟨hl, rfl, rfl⟩ := ho
    obtain ⟨r1, g1, d1⟩ := a.rep.frzSlot h2 h1 hl
    refine ⟨_, ⟨r1, a.go.trans g1, fun j u hj => ?_, fun j es hj => ?_⟩, d1, g1.kf, fun z hz => ?_⟩
    · obtain ⟨u1, q1⟩ := a.un j u hj
      by_cases hij : i = j
      · subst hij; exact ⟨_, set_get_eq h2⟩
      · exact ⟨u1, by rw [set_get_ne hij]; exact q1⟩
    · by_cases hij : i = j
      · subst hij; rw [set_get_eq h2] at hj; cases hj
      · rw [set_get_ne hij] at hj; exact a.nl j es hj
    · by_cases hm : z ∈ o.fp H v
      · exact .inr (.inr ⟨i, v, o, h1, h2, hm⟩)
      · rw [frz_out hm] at hz; exact .inl hz
/-! ### forms -/
def eF (f : Δ → Option (P × Δ)) : Δ → Option (D × Δ) := fun δ => (f δ).bind fun r => force r.1 r.2
theorem sd_of {te : TE} {f : Δ → Option (P × Δ)} (h : SX K te f) : SD K te (eF f) := fun δ d δ' e σ F H r Q k => by
  obtain ⟨⟨p, δ1⟩, e1, e2⟩ := Option.bind_eq_some_iff.mp e
  refine h δ p δ1 e1 σ F H r Q fun v F' H' a hp n => ?_
  obtain ⟨F2, a2, d2, _⟩ := force_ok a hp n e2
  exact k v F2 H' a2 d2
def eP (g : Δ → Option (D × Δ)) : Δ → Option (P × Δ) := fun δ => (g δ).map fun r => (.tm (.fz r.1), r.2)
theorem sx_of {te : TE} {g : Δ → Option (D × Δ)} (h : SD K te g) : SX K te (eP g) := fun δ p δ' e σ F H r Q k => by
  obtain ⟨⟨d, δ1⟩, e1, e2⟩ := Option.map_eq_some_iff.mp e
  cases e2
  exact h δ d δ1 e1 σ F H r Q fun v F' H' a hd => k v F' H' a ⟨hd, by simp [O.fp], fun z hz => by cases hz⟩ fun z hz => by cases hz
def eVar (i : Nat) : Δ → Option (P × Δ) := fun δ => match δ[i]? with
  | some (some (.fz d)) => some (.tm (.fz d), δ)
  | some (some _) => some (.sl i, δ)
  | _ => none
theorem sx_var {i : Nat} : SX K (tVar i) (eVar i) := fun δ p δ' e σ F H r Q k => by
  unfold eVar at e
  split at e
  · rename_i d hd
    cases e
    obtain ⟨v, e1, e2, _⟩ := r.ok i _ hd
    exact ⟨v, e1, k v F H (.rfl r) ⟨e2, by simp [O.fp], fun z hz => by cases hz⟩ fun z hz => by cases hz⟩
  · rename_i o hn hd
    cases e
    obtain ⟨v, e1, e2, _⟩ := r.ok i _ hd
    exact ⟨v, e1, k v F H (.rfl r) ⟨e1, o, hd⟩ fun z hz => by cases hz⟩
  · cases e
def eC (d : D) : Δ → Option (D × Δ) := fun δ => some (d, δ)
theorem sd_int {i : Int} : SD K (tC (.int i)) (eC (.int i)) := fun δ d δ' e σ F H r Q k => by
  cases e; exact k _ F H (.rfl r) (.int i)
theorem sd_bl {i : Bool} : SD K (tC (.bl i)) (eC (.bool i)) := fun δ d δ' e σ F H r Q k => by
  cases e; exact k _ F H (.rfl r) (.bl i)
theorem sd_str {i : Str} : SD K (tC (.str i)) (eC (.str i)) := fun δ d δ' e σ F H r Q k => by
  cases e; exact k _ F H (.rfl r) (.str i)
theorem sd_non : SD K (tC .non) (eC .none) := fun δ d δ' e σ F H r Q k => by
  cases e; exact k _ F H (.rfl r) .non
/-! ### several operands -/
def eNil : Δ → Option (List D × Δ) := fun δ => some ([], δ)
def eCons (g : Δ → Option (D × Δ)) (h : Δ → Option (List D × Δ)) : Δ → Option (List D × Δ) := fun δ => (g δ).bind fun r => (h r.2).map fun s => (r.1 :: s.1, s.2)
theorem sds_nil : SDs K tNil eNil := fun δ ds δ' e σ F H r Q k => by
  cases e; exact k [] F H (.rfl r) .nil
theorem sds_cons {te : TE} {ta : TA} {g : Δ → Option (D × Δ)} {h : Δ → Option (List D × Δ)} (hg : SD K te g) (hh : SDs K ta h) : SDs K (tCons te ta) (eCons g h) := fun δ ds δ' e σ F H r Q k => by
  obtain ⟨⟨d, δ1⟩, e1, e2⟩ := Option.bind_eq_some_iff.mp e
  obtain ⟨⟨ds, δ2⟩, e3, e4⟩ := Option.map_eq_some_iff.mp e2
  cases e4
  refine hg δ d δ1 e1 σ F H r _ fun v F1 H1 a1 d1 => ?_
  exact hh δ1 ds δ2 e3 σ F1 H1 a1.rep _ fun vs F2 H2 a2 d2 => k _ F2 H2 (a1.trans a2) (.cons (dp_mono a2.go.kf d1) d2)
/-- two operands, both on their way -/
theorem pair_ok {ta tb : TE} {f g : Δ → Option (P × Δ)} {R : V → V → Hp → Prop} (hf : SX K ta f) (hg : SX K tb g) (e1 : f δ = some (p, δ1)) (e2 : g δ1 = some (q, δ2)) (r : Rep K F H σ δ)
    (k : ∀ x y F' H', Aft K F H σ δ F' H' δ2 → PR K F' H' σ δ2 x p → PR K F' H' σ δ2 y q → Nw H σ δ H' x p → Nw H σ δ H' y q → R x y H') : ta σ H fun x H1 => tb σ H1 fun y H2 => R x y H2 :=
  hf δ p δ1 e1 σ F H r _ fun x F1 H1 a1 p1 n1 => hg δ1 q δ2 e2 σ F1 H1 a1.rep _ fun y F2 H2 a2 p2 n2 =>
    k x y F2 H2 (a1.trans a2) (p1.step a2).1 p2 (n1.step a2 p1) (n2.from a1.go)
/-- scalars -/
def sv : D → Option V
  | .none => some .non
  | .bool b => some (.bl b)
  | .int i => some (.int i)
  | .str x => some (.str x)
  | _ => none
theorem sv_dp {v : V} (h : sv d = some v) : Dp K F v d := by
  cases d <;> cases h <;> constructor
theorem dp_sv (h : Dp K F v d) : ∀ {w : V}, sv d = some w → v = w := by
  intro w e
  cases h <;> cases e <;> rfl
/-- an operator that reads its operands and gives a scalar -/
def ScR (K : Lay) (r : R2) (g : D → D → Option D) : Prop := ∀ H x y d e z, Dp K H x d → Dp K H y e → g d e = some z → ∃ w, sv z = some w ∧ ∀ Q : VK, Q w H → r x y H Q
def eOp (g : D → D → Option D) (f h : Δ → Option (P × Δ)) : Δ → Option (D × Δ) := fun δ => (f δ).bind fun r => (h r.2).bind fun s => (r.1.data s.2).bind fun d => (s.1.data s.2).bind fun e => (g d e).map fun z => (z, s.2)
theorem sd_op {r : R2} {g : D → D → Option D} {ta tb : TE} {f h : Δ → Option (P × Δ)} (hr : ScR K r g) (hf : SX K ta f) (hh : SX K tb h) : SD K (tOp r ta tb) (eOp g f h) := fun δ d δ' e σ F H rp Q k => by
  obtain ⟨⟨p, δ1⟩, e1, e⟩ := Option.bind_eq_some_iff.mp e
  obtain ⟨⟨q, δ2⟩, e2, e⟩ := Option.bind_eq_some_iff.mp e
  obtain ⟨dx, e3, e⟩ := Option.bind_eq_some_iff.mp e
  obtain ⟨dy, e4, e⟩ := Option.bind_eq_some_iff.mp e
  obtain ⟨z, e5, e⟩ := Option.map_eq_some_iff.mp e
  cases e
  refine pair_ok hf hh e1 e2 rp fun x y F' H' a px py _ _ => ?_
  obtain ⟨w, hw, hq⟩ := hr H' x y dx dy d (pr_dp a.rep px e3) (pr_dp a.rep py e4) e5
  exact hq Q (k w F' H' a (sv_dp hw))
theorem ScR.or_l {r r' : R2} {g : D → D → Option D} (h : ScR K r g) : ScR K (fun x y H Q => r x y H Q ∨ r' x y H Q) g := fun H x y d e z a b c =>
  let ⟨w, h1, h2⟩ := h H x y d e z a b c
  ⟨w, h1, fun Q q => .inl (h2 Q q)⟩
end
end Vi
end
section
set_option Elab.async false
set_option linter.all false
set_option maxRecDepth 100000
set_option maxHeartbeats 1000000
namespace Vi
open PySem PySem.Spec PyProof.Rows L2
section
variable {K : Lay} {F H F' H' F0 H0 F1 H1 F2 H2 : Hp} {σ : L2.St} {δ δ' δ0 δ1 δ2 : Δ} {v x y : V} {p q : P} {o : O} {d e : D}
/-- only new things: they may be frozen -/
structure New (F H F' H' : Hp) : Prop where
  kf : Kp F F'
  up : Kp F' H'
  kh : Kp H H'
  nf : ∀ a, F' a ≠ none → F a ≠ none ∨ H a = none
theorem New.rfl (h : Kp F H) : New F H F H := ⟨.rfl, h, .rfl, fun _ z => .inl z⟩
theorem kp_st (h : Kp H H') {a : Addr} (n : H a ≠ none) : H' a ≠ none := by
  cases e : H a with
  | none => exact absurd e n
  | some o => obtain ⟨u, e1, _⟩ := h a o e; rw [e1]; simp
theorem New.held (r : Rep K F H σ δ) (n : New F H F' H') {i : Nat} {a : Addr} (h : Own H' σ δ i a) : Own H σ δ i a := by
  obtain ⟨v, o, e1, e2, e3⟩ := h
  obtain ⟨w, q1, q2, _⟩ := r.ok i o e2
  rw [e1] at q1; cases q1
  have same : ∀ b ∈ o.fp H v, H' b = H b := fun b hb => by
    obtain ⟨⟨xs, z⟩, _⟩ := ok_fp q2 b hb
    rw [n.kh.lst z, z]
  rw [fp_frame q2 same] at e3
  exact ⟨v, o, e1, e2, e3⟩
theorem New.rep (r : Rep K F H σ δ) (n : New F H F' H') : Rep K F' H' σ δ := by
  refine ⟨n.up, r.len, fun i o h => ?_, fun i j a h1 h2 => r.ap i j a (n.held r h1) (n.held r h2), fun T hT => n.kf.tab (r.tb T hT)⟩
  obtain ⟨v, e1, e2, e3⟩ := r.ok i o h
  have same : ∀ a ∈ o.fp H v, H' a = H a ∧ F' a = none := fun a ha => by
    obtain ⟨⟨xs, z⟩, zf⟩ := ok_fp e2 a ha
    refine ⟨by rw [n.kh.lst z, z], ?_⟩
    cases q : F' a with
    | none => exact Eq.refl _
    | some u =>
      rcases n.nf a (by rw [q]; simp) with w | w
      · exact absurd zf w
      · rw [z] at w; cases w
  exact ⟨v, e1, ok_frame n.kf e2 same, by rw [fp_frame e2 fun a ha => (same a ha).1]; exact e3⟩
theorem New.aft (r : Rep K F H σ δ) (n : New F H F' H') : Aft K F H σ δ F' H' δ :=
  ⟨n.rep r, ⟨n.kf, fun a o e _ => n.kh a o e, fun a z => (n.nf a z).elim .inl fun w => .inr (.inl w), fun a ⟨i, h⟩ => .inl ⟨i, n.held r h⟩, fun a z => kp_st n.kh z, fun i ds h => ⟨Eq.refl _, ds, h⟩⟩, fun _ o h => ⟨o, h⟩, fun _ es h => ⟨es, h⟩⟩
/-- what is given is new -/
def Gives (K : Lay) (F H : Hp) (o : O) (Q : VK) : Prop := ∀ v F' H', New F H F' H' → Ok K F' H' v o → (o.fp H' v).Nodup → (∀ a ∈ o.fp H' v, H a = none) → Q v H'
theorem gives_of {Q : VK} (r : Rep K F H σ δ) (k : ∀ v F' H', Aft K F H σ δ F' H' δ → PR K F' H' σ δ v (.tm o) → Nw H σ δ H' v (.tm o) → Q v H') : Gives K F H o Q := fun v F' H' n ok nd fr =>
  k v F' H' (n.aft r) ⟨ok, nd, fun a ha ⟨i, h⟩ => by
    obtain ⟨⟨xs, z⟩, _⟩ := r.held ⟨i, n.held r h⟩
    rw [fr a ha] at z; cases z⟩ fun a ha => .inr (fr a ha)
theorem Gives.sc {Q : VK} {w : V} (g : Gives K F H (.fz d) Q) (kp : Kp F H) (h : sv d = some w) : Q w H := g w F H (.rfl kp) (sv_dp h) (by simp [O.fp]) fun a ha => by cases ha
theorem Gives.fz {Q : VK} (g : Gives K F H (.fz d) Q) (kp : Kp F H) (h : Dp K F v d) : Q v H := g v F H (.rfl kp) h (by simp [O.fp]) fun a ha => by cases ha
theorem Gives.lst {Q : VK} {ds : List D} {xs : List V} (g : Gives K F H (.ow ds) Q) (kp : Kp F H) (h : DpAll K F xs ds) {p : Addr} (hp : H p = none) : Q (.ref p) (upd H p (.lst xs)) :=
  g (.ref p) F (upd H p (.lst xs)) ⟨.rfl, kp.trans (.new hp), .new hp, fun _ z => .inl z⟩ ⟨p, Eq.refl _, xs, upd_same, kp.free hp, h⟩ (by simp [O.fp]) fun a ha => by
    have : a = p := by simpa [O.fp] using ha
    subst this; exact hp
theorem kp_up2 {p : Addr} {u : HO} (kp : Kp F H) : Kp (upd F p u) (upd H p u) := fun a o e => by
  by_cases h : a = p
  · subst h; rw [upd_same] at e; exact ⟨o, by rw [upd_same]; exact e, .rfl⟩
  · rw [upd_ne h] at e; rw [upd_ne h]; exact kp a o e
theorem Gives.tup {Q : VK} {ds : List D} {xs : List V} (g : Gives K F H (.fz (.tuple ds)) Q) (kp : Kp F H) (h : DpAll K F xs ds) {p : Addr} (hp : H p = none) : Q (.ref p) (upd H p (.tup xs)) :=
  g (.ref p) (upd F p (.tup xs)) (upd H p (.tup xs)) ⟨.new (kp.free hp), kp_up2 kp, .new hp, fun a z => by
    by_cases ha : a = p
    · subst ha; exact .inr hp
    · rw [upd_ne ha] at z; exact .inl z⟩ (.tup (SqT.of upd_same) (dpa_mono (.new (kp.free hp)) h)) (by simp [O.fp]) fun a ha => by cases ha
/-! ### rules by frozen operands -/
def FdR (K : Lay) (r : R2) (g : D → D → Option O) : Prop := ∀ F H x y d e o, Kp F H → Dp K F x d → Dp K F y e → g d e = some o → ∀ Q : VK, Gives K F H o Q → r x y H Q
def CdR (K : Lay) (r : List V → Hp → VK → Prop) (g : List D → Option O) : Prop := ∀ F H vs ds o, Kp F H → DpAll K F vs ds → g ds = some o → ∀ Q : VK, Gives K F H o Q → r vs H Q
def eOpF (g : D → D → Option O) (a b : Δ → Option (D × Δ)) : Δ → Option (P × Δ) := fun δ => (a δ).bind fun r => (b r.2).bind fun s => (g r.1 s.1).map fun o => (.tm o, s.2)
theorem sx_opF {r : R2} {g : D → D → Option O} {ta tb : TE} {a b : Δ → Option (D × Δ)} (hr : FdR K r g) (ha : SD K ta a) (hb : SD K tb b) : SX K (tOp r ta tb) (eOpF g a b) := fun δ p δ' e σ F H rp Q k => by
  obtain ⟨⟨d1, δ1⟩, e1, e⟩ := Option.bind_eq_some_iff.mp e
  obtain ⟨⟨d2, δ2⟩, e2, e⟩ := Option.bind_eq_some_iff.mp e
  obtain ⟨o, e3, e⟩ := Option.map_eq_some_iff.mp e
  cases e
  refine ha δ d1 δ1 e1 σ F H rp _ fun x F1 H1 a1 p1 => hb δ1 d2 δ2 e2 σ F1 H1 a1.rep _ fun y F2 H2 a2 p2 => ?_
  exact hr F2 H2 x y d1 d2 o a2.rep.kp (dp_mono a2.go.kf p1) p2 e3 Q (gives_of a2.rep fun v F' H' a3 p3 n3 => k v F' H' ((a1.trans a2).trans a3) p3 (n3.from (a1.trans a2).go))
def eCall (g : List D → Option O) (a : Δ → Option (List D × Δ)) : Δ → Option (P × Δ) := fun δ => (a δ).bind fun r => (g r.1).map fun o => (.tm o, r.2)
theorem sx_call {r : List V → Hp → VK → Prop} {g : List D → Option O} {ta : TA} {a : Δ → Option (List D × Δ)} (hr : CdR K r g) (ha : SDs K ta a) : SX K (tCB r ta) (eCall g a) := fun δ p δ' e σ F H rp Q k => by
  obtain ⟨⟨ds, δ1⟩, e1, e⟩ := Option.bind_eq_some_iff.mp e
  obtain ⟨o, e3, e⟩ := Option.map_eq_some_iff.mp e
  cases e
  refine ha δ ds δ1 e1 σ F H rp _ fun vs F1 H1 a1 p1 => ?_
  exact hr F1 H1 vs ds o a1.rep.kp p1 e3 Q (gives_of a1.rep fun v F' H' a3 p3 n3 => k v F' H' (a1.trans a3) p3 (n3.from a1.go))
/-- a call that reads one thing and gives a scalar -/
def CrR (K : Lay) (r : List V → Hp → VK → Prop) (g : D → Option D) : Prop := ∀ H x d z, Dp K H x d → g d = some z → ∃ w, sv z = some w ∧ ∀ Q : VK, Q w H → r [x] H Q
def eCall1 (g : D → Option D) (f : Δ → Option (P × Δ)) : Δ → Option (D × Δ) := fun δ => (f δ).bind fun r => (r.1.data r.2).bind fun d => (g d).map fun z => (z, r.2)
theorem sd_call1 {r : List V → Hp → VK → Prop} {g : D → Option D} {te : TE} {f : Δ → Option (P × Δ)} (hr : CrR K r g) (hf : SX K te f) : SD K (tCB r (tCons te tNil)) (eCall1 g f) := fun δ d δ' e σ F H rp Q k => by
  obtain ⟨⟨p, δ1⟩, e1, e⟩ := Option.bind_eq_some_iff.mp e
  obtain ⟨dx, e3, e⟩ := Option.bind_eq_some_iff.mp e
  obtain ⟨z, e5, e⟩ := Option.map_eq_some_iff.mp e
  cases e
  refine hf δ p δ1 e1 σ F H rp _ fun x F' H' a px _ => ?_
  obtain ⟨w, hw, hq⟩ := hr H' x dx d (pr_dp a.rep px e3) e5
  exact hq Q (k w F' H' a (sv_dp hw))
/-! ### unary, displays -/
def UdR (K : Lay) (r : V → Hp → VK → Prop) (g : D → Option D) : Prop := ∀ H x d z, Dp K H x d → g d = some z → ∃ w, sv z = some w ∧ ∀ Q : VK, Q w H → r x H Q
def eUn (g : D → Option D) (a : Δ → Option (D × Δ)) : Δ → Option (D × Δ) := fun δ => (a δ).bind fun r => (g r.1).map fun z => (z, r.2)
theorem sd_un {r : V → Hp → VK → Prop} {g : D → Option D} {te : TE} {a : Δ → Option (D × Δ)} (hr : UdR K r g) (ha : SD K te a) : SD K (tUn r te) (eUn g a) := fun δ d δ' e σ F H rp Q k => by
  obtain ⟨⟨dx, δ1⟩, e1, e⟩ := Option.bind_eq_some_iff.mp e
  obtain ⟨z, e5, e⟩ := Option.map_eq_some_iff.mp e
  cases e
  refine ha δ dx δ1 e1 σ F H rp _ fun x F' H' a px => ?_
  obtain ⟨w, hw, hq⟩ := hr H' x dx d (dp_mono a.rep.kp px) e5
  exact hq Q (k w F' H' a (sv_dp hw))
def eLst (a : Δ → Option (List D × Δ)) : Δ → Option (P × Δ) := fun δ => (a δ).bind fun r => if r.1.length ≤ sizeLine then some (.tm (.ow r.1), r.2) else none
theorem sx_lst {ta : TA} {a : Δ → Option (List D × Δ)} (ha : SDs K ta a) : SX K (tLst ta) (eLst a) := fun δ p δ' e σ F H rp Q k => by
  obtain ⟨⟨ds, δ1⟩, e1, e⟩ := Option.bind_eq_some_iff.mp e
  split at e
  · rename_i hz
    cases e
    refine ha δ ds δ1 e1 σ F H rp _ fun vs F1 H1 a1 p1 => ⟨by rw [dpa_len p1]; exact hz, fun b hb => ?_⟩
    exact (gives_of a1.rep fun v F' H' a3 p3 n3 => k v F' H' (a1.trans a3) p3 (n3.from a1.go)).lst a1.rep.kp p1 hb
  · cases e
def eTup (a : Δ → Option (List D × Δ)) : Δ → Option (D × Δ) := fun δ => (a δ).bind fun r => if r.1.length ≤ sizeLine then some (.tuple r.1, r.2) else none
theorem sd_tup {ta : TA} {a : Δ → Option (List D × Δ)} (ha : SDs K ta a) : SD K (tTup ta) (eTup a) := fun δ d δ' e σ F H rp Q k => by
  obtain ⟨⟨ds, δ1⟩, e1, e⟩ := Option.bind_eq_some_iff.mp e
  split at e
  · rename_i hz
    cases e
    refine ha δ ds δ1 e1 σ F H rp _ fun vs F1 H1 a1 p1 => ⟨by rw [dpa_len p1]; exact hz, fun b hb => ?_⟩
    exact (show Gives K F1 H1 (.fz (.tuple ds)) Q from fun v F' H' n ok _ _ => k v F' H' (a1.trans (n.aft a1.rep)) ok).tup a1.rep.kp p1 hb
  · cases e
/-! ### tests -/
def bOf : D → Option Bool
  | .bool b => some b
  | _ => none
def eT (a : Δ → Option (D × Δ)) : Δ → Option (Bool × Δ) := fun δ => (a δ).bind fun r => (bOf r.1).map fun b => (b, r.2)
theorem st_testOf {te : TE} {a : Δ → Option (D × Δ)} (ha : SD K te a) : ST K (tTest te) (eT a) := fun δ b δ' e σ F H rp Q k => by
  obtain ⟨⟨d, δ1⟩, e1, e⟩ := Option.bind_eq_some_iff.mp e
  obtain ⟨z, e5, e⟩ := Option.map_eq_some_iff.mp e
  cases e
  have hd : d = .bool b := by cases d <;> cases e5; rfl
  subst hd
  exact ha δ _ δ1 e1 σ F H rp _ fun v F' H' a p => ⟨b, dp_bool p, k F' H' a⟩
theorem st_bOf {te : TE} {a : Δ → Option (D × Δ)} (ha : SD K te a) : ST K (tB te) (eT a) := fun δ b δ' e σ F H rp Q k => by
  obtain ⟨⟨d, δ1⟩, e1, e⟩ := Option.bind_eq_some_iff.mp e
  obtain ⟨z, e5, e⟩ := Option.map_eq_some_iff.mp e
  cases e
  have hd : d = .bool b := by cases d <;> cases e5; rfl
  subst hd
  exact ha δ _ δ1 e1 σ F H rp _ fun v F' H' a p => ⟨b, dp_bool p, k F' H' a⟩
/-- a bool's and a number's truth, a text's, a list's -/
def truD : D → Option Bool
  | .none => some false
  | .bool b => some b
  | .int i => some (i != 0)
  | .str s => if s.length ≤ sizeLine then some ((s.length : Int) != 0) else none
  | .list ds => some (!ds.isEmpty)
  | .tuple ds => some (!ds.isEmpty)
  | _ => none
def tTruV (K : Lay) (te : TE) : TT := fun σ H Q => te σ H fun x H1 => ∃ k, TruV K x H1 k ∧ Q k H1
def eTru (f : Δ → Option (P × Δ)) : Δ → Option (Bool × Δ) := fun δ => (f δ).bind fun r => (r.1.data r.2).bind fun d => (truD d).map fun b => (b, r.2)
theorem tru_dp (h : Dp K H x d) {b : Bool} (e : truD d = some b) : TruV K x H b := by
  cases h with
  | non => cases e; rfl
  | bl b => cases e; rfl
  | int i => cases e; rfl
  | str s =>
    simp only [truD] at e
    split at e
    · rename_i hz
      cases e; exact ⟨hz, rfl⟩
    · cases e
  | lst s a =>
    cases e
    exact .inl ⟨_, s, by cases a <;> rfl⟩
  | tup s a =>
    cases e
    exact .inr (.inl ⟨_, s, by cases a <;> rfl⟩)
theorem st_tru {te : TE} {f : Δ → Option (P × Δ)} (hf : SX K te f) : ST K (tTruV K te) (eTru f) := fun δ b δ' e σ F H rp Q k => by
  obtain ⟨⟨p, δ1⟩, e1, e⟩ := Option.bind_eq_some_iff.mp e
  obtain ⟨d, e3, e⟩ := Option.bind_eq_some_iff.mp e
  obtain ⟨z, e5, e⟩ := Option.map_eq_some_iff.mp e
  cases e
  exact hf δ p δ1 e1 σ F H rp _ fun x F' H' a px _ => ⟨b, tru_dp (pr_dp a.rep px e3) e5, k F' H' a⟩
def eAnd (a b : Δ → Option (Bool × Δ)) : Δ → Option (Bool × Δ) := fun δ => (a δ).bind fun r => if r.1 = true then b r.2 else some (false, r.2)
def eOr (a b : Δ → Option (Bool × Δ)) : Δ → Option (Bool × Δ) := fun δ => (a δ).bind fun r => if r.1 = true then some (true, r.2) else b r.2
def eNot (a : Δ → Option (Bool × Δ)) : Δ → Option (Bool × Δ) := fun δ => (a δ).map fun r => (!r.1, r.2)
theorem st_and {t u : TT} {a b : Δ → Option (Bool × Δ)} (ha : ST K t a) (hb : ST K u b) : ST K (tAnd t u) (eAnd a b) := fun δ c δ' e σ F H rp Q k => by
  obtain ⟨⟨c1, δ1⟩, e1, e⟩ := Option.bind_eq_some_iff.mp e
  refine ha δ c1 δ1 e1 σ F H rp _ fun F1 H1 a1 => ?_
  cases c1 with
  | true => exact hb δ1 c δ' e σ F1 H1 a1.rep _ fun F2 H2 a2 => k F2 H2 (a1.trans a2)
  | false =>
    cases e
    exact k F1 H1 a1
theorem st_or {t u : TT} {a b : Δ → Option (Bool × Δ)} (ha : ST K t a) (hb : ST K u b) : ST K (tOr t u) (eOr a b) := fun δ c δ' e σ F H rp Q k => by
  obtain ⟨⟨c1, δ1⟩, e1, e⟩ := Option.bind_eq_some_iff.mp e
  refine ha δ c1 δ1 e1 σ F H rp _ fun F1 H1 a1 => ?_
  cases c1 with
  | false => exact hb δ1 c δ' e σ F1 H1 a1.rep _ fun F2 H2 a2 => k F2 H2 (a1.trans a2)
  | true =>
    cases e
    exact k F1 H1 a1
theorem st_not {t : TT} {a : Δ → Option (Bool × Δ)} (ha : ST K t a) : ST K (tNot t) (eNot a) := fun δ c δ' e σ F H rp Q k => by
  obtain ⟨⟨c1, δ1⟩, e1, e⟩ := Option.map_eq_some_iff.mp e
  cases e
  exact ha δ c1 δ1 e1 σ F H rp _ fun F1 H1 a1 => k F1 H1 a1
/-- and, or, not as values; if as an expression -/
def eAndV (a b : Δ → Option (D × Δ)) : Δ → Option (D × Δ) := fun δ => (a δ).bind fun r => (bOf r.1).bind fun c => if c = true then b r.2 else some (.bool false, r.2)
def eOrV (a b : Δ → Option (D × Δ)) : Δ → Option (D × Δ) := fun δ => (a δ).bind fun r => (bOf r.1).bind fun c => if c = true then some (.bool true, r.2) else b r.2
def eNotV (a : Δ → Option (D × Δ)) : Δ → Option (D × Δ) := fun δ => (a δ).bind fun r => (bOf r.1).map fun c => (.bool (!c), r.2)
theorem bOf_eq {b : Bool} (e : bOf d = some b) : d = .bool b := by cases d <;> cases e; rfl
theorem sd_andV {ta tb : TE} {a b : Δ → Option (D × Δ)} (ha : SD K ta a) (hb : SD K tb b) : SD K (tAndV ta tb) (eAndV a b) := fun δ d δ' e σ F H rp Q k => by
  obtain ⟨⟨d1, δ1⟩, e1, e⟩ := Option.bind_eq_some_iff.mp e
  obtain ⟨c, e2, e⟩ := Option.bind_eq_some_iff.mp e
  cases bOf_eq e2
  refine ha δ _ δ1 e1 σ F H rp _ fun x F1 H1 a1 p1 => ⟨c, dp_bool p1, ?_⟩
  cases c with
  | true => exact hb δ1 d δ' e σ F1 H1 a1.rep _ fun y F2 H2 a2 p2 => k y F2 H2 (a1.trans a2) p2
  | false =>
    cases e
    exact k _ F1 H1 a1 (.bl false)
theorem sd_orV {ta tb : TE} {a b : Δ → Option (D × Δ)} (ha : SD K ta a) (hb : SD K tb b) : SD K (tOrV ta tb) (eOrV a b) := fun δ d δ' e σ F H rp Q k => by
  obtain ⟨⟨d1, δ1⟩, e1, e⟩ := Option.bind_eq_some_iff.mp e
  obtain ⟨c, e2, e⟩ := Option.bind_eq_some_iff.mp e
  cases bOf_eq e2
  refine ha δ _ δ1 e1 σ F H rp _ fun x F1 H1 a1 p1 => ⟨c, dp_bool p1, ?_⟩
  cases c with
  | false => exact hb δ1 d δ' e σ F1 H1 a1.rep _ fun y F2 H2 a2 p2 => k y F2 H2 (a1.trans a2) p2
  | true =>
    cases e
    exact k _ F1 H1 a1 (.bl true)
theorem sd_notV {ta : TE} {a : Δ → Option (D × Δ)} (ha : SD K ta a) : SD K (tNotV ta) (eNotV a) := fun δ d δ' e σ F H rp Q k => by
  obtain ⟨⟨d1, δ1⟩, e1, e⟩ := Option.bind_eq_some_iff.mp e
  obtain ⟨c, e2, e⟩ := Option.map_eq_some_iff.mp e
  cases bOf_eq e2
  cases e
  exact ha δ _ δ1 e1 σ F H rp _ fun x F1 H1 a1 p1 => ⟨c, dp_bool p1, k _ F1 H1 a1 (.bl _)⟩
def eIf (t : Δ → Option (Bool × Δ)) (a b : Δ → Option (P × Δ)) : Δ → Option (P × Δ) := fun δ => (t δ).bind fun r => if r.1 = true then a r.2 else b r.2
theorem sx_if {t : TT} {ta tb : TE} {c : Δ → Option (Bool × Δ)} {a b : Δ → Option (P × Δ)} (hc : ST K t c) (ha : SX K ta a) (hb : SX K tb b) : SX K (tIf t ta tb) (eIf c a b) := fun δ p δ' e σ F H rp Q k => by
  obtain ⟨⟨c1, δ1⟩, e1, e⟩ := Option.bind_eq_some_iff.mp e
  refine hc δ c1 δ1 e1 σ F H rp _ fun F1 H1 a1 => ?_
  cases c1 with
  | true => exact ha δ1 p δ' e σ F1 H1 a1.rep _ fun y F2 H2 a2 p2 n2 => k y F2 H2 (a1.trans a2) p2 (n2.from a1.go)
  | false => exact hb δ1 p δ' e σ F1 H1 a1.rep _ fun y F2 H2 a2 p2 n2 => k y F2 H2 (a1.trans a2) p2 (n2.from a1.go)
/-! ### subscripts, slices: what the items are -/
/-- the items, each frozen; an own list of lists is frozen first -/
def norm : P → Δ → Option (P × Δ)
  | .tm (.oo dss), δ => (force (.tm (.oo dss)) δ).map fun r => (.tm (.fz r.1), r.2)
  | .tm (.mx is), δ => (force (.tm (.mx is)) δ).map fun r => (.tm (.fz r.1), r.2)
  | .sl i, δ => match δ[i]? with
    | some (some (.oo _)) => (force (.sl i) δ).map fun r => (.tm (.fz r.1), r.2)
    | some (some (.mx _)) => (force (.sl i) δ).map fun r => (.tm (.fz r.1), r.2)
    | _ => some (.sl i, δ)
  | p, δ => some (p, δ)
def isOO : O → Bool
  | .oo _ => true
  | .mx _ => true
  | _ => false
def flat (δ : Δ) : P → Bool
  | .tm o => !isOO o
  | .sl i => match δ[i]? with
    | some (some o) => !isOO o
    | _ => false
theorem norm_ok (a : Aft K F0 H0 σ δ0 F H δ) (h : PR K F H σ δ v p) (n : Nw H0 σ δ0 H v p) (e : norm p δ = some (q, δ1)) :
    ∃ F', Aft K F0 H0 σ δ0 F' H δ1 ∧ PR K F' H σ δ1 v q ∧ Nw H0 σ δ0 H v q ∧ flat δ1 q = true := by
  have fin : ∀ {d δ2}, force p δ = some (d, δ2) → (P.tm (.fz d), δ2) = (q, δ1) → ∃ F', Aft K F0 H0 σ δ0 F' H δ1 ∧ PR K F' H σ δ1 v q ∧ Nw H0 σ δ0 H v q ∧ flat δ1 q = true := fun {d δ2} e1 e2 => by
    cases e2
    obtain ⟨F', a1, d1, _⟩ := force_ok a h n e1
    exact ⟨F', a1, ⟨d1, by simp [O.fp], (fun z hz => by cases hz)⟩, (fun z hz => by cases hz), Eq.refl _⟩
  cases p with
  | tm o =>
    cases o with
    | oo dss =>
      simp only [norm] at e
      obtain ⟨⟨d, δ2⟩, e1, e2⟩ := Option.map_eq_some_iff.mp e
      exact fin e1 e2
    | mx is =>
      simp only [norm] at e
      obtain ⟨⟨d, δ2⟩, e1, e2⟩ := Option.map_eq_some_iff.mp e
      exact fin e1 e2
    | fz d => cases e; exact ⟨F, a, h, n, rfl⟩
    | ow d => cases e; exact ⟨F, a, h, n, rfl⟩
    | ln d => cases e; exact ⟨F, a, h, n, rfl⟩
  | sl i =>
    obtain ⟨h1, o, h2⟩ := h
    cases o with
    | oo dss =>
      simp only [norm, h2] at e
      obtain ⟨⟨d, δ2⟩, e1, e2⟩ := Option.map_eq_some_iff.mp e
      exact fin e1 e2
    | mx is =>
      simp only [norm, h2] at e
      obtain ⟨⟨d, δ2⟩, e1, e2⟩ := Option.map_eq_some_iff.mp e
      exact fin e1 e2
    | fz d => simp only [norm, h2] at e; cases e; exact ⟨F, a, ⟨h1, _, h2⟩, n, by simp [flat, h2, isOO]⟩
    | ow d => simp only [norm, h2] at e; cases e; exact ⟨F, a, ⟨h1, _, h2⟩, n, by simp [flat, h2, isOO]⟩
    | ln d => simp only [norm, h2] at e; cases e; exact ⟨F, a, ⟨h1, _, h2⟩, n, by simp [flat, h2, isOO]⟩
/-- frozen items of a sequence -/
def Items (K : Lay) (F H : Hp) (v : V) (d : D) : Prop := match d with
  | .list ds => ∃ p xs, v = .ref p ∧ SqL K H p xs ∧ DpAll K F xs ds
  | .tuple ds => ∃ p xs, v = .ref p ∧ SqT K H p xs ∧ DpAll K F xs ds
  | .str s => v = .str s
  | _ => True
theorem ok_items (kp : Kp F H) (h : Ok K F H v o) (hf : isOO o = false) : Items K F H v o.toD := by
  cases o with
  | fz d =>
    cases h with
    | lst s a => exact ⟨_, _, rfl, kp.sqL s, a⟩
    | tup s a => exact ⟨_, _, rfl, kp.sqT s, a⟩
    | str s => exact Eq.refl _
    | _ => trivial
  | ow ds =>
    obtain ⟨p, rfl, xs, e1, _, e3⟩ := h
    exact ⟨p, xs, rfl, SqL.of e1, e3⟩
  | ln ds =>
    obtain ⟨p, rfl, xs, e1, _, e3⟩ := h
    exact ⟨p, xs, rfl, SqL.of e1, e3⟩
  | oo dss => cases hf
  | mx is => cases hf
theorem pr_items (r : Rep K F H σ δ) (h : PR K F H σ δ v p) (hf : flat δ p = true) (e : p.data δ = some d) : Items K F H v d := by
  cases p with
  | tm o => cases e; exact ok_items r.kp h.ok (by simpa [flat] using hf)
  | sl i =>
    obtain ⟨h1, o, h2⟩ := h
    simp only [P.data, h2, Option.some.injEq] at e
    simp only [flat, h2] at hf
    subst e
    obtain ⟨v', e1, e2, _⟩ := r.ok i o h2
    rw [h1] at e1; cases e1
    exact ok_items r.kp e2 (by simpa using hf)
/-- x[i] -/
def ixD (d : D) (e : D) : Option D := match d, e with
  | .list ds, .int i => atI ds i
  | .tuple ds, .int i => atI ds i
  | .str s, .int i => if s.length ≤ sizeLine then (atI s.cps.toList i).map fun c => .str ⟨#[c]⟩ else none
  | _, _ => none
def eIx (f : Δ → Option (P × Δ)) (g : Δ → Option (D × Δ)) : Δ → Option (D × Δ) := fun δ => (f δ).bind fun r => (norm r.1 r.2).bind fun s => (g s.2).bind fun t => (s.1.data t.2).bind fun d => (ixD d t.1).bind fun z => if flat t.2 s.1 = true then some (z, t.2) else none
theorem dpa_at {xs : List V} {ds : List D} (h : DpAll K F xs ds) {i : Int} (e : atI ds i = some d) : ∃ v, atI xs i = some v ∧ Dp K F v d := by
  unfold atI at e ⊢
  rw [dpa_len h]
  cases q : ixN ds.length i with
  | none => rw [q] at e; cases e
  | some j =>
    rw [q] at e
    obtain ⟨v, e1, e2⟩ := dpa_get (i := j) h (by simpa using e)
    exact ⟨v, by simpa using e1, e2⟩
theorem sd_ix {ta tb : TE} {f : Δ → Option (P × Δ)} {g : Δ → Option (D × Δ)} (hf : SX K ta f) (hg : SD K tb g) : SD K (tOp (rIx K) ta tb) (eIx f g) := fun δ d δ' e σ F H rp Q k => by
  obtain ⟨⟨p, δ1⟩, e1, e⟩ := Option.bind_eq_some_iff.mp e
  obtain ⟨⟨q, δ2⟩, e2, e⟩ := Option.bind_eq_some_iff.mp e
  obtain ⟨⟨i, δ3⟩, e3, e⟩ := Option.bind_eq_some_iff.mp e
  obtain ⟨c, e4, e⟩ := Option.bind_eq_some_iff.mp e
  obtain ⟨z, e5, e⟩ := Option.bind_eq_some_iff.mp e
  split at e
  case isFalse => cases e
  rename_i hfl
  cases e
  refine hf δ p δ1 e1 σ F H rp _ fun x F1 H1 a1 p1 n1 => ?_
  obtain ⟨F2, a2, p2, n2, _⟩ := norm_ok a1 p1 n1 e2
  refine hg δ2 i δ3 e3 σ F2 H1 a2.rep _ fun y F3 H3 a3 p3 => ?_
  have it := pr_items a3.rep (p2.step a3).1 hfl e4
  have fin := fun v (hv : Dp K F3 v d) => k v F3 H3 (a2.trans a3) hv
  cases i with
  | int i =>
    obtain rfl := dp_int p3
    cases c with
    | str s =>
      simp only [ixD] at e5
      split at e5
      · rename_i hz
        obtain ⟨c, h1, h2⟩ := Option.map_eq_some_iff.mp e5
        subst h2
        exact .inr (.inr ⟨s, i, c, it, rfl, hz, h1, fin _ (.str _)⟩)
      · cases e5
    | list ds =>
      obtain ⟨b, xs, rfl, h1, h2⟩ := it
      obtain ⟨w, w1, w2⟩ := dpa_at h2 (show atI ds i = some d from e5)
      exact .inl ⟨b, xs, i, w, rfl, rfl, h1, w1, fin _ w2⟩
    | tuple ds =>
      obtain ⟨b, xs, rfl, h1, h2⟩ := it
      obtain ⟨w, w1, w2⟩ := dpa_at h2 (show atI ds i = some d from e5)
      exact .inr (.inl ⟨b, xs, i, w, rfl, rfl, h1, w1, fin _ w2⟩)
    | _ => cases e5
  | _ => cases c <;> cases e5
/-- a part of a slice -/
def SO (K : Lay) (to : TO) (g : Δ → Option (Option Int × Δ)) : Prop := ∀ δ d δ', g δ = some (d, δ') → ∀ σ F H, Rep K F H σ δ → ∀ Q : Option Int → Hp → Prop,
  (∀ F' H', Aft K F H σ δ F' H' δ' → Q d H') → to σ H Q
def eNo : Δ → Option (Option Int × Δ) := fun δ => some (none, δ)
def eYes (g : Δ → Option (D × Δ)) : Δ → Option (Option Int × Δ) := fun δ => (g δ).bind fun r => match r.1 with
  | .int i => some (some i, r.2)
  | _ => none
theorem so_no : SO K tNoPart eNo := fun δ d δ' e σ F H rp Q k => by cases e; exact k F H (.rfl rp)
theorem so_yes {te : TE} {g : Δ → Option (D × Δ)} (h : SD K te g) : SO K (tPart te) (eYes g) := fun δ d δ' e σ F H rp Q k => by
  obtain ⟨⟨z, δ1⟩, e1, e⟩ := Option.bind_eq_some_iff.mp e
  cases z with
  | int i => cases e; exact h δ _ _ e1 σ F H rp _ fun v F' H' a p => ⟨_, dp_int p, k F' H' a⟩
  | _ => cases e
def cutD (xs : List D) (lo hi : Option Int) : List D := (xs.drop (HT.sIx xs.length 0 lo)).take (HT.sIx xs.length xs.length hi - HT.sIx xs.length 0 lo)
theorem dpa_cut {xs : List V} {ds : List D} (h : DpAll K F xs ds) (lo hi : Option Int) : DpAll K F (cutV xs lo hi) (cutD ds lo hi) := by
  unfold cutV cutD
  rw [dpa_len h]
  exact dpa_take _ (dpa_drop _ h)
def slD (d : D) (lo hi : Option Int) : Option O := match d with
  | .list ds => some (.ow (cutD ds lo hi))
  | .tuple ds => some (.fz (.tuple (cutD ds lo hi)))
  | .str s => if s.length ≤ sizeLine then some (.fz (.str (cutS s lo hi))) else none
  | _ => none
def rSlU (K : PySem.W.Frag) : V → Option Int → Option Int → Hp → VK → Prop := fun x lo hi H Q => rSlL K x lo hi H Q ∨ rSlA K x lo hi H Q ∨ ∃ z, x = .str z ∧ z.length ≤ sizeLine ∧ Q (.str (cutS z lo hi)) H
def eSl (f : Δ → Option (P × Δ)) (a b : Δ → Option (Option Int × Δ)) : Δ → Option (P × Δ) := fun δ => (f δ).bind fun r => (norm r.1 r.2).bind fun s => (a s.2).bind fun t => (b t.2).bind fun u => (s.1.data u.2).bind fun d => (slD d t.1 u.1).bind fun z => if flat u.2 s.1 = true then some (.tm z, u.2) else none
theorem sx_sl {te : TE} {ta tb : TO} {f : Δ → Option (P × Δ)} {a b : Δ → Option (Option Int × Δ)} (hf : SX K te f) (ha : SO K ta a) (hb : SO K tb b) : SX K (tSl (rSlU K) te ta tb) (eSl f a b) := fun δ p δ' e σ F H rp Q k => by
  obtain ⟨⟨p1, δ1⟩, e1, e⟩ := Option.bind_eq_some_iff.mp e
  obtain ⟨⟨q, δ2⟩, e2, e⟩ := Option.bind_eq_some_iff.mp e
  obtain ⟨⟨i, δ3⟩, e3, e⟩ := Option.bind_eq_some_iff.mp e
  obtain ⟨⟨j, δ4⟩, e4, e⟩ := Option.bind_eq_some_iff.mp e
  obtain ⟨c, e5, e⟩ := Option.bind_eq_some_iff.mp e
  obtain ⟨z, e6, e⟩ := Option.bind_eq_some_iff.mp e
  split at e
  case isFalse => cases e
  rename_i hfl
  cases e
  refine hf δ p1 δ1 e1 σ F H rp _ fun x F1 H1 a1 p1 n1 => ?_
  obtain ⟨F2, a2, p2, n2, _⟩ := norm_ok a1 p1 n1 e2
  refine ha δ2 i δ3 e3 σ F2 H1 a2.rep _ fun F3 H3 a3 => ?_
  refine hb δ3 j δ4 e4 σ F3 H3 a3.rep _ fun F4 H4 a4 => ?_
  have it := pr_items a4.rep ((p2.step a3).1.step a4).1 hfl e5
  have ga := (a2.trans a3).trans a4
  have gv : Gives K F4 H4 z Q := gives_of a4.rep fun v F' H' a5 p5 n5 => k v F' H' (ga.trans a5) p5 (n5.from ga.go)
  cases c with
  | list ds =>
    cases e6
    obtain ⟨b, xs, rfl, h1, h2⟩ := it
    exact .inl ⟨b, xs, rfl, h1, fun p hp => gv.lst a4.rep.kp (dpa_cut h2 i j) hp⟩
  | tuple ds =>
    cases e6
    obtain ⟨b, xs, rfl, h1, h2⟩ := it
    refine .inr (.inl ⟨b, xs, rfl, h1, fun hw => ?_, fun _ p hp => gv.tup a4.rep.kp (dpa_cut h2 i j) hp⟩)
    have ec : cutD ds i j = ds := by
      unfold cutD
      rw [← dpa_len h2, hw.1, hw.2]
      simp [dpa_len h2]
    rw [ec] at gv
    -- the tuple itself: frozen where its items are
    have := p2
    exact (show Q (.ref b) H4 from gv.fz a4.rep.kp (by
      have pq := ((p2.step a3).1.step a4).1
      cases q with
      | tm o =>
        cases o with
        | fz d =>
          have : d = .tuple ds := by simpa [P.data, O.toD] using e5
          subst this
          exact pq.ok
        | ow _ => cases e5
        | oo _ => cases e5
        | mx _ => cases e5
        | ln _ => cases e5
      | sl l =>
        obtain ⟨h3, o, h4⟩ := pq
        simp only [P.data, h4, Option.some.injEq] at e5
        obtain ⟨v', q1, q2, _⟩ := a4.rep.ok l o h4
        rw [h3] at q1; cases q1
        cases o with
        | fz d => cases e5; exact q2
        | ow _ => cases e5
        | oo _ => cases e5
        | mx _ => cases e5
        | ln _ => cases e5))
  | str s =>
    simp only [slD] at e6
    split at e6
    · rename_i hz
      cases e6
      exact .inr (.inr ⟨s, it, hz, gv.sc a4.rep.kp rfl⟩)
    · cases e6
  | _ => cases e6
end
theorem sl_any {X : Cx} : SlR X (rSlU X.K) := sl_list.or (sl_tupA.or sl_str)
end Vi
end
section
set_option Elab.async false
set_option linter.all false
set_option maxRecDepth 100000
set_option maxHeartbeats 1000000
/-! Statements over values: slots, loops, comprehensions. -/
namespace Vi
open PySem PySem.Spec PyProof.Rows L2
inductive Out where
  | nx (δ : Δ) | bk (δ : Δ) | ct (δ : Δ) | rt (o : O) (δ : Δ)
section
variable {K : Lay} {F H F' H' F0 H0 F1 H1 F2 H2 : Hp} {σ σ' σ1 : L2.St} {δ δ' δ0 δ1 δ2 : Δ} {v x y : V} {p q : P} {o : O} {d e : D}
/-- what an end asks -/
def Rch (K : Lay) (F H : Hp) (σ : L2.St) (δ δ' : Δ) (R : L2.St → Hp → Prop) : Prop := ∀ σ' F' H', Rep K F' H' σ' δ' → Go F H σ δ F' H' σ' δ' → R σ' H'
def Fin (K : Lay) (F H : Hp) (σ : L2.St) (δ : Δ) (E : Ends) : Out → Prop
  | .nx δ' => Rch K F H σ δ δ' E.nx
  | .bk δ' => Rch K F H σ δ δ' E.bk
  | .ct δ' => Rch K F H σ δ δ' E.ct
  | .rt o δ' => ∀ v σ' F' H', Rep K F' H' σ' δ' → Go F H σ δ F' H' σ' δ' → Tmp K F' H' σ' δ' v o → Nw H σ δ H' v (.tm o) → E.rt v H'
def SS (K : Lay) (ts : TS) (m : Δ → Option Out) : Prop := ∀ δ out, m δ = some out → ∀ σ F H, Rep K F H σ δ → ∀ E : Ends, Fin K F H σ δ E out → ts E σ H
theorem Fin.from {out : Out} {E : Ends} (g : Go F H σ δ F1 H1 σ1 δ1) (h : Fin K F H σ δ E out) : Fin K F1 H1 σ1 δ1 E out := by
  cases out with
  | nx δ' => exact fun σ' F' H' r g' => h σ' F' H' r (g.trans g')
  | bk δ' => exact fun σ' F' H' r g' => h σ' F' H' r (g.trans g')
  | ct δ' => exact fun σ' F' H' r g' => h σ' F' H' r (g.trans g')
  | rt o δ' =>
    intro v σ' F' H' r g' t n
    refine h v σ' F' H' r (g.trans g') t fun z hz => ?_
    rcases n z hz with w | w
    · exact g.hd z w
    · by_cases q : H z = none
      · exact .inr q
      · exact absurd w (g.st z q)
/-! ### blocks -/
def mSeq (a b : Δ → Option Out) : Δ → Option Out := fun δ => (a δ).bind fun r => match r with
  | .nx δ1 => b δ1
  | r => some r
theorem ss_seq {t u : TS} {a b : Δ → Option Out} (ha : SS K t a) (hb : SS K u b) : SS K (tSeq t u) (mSeq a b) := fun δ out e σ F H r E k => by
  obtain ⟨o1, e1, e2⟩ := Option.bind_eq_some_iff.mp e
  refine ha δ o1 e1 σ F H r _ ?_
  cases o1 with
  | nx δ1 => exact fun σ1 F1 H1 r1 g1 => hb δ1 out e2 σ1 F1 H1 r1 E (k.from g1)
  | bk δ1 => cases e2; exact k
  | ct δ1 => cases e2; exact k
  | rt o δ1 => cases e2; exact k
def mPass : Δ → Option Out := fun δ => some (.nx δ)
def mBrk : Δ → Option Out := fun δ => some (.bk δ)
def mCnt : Δ → Option Out := fun δ => some (.ct δ)
theorem ss_pass : SS K tNext mPass := fun δ out e σ F H r E k => by cases e; exact k σ F H r .rfl
theorem ss_brk : SS K tBreak mBrk := fun δ out e σ F H r E k => by cases e; exact k σ F H r .rfl
theorem ss_cnt : SS K tCont mCnt := fun δ out e σ F H r E k => by cases e; exact k σ F H r .rfl
def mIf (c : Δ → Option (Bool × Δ)) (a b : Δ → Option Out) : Δ → Option Out := fun δ => (c δ).bind fun r => if r.1 = true then a r.2 else b r.2
theorem ss_if {t : TT} {u w : TS} {c : Δ → Option (Bool × Δ)} {a b : Δ → Option Out} (hc : ST K t c) (ha : SS K u a) (hb : SS K w b) : SS K (tIfS t u w) (mIf c a b) := fun δ out e σ F H r E k => by
  obtain ⟨⟨c1, δ1⟩, e1, e2⟩ := Option.bind_eq_some_iff.mp e
  refine hc δ c1 δ1 e1 σ F H r _ fun F1 H1 a1 => ?_
  cases c1 with
  | true => exact ha δ1 out e2 σ F1 H1 a1.rep E (k.from a1.go)
  | false => exact hb δ1 out e2 σ F1 H1 a1.rep E (k.from a1.go)
def mDrop (f : Δ → Option (P × Δ)) : Δ → Option Out := fun δ => (f δ).map fun r => .nx r.2
theorem ss_drop {te : TE} {f : Δ → Option (P × Δ)} (hf : SX K te f) : SS K (tDrop te) (mDrop f) := fun δ out e σ F H r E k => by
  obtain ⟨⟨p, δ1⟩, e1, e2⟩ := Option.map_eq_some_iff.mp e
  cases e2
  exact hf δ p δ1 e1 σ F H r _ fun v F1 H1 a1 _ _ => k σ F1 H1 a1.rep a1.go
/-- return e: an own thing goes out, a slot's own thing with its slot -/
def retP : P → Δ → Option (O × Δ)
  | .tm (.ln _), _ => none
  | .tm o, δ => some (o, δ)
  | .sl i, δ => match δ[i]? with
    | some (some (.ln _)) => none
    | some (some o) => some (o, δ.set i none)
    | _ => none
def mRet (f : Δ → Option (P × Δ)) : Δ → Option Out := fun δ => (f δ).bind fun r => (retP r.1 r.2).map fun s => .rt s.1 s.2
theorem Rep.drop (r : Rep K F H σ δ) (i : Nat) : Rep K F H σ (δ.set i none) ∧ ∀ j a, Own H σ (δ.set i none) j a → j ≠ i ∧ Own H σ δ j a := by
  have own_of : ∀ j a, Own H σ (δ.set i none) j a → j ≠ i ∧ Own H σ δ j a := fun j a ⟨w, u, q1, q2, q3⟩ => by
    by_cases hj : i = j
    · subst hj
      by_cases hi : i < δ.length
      · rw [List.getElem?_set_self hi] at q2; cases q2
      · rw [List.getElem?_eq_none (by simpa using hi)] at q2; cases q2
    · rw [set_get_ne hj] at q2
      exact ⟨fun z => hj z.symm, w, u, q1, q2, q3⟩
  refine ⟨⟨r.kp, by rw [List.length_set]; exact r.len, fun j u hj => ?_, fun j k a hj hk => r.ap j k a (own_of j a hj).2 (own_of k a hk).2, r.tb⟩, own_of⟩
  by_cases hij : i = j
  · subst hij
    by_cases hi : i < δ.length
    · rw [List.getElem?_set_self hi] at hj; cases hj
    · rw [List.getElem?_eq_none (by simpa using hi)] at hj; cases hj
  · rw [set_get_ne hij] at hj
    exact r.ok j u hj
theorem ss_ret {te : TE} {f : Δ → Option (P × Δ)} (hf : SX K te f) : SS K (tRet te) (mRet f) := fun δ out e σ F H r E k => by
  obtain ⟨⟨p, δ1⟩, e1, e⟩ := Option.bind_eq_some_iff.mp e
  obtain ⟨⟨o, δ2⟩, e2, e⟩ := Option.map_eq_some_iff.mp e
  cases e
  refine hf δ p δ1 e1 σ F H r _ fun v F1 H1 a1 p1 n1 => ?_
  cases p with
  | tm u =>
    have : u = o ∧ δ1 = δ2 := by cases u <;> cases e2 <;> exact ⟨rfl, rfl⟩
    obtain ⟨rfl, rfl⟩ := this
    exact k v σ F1 H1 a1.rep a1.go p1 n1
  | sl i =>
    obtain ⟨h1, u, h2⟩ := p1
    have : isLn u = false ∧ u = o ∧ δ2 = δ1.set i none := by
      cases u <;> simp only [retP, h2] at e2 <;> cases e2 <;> exact ⟨rfl, rfl, rfl⟩
    obtain ⟨hl, rfl, rfl⟩ := this
    obtain ⟨v', e4, e5, e6⟩ := a1.rep.ok i _ h2
    rw [h1] at e4; cases e4
    obtain ⟨r2, ow2⟩ := a1.rep.drop i
    refine k v σ F1 H1 r2 ⟨a1.go.kf, a1.go.kh, a1.go.nf, fun a ⟨j, hj⟩ => a1.go.hd a ⟨j, (ow2 j a hj).2⟩, a1.go.st, fun j ds hj => ?_⟩ ⟨e5, e6, fun a ha ⟨j, hj⟩ => (ow2 j a hj).1 (a1.rep.ap j i a (ow2 j a hj).2 ⟨v, u, h1, h2, ha⟩)⟩ fun a ha => a1.go.hd a ⟨i, v, u, h1, h2, ha⟩
    obtain ⟨q1, es, q2⟩ := a1.go.ln j ds hj
    refine ⟨q1, es, ?_⟩
    by_cases hij : i = j
    · subst hij
      rw [h2] at q2; cases q2; cases hl
    · rw [set_get_ne hij]; exact q2
def mRetN : Δ → Option Out := fun δ => some (.rt (.fz .none) δ)
theorem ss_retN : SS K tRetN mRetN := fun δ out e σ F H r E k => by
  cases e
  exact k .non σ F H r .rfl ⟨.non, by simp [O.fp], fun z hz => by cases hz⟩ fun z hz => by cases hz
/-! ### a slot is given a value -/
def noLn (δ : Δ) (i : Nat) : Bool := match δ[i]? with
  | some (some (.ln _)) => false
  | some _ => true
  | none => false
theorem Rep.put (r : Rep K F H σ δ) (t : Tmp K F H σ δ v o) {i : Nat} (hi : noLn δ i = true) (n : ∀ a ∈ o.fp H v, Held H0 σ δ0 a ∨ H0 a = none) (g : Go F0 H0 σ δ0 F H σ δ) :
    Rep K F H (σ.set i (some v)) (δ.set i (some o)) ∧ Go F0 H0 σ δ0 F H (σ.set i (some v)) (δ.set i (some o)) := by
  have hlt : i < δ.length := by
    cases q : δ[i]? with
    | none => simp [noLn, q] at hi
    | some z => exact (List.getElem?_eq_some_iff.mp q).1
  have own_of : ∀ j a, Own H (σ.set i (some v)) (δ.set i (some o)) j a → (j = i ∧ a ∈ o.fp H v) ∨ (j ≠ i ∧ Own H σ δ j a) := fun j a ⟨w, u, q1, q2, q3⟩ => by
    by_cases hj : i = j
    · subst hj
      rw [List.getElem?_set_self hlt] at q2
      rw [List.getElem?_set_self (by rw [r.len]; exact hlt)] at q1
      cases q1; cases q2
      exact .inl ⟨rfl, q3⟩
    · rw [set_get_ne hj] at q1 q2
      exact .inr ⟨fun z => hj z.symm, w, u, q1, q2, q3⟩
  refine ⟨⟨r.kp, by rw [List.length_set, List.length_set]; exact r.len, fun j u hj => ?_, fun j k a hj hk => ?_, r.tb⟩, ⟨g.kf, g.kh, g.nf, fun a ⟨j, hj⟩ => ?_, g.st, fun j ds hj => ?_⟩⟩
  · by_cases hij : i = j
    · subst hij
      rw [List.getElem?_set_self hlt] at hj; cases hj
      exact ⟨v, List.getElem?_set_self (by rw [r.len]; exact hlt), t.ok, t.nd⟩
    · rw [set_get_ne hij] at hj
      obtain ⟨w, q1, q2, q3⟩ := r.ok j u hj
      exact ⟨w, by rw [set_get_ne hij]; exact q1, q2, q3⟩
  · rcases own_of j a hj with ⟨rfl, h1⟩ | ⟨n1, h1⟩
    · rcases own_of k a hk with ⟨rfl, h2⟩ | ⟨n2, h2⟩
      · rfl
      · exact absurd ⟨k, h2⟩ (t.ap a h1)
    · rcases own_of k a hk with ⟨rfl, h2⟩ | ⟨n2, h2⟩
      · exact absurd ⟨j, h1⟩ (t.ap a h2)
      · exact r.ap j k a h1 h2
  · rcases own_of j a hj with ⟨rfl, h1⟩ | ⟨n1, h1⟩
    · exact n a h1
    · exact g.hd a ⟨j, h1⟩
  · obtain ⟨q1, es, q2⟩ := g.ln j ds hj
    by_cases hij : i = j
    · subst hij
      simp [noLn, q2] at hi
    · exact ⟨(set_get_ne hij).trans q1, es, (set_get_ne hij).trans q2⟩
/-- a value goes into a slot: a slot's own thing is frozen first -/
def putP (i : Nat) : P → Δ → Option Δ
  | .tm (.ln _), _ => none
  | .tm o, δ => if noLn δ i = true then some (δ.set i (some o)) else none
  | .sl j, δ => (force (.sl j) δ).bind fun r => if noLn r.2 i = true then some (r.2.set i (some (.fz r.1))) else none
theorem put_ok {i : Nat} (a : Aft K F0 H0 σ δ0 F H δ) (h : PR K F H σ δ v p) (n : Nw H0 σ δ0 H v p) (e : putP i p δ = some δ1) :
    ∃ F', Rep K F' H (σ.set i (some v)) δ1 ∧ Go F0 H0 σ δ0 F' H (σ.set i (some v)) δ1 := by
  cases p with
  | tm o =>
    have : noLn δ i = true ∧ δ1 = δ.set i (some o) := by
      cases o <;> simp only [putP] at e
      case ln => cases e
      all_goals (split at e <;> cases e; exact ⟨by assumption, rfl⟩)
    obtain ⟨hi, rfl⟩ := this
    exact ⟨F, a.rep.put h hi n a.go⟩
  | sl j =>
    obtain ⟨⟨d, δ2⟩, e1, e2⟩ := Option.bind_eq_some_iff.mp e
    split at e2
    · rename_i hi
      cases e2
      obtain ⟨F', a1, d1, _⟩ := force_ok a h n e1
      exact ⟨F', a1.rep.put (v := v) (o := .fz d) ⟨d1, by simp [O.fp], fun z hz => by cases hz⟩ hi (fun z hz => by cases hz) a1.go⟩
    · cases e2
def mAsg (i : Nat) (f : Δ → Option (P × Δ)) : Δ → Option Out := fun δ => (f δ).bind fun r => (putP i r.1 r.2).map .nx
theorem ss_asg {te : TE} {i : Nat} {f : Δ → Option (P × Δ)} (hf : SX K te f) : SS K (tAsg te (gName i)) (mAsg i f) := fun δ out e σ F H r E k => by
  obtain ⟨⟨p, δ1⟩, e1, e⟩ := Option.bind_eq_some_iff.mp e
  obtain ⟨δ2, e2, e⟩ := Option.map_eq_some_iff.mp e
  cases e
  refine hf δ p δ1 e1 σ F H r _ fun v F1 H1 a1 p1 n1 => ?_
  obtain ⟨F2, r2, g2⟩ := put_ok a1 p1 n1 e2
  exact k _ F2 H1 r2 g2
/-- i op= e, numbers (and texts) -/
def mAug (i : Nat) (g : D → D → Option D) (a : Δ → Option (D × Δ)) : Δ → Option Out := fun δ => match δ[i]? with
  | some (some (.fz d)) => (a δ).bind fun r => (g d r.1).bind fun z => if noLn r.2 i = true then some (.nx (r.2.set i (some (.fz z)))) else none
  | _ => none
def AuR (K : Lay) (ti : TIp) (g : D → D → Option D) : Prop := ∀ H x y d e z, Dp K H x d → Dp K H y e → g d e = some z → ∃ w, sv z = some w ∧ ∀ Q : VK, Q w H → ti x y H Q
theorem ss_aug {te : TE} {i : Nat} {ti : TIp} {g : D → D → Option D} {a : Δ → Option (D × Δ)} (hr : AuR K ti g) (ha : SD K te a) : SS K (tAug i te ti) (mAug i g a) := fun δ out e σ F H r E k => by
  unfold mAug at e
  split at e
  · rename_i d hd
    obtain ⟨⟨d2, δ1⟩, e1, e⟩ := Option.bind_eq_some_iff.mp e
    obtain ⟨z, e2, e⟩ := Option.bind_eq_some_iff.mp e
    split at e
    · rename_i hi
      cases e
      obtain ⟨v, q1, q2, _⟩ := r.ok i _ hd
      refine ⟨v, q1, ha δ d2 δ1 e1 σ F H r _ fun y F1 H1 a1 p1 => ?_⟩
      obtain ⟨w, hw, hq⟩ := hr H1 v y d d2 z (dp_mono (a1.go.kf.trans a1.rep.kp) q2) (dp_mono a1.rep.kp p1) e2
      refine hq _ ?_
      have pp := a1.rep.put (i := i) (v := w) (o := .fz z) (H0 := H) (δ0 := δ) (F0 := F) ⟨sv_dp hw, by simp [O.fp], fun z hz => by cases hz⟩ hi (fun z hz => by cases hz) a1.go
      exact k _ F1 H1 pp.1 pp.2
    · cases e
  · cases e
/-! ### targets -/
/-- a target takes frozen data into slots -/
structure SG (K : Lay) (g : TG) (ix : List Nat) (h : D → Δ → Option Δ) : Prop where
  run : ∀ d δ δ', h d δ = some δ' → ∀ σ F H v, Rep K F H σ δ → Dp K F v d → ∀ Q : L2.St → Hp → Prop,
    (∀ σ', Rep K F H σ' δ' → Go F H σ δ F H σ' δ' → σ'.length = σ.length → (∀ j, j ∉ ix → σ'[j]? = σ[j]?) → (∀ j, j ∉ ix → δ'[j]? = δ[j]?) → (∀ (j : Nat) (es : List D), δ'[j]? = some (some (O.ln es)) → ∃ fs, δ[j]? = some (some (O.ln fs))) → Q σ' H) → g v σ H Q
structure SGs (K : Lay) (g : TGs) (ix : List Nat) (h : List D → Δ → Option Δ) : Prop where
  run : ∀ ds δ δ', h ds δ = some δ' → ∀ σ F H vs, Rep K F H σ δ → DpAll K F vs ds → ∀ Q : L2.St → Hp → Prop,
    (∀ σ', Rep K F H σ' δ' → Go F H σ δ F H σ' δ' → σ'.length = σ.length → (∀ j, j ∉ ix → σ'[j]? = σ[j]?) → (∀ j, j ∉ ix → δ'[j]? = δ[j]?) → (∀ (j : Nat) (es : List D), δ'[j]? = some (some (O.ln es)) → ∃ fs, δ[j]? = some (some (O.ln fs))) → Q σ' H) → g vs σ H Q
def hName (i : Nat) : D → Δ → Option Δ := fun d δ => if noLn δ i = true then some (δ.set i (some (.fz d))) else none
theorem sg_name {i : Nat} : SG K (gName i) [i] (hName i) := ⟨fun d δ δ' e σ F H v r hd Q k => by
  unfold hName at e
  split at e
  · rename_i hi
    cases e
    have pp := r.put (i := i) (v := v) (o := .fz d) (H0 := H) (δ0 := δ) (F0 := F) ⟨hd, by simp [O.fp], fun z hz => by cases hz⟩ hi (fun z hz => by cases hz) .rfl
    exact k _ pp.1 pp.2 (by rw [List.length_set]) (fun j hj => set_get_ne fun z => hj (by simp [z])) (fun j hj => set_get_ne fun z => hj (by simp [z])) fun j es hj => by
      by_cases hij : i = j
      · subst hij
        rw [List.getElem?_set] at hj
        split at hj
        · split at hj <;> cases hj
        · exact ⟨es, hj⟩
      · rw [set_get_ne hij] at hj; exact ⟨es, hj⟩
  · cases e⟩
def hNil : List D → Δ → Option Δ := fun ds δ => match ds with
  | [] => some δ
  | _ => none
def hCons (a : D → Δ → Option Δ) (b : List D → Δ → Option Δ) : List D → Δ → Option Δ := fun ds δ => match ds with
  | d :: r => (a d δ).bind (b r)
  | [] => none
theorem sgs_nil : SGs K gNil [] hNil := ⟨fun ds δ δ' e σ F H vs r hd Q k => by
  cases ds with
  | nil => cases e; cases hd; exact ⟨rfl, k σ r .rfl rfl (fun _ _ => rfl) (fun _ _ => rfl) fun _ es h => ⟨es, h⟩⟩
  | cons d ds => cases e⟩
theorem sgs_cons {g : TG} {gs : TGs} {ix jx : List Nat} {a : D → Δ → Option Δ} {b : List D → Δ → Option Δ} (ha : SG K g ix a) (hb : SGs K gs jx b) : SGs K (gCons g gs) (ix ++ jx) (hCons a b) := ⟨fun ds δ δ' e σ F H vs r hd Q k => by
  cases ds with
  | nil => cases e
  | cons d ds =>
    obtain ⟨δ1, e1, e2⟩ := Option.bind_eq_some_iff.mp e
    cases hd with
    | cons h1 h2 =>
      refine ⟨_, _, rfl, ha.run d δ δ1 e1 σ F H _ r h1 _ fun σ1 r1 g1 l1 s1 t1 u1 => ?_⟩
      refine hb.run ds δ1 δ' e2 σ1 F H _ r1 h2 _ fun σ2 r2 g2 l2 s2 t2 u2 => ?_
      refine k σ2 r2 (g1.trans g2) (l2.trans l1) (fun j hj => ?_) (fun j hj => ?_) fun j es hj => (let ⟨fs, q⟩ := u2 j es hj; u1 j fs q)
      · rw [s2 j fun z => hj (by simp [z]), s1 j fun z => hj (by simp [z])]
      · rw [t2 j fun z => hj (by simp [z]), t1 j fun z => hj (by simp [z])]⟩
def hTup (n : Nat) (b : List D → Δ → Option Δ) : D → Δ → Option Δ := fun d δ => match d with
  | .tuple ds => if ds.length = n then b ds δ else none
  | _ => none
theorem sg_tup {n : Nat} {gs : TGs} {ix : List Nat} {b : List D → Δ → Option Δ} (hb : SGs K gs ix b) : SG K (gTup K n gs) ix (hTup n b) := ⟨fun d δ δ' e σ F H v r hd Q k => by
  cases d with
  | tuple ds =>
    simp only [hTup] at e
    split at e
    · rename_i hl
      obtain ⟨a, xs, rfl, h1, h2⟩ := dp_tuple hd
      exact ⟨a, xs, rfl, r.kp.sqT h1, by rw [dpa_len h2]; exact hl, hb.run ds δ δ' e σ F H xs r h2 Q k⟩
    · cases e
  | _ => cases e⟩
def mTgt (f : Δ → Option (D × Δ)) (h : D → Δ → Option Δ) : Δ → Option Out := fun δ => (f δ).bind fun r => (h r.1 r.2).map .nx
theorem ss_tgt {te : TE} {g : TG} {ix : List Nat} {f : Δ → Option (D × Δ)} {h : D → Δ → Option Δ} (hf : SD K te f) (hg : SG K g ix h) : SS K (tAsg te g) (mTgt f h) := fun δ out e σ F H r E k => by
  obtain ⟨⟨d, δ1⟩, e1, e⟩ := Option.bind_eq_some_iff.mp e
  obtain ⟨δ2, e2, e⟩ := Option.map_eq_some_iff.mp e
  cases e
  exact hf δ d δ1 e1 σ F H r _ fun v F1 H1 a1 p1 => hg.run d δ1 δ2 e2 σ F1 H1 v a1.rep p1 _ fun σ2 r2 g2 _ _ _ _ => k σ2 F1 H1 r2 (a1.go.trans g2)
/-! ### what a loop walks: frozen items -/
def SI (K : Lay) (wi : TI) (g : Δ → Option (List D × Δ)) : Prop := ∀ δ ds δ', g δ = some (ds, δ') → ∀ σ F H, Rep K F H σ δ → ∀ R : It → Hp → Prop,
  (∀ J F' H', Aft K F H σ δ F' H' δ' → (∃ G Y, Walk J ds.length G Y ∧ (∀ H2, Kp F' H2 → G H2) ∧
    ∀ i H2 x H3 F2, i < ds.length → Kp F' F2 → Kp F2 H2 → Y i H2 x H3 → ∃ d F3, ds[i]? = some d ∧ New F2 H2 F3 H3 ∧ Dp K F3 x d) → R J H') → wi σ H R
def eSeq (f : Δ → Option (D × Δ)) : Δ → Option (List D × Δ) := fun δ => (f δ).bind fun r => match r.1 with
  | .list ds => some (ds, r.2)
  | _ => none
def eSeqT (f : Δ → Option (D × Δ)) : Δ → Option (List D × Δ) := fun δ => (f δ).bind fun r => match r.1 with
  | .tuple ds => some (ds, r.2)
  | _ => none
theorem si_list {te : TE} {f : Δ → Option (D × Δ)} (hf : SD K te f) : SI K (iList K te) (eSeq f) := fun δ ds δ' e σ F H r R k => by
  obtain ⟨⟨d, δ1⟩, e1, e⟩ := Option.bind_eq_some_iff.mp e
  cases d with
  | list es =>
    cases e
    refine hf δ _ δ1 e1 σ F H r _ fun v F1 H1 a1 p1 => ?_
    obtain ⟨a, xs, rfl, h1, h2⟩ := dp_list p1
    refine ⟨a, rfl, ⟨xs, a1.rep.kp.sqL h1⟩, k _ F1 H1 a1 ⟨_, _, dpa_len h2 ▸ walk_list (xs := xs), fun H2 k2 => k2.sqL h1, fun i H2 x H3 F2 hi k1 k2 y => ?_⟩⟩
    obtain ⟨rfl, y2⟩ := y
    obtain ⟨d, z1, z2⟩ := dpa_getV h2 y2
    exact ⟨d, F2, z1, .rfl k2, dp_mono k1 z2⟩
  | _ => cases e
theorem si_tup {te : TE} {f : Δ → Option (D × Δ)} (hf : SD K te f) : SI K (iTup K te) (eSeqT f) := fun δ ds δ' e σ F H r R k => by
  obtain ⟨⟨d, δ1⟩, e1, e⟩ := Option.bind_eq_some_iff.mp e
  cases d with
  | tuple es =>
    cases e
    refine hf δ _ δ1 e1 σ F H r _ fun v F1 H1 a1 p1 => ?_
    obtain ⟨a, xs, rfl, h1, h2⟩ := dp_tuple p1
    refine ⟨a, rfl, ⟨xs, a1.rep.kp.sqT h1⟩, k _ F1 H1 a1 ⟨_, _, dpa_len h2 ▸ walk_tup (xs := xs), fun H2 k2 => k2.sqT h1, fun i H2 x H3 F2 hi k1 k2 y => ?_⟩⟩
    obtain ⟨rfl, y2⟩ := y
    obtain ⟨d, z1, z2⟩ := dpa_getV h2 y2
    exact ⟨d, F2, z1, .rfl k2, dp_mono k1 z2⟩
  | _ => cases e
def rangeD (lo : Int) (n : Nat) : List D := (List.range n).map fun (i : Nat) => .int (lo + (i : Int))
theorem rangeD_len (lo : Int) (n : Nat) : (rangeD lo n).length = n := by simp [rangeD]
theorem rangeD_get {lo : Int} {n i : Nat} (h : i < n) : (rangeD lo n)[i]? = some (.int (lo + (i : Int))) := by simp [rangeD, h]
def rgOk (i : Int) : Bool := decide (-(2 ^ 62) ≤ i) && decide (i < 2 ^ 62)
theorem rgOk_iff {i : Int} (h : rgOk i = true) : -(2 ^ 62) ≤ i ∧ i < 2 ^ 62 := by
  unfold rgOk at h
  rw [Bool.and_eq_true] at h
  exact ⟨of_decide_eq_true h.1, of_decide_eq_true h.2⟩
def eRng1 (a : Δ → Option (List D × Δ)) : Δ → Option (List D × Δ) := fun δ => (a δ).bind fun r => match r.1 with
  | [.int j] => if rgOk j = true then some (rangeD 0 j.toNat, r.2) else none
  | _ => none
def eRng2 (a : Δ → Option (List D × Δ)) : Δ → Option (List D × Δ) := fun δ => (a δ).bind fun r => match r.1 with
  | [.int i, .int j] => if rgOk i = true ∧ rgOk j = true then some (rangeD i (j - i).toNat, r.2) else none
  | _ => none
theorem walk_rg {lo : Int} {n : Nat} : ∃ G Y, Walk (Itr lo n) (rangeD lo n).length G Y ∧ (∀ H2, Kp F' H2 → G H2) ∧
    ∀ i H2 x H3 F2, i < (rangeD lo n).length → Kp F' F2 → Kp F2 H2 → Y i H2 x H3 → ∃ d F3, (rangeD lo n)[i]? = some d ∧ New F2 H2 F3 H3 ∧ Dp K F3 x d :=
  ⟨_, _, (by rw [rangeD_len]; exact walk_range (lo := lo) (n := n)), fun _ _ => trivial, fun i H2 x H3 F2 hi _ k2 y => by
    obtain ⟨rfl, rfl⟩ := y
    rw [rangeD_len] at hi
    exact ⟨_, F2, rangeD_get hi, .rfl k2, .int _⟩⟩
theorem si_rng1 {ta : TA} {a : Δ → Option (List D × Δ)} (ha : SDs K ta a) : SI K (iRng1 ta) (eRng1 a) := fun δ ds δ' e σ F H r R k => by
  obtain ⟨⟨es, δ1⟩, e1, e⟩ := Option.bind_eq_some_iff.mp e
  simp only at e
  split at e
  · rename_i j
    split at e
    · rename_i hj
      cases e
      refine ha δ _ _ e1 σ F H r _ fun vs F1 H1 a1 p1 => ?_
      cases p1 with
      | cons z1 z2 =>
        cases z2
        obtain rfl := dp_int z1
        exact ⟨j, rfl, (rgOk_iff hj).1, (rgOk_iff hj).2, k _ F1 H1 a1 walk_rg⟩
    · cases e
  · cases e
theorem si_rng2 {ta : TA} {a : Δ → Option (List D × Δ)} (ha : SDs K ta a) : SI K (iRng2 ta) (eRng2 a) := fun δ ds δ' e σ F H r R k => by
  obtain ⟨⟨es, δ1⟩, e1, e⟩ := Option.bind_eq_some_iff.mp e
  simp only at e
  split at e
  · rename_i i j
    split at e
    · rename_i hj
      cases e
      refine ha δ _ _ e1 σ F H r _ fun vs F1 H1 a1 p1 => ?_
      cases p1 with
      | cons z1 z2 =>
        cases z2 with
        | cons z2 z3 =>
          cases z3
          obtain rfl := dp_int z1
          obtain rfl := dp_int z2
          exact ⟨i, j, rfl, ⟨(rgOk_iff hj.1).1, (rgOk_iff hj.1).2, (rgOk_iff hj.2).1, (rgOk_iff hj.2).2⟩, k _ F1 H1 a1 walk_rg⟩
    · cases e
  · cases e
theorem dp_pair {T : Addr} {a b : V} {d e : D} (kp : Kp F H) (hT : H T = none) (ha : Dp K F a d) (hb : Dp K F b e) : New F H (upd F T (.tup [a, b])) (upd H T (.tup [a, b])) ∧ Dp K (upd F T (.tup [a, b])) (.ref T) (.tuple [d, e]) := by
  refine ⟨⟨.new (kp.free hT), kp_up2 kp, .new hT, fun a z => ?_⟩, .tup (SqT.of upd_same) (.cons (dp_mono (.new (kp.free hT)) ha) (.cons (dp_mono (.new (kp.free hT)) hb) .nil))⟩
  by_cases h : a = T
  · subst h; exact .inr hT
  · rw [upd_ne h] at z; exact .inl z
def enumD : List D → List D := fun ds => (ds.zipIdx 0).map fun p => .tuple [.int (p.2 : Nat), p.1]
theorem enumD_len (ds : List D) : (enumD ds).length = ds.length := by simp [enumD]
theorem enumD_get {ds : List D} {i : Nat} {d : D} (h : ds[i]? = some d) : (enumD ds)[i]? = some (.tuple [.int (i : Nat), d]) := by
  simp [enumD, List.getElem?_zipIdx, h]
def eEnum (a : Δ → Option (List D × Δ)) : Δ → Option (List D × Δ) := fun δ => (a δ).bind fun r => match r.1 with
  | [.list ds] => some (enumD ds, r.2)
  | _ => none
theorem si_enum {ta : TA} {a : Δ → Option (List D × Δ)} (ha : SDs K ta a) : SI K (iEnum K ta) (eEnum a) := fun δ ds δ' e σ F H r R k => by
  obtain ⟨⟨es, δ1⟩, e1, e⟩ := Option.bind_eq_some_iff.mp e
  simp only at e
  split at e
  · rename_i es
    cases e
    refine ha δ _ _ e1 σ F H r _ fun vs F1 H1 a1 p1 => ?_
    cases p1 with
    | cons z1 z2 =>
      cases z2
      obtain ⟨b, xs, rfl, h1, h2⟩ := dp_list z1
      refine ⟨b, xs, rfl, a1.rep.kp.sqL h1, k _ F1 H1 a1 ⟨_, _, (by rw [enumD_len, ← dpa_len h2]; exact walk_enum (xs := xs)), fun H2 k2 => k2.sqL h1, fun i H2 x H3 F2 hi k1 k2 y => ?_⟩⟩
      obtain ⟨T, a, b, rfl, hT, rfl, y1, y2⟩ := y
      cases y1
      obtain ⟨d, w1, w2⟩ := dpa_getV h2 y2
      obtain ⟨n1, n2⟩ := dp_pair (d := .int (i : Nat)) k2 hT (.int _) (dp_mono k1 w2)
      exact ⟨_, _, enumD_get w1, n1, n2⟩
  · cases e
def zipD : List D → List D → List D := fun ds es => (ds.zip es).map fun p => .tuple [p.1, p.2]
def eZip (a : Δ → Option (List D × Δ)) : Δ → Option (List D × Δ) := fun δ => (a δ).bind fun r => match r.1 with
  | [.list ds, .list es] => some (zipD ds es, r.2)
  | _ => none
theorem si_zip {ta : TA} {a : Δ → Option (List D × Δ)} (ha : SDs K ta a) : SI K (iZip K ta) (eZip a) := fun δ ds δ' e σ F H r R k => by
  obtain ⟨⟨es, δ1⟩, e1, e⟩ := Option.bind_eq_some_iff.mp e
  simp only at e
  split at e
  · rename_i ds1 ds2
    cases e
    refine ha δ _ _ e1 σ F H r _ fun vs F1 H1 a1 p1 => ?_
    cases p1 with
    | cons z1 z2 =>
      cases z2 with
      | cons z2 z3 =>
        cases z3
        obtain ⟨b, xs, rfl, h1, h2⟩ := dp_list z1
        obtain ⟨c, ys, rfl, h3, h4⟩ := dp_list z2
        have hl : (zipD ds1 ds2).length = min xs.length ys.length := by simp [zipD, dpa_len h2, dpa_len h4]
        refine ⟨b, c, xs, ys, rfl, a1.rep.kp.sqL h1, a1.rep.kp.sqL h3, k _ F1 H1 a1 ⟨_, _, walk_zip hl, fun H2 k2 => ⟨k2.sqL h1, k2.sqL h3⟩, fun i H2 x H3 F2 hi k1 k2 y => ?_⟩⟩
        obtain ⟨T, a, b, rfl, hT, rfl, y1, y2⟩ := y
        obtain ⟨d, w1, w2⟩ := dpa_getV h2 y1
        obtain ⟨d', w3, w4⟩ := dpa_getV h4 y2
        obtain ⟨n1, n2⟩ := dp_pair k2 hT (dp_mono k1 w2) (dp_mono k1 w4)
        exact ⟨_, _, (by unfold zipD; rw [List.getElem?_map, List.getElem?_zip_eq_some.mpr (show ds1[i]? = some ((d, d') : D × D).1 ∧ ds2[i]? = some ((d, d') : D × D).2 from ⟨w1, w3⟩)]; rfl), n1, n2⟩
  · cases e
def strD (s : Str) : List D := s.cps.toList.map fun c => .str ⟨#[c]⟩
def eStr (f : Δ → Option (D × Δ)) : Δ → Option (List D × Δ) := fun δ => (f δ).bind fun r => match r.1 with
  | .str s => some (strD s, r.2)
  | _ => none
theorem si_str {te : TE} {f : Δ → Option (D × Δ)} (hf : SD K te f) : SI K (iStr te) (eStr f) := fun δ ds δ' e σ F H r R k => by
  obtain ⟨⟨d, δ1⟩, e1, e⟩ := Option.bind_eq_some_iff.mp e
  cases d with
  | str s =>
    cases e
    refine hf δ _ δ1 e1 σ F H r _ fun v F1 H1 a1 p1 => ?_
    obtain rfl := dp_str p1
    refine ⟨s, rfl, k _ F1 H1 a1 ⟨_, _, (by simp only [strD, List.length_map, Array.length_toList]; exact walk_str (z := s)), fun _ _ => trivial, fun i H2 x H3 F2 hi k1 k2 y => ?_⟩⟩
    obtain ⟨rfl, c, hc, rfl⟩ := y
    exact ⟨_, F2, by simp [strD, hc], .rfl k2, .str _⟩
  | _ => cases e
/-! ### for -/
/-- the turns -/
def turns (h : D → Δ → Option Δ) (b : Δ → Option Out) : List D → Δ → Option Out
  | [], δ => some (.nx δ)
  | d :: ds, δ => (h d δ).bind fun δ1 => (b δ1).bind fun r => match r with
    | .nx δ2 => turns h b ds δ2
    | .ct δ2 => turns h b ds δ2
    | .bk δ2 => some (.nx δ2)
    | .rt o δ2 => some (.rt o δ2)
def mFor (g : Δ → Option (List D × Δ)) (h : D → Δ → Option Δ) (b : Δ → Option Out) : Δ → Option Out := fun δ => (g δ).bind fun r => turns h b r.1 r.2
theorem ss_for {wi : TI} {g : TG} {tb : TS} {ix : List Nat} {c : Δ → Option (List D × Δ)} {h : D → Δ → Option Δ} {b : Δ → Option Out} (hi : SI K wi c) (hg : SG K g ix h) (hb : SS K tb b) : SS K (tFor wi g tb) (mFor c h b) := fun δ out e σ F H r E k => by
  obtain ⟨⟨ds, δ1⟩, e1, e⟩ := Option.bind_eq_some_iff.mp e
  refine hi δ ds δ1 e1 σ F H r _ fun J F1 H1 a1 w => ?_
  obtain ⟨G, Y, wk, hG, hY⟩ := w
  let Pv : Nat → L2.St → Hp → Prop := fun i σ2 H2 => ∃ F2 δ2, Rep K F2 H2 σ2 δ2 ∧ Go F H σ δ F2 H2 σ2 δ2 ∧ Kp F1 F2 ∧ turns h b (ds.drop i) δ2 = some out
  -- a turn that has ended: the loop's own end
  have fin : ∀ {F2 H2 σ2 δ2}, Rep K F2 H2 σ2 δ2 → Go F H σ δ F2 H2 σ2 δ2 → out = .nx δ2 → E.nx σ2 H2 := fun r2 g2 eo => by subst eo; exact k _ _ _ r2 g2
  refine for_it wk Pv ⟨F1, δ1, a1.rep, a1.go, .rfl, by simpa using e⟩ (fun i σ2 H2 _ ⟨F2, δ2, r2, _, k2, _⟩ => hG H2 (k2.trans r2.kp)) (fun i x σ2 H2 H3 hlt ⟨F2, δ2, r2, g2, k2, e2⟩ y => ?_) (fun σ2 H2 ⟨F2, δ2, r2, g2, k2, e2⟩ => ?_)
  · obtain ⟨d, F3, q1, n3, d3⟩ := hY i H2 x H3 F2 hlt k2 r2.kp y
    have a3 := n3.aft r2
    have ed : ds.drop i = d :: ds.drop (i + 1) := by
      obtain ⟨q2, q3⟩ := List.getElem?_eq_some_iff.mp q1
      rw [List.drop_eq_getElem_cons q2, q3]
    rw [ed] at e2
    obtain ⟨δ3, e3, e4⟩ := Option.bind_eq_some_iff.mp e2
    obtain ⟨o3, e5, e6⟩ := Option.bind_eq_some_iff.mp e4
    refine hg.run d δ2 δ3 e3 σ2 F3 H3 x a3.rep d3 _ fun σ3 r3 g3 _ _ _ _ => ?_
    have gg := (g2.trans a3.go).trans g3
    have kk := k2.trans a3.go.kf
    refine hb δ3 o3 e5 σ3 F3 H3 r3 _ ?_
    cases o3 with
    | nx δ4 => exact fun σ4 F4 H4 r4 g4 => ⟨F4, δ4, r4, gg.trans g4, kk.trans g4.kf, e6⟩
    | ct δ4 => exact fun σ4 F4 H4 r4 g4 => ⟨F4, δ4, r4, gg.trans g4, kk.trans g4.kf, e6⟩
    | bk δ4 =>
      cases e6
      exact fun σ4 F4 H4 r4 g4 => k σ4 F4 H4 r4 (gg.trans g4)
    | rt o δ4 =>
      cases e6
      exact Fin.from gg k
  · rw [List.drop_length] at e2
    cases e2
    exact k σ2 F2 H2 r2 g2
/-! ### while, by fuel -/
def mWhile (c : Δ → Option (Bool × Δ)) (b : Δ → Option Out) : Nat → Δ → Option Out
  | 0, _ => none
  | n + 1, δ => (c δ).bind fun r => if r.1 = true then (b r.2).bind fun s => match s with
      | .nx δ2 => mWhile c b n δ2
      | .ct δ2 => mWhile c b n δ2
      | .bk δ2 => some (.nx δ2)
      | .rt o δ2 => some (.rt o δ2)
    else some (.nx r.2)
theorem ss_while {t : TT} {tb : TS} {c : Δ → Option (Bool × Δ)} {b : Δ → Option Out} (hc : ST K t c) (hb : SS K tb b) (n : Nat) : SS K (tWhile t tb) (mWhile c b n) := fun δ out e σ F H r E k => by
  refine ⟨fun m σ2 H2 => ∃ F2 δ2, Rep K F2 H2 σ2 δ2 ∧ Go F H σ δ F2 H2 σ2 δ2 ∧ mWhile c b m δ2 = some out, ⟨n, F, δ, r, .rfl, e⟩, ?_⟩
  rintro m σ2 H2 ⟨F2, δ2, r2, g2, e2⟩
  cases m with
  | zero => cases e2
  | succ m =>
    obtain ⟨⟨c1, δ3⟩, e3, e4⟩ := Option.bind_eq_some_iff.mp e2
    refine hc δ2 c1 δ3 e3 σ2 F2 H2 r2 _ fun F3 H3 a3 => ?_
    cases c1 with
    | false =>
      cases e4
      exact k σ2 F3 H3 a3.rep (g2.trans a3.go)
    | true =>
      obtain ⟨s, e5, e6⟩ := Option.bind_eq_some_iff.mp e4
      refine ⟨fun σ4 H4 => ∃ F4 δ4, Rep K F4 H4 σ4 δ4 ∧ Go F H σ δ F4 H4 σ4 δ4 ∧ mWhile c b m δ4 = some out, fun σ' H' hN => ⟨m, Nat.lt_succ_self m, hN⟩, ?_⟩
      have gg := g2.trans a3.go
      refine hb δ3 s e5 σ2 F3 H3 a3.rep _ ?_
      cases s with
      | nx δ4 => exact fun σ4 F4 H4 r4 g4 => ⟨F4, δ4, r4, gg.trans g4, e6⟩
      | ct δ4 => exact fun σ4 F4 H4 r4 g4 => ⟨F4, δ4, r4, gg.trans g4, e6⟩
      | bk δ4 =>
        cases e6
        exact fun σ4 F4 H4 r4 g4 => k σ4 F4 H4 r4 (gg.trans g4)
      | rt o δ4 =>
        cases e6
        exact Fin.from gg k
end
end Vi
end
section
set_option Elab.async false
set_option linter.all false
set_option maxRecDepth 100000
set_option maxHeartbeats 1000000
/-! List comprehensions over values; methods that change an own list. -/
namespace Vi
open PySem PySem.Spec PyProof.Rows L2
def wipeΔ (δ : Δ) : List Nat → Δ
  | [] => δ
  | v :: vs => (wipeΔ δ vs).set v none
section
variable {K : Lay} {F H F' H' F0 H0 F1 H1 F2 H2 : Hp} {σ σ' σ1 σ2 : L2.St} {δ δ' δ0 δ1 δ2 : Δ} {v x y : V} {p q : P} {o : O} {d e : D} {vs : List Nat}
theorem wipeΔ_len : ∀ vs : List Nat, (wipeΔ δ vs).length = δ.length
  | [] => rfl
  | v :: vs => by unfold wipeΔ; rw [List.length_set, wipeΔ_len vs]
theorem wipeΔ_out {i : Nat} : ∀ {vs : List Nat}, i ∉ vs → (wipeΔ δ vs)[i]? = δ[i]?
  | [], _ => rfl
  | v :: vs, h => by
    unfold wipeΔ
    rw [List.getElem?_set_ne (fun e => h (by simp [e])), wipeΔ_out fun z => h (List.mem_cons_of_mem _ z)]
theorem wipeΔ_in {i : Nat} {o : O} : ∀ {vs : List Nat}, (wipeΔ δ vs)[i]? = some (some o) → i ∉ vs
  | [], _ => by simp
  | v :: vs, h => by
    unfold wipeΔ at h
    by_cases hi : v = i
    · subst hi
      by_cases hv : v < (wipeΔ δ vs).length
      · rw [List.getElem?_set_self hv] at h; cases h
      · rw [List.getElem?_eq_none (by simpa using hv)] at h; cases h
    · rw [List.getElem?_set_ne hi] at h
      have := wipeΔ_in h
      simp only [List.mem_cons, not_or]
      exact ⟨fun z => hi z.symm, this⟩
theorem wipe_get {i : Nat} (h : i ∉ vs) : (L2.wipe σ vs)[i]? = σ[i]? := wipe_out h
/-- slots forgotten: in the frame σ', which is σ but for those -/
theorem Rep.forget (r : Rep K F H σ δ) (hl : σ'.length = σ.length) (hs : ∀ j, j ∉ vs → σ'[j]? = σ[j]?) : Rep K F H σ' (wipeΔ δ vs) ∧ ∀ j a, Own H σ' (wipeΔ δ vs) j a → Own H σ δ j a := by
  have own_of : ∀ j a, Own H σ' (wipeΔ δ vs) j a → Own H σ δ j a := fun j a ⟨w, u, q1, q2, q3⟩ => by
    have hj := wipeΔ_in q2
    rw [wipeΔ_out hj] at q2
    rw [hs j hj] at q1
    exact ⟨w, u, q1, q2, q3⟩
  refine ⟨⟨r.kp, by rw [hl, wipeΔ_len]; exact r.len, fun j u hj => ?_, fun i j a hi hj => r.ap i j a (own_of i a hi) (own_of j a hj), r.tb⟩, own_of⟩
  have hm := wipeΔ_in hj
  rw [wipeΔ_out hm] at hj
  obtain ⟨w, q1, q2, q3⟩ := r.ok j u hj
  exact ⟨w, by rw [hs j hm]; exact q1, q2, q3⟩
theorem wipe_ext (hl : σ'.length = σ.length) (hs : ∀ j, j ∉ vs → σ'[j]? = σ[j]?) : L2.wipe σ' vs = L2.wipe σ vs := by
  apply List.ext_getElem?
  intro i
  by_cases h : i ∈ vs
  · have none_of : ∀ {τ : L2.St} {us : List Nat}, i ∈ us → i < τ.length → (L2.wipe τ us)[i]? = some none := by
      intro τ us
      induction us with
      | nil => intro z; cases z
      | cons u us ih =>
        intro z hi
        unfold L2.wipe
        by_cases e : u = i
        · subst e; rw [List.getElem?_set_self (by rw [wipe_length]; exact hi)]
        · rw [List.getElem?_set_ne e]
          exact ih ((List.mem_cons.mp z).resolve_left fun q => e q.symm) hi
    by_cases hi : i < σ.length
    · rw [none_of h (by rw [hl]; exact hi), none_of h hi]
    · rw [List.getElem?_eq_none (by rw [wipe_length, hl]; omega), List.getElem?_eq_none (by rw [wipe_length]; omega)]
  · rw [wipe_get h, wipe_get h, hs i h]
/-- the turns of a comprehension -/
def lcGo (vs : List Nat) (h : D → Δ → Option Δ) (t : Δ → Option (Bool × Δ)) (f : Δ → Option (D × Δ)) : List D → Δ → Option (List D × Δ)
  | [], δ => some ([], δ)
  | d :: ds, δ => (h d δ).bind fun δ1 => (t δ1).bind fun r => if r.1 = true then (f r.2).bind fun s => (lcGo vs h t f ds (wipeΔ s.2 vs)).map fun z => (s.1 :: z.1, z.2) else lcGo vs h t f ds (wipeΔ r.2 vs)
/-- a comprehension's own slot: it held nothing, or frozen data, which it holds again behind it -/
def okv (δ : Δ) (j : Nat) : Bool := match δ[j]? with
  | some none => true
  | some (some (.fz _)) => true
  | _ => false
def restΔ (δ1 η : Δ) : List Nat → Δ
  | [] => η
  | v :: vs => (restΔ δ1 η vs).set v (δ1[v]?.getD none)
theorem okv_noLn {j : Nat} (h : okv δ j = true) : noLn δ j = true := by
  unfold okv at h
  unfold noLn
  split at h <;> simp_all
theorem okv_all (h : vs.all (okv δ) = true) : vs.all (noLn δ) = true := by
  rw [List.all_eq_true] at h ⊢
  exact fun j hj => okv_noLn (h j hj)
theorem restΔ_len {η : Δ} : ∀ vs : List Nat, (restΔ δ η vs).length = η.length
  | [] => rfl
  | v :: vs => by unfold restΔ; rw [List.length_set, restΔ_len vs]
theorem restΔ_out {η : Δ} {i : Nat} : ∀ {vs : List Nat}, i ∉ vs → (restΔ δ η vs)[i]? = η[i]?
  | [], _ => rfl
  | v :: vs, h => by
    unfold restΔ
    rw [List.getElem?_set_ne (fun e => h (by simp [e])), restΔ_out fun z => h (List.mem_cons_of_mem _ z)]
theorem restΔ_in {η : Δ} {i : Nat} (hl : η.length = δ.length) : ∀ {vs : List Nat}, i ∈ vs → i < δ.length → (restΔ δ η vs)[i]? = δ[i]?
  | v :: vs, h, hi => by
    unfold restΔ
    by_cases e : v = i
    · subst e
      rw [List.getElem?_set_self (by rw [restΔ_len, hl]; exact hi), List.getElem?_eq_getElem hi]; rfl
    · rw [List.getElem?_set_ne e]
      exact restΔ_in hl ((List.mem_cons.mp h).resolve_left fun q => e q.symm) hi
/-- behind it -/
theorem rest_ok {η : Δ} (r1 : Rep K F1 H1 σ δ1) (r : Rep K F H σ η) (g : Go F0 H0 σ δ0 F H σ η) (kf : Kp F1 F) (hv : vs.all (okv δ1) = true) (hn : ∀ j ∈ vs, ∀ es : List D, η[j]? ≠ some (some (O.ln es))) :
    Rep K F H σ (restΔ δ1 η vs) ∧ Go F0 H0 σ δ0 F H σ (restΔ δ1 η vs) ∧ ∀ a, Held H σ (restΔ δ1 η vs) a → Held H σ η a := by
  have hl : η.length = δ1.length := by rw [← r.len, r1.len]
  have fz_of : ∀ j ∈ vs, ∀ o, (restΔ δ1 η vs)[j]? = some (some o) → ∃ d, o = .fz d ∧ δ1[j]? = some (some (.fz d)) := fun j hj o e => by
    have h1 := List.all_eq_true.mp hv j hj
    have hlt : j < δ1.length := by
      unfold okv at h1
      cases q : δ1[j]? with
      | none => rw [q] at h1; cases h1
      | some z => exact (List.getElem?_eq_some_iff.mp q).1
    rw [restΔ_in hl hj hlt] at e
    unfold okv at h1
    rw [e] at h1
    cases o with
    | fz d => exact ⟨d, rfl, e⟩
    | _ => cases h1
  have own_of : ∀ j a, Own H σ (restΔ δ1 η vs) j a → Own H σ η j a := fun j a ⟨w, u, q1, q2, q3⟩ => by
    by_cases hj : j ∈ vs
    · obtain ⟨d, rfl, _⟩ := fz_of j hj u q2
      cases q3
    · rw [restΔ_out hj] at q2
      exact ⟨w, u, q1, q2, q3⟩
  refine ⟨⟨r.kp, by rw [restΔ_len]; exact r.len, fun j o e => ?_, fun i j a hi hj => r.ap i j a (own_of i a hi) (own_of j a hj), r.tb⟩, ⟨g.kf, g.kh, g.nf, fun a ⟨j, hj⟩ => g.hd a ⟨j, own_of j a hj⟩, g.st, fun i ds e => ?_⟩, fun a ⟨j, hj⟩ => ⟨j, own_of j a hj⟩⟩
  · by_cases hj : j ∈ vs
    · obtain ⟨d, rfl, e1⟩ := fz_of j hj o e
      obtain ⟨w, q1, q2, _⟩ := r1.ok j _ e1
      exact ⟨w, q1, dp_mono kf q2, by simp [O.fp]⟩
    · rw [restΔ_out hj] at e
      exact r.ok j o e
  · obtain ⟨z, es, q⟩ := g.ln i ds e
    refine ⟨z, es, ?_⟩
    by_cases hj : i ∈ vs
    · exact absurd q (hn i hj es)
    · rw [restΔ_out hj]; exact q
def eLc (vs : List Nat) (c : Δ → Option (List D × Δ)) (h : D → Δ → Option Δ) (t : Δ → Option (Bool × Δ)) (f : Δ → Option (D × Δ)) : Δ → Option (P × Δ) := fun δ => (c δ).bind fun r => if r.1.length ≤ sizeLine ∧ vs.all (okv r.2) = true then (lcGo vs h t f r.1 (wipeΔ r.2 vs)).map fun z => (.tm (.ow z.1), restΔ r.2 z.2 vs) else none
theorem noLn_ln {i : Nat} {ds : List D} (h : δ[i]? = some (some (.ln ds))) (hv : vs.all (noLn δ) = true) : i ∉ vs := fun z => by
  have := List.all_eq_true.mp hv i z
  simp [noLn, h] at this
/-- forgetting as a step -/
theorem Go.forget (r : Rep K F H σ δ) (hl : σ'.length = σ.length) (hs : ∀ j, j ∉ vs → σ'[j]? = σ[j]?) (hv : vs.all (noLn δ) = true) : Go F H σ δ F H σ' (wipeΔ δ vs) :=
  ⟨.rfl, fun _ o e _ => ⟨o, e, .rfl⟩, fun _ h => .inl h, fun a ⟨j, hj⟩ => .inl ⟨j, (r.forget hl hs).2 j a hj⟩, fun _ h => h, fun i ds h => ⟨hs i (noLn_ln h hv), ds, by rw [wipeΔ_out (noLn_ln h hv)]; exact h⟩⟩
/-- a thing that was not there at the start may change -/
theorem Go.late {L : Addr} {u : HO} (g : Go F H σ δ F1 H1 σ1 δ1) (hL : H L = none) (hh : ∀ a, Held (upd H1 L u) σ1 δ1 a → Held H1 σ1 δ1 a) : Go F H σ δ F1 (upd H1 L u) σ1 δ1 :=
  ⟨g.kf, fun a o e n => by rw [upd_ne (show a ≠ L by intro z; subst z; rw [hL] at e; cases e)]; exact g.kh a o e n, g.nf, fun a h => g.hd a (hh a h), fun a z => by
    by_cases q : a = L
    · subst q; rw [upd_same]; simp
    · rw [upd_ne q]; exact g.st a z, g.ln⟩
/-- known slots stay known, lent ones come from lent ones -/
structure Un2 (vs : List Nat) (δ δ' : Δ) : Prop where
  un : ∀ (i : Nat) (o : O), i ∉ vs → δ[i]? = some (some o) → ∃ o', δ'[i]? = some (some o')
  nl : ∀ (i : Nat) (es : List D), δ'[i]? = some (some (O.ln es)) → ∃ fs, δ[i]? = some (some (O.ln fs))
theorem Un2.rfl : Un2 vs δ δ := ⟨fun _ o _ h => ⟨o, h⟩, fun _ es h => ⟨es, h⟩⟩
theorem Un2.wipe (u : Un2 vs δ δ') : Un2 vs δ (wipeΔ δ' vs) :=
  ⟨fun i o n h => by rw [wipeΔ_out n]; exact u.un i o n h, fun i es h => u.nl i es (by rw [← wipeΔ_out (wipeΔ_in h)]; exact h)⟩
theorem Un2.tgt {ix : List Nat} (u : Un2 vs δ δ1) (hix : ∀ j ∈ ix, j ∈ vs) (t : ∀ j, j ∉ ix → δ2[j]? = δ1[j]?) (n : ∀ (j : Nat) (es : List D), δ2[j]? = some (some (O.ln es)) → ∃ fs, δ1[j]? = some (some (O.ln fs))) : Un2 vs δ δ2 :=
  ⟨fun i o h e => by rw [t i fun z => h (hix i z)]; exact u.un i o h e, fun i es h => let ⟨fs, z⟩ := n i es h; u.nl i fs z⟩
theorem Un2.aft (u : Un2 vs δ δ1) (a : ∀ (i : Nat) (o : O), δ1[i]? = some (some o) → ∃ o', δ2[i]? = some (some o')) (n : ∀ (j : Nat) (es : List D), δ2[j]? = some (some (O.ln es)) → ∃ fs, δ1[j]? = some (some (O.ln fs))) : Un2 vs δ δ2 :=
  ⟨fun i o h e => let ⟨o1, z⟩ := u.un i o h e; a i o1 z, fun i es h => let ⟨fs, z⟩ := n i es h; u.nl i fs z⟩
/-- the new list at L, apart from all -/
structure Lst (K : Lay) (F H : Hp) (σ : L2.St) (δ : Δ) (L : Addr) (acc : List D) : Prop where
  tm : Tmp K F H σ δ (.ref L) (.ow acc)
theorem lst_at (l : Lst K F H σ δ v' acc) : ∃ xs, H v' = some (.lst xs) ∧ DpAll K F xs acc ∧ F v' = none := by
  obtain ⟨p, e, xs, e1, e2, e3⟩ := l.tm.ok
  cases e
  exact ⟨xs, e1, e3, e2⟩
/-- a list that nothing else holds may change -/
theorem Rep.upd (r : Rep K F H σ δ) {L : Addr} (hF : F L = none) (nh : ¬ Held H σ δ L) {u : HO} (hH : H L = none ∨ ∃ ys, H L = some (.lst ys)) : Rep K F (upd H L u) σ δ := by
  have same : ∀ i a, Own H σ δ i a → (L2.upd H L u) a = H a := fun i a h => by
    rw [upd_ne]; intro z; subst z; exact nh ⟨i, h⟩
  have own_of : ∀ i a, Own (L2.upd H L u) σ δ i a → Own H σ δ i a := fun i a ⟨w, o, q1, q2, q3⟩ => by
    obtain ⟨w', z1, z2, _⟩ := r.ok i o q2
    rw [q1] at z1; cases z1
    rw [fp_frame z2 fun b hb => same i b ⟨w, o, q1, q2, hb⟩] at q3
    exact ⟨w, o, q1, q2, q3⟩
  refine ⟨fun a o e => ?_, r.len, fun i o hi => ?_, fun i j a hi hj => r.ap i j a (own_of i a hi) (own_of j a hj), r.tb⟩
  · rw [upd_ne (show a ≠ L by intro z; subst z; rw [hF] at e; cases e)]
    exact r.kp a o e
  · obtain ⟨w, q1, q2, q3⟩ := r.ok i o hi
    refine ⟨w, q1, ok_frame .rfl q2 fun a ha => ⟨same i a ⟨w, o, q1, hi, ha⟩, (ok_fp q2 a ha).2⟩, ?_⟩
    rw [fp_frame q2 fun a ha => same i a ⟨w, o, q1, hi, ha⟩]; exact q3
theorem held_upd (r : Rep K F H σ δ) {L : Addr} {u : HO} (nh : ¬ Held H σ δ L) {a : Addr} (h : Held (upd H L u) σ δ a) : Held H σ δ a := by
  obtain ⟨i, w, o, q1, q2, q3⟩ := h
  obtain ⟨w', z1, z2, _⟩ := r.ok i o q2
  rw [q1] at z1; cases z1
  have same : ∀ b ∈ o.fp H w, (L2.upd H L u) b = H b := fun b hb => by
    rw [upd_ne]; intro z; subst z; exact nh ⟨i, w, o, q1, q2, hb⟩
  rw [fp_frame z2 same] at q3
  exact ⟨i, w, o, q1, q2, q3⟩
theorem sx_lc {wi : TI} {g : TG} {tt : TT} {te : TE} {ix : List Nat} {c : Δ → Option (List D × Δ)} {h : D → Δ → Option Δ} {t : Δ → Option (Bool × Δ)} {f : Δ → Option (D × Δ)} (hi : SI K wi c) (hg : SG K g ix h) (ht : ST K tt t) (hf : SD K te f)
    (hix : ∀ j ∈ ix, j ∈ vs := by decide) : SX K (tLc wi g tt te vs) (eLc vs c h t f) := fun δ p δ' e σ F H r Q k => by
  obtain ⟨⟨ds, δ1⟩, e1, e⟩ := Option.bind_eq_some_iff.mp e
  split at e
  case isFalse => cases e
  rename_i hc
  obtain ⟨hsz, hok⟩ := hc
  have hvs := okv_all hok
  have hsz : ds.length ≤ sizeLine := hsz
  obtain ⟨⟨zs, δ9⟩, e2, e⟩ := Option.map_eq_some_iff.mp e
  cases e
  refine hi δ ds δ1 e1 σ F H r _ fun J F1 H1 a1 w => ?_
  obtain ⟨G, Y, wk, hG, hY⟩ := w
  intro L hL
  have hLH : H L = none := by
    cases q : H L with
    | none => rfl
    | some z => exact absurd hL (a1.go.st L (by rw [q]; simp))
  have hF1 : F1 L = none := a1.rep.kp.free hL
  have nh1 : ¬ Held H1 σ δ1 L := fun z => by obtain ⟨⟨xs, w⟩, _⟩ := a1.rep.held z; rw [hL] at w; cases w
  let Pv : Nat → Hp → Prop := fun i H2 => ∃ F2 δ2 acc rest, Rep K F2 H2 σ δ2 ∧ Go F H σ δ F2 H2 σ δ2 ∧ Kp F1 F2 ∧ Lst K F2 H2 σ δ2 L acc ∧ acc.length ≤ i ∧ δ2 = wipeΔ δ2 vs ∧ (lcGo vs h t f (ds.drop i) δ2 = some (rest, δ9) ∧ zs = acc ++ rest) ∧ Un2 vs δ1 δ2
  have wself : ∀ {η : Δ}, wipeΔ (wipeΔ η vs) vs = wipeΔ η vs := fun {η} => by
    apply List.ext_getElem?
    intro i
    by_cases z : i ∈ vs
    · have none_of : ∀ {τ : Δ} {us : List Nat}, i ∈ us → i < τ.length → (wipeΔ τ us)[i]? = some none := by
        intro τ us
        induction us with
        | nil => intro z; cases z
        | cons u us ih =>
          intro z hi
          unfold wipeΔ
          by_cases e : u = i
          · subst e; rw [List.getElem?_set_self (by rw [wipeΔ_len]; exact hi)]
          · rw [List.getElem?_set_ne e]
            exact ih ((List.mem_cons.mp z).resolve_left fun q => e q.symm) hi
      by_cases hi : i < η.length
      · rw [none_of z (by rw [wipeΔ_len]; exact hi), none_of z hi]
      · rw [List.getElem?_eq_none (by rw [wipeΔ_len, wipeΔ_len]; omega), List.getElem?_eq_none (by rw [wipeΔ_len]; omega)]
    · rw [wipeΔ_out z]
  have gw : Go F1 H1 σ δ1 F1 H1 σ (wipeΔ δ1 vs) := Go.forget a1.rep rfl (fun _ _ => rfl) hvs
  have rw1 := (a1.rep.forget (σ' := σ) (vs := vs) rfl fun _ _ => rfl)
  have nhw : ¬ Held H1 σ (wipeΔ δ1 vs) L := fun ⟨j, hj⟩ => nh1 ⟨j, rw1.2 j L hj⟩
  refine lc_it wk Pv ?_ (fun i H2 _ ⟨F2, δ2, acc, rest, r2, _, k2, _⟩ => hG H2 (k2.trans r2.kp)) (fun i x H2 H3 hlt ⟨F2, δ2, acc, rest, r2, g2, k2, l2, hacc, hw2, ⟨e3, ez⟩, uu⟩ y => ?_) (fun H2 ⟨F2, δ2, acc, rest, r2, g2, k2, l2, hacc, hw2, ⟨e3, ez⟩, uu⟩ => ?_)
  · -- the start
    have ru := rw1.1.upd (L := L) (u := .lst []) hF1 nhw (.inl hL)
    refine ⟨F1, wipeΔ δ1 vs, [], zs, ru, (a1.go.trans gw).trans ⟨.rfl, fun a o e _ => ⟨o, by rw [upd_ne (ne_of_none e hL)]; exact e, .rfl⟩, fun _ z => .inl z, fun a z => .inl (held_upd rw1.1 nhw z), fun a z => ?_, fun i ds z => ⟨rfl, ds, z⟩⟩, .rfl, ⟨⟨⟨L, rfl, [], upd_same, hF1, .nil⟩, by simp [O.fp], fun a ha z => ?_⟩⟩, Nat.le_refl _, wself.symm, ⟨by simpa using e2, by simp⟩, (Un2.rfl).wipe⟩
    · by_cases q : a = L
      · subst q; rw [upd_same]; simp
      · rw [upd_ne q]; exact z
    · have : a = L := by simpa [O.fp] using ha
      subst this
      exact nhw (held_upd rw1.1 nhw z)
  · -- a turn
    obtain ⟨d, F3, q1, n3, d3⟩ := hY i H2 x H3 F2 hlt k2 r2.kp y
    have a3 := n3.aft r2
    have ed : ds.drop i = d :: ds.drop (i + 1) := by
      obtain ⟨q2, q3⟩ := List.getElem?_eq_some_iff.mp q1
      rw [List.drop_eq_getElem_cons q2, q3]
    rw [ed] at e3
    obtain ⟨δ4, e4, e5⟩ := Option.bind_eq_some_iff.mp e3
    obtain ⟨⟨b, δ5⟩, e6, e7⟩ := Option.bind_eq_some_iff.mp e5
    -- into the block
    have l3 := (Tmp.frame l2.tm a3.go).1
    have fw := a3.rep.forget (σ' := L2.wipe σ vs) (vs := vs) (wipe_length σ vs) (fun j hj => wipe_get hj)
    -- the comprehension's own slots are there, and hold nothing at a turn's start
    have vin : ∀ j ∈ vs, ∀ {δx : Δ}, δx.length = δ1.length → j < δx.length := fun j hj δx hl => by
      have hj1 := List.all_eq_true.mp hvs j hj
      unfold noLn at hj1
      cases q : δ1[j]? with
      | none => rw [q] at hj1; cases hj1
      | some z => rw [hl]; exact (List.getElem?_eq_some_iff.mp q).1
    have no2 : ∀ j ∈ vs, ∀ es : List D, δ2[j]? ≠ some (some (O.ln es)) := fun j hj es q => by
      rw [hw2] at q
      exact wipeΔ_in q hj
    have lnv : ∀ {δx : Δ}, δx.length = δ1.length → (∀ (j : Nat) (es : List D), δx[j]? = some (some (O.ln es)) → ∃ fs, δ2[j]? = some (some (O.ln fs))) → vs.all (noLn δx) = true := fun {δx} hl hx => by
      rw [List.all_eq_true]
      intro j hj
      have hlen := vin j hj hl
      unfold noLn
      rw [List.getElem?_eq_getElem hlen]
      cases q : δx[j] with
      | none => rfl
      | some o =>
        cases o with
        | ln es =>
          obtain ⟨fs, z⟩ := hx j es (by rw [List.getElem?_eq_getElem hlen, q])
          exact absurd z (no2 j hj fs)
        | _ => rfl
    have len2 : δ2.length = δ1.length := by rw [← r2.len, a1.rep.len]
    have hv2 : vs.all (noLn δ2) = true := lnv len2 fun _ es h => ⟨es, h⟩
    have gfw := Go.forget (σ' := L2.wipe σ vs) a3.rep (wipe_length σ vs) (fun j hj => wipe_get hj) hv2
    rw [← hw2] at fw gfw
    have l4 := (Tmp.frame l3 gfw).1
    refine hg.run d δ2 δ4 e4 (L2.wipe σ vs) F3 H3 x fw.1 d3 _ fun σ4 r4 g4 ln4 s4 t4 u4 => ?_
    have sj : ∀ j, j ∉ vs → σ4[j]? = σ[j]? := fun j hj => (s4 j fun z => hj (hix j z)).trans (wipe_get hj)
    have ls : σ4.length = σ.length := ln4.trans (wipe_length σ vs)
    refine ⟨wipe_ext ls sj, ?_⟩
    have l5 := (Tmp.frame l4 g4).1
    have gi := gfw.trans g4
    refine ht δ4 b δ5 e6 σ4 F3 H3 r4 _ fun F5 H5 a5 => ?_
    have l6 := (Tmp.frame l5 a5.go).1
    -- back out of the block
    have back : ∀ {F6 H6 δ6}, Aft K F3 H3 σ4 δ4 F6 H6 δ6 → Kp F3 F6 → vs.all (noLn δ6) = true → Rep K F6 H6 σ (wipeΔ δ6 vs) ∧ Go F H σ δ F6 H6 σ (wipeΔ δ6 vs) ∧ Kp F1 F6 ∧ Go F6 H6 σ4 δ6 F6 H6 σ (wipeΔ δ6 vs) := fun {F6 H6 δ6} a6 k6 hv6 => by
      have f6 := a6.rep.forget (σ' := σ) (vs := vs) ls.symm fun j hj => (sj j hj).symm
      have g6 := Go.forget (σ' := σ) a6.rep ls.symm (fun j hj => (sj j hj).symm) hv6
      exact ⟨f6.1, (((g2.trans a3.go).trans gi).trans a6.go).trans g6, (k2.trans a3.go.kf).trans k6, g6⟩
    cases b with
    | false =>
      show Pv (i + 1) H5
      have len5 : δ5.length = δ1.length := by rw [← a5.rep.len, ls, a1.rep.len]
      obtain ⟨b1, b2, b3, b4⟩ := back a5 a5.go.kf (lnv len5 fun j es q => let ⟨fs, z⟩ := a5.nl j es q; u4 j fs z)
      exact ⟨F5, wipeΔ δ5 vs, acc, rest, b1, b2, b3, ⟨(Tmp.frame l6 b4).1⟩, Nat.le_succ_of_le hacc, wself.symm, ⟨e7, ez⟩, ((uu.tgt hix t4 u4).aft a5.un a5.nl).wipe⟩
    | true =>
      obtain ⟨⟨z, δ7⟩, e8, e9⟩ := Option.bind_eq_some_iff.mp e7
      obtain ⟨⟨zs2, δ8⟩, e10, e11⟩ := Option.map_eq_some_iff.mp e9
      cases e11
      show te σ4 H5 _
      refine hf δ5 z δ7 e8 σ4 F5 H5 a5.rep _ fun y F7 H7 a7 p7 => ?_
      have a57 := a5.trans a7
      have len7 : δ7.length = δ1.length := by rw [← a57.rep.len, ls, a1.rep.len]
      obtain ⟨b1, b2, b3, b4⟩ := back a57 a57.go.kf (lnv len7 fun j es q => let ⟨fs, z⟩ := a57.nl j es q; u4 j fs z)
      have l7 := (Tmp.frame (Tmp.frame l6 a7.go).1 b4).1
      obtain ⟨xs, x1, x2, x3⟩ := lst_at ⟨l7⟩
      have nh7 : ¬ Held H7 σ (wipeΔ δ7 vs) L := l7.ap L (by simp [O.fp])
      have hz : xs.length < sizeLine := by rw [dpa_len x2]; omega
      refine ⟨xs, x1, hz, F7, wipeΔ δ7 vs, acc ++ [z], zs2, b1.upd x3 nh7 (.inr ⟨xs, x1⟩), b2.late hLH fun a => held_upd b1 nh7, b3, ⟨⟨⟨L, rfl, xs ++ [y], upd_same, x3, dpa_app x2 (.cons p7 .nil)⟩, by simp [O.fp], fun a ha q => ?_⟩⟩, by rw [List.length_append]; simpa using hacc, wself.symm, ⟨e10, by simpa using ez⟩, ((uu.tgt hix t4 u4).aft a57.un a57.nl).wipe⟩
      have : a = L := by simpa [O.fp] using ha
      subst this
      exact nh7 (held_upd b1 nh7 q)
  · rw [List.drop_length] at e3
    cases e3
    rw [List.append_nil] at ez
    subst ez
    obtain ⟨q1, q2, q3⟩ := rest_ok a1.rep r2 g2 k2 hok fun j hj es q => by
      rw [hw2] at q; exact wipeΔ_in q hj
    have hl9 : δ9.length = δ1.length := by rw [← r2.len, a1.rep.len]
    have lt_of : ∀ {j : Nat} {o : O}, δ1[j]? = some (some o) → j < δ1.length := fun e => (List.getElem?_eq_some_iff.mp e).1
    refine k (.ref L) F2 H2 ⟨q1, q2, fun i o e => ?_, fun i es e => ?_⟩ ⟨l2.tm.ok, l2.tm.nd, fun a ha z => l2.tm.ap a ha (q3 a z)⟩ fun a ha => ?_
    · obtain ⟨o1, e1⟩ := a1.un i o e
      by_cases hi : i ∈ vs
      · exact ⟨o1, by rw [restΔ_in hl9 hi (lt_of e1)]; exact e1⟩
      · obtain ⟨o2, e2⟩ := uu.un i o1 hi e1
        exact ⟨o2, by rw [restΔ_out hi]; exact e2⟩
    · by_cases hi : i ∈ vs
      · have h1 := List.all_eq_true.mp hok i hi
        by_cases hlt : i < δ1.length
        · rw [restΔ_in hl9 hi hlt] at e
          exact a1.nl i es e
        · rw [List.getElem?_eq_none (by rw [restΔ_len, hl9]; omega)] at e; cases e
      · rw [restΔ_out hi] at e
        obtain ⟨fs, z⟩ := uu.nl i es e
        exact a1.nl i fs z
    · have : a = L := by simpa [P.fp, O.fp] using ha
      subst this
      exact .inr hLH
end
end Vi
end
section
set_option Elab.async false
set_option linter.all false
set_option maxRecDepth 100000
set_option maxHeartbeats 1000000
/-! Calls of defs over values. -/
namespace Vi
open PySem PySem.Spec PyProof.Rows L2
section
variable {K : Lay} {F H F' H' F0 H0 F1 H1 F2 H2 : Hp} {σ σ' σ1 σ2 : L2.St} {δ δ' δ0 δ1 δ2 : Δ} {v x y : V} {p q : P} {o : O} {d e : D} {vs : List V} {os : List O} {ps : List P} {n k : Nat}
def startΔ (n : Nat) (os : List O) : Δ := os.map some ++ List.replicate (n - os.length) none
/-- a def's value: k parameters, n slots -/
def runM (k n : Nat) (m : Δ → Option Out) (os : List O) : Option (O × Δ) := if os.length = k then
    match m (startΔ n os) with
    | some (.rt o δ) => some (o, δ)
    | some (.nx δ) => some (.fz .none, δ)
    | _ => none
  else none
/-- what was lent, behind the call -/
def lent : List O → Δ → Δ
  | .ln _ :: os, u :: δ => u :: lent os δ
  | _ :: os, _ :: δ => none :: lent os δ
  | _ :: os, [] => none :: lent os []
  | [], _ => []
theorem lent_len : ∀ (os : List O) (δ : Δ), (lent os δ).length = os.length
  | [], _ => by simp [lent]
  | o :: os, [] => by cases o <;> simp [lent, lent_len os []]
  | o :: os, u :: δ => by cases o <;> simp [lent, lent_len os δ]
theorem lent_get : ∀ {os : List O} {δ : Δ} {j : Nat} {o : O}, (lent os δ)[j]? = some (some o) → ∃ ds, os[j]? = some (.ln ds) ∧ δ[j]? = some (some o)
  | [], δ, j, o, h => by simp [lent] at h
  | a :: os, [], 0, o, h => by cases a <;> simp [lent] at h
  | a :: os, [], j + 1, o, h => by
    have h' : (lent os [])[j]? = some (some o) := by cases a <;> simpa [lent] using h
    obtain ⟨ds, _, q⟩ := lent_get h'
    simp at q
  | a :: os, u :: δ, 0, o, h => by
    cases a <;> simp [lent] at h
    case ln ds => exact ⟨ds, rfl, by simp [h]⟩
  | a :: os, u :: δ, j + 1, o, h => by
    have h' : (lent os δ)[j]? = some (some o) := by cases a <;> simpa [lent] using h
    obtain ⟨ds, q1, q2⟩ := lent_get h'
    exact ⟨ds, by simpa using q1, by simpa using q2⟩
theorem lent_put : ∀ {os : List O} {δ : Δ} {j : Nat} {ds : List D} {o : O}, os[j]? = some (.ln ds) → δ[j]? = some (some o) → (lent os δ)[j]? = some (some o)
  | [], δ, j, ds, o, h, _ => by simp at h
  | a :: os, [], j, ds, o, _, h => by simp at h
  | a :: os, u :: δ, 0, ds, o, h, h2 => by
    simp at h h2
    subst h h2
    simp [lent]
  | a :: os, u :: δ, j + 1, ds, o, h, h2 => by
    have := lent_put (os := os) (δ := δ) (j := j) (ds := ds) (o := o) (by simpa using h) (by simpa using h2)
    cases a <;> simpa [lent] using this
abbrev sm (vs : List V) : L2.St := vs.map some
abbrev om (os : List O) : Δ := os.map some
/-- a def's promise -/
def SpV (K : Lay) (f : List O → Option (O × Δ)) : Sp := fun vs H Q _ => ∃ F os o δ', f os = some (o, δ') ∧ Rep K F H (sm vs) (om os) ∧
  ∀ v F' H', Rep K F' H' (sm vs) (lent os δ') → Go F H (sm vs) (om os) F' H' (sm vs) (lent os δ') → Tmp K F' H' (sm vs) (lent os δ') v o → Nw H (sm vs) (om os) H' v (.tm o) → Q v H'
theorem start_get {N : List Str} {i : Nat} (h : i < vs.length) : (L2.start N vs)[i]? = (sm vs)[i]? := by
  unfold L2.start; rw [List.getElem?_append_left (by simpa using h)]
theorem startΔ_get {i : Nat} (h : i < os.length) : (startΔ n os)[i]? = (om os)[i]? := by
  unfold startΔ; rw [List.getElem?_append_left (by simpa using h)]
theorem startΔ_some {i : Nat} {o : O} (h : (startΔ n os)[i]? = some (some o)) : i < os.length ∧ os[i]? = some o := by
  by_cases hi : i < os.length
  · rw [startΔ_get hi] at h
    refine ⟨hi, ?_⟩
    simpa using h
  · unfold startΔ at h
    rw [List.getElem?_append_right (by simpa using hi), List.getElem?_replicate] at h
    split at h <;> cases h
theorem om_get {i : Nat} {o : O} : (om os)[i]? = some (some o) ↔ os[i]? = some o := by simp
theorem sm_get {i : Nat} {v : V} : (sm vs)[i]? = some (some v) ↔ vs[i]? = some v := by simp
theorem rep_len (r : Rep K F H (sm vs) (om os)) : vs.length = os.length := by simpa using r.len
/-- the slots at a def's start -/
theorem rep_start {N : List Str} (r : Rep K F H (sm vs) (om os)) (hn : os.length ≤ N.length) : Rep K F H (L2.start N vs) (startΔ N.length os) ∧ ∀ j a, Own H (L2.start N vs) (startΔ N.length os) j a → Own H (sm vs) (om os) j a := by
  have hl := rep_len r
  have own_of : ∀ j a, Own H (L2.start N vs) (startΔ N.length os) j a → Own H (sm vs) (om os) j a := fun j a ⟨w, u, q1, q2, q3⟩ => by
    obtain ⟨hj, q4⟩ := startΔ_some q2
    rw [start_get (by omega)] at q1
    exact ⟨w, u, q1, om_get.mpr q4, q3⟩
  refine ⟨⟨r.kp, by simp [L2.start, startΔ]; omega, fun j u hj => ?_, fun i j a hi hj => r.ap i j a (own_of i a hi) (own_of j a hj), r.tb⟩, own_of⟩
  obtain ⟨hj1, q4⟩ := startΔ_some hj
  obtain ⟨w, q1, q2, q3⟩ := r.ok j u (om_get.mpr q4)
  exact ⟨w, by rw [start_get (by omega)]; exact q1, q2, q3⟩
theorem own_start {N : List Str} {j : Nat} {a : Addr} (hl : vs.length = os.length) (h : Own H (sm vs) (om os) j a) : Own H (L2.start N vs) (startΔ n os) j a := by
  obtain ⟨w, u, q1, q2, q3⟩ := h
  have hj : j < os.length := (List.getElem?_eq_some_iff.mp (om_get.mp q2)).1
  exact ⟨w, u, by rw [start_get (by omega)]; exact q1, by rw [startΔ_get hj]; exact q2, q3⟩
/-- behind the body: what was lent -/
theorem back_ok {N : List Str} (r : Rep K F H (sm vs) (om os)) (hn : os.length ≤ N.length) (r1 : Rep K F' H' σ' δ') (g : Go F H (L2.start N vs) (startΔ N.length os) F' H' σ' δ') :
    Rep K F' H' (sm vs) (lent os δ') ∧ Go F H (sm vs) (om os) F' H' (sm vs) (lent os δ') ∧ ∀ a, Held H' (sm vs) (lent os δ') a → Held H' σ' δ' a := by
  have hl := rep_len r
  have at_ : ∀ (j : Nat) (ds : List D), os[j]? = some (O.ln ds) → σ'[j]? = (sm vs)[j]? ∧ ∃ es, δ'[j]? = some (some (O.ln es)) := fun j ds h => by
    have hj : j < os.length := (List.getElem?_eq_some_iff.mp h).1
    obtain ⟨q1, q2⟩ := g.ln j ds (by rw [startΔ_get hj]; exact om_get.mpr h)
    exact ⟨by rw [q1, start_get (by omega)], q2⟩
  have own_of : ∀ j a, Own H' (sm vs) (lent os δ') j a → Own H' σ' δ' j a := fun j a ⟨w, u, q1, q2, q3⟩ => by
    obtain ⟨ds, z1, z2⟩ := lent_get q2
    exact ⟨w, u, by rw [(at_ j ds z1).1]; exact q1, z2, q3⟩
  have held_of : ∀ a, Held H (L2.start N vs) (startΔ N.length os) a → Held H (sm vs) (om os) a := fun a ⟨j, h⟩ => ⟨j, (rep_start r hn).2 j a h⟩
  have held_to : ∀ a, Held H (sm vs) (om os) a → Held H (L2.start N vs) (startΔ N.length os) a := fun a ⟨j, h⟩ => ⟨j, own_start hl h⟩
  refine ⟨⟨r1.kp, by rw [lent_len]; simpa using hl, fun j u hj => ?_, fun i j a hi hj => r1.ap i j a (own_of i a hi) (own_of j a hj), r1.tb⟩,
    ⟨g.kf, fun a o e z => g.kh a o e fun w => z (held_of a w), fun a z => (g.nf a z).imp_right fun w => w.imp_right (held_of a), fun a ⟨j, h⟩ => (g.hd a ⟨j, own_of j a h⟩).imp_left (held_of a), g.st, fun i ds h => ⟨rfl, ?_⟩⟩, fun a ⟨j, h⟩ => ⟨j, own_of j a h⟩⟩
  · obtain ⟨ds, z1, z2⟩ := lent_get hj
    obtain ⟨w, q1, q2, q3⟩ := r1.ok j u z2
    exact ⟨w, by rw [← (at_ j ds z1).1]; exact q1, q2, q3⟩
  · obtain ⟨_, es, q⟩ := at_ i ds (om_get.mp h)
    exact ⟨es, lent_put (om_get.mp h) q⟩
theorem spV_len {m : Δ → Option Out} {ws : List V} {Q : VK} {E : XK} (h : SpV K (runM k n m) ws H Q E) : ws.length = k := by
  obtain ⟨F, os, o, δ', e, r, _⟩ := h
  unfold runM at e
  split at e
  · rename_i hk; rw [rep_len r]; exact hk
  · cases e
end
section
variable {Pg : Program} {w : World} {K : Lay} {mg : Str → Option Value} {base : Heap}
/-- THE RULE for a def: its body's terms and their values -/
theorem fn_vi {x qual : Str} {st : Stmt} {f : Addr} {fd : FuncData} {N ps : List Str} {k : Nat} {m : Δ → Option Out} (Fd : Fun K x qual st f fd) (S : FnScope N ps (defScope st)) (hn : ps.length ≤ N.length)
    (hbody : ∀ (cdv : Value) (A : Around) (outer : List Env) (s : Shared) (H : Hp) (E : XK), Room k (A.deeper (envOfC qual (defScope st) s.heap.objs.size f cdv)) →
      ∃ t, PSs (cxOf CX0 Pg w K mg base N qual (defScope st) f cdv A outer s H E).nox (defBody st) t ∧ SS K t m) : FnOk Pg w K mg base CX0 (k + 1) f fd ps (SpV K (runM ps.length N.length m)) := by
  refine Fd.ok S (fun vs H Q E h => spV_len h) fun cdv A outer s H vs Q E hr h => ?_
  obtain ⟨t, ht, hs⟩ := hbody cdv A outer s H E hr
  refine ⟨t, ht, ?_⟩
  obtain ⟨F, os, o, δ', e, r, q⟩ := h
  unfold runM at e
  split at e
  case isFalse => cases e
  rename_i hk
  have hn' : os.length ≤ N.length := by omega
  obtain ⟨r0, _⟩ := rep_start (N := N) r hn'
  split at e
  case h_1 o1 δ1 hm =>
    cases e
    refine hs _ _ hm _ F H r0 _ fun v σ' F' H' r1 g t1 n1 => ?_
    obtain ⟨b1, b2, b3⟩ := back_ok r hn' r1 g
    exact q v F' H' b1 b2 ⟨t1.ok, t1.nd, fun a ha z => t1.ap a ha (b3 a z)⟩ fun a ha => (n1 a ha).imp_left fun ⟨j, z⟩ => ⟨j, (rep_start r hn').2 j a z⟩
  case h_2 δ1 hm =>
    cases e
    refine hs _ _ hm _ F H r0 _ fun σ' F' H' r1 g => ?_
    obtain ⟨b1, b2, b3⟩ := back_ok r hn' r1 g
    exact q .non F' H' b1 b2 ⟨.non, by simp [O.fp], fun a ha => by cases ha⟩ fun a ha => by cases ha
  case h_3 => cases e
end
/-! ### calls -/
section
variable {K : Lay} {F H F' H' F0 H0 F1 H1 F2 H2 : Hp} {σ σ' σ1 σ2 : L2.St} {δ δ' δ0 δ1 δ2 : Δ} {v x y : V} {p q : P} {o : O} {d e : D} {vs : List V} {os : List O} {ps : List P} {n k : Nat}
def fpA (H : Hp) : List V → List P → List Addr
  | v :: vs, p :: ps => p.fp H v ++ fpA H vs ps
  | _, _ => []
inductive PRs (K : Lay) (F H : Hp) (σ : L2.St) (δ : Δ) : List V → List P → Prop
  | nil : PRs K F H σ δ [] []
  | cons {a : V} {b : P} {as : List V} {bs : List P} : PR K F H σ δ a b → PRs K F H σ δ as bs → PRs K F H σ δ (a :: as) (b :: bs)
/-- several on their way, apart from one another -/
def SXs (K : Lay) (ta : TA) (g : Δ → Option (List P × Δ)) : Prop := ∀ δ ps δ', g δ = some (ps, δ') → ∀ σ F H, Rep K F H σ δ → ∀ Q : List V → Hp → Prop,
  (∀ vs F' H', Aft K F H σ δ F' H' δ' → PRs K F' H' σ δ' vs ps → (fpA H' vs ps).Nodup → (∀ a ∈ fpA H' vs ps, Held H σ δ a ∨ H a = none) → Q vs H') → ta σ H Q
def aNil : Δ → Option (List P × Δ) := fun δ => some ([], δ)
def aCons (f : Δ → Option (P × Δ)) (g : Δ → Option (List P × Δ)) : Δ → Option (List P × Δ) := fun δ => (f δ).bind fun r => (g r.2).map fun s => (r.1 :: s.1, s.2)
theorem sxs_nil : SXs K tNil aNil := fun δ ps δ' e σ F H r Q k => by
  cases e
  exact k [] F H (.rfl r) .nil (by simp [fpA]) fun a ha => by simp [fpA] at ha
theorem pr_fp (h : PR K F H σ δ v p) : ∀ a ∈ p.fp H v, (∃ xs, H a = some (.lst xs)) ∧ F a = none ∧ ¬ Held H σ δ a := fun a ha => by
  cases p with
  | tm o => exact ⟨(ok_fp h.ok a ha).1, (ok_fp h.ok a ha).2, h.ap a ha⟩
  | sl i => cases ha
theorem pr_nd (h : PR K F H σ δ v p) : (p.fp H v).Nodup := by
  cases p with
  | tm o => exact h.nd
  | sl i => simp [P.fp]
theorem sxs_cons {te : TE} {ta : TA} {f : Δ → Option (P × Δ)} {g : Δ → Option (List P × Δ)} (hf : SX K te f) (hg : SXs K ta g) : SXs K (tCons te ta) (aCons f g) := fun δ ps δ' e σ F H r Q k => by
  obtain ⟨⟨p, δ1⟩, e1, e2⟩ := Option.bind_eq_some_iff.mp e
  obtain ⟨⟨ps, δ2⟩, e3, e4⟩ := Option.map_eq_some_iff.mp e2
  cases e4
  refine hf δ p δ1 e1 σ F H r _ fun v F1 H1 a1 p1 n1 => ?_
  refine hg δ1 ps δ2 e3 σ F1 H1 a1.rep _ fun vs F2 H2 a2 p2 nd2 n2 => ?_
  obtain ⟨p1', fe⟩ := p1.step a2
  refine k (v :: vs) F2 H2 (a1.trans a2) (.cons p1' p2) ?_ fun a ha => ?_
  · show (p.fp H2 v ++ fpA H2 vs ps).Nodup
    rw [List.nodup_append]
    refine ⟨pr_nd p1', nd2, fun a ha b hb e => ?_⟩
    subst e
    rw [fe] at ha
    obtain ⟨⟨xs, z1⟩, _, z2⟩ := pr_fp p1 a ha
    rcases n2 a hb with w | w
    · exact z2 w
    · rw [z1] at w; cases w
  · rcases List.mem_append.mp (show a ∈ p.fp H2 v ++ fpA H2 vs ps from ha) with w | w
    · exact n1.step a2 p1 a w
    · exact (n2 a w).elim (a1.go.hd a) fun z => by
        by_cases q : H a = none
        · exact .inr q
        · exact absurd z (a1.go.st a q)
/-- what the def is given: an own thing is handed over, a slot's own list is lent -/
def argO (δ : Δ) : P → Option O
  | .tm (.ln _) => none
  | .tm o => some o
  | .sl i => match δ[i]? with
    | some (some (.ow ds)) => some (.ln ds)
    | some (some (.ln ds)) => some (.ln ds)
    | _ => none
def argOs (δ : Δ) : List P → Option (List O)
  | [] => some []
  | p :: ps => (argO δ p).bind fun o => (argOs δ ps).map (o :: ·)
def slots : List P → List Nat
  | [] => []
  | .sl i :: ps => i :: slots ps
  | _ :: ps => slots ps
theorem argOs_get : ∀ {ps : List P} {os : List O}, argOs δ ps = some os → os.length = ps.length ∧ ∀ (j : Nat) (o : O), os[j]? = some o → ∃ p, ps[j]? = some p ∧ argO δ p = some o
  | [], os, e => by cases e; exact ⟨rfl, fun j o h => by simp at h⟩
  | p :: ps, os, e => by
    obtain ⟨o, e1, e2⟩ := Option.bind_eq_some_iff.mp e
    obtain ⟨os', e3, e4⟩ := Option.map_eq_some_iff.mp e2
    subst e4
    obtain ⟨l, h⟩ := argOs_get e3
    refine ⟨by simp [l], fun j u hj => ?_⟩
    cases j with
    | zero => simp at hj; subst hj; exact ⟨p, rfl, e1⟩
    | succ j => obtain ⟨q, h1, h2⟩ := h j u (by simpa using hj); exact ⟨q, by simpa using h1, h2⟩
theorem prs_get : ∀ {vs : List V} {ps : List P}, PRs K F H σ δ vs ps → vs.length = ps.length ∧ ∀ (j : Nat) (p : P), ps[j]? = some p → ∃ v, vs[j]? = some v ∧ PR K F H σ δ v p
  | _, _, .nil => ⟨rfl, fun j p h => by simp at h⟩
  | _, _, .cons a b => by
    obtain ⟨l, h⟩ := prs_get b
    refine ⟨by simp [l], fun j u hj => ?_⟩
    cases j with
    | zero => simp at hj; subst hj; exact ⟨_, rfl, a⟩
    | succ j => obtain ⟨q, h1, h2⟩ := h j u (by simpa using hj); exact ⟨q, by simpa using h1, h2⟩
theorem fpA_get : ∀ {vs : List V} {ps : List P} {j : Nat} {v : V} {p : P} {a : Addr}, vs[j]? = some v → ps[j]? = some p → a ∈ p.fp H v → a ∈ fpA H vs ps
  | [], _, j, v, p, a, h, _, _ => by simp at h
  | _ :: _, [], j, v, p, a, _, h, _ => by simp at h
  | w :: vs, q :: ps, 0, v, p, a, h1, h2, h3 => by
    simp at h1 h2; subst h1 h2
    exact List.mem_append_left _ h3
  | w :: vs, q :: ps, j + 1, v, p, a, h1, h2, h3 => List.mem_append_right _ (fpA_get (j := j) (by simpa using h1) (by simpa using h2) h3)
theorem fpA_inj : ∀ {vs : List V} {ps : List P} {i j : Nat} {v w : V} {p q : P} {a : Addr}, (fpA H vs ps).Nodup → vs[i]? = some v → ps[i]? = some p → vs[j]? = some w → ps[j]? = some q → a ∈ p.fp H v → a ∈ q.fp H w → i = j
  | [], _, _, _, _, _, _, _, _, _, h, _, _, _, _, _ => by simp at h
  | _ :: _, [], _, _, _, _, _, _, _, _, _, h, _, _, _, _ => by simp at h
  | z :: vs, u :: ps, 0, 0, _, _, _, _, _, _, _, _, _, _, _, _ => rfl
  | z :: vs, u :: ps, 0, j + 1, v, w, p, q, a, nd, h1, h2, h3, h4, h5, h6 => by
    simp at h1 h2; subst h1 h2
    have := (List.nodup_append.mp (show (u.fp H z ++ fpA H vs ps).Nodup from nd)).2.2 a h5 a (fpA_get (j := j) (by simpa using h3) (by simpa using h4) h6)
    exact absurd rfl this
  | z :: vs, u :: ps, i + 1, 0, v, w, p, q, a, nd, h1, h2, h3, h4, h5, h6 => by
    simp at h3 h4; subst h3 h4
    have := (List.nodup_append.mp (show (u.fp H z ++ fpA H vs ps).Nodup from nd)).2.2 a h6 a (fpA_get (j := i) (by simpa using h1) (by simpa using h2) h5)
    exact absurd rfl this
  | z :: vs, u :: ps, i + 1, j + 1, v, w, p, q, a, nd, h1, h2, h3, h4, h5, h6 => by
    have := fpA_inj (i := i) (j := j) (List.nodup_append.mp (show (u.fp H z ++ fpA H vs ps).Nodup from nd)).2.1 (by simpa using h1) (by simpa using h2) (by simpa using h3) (by simpa using h4) h5 h6
    omega
theorem slots_mem : ∀ {ps : List P} {j i : Nat}, ps[j]? = some (.sl i) → i ∈ slots ps
  | [], j, i, h => by simp at h
  | p :: ps, 0, i, h => by simp at h; subst h; simp [slots]
  | p :: ps, j + 1, i, h => by
    have := slots_mem (ps := ps) (j := j) (i := i) (by simpa using h)
    cases p <;> simp [slots, this]
theorem slots_inj : ∀ {ps : List P} {j k i : Nat}, (slots ps).Nodup → ps[j]? = some (.sl i) → ps[k]? = some (.sl i) → j = k
  | [], _, _, _, _, h, _ => by simp at h
  | p :: ps, 0, 0, _, _, _, _ => rfl
  | p :: ps, 0, k + 1, i, nd, h1, h2 => by
    simp at h1; subst h1
    exact absurd (slots_mem (ps := ps) (j := k) (by simpa using h2)) (List.nodup_cons.mp nd).1
  | p :: ps, j + 1, 0, i, nd, h1, h2 => by
    simp at h2; subst h2
    exact absurd (slots_mem (ps := ps) (j := j) (by simpa using h1)) (List.nodup_cons.mp nd).1
  | p :: ps, j + 1, k + 1, i, nd, h1, h2 => by
    have nd' : (slots ps).Nodup := by
      cases p with
      | sl i => exact (List.nodup_cons.mp nd).2
      | tm o => exact nd
    have := slots_inj (j := j) (k := k) nd' (by simpa using h1) (by simpa using h2)
    omega
/-- the addresses that the call may touch -/
theorem arg_fp (r : Rep K F H σ δ) (hp : PR K F H σ δ v p) (ho : argO δ p = some o) : Ok K F H v o ∧ (o.fp H v).Nodup ∧ ((∃ u, p = .tm u ∧ o = u) ∨ ∃ i, p = .sl i ∧ ∀ a ∈ o.fp H v, Own H σ δ i a) := by
  cases p with
  | tm u =>
    have : o = u := by cases u <;> cases ho <;> rfl
    subst this
    exact ⟨hp.ok, hp.nd, .inl ⟨_, rfl, rfl⟩⟩
  | sl i =>
    obtain ⟨h1, u, h2⟩ := hp
    obtain ⟨v', q1, q2, q3⟩ := r.ok i u h2
    rw [h1] at q1; cases q1
    cases u with
    | ow ds => simp only [argO, h2] at ho; cases ho; exact ⟨q2, q3, .inr ⟨i, rfl, fun a ha => ⟨v, _, h1, h2, ha⟩⟩⟩
    | ln ds => simp only [argO, h2] at ho; cases ho; exact ⟨q2, q3, .inr ⟨i, rfl, fun a ha => ⟨v, _, h1, h2, ha⟩⟩⟩
    | fz d => simp only [argO, h2] at ho; cases ho
    | oo d => simp only [argO, h2] at ho; cases ho
    | mx d => simp only [argO, h2] at ho; cases ho
theorem args_rep (r : Rep K F H σ δ) (hp : PRs K F H σ δ vs ps) (nd : (fpA H vs ps).Nodup) (ns : (slots ps).Nodup) (ho : argOs δ ps = some os) : Rep K F H (sm vs) (om os) := by
  obtain ⟨l1, g1⟩ := prs_get hp
  obtain ⟨l2, g2⟩ := argOs_get ho
  have at_ : ∀ i o, os[i]? = some o → ∃ v p, vs[i]? = some v ∧ ps[i]? = some p ∧ PR K F H σ δ v p ∧ argO δ p = some o := fun i o h => by
    obtain ⟨p, h1, h2⟩ := g2 i o h
    obtain ⟨v, h3, h4⟩ := g1 i p h1
    exact ⟨v, p, h3, h1, h4, h2⟩
  refine ⟨r.kp, by simp [l1, l2], fun i o h => ?_, fun i j a ⟨v, o, z1, z2, z3⟩ ⟨w, u, y1, y2, y3⟩ => ?_, r.tb⟩
  · obtain ⟨v, p, h1, _, h2, h3⟩ := at_ i o (om_get.mp h)
    obtain ⟨k1, k2, _⟩ := arg_fp r h2 h3
    exact ⟨v, sm_get.mpr h1, k1, k2⟩
  · obtain ⟨v', p, h1, h2, h3, h4⟩ := at_ i o (om_get.mp z2)
    obtain ⟨w', q, k1, k2, k3, k4⟩ := at_ j u (om_get.mp y2)
    rw [sm_get.mp z1] at h1; cases h1
    rw [sm_get.mp y1] at k1; cases k1
    obtain ⟨_, _, c1⟩ := arg_fp r h3 h4
    obtain ⟨_, _, c2⟩ := arg_fp r k3 k4
    rcases c1 with ⟨u1, rfl, rfl⟩ | ⟨i1, rfl, c1⟩
    · rcases c2 with ⟨u2, rfl, rfl⟩ | ⟨i2, rfl, c2⟩
      · exact fpA_inj nd (sm_get.mp z1) h2 (sm_get.mp y1) k2 z3 y3
      · exact absurd ⟨i2, c2 a y3⟩ (h3.ap a z3)
    · rcases c2 with ⟨u2, rfl, rfl⟩ | ⟨i2, rfl, c2⟩
      · exact absurd ⟨i1, c1 a z3⟩ (k3.ap a y3)
      · have := r.ap i1 i2 a (c1 a z3) (c2 a y3)
        subst this
        exact slots_inj ns h2 k2
/-- the lent slots behind the call -/
def back1 (p : P) (u : Option O) (δ : Δ) : Δ := match p, u with
  | .sl i, some (.ln es) => δ.set i (match δ[i]? with
      | some (some (.ln _)) => some (.ln es)
      | _ => some (.ow es))
  | _, _ => δ
def backΔ : List P → Δ → Δ → Δ
  | p :: ps, u :: us, δ => backΔ ps us (back1 p u δ)
  | _, _, δ => δ
theorem back1_len {u : Option O} : (back1 p u δ).length = δ.length := by
  unfold back1; split <;> simp
theorem back1_out {u : Option O} {i : Nat} (h : ∀ j, p = .sl j → j ≠ i) : (back1 p u δ)[i]? = δ[i]? := by
  unfold back1
  split
  · rw [List.getElem?_set_ne (h _ rfl)]
  · rfl
theorem backΔ_len : ∀ (ps : List P) (us δ : Δ), (backΔ ps us δ).length = δ.length
  | [], _, δ => by simp [backΔ]
  | p :: ps, [], δ => by simp [backΔ]
  | p :: ps, u :: us, δ => by
    show (backΔ ps us (back1 p u δ)).length = _
    rw [backΔ_len ps us, back1_len]
theorem slots_tail {i : Nat} (h : i ∉ slots (p :: ps)) : i ∉ slots ps ∧ ∀ j, p = .sl j → j ≠ i := by
  refine ⟨fun z => h (by cases p <;> simp [slots, z]), fun j e z => h (by subst e z; simp [slots])⟩
theorem backΔ_out : ∀ {ps : List P} {us δ : Δ} {i : Nat}, i ∉ slots ps → (backΔ ps us δ)[i]? = δ[i]?
  | [], us, δ, i, _ => by simp [backΔ]
  | p :: ps, [], δ, i, _ => by simp [backΔ]
  | p :: ps, u :: us, δ, i, h => by
    show (backΔ ps us (back1 p u δ))[i]? = _
    rw [backΔ_out (slots_tail h).1, back1_out (slots_tail h).2]
/-- ow or ln -/
def sameC (o : O) (es : List D) : O := match o with
  | .ln _ => .ln es
  | _ => .ow es
theorem backΔ_in : ∀ {ps : List P} {us δ : Δ} {i j : Nat} {es : List D} {o : O}, (slots ps).Nodup → ps[j]? = some (.sl i) → us[j]? = some (some (.ln es)) → δ[i]? = some (some o) → (backΔ ps us δ)[i]? = some (some (sameC o es))
  | [], us, δ, i, j, es, o, _, h, _, _ => by simp at h
  | p :: ps, [], δ, i, j, es, o, _, _, h, _ => by simp at h
  | p :: ps, u :: us, δ, i, 0, es, o, nd, h1, h2, h3 => by
    simp at h1 h2; subst h1 h2
    show (backΔ ps us (back1 (.sl i) (some (.ln es)) δ))[i]? = _
    rw [backΔ_out (List.nodup_cons.mp nd).1]
    show (δ.set i _)[i]? = _
    rw [set_get_eq h3, h3]
    cases o <;> rfl
  | p :: ps, u :: us, δ, i, j + 1, es, o, nd, h1, h2, h3 => by
    have h1' : ps[j]? = some (.sl i) := by simpa using h1
    have h2' : us[j]? = some (some (.ln es)) := by simpa using h2
    have nd' : (slots ps).Nodup := by
      cases p with
      | sl i => exact (List.nodup_cons.mp nd).2
      | tm o => exact nd
    show (backΔ ps us (back1 p u δ))[i]? = _
    refine backΔ_in nd' h1' h2' ?_
    rw [back1_out fun k e z => ?_]; exact h3
    subst e z
    exact (List.nodup_cons.mp nd).1 (slots_mem h1')
theorem slots_ix : ∀ {ps : List P} {i : Nat}, i ∈ slots ps → ∃ j : Nat, ps[j]? = some (P.sl i)
  | [], i, h => by simp [slots] at h
  | .tm o :: ps, i, h => by
    obtain ⟨j, e⟩ := slots_ix (ps := ps) h
    exact ⟨j + 1, by simpa using e⟩
  | .sl k :: ps, i, h => by
    rcases List.mem_cons.mp h with e | e
    · subst e; exact ⟨0, rfl⟩
    · obtain ⟨j, e⟩ := slots_ix (ps := ps) e
      exact ⟨j + 1, by simpa using e⟩
/-- f(..) -/
def eFn (f : List O → Option (O × Δ)) (g : Δ → Option (List P × Δ)) : Δ → Option (P × Δ) := fun δ => (g δ).bind fun r => (argOs r.2 r.1).bind fun os => if (slots r.1).Nodup then (f os).map fun s => (.tm s.1, backΔ r.1 (lent os s.2) r.2) else none
theorem call_ok (a : Aft K F0 H0 σ δ0 F H δ) (hp : PRs K F H σ δ vs ps) (nd : (fpA H vs ps).Nodup) (nw : ∀ z ∈ fpA H vs ps, Held H0 σ δ0 z ∨ H0 z = none) (ns : (slots ps).Nodup) (ho : argOs δ ps = some os)
    {us : Δ} (hus : us = lent os δ') (r1 : Rep K F' H' (sm vs) us) (g : Go F H (sm vs) (om os) F' H' (sm vs) us) (t1 : Tmp K F' H' (sm vs) us v o) (n1 : Nw H (sm vs) (om os) H' v (.tm o)) :
    Aft K F0 H0 σ δ0 F' H' (backΔ ps us δ) ∧ PR K F' H' σ (backΔ ps us δ) v (.tm o) ∧ Nw H0 σ δ0 H' v (.tm o) := by
  have r0 := args_rep a.rep hp nd ns ho
  obtain ⟨l1, g1⟩ := prs_get hp
  obtain ⟨l2, g2⟩ := argOs_get ho
  have at_ : ∀ (i : Nat) (o : O), os[i]? = some o → ∃ v p, vs[i]? = some v ∧ ps[i]? = some p ∧ PR K F H σ δ v p ∧ argO δ p = some o := fun i o h => by
    obtain ⟨p, h1, h2⟩ := g2 i o h
    obtain ⟨v, h3, h4⟩ := g1 i p h1
    exact ⟨v, p, h3, h1, h4, h2⟩
  -- what the call may touch was new, or held at the start
  have own_arg : ∀ z i, Own H (sm vs) (om os) i z → z ∈ fpA H vs ps ∨ ∃ k, ps[i]? = some (.sl k) ∧ Own H σ δ k z := fun z i ⟨w, u, q1, q2, q3⟩ => by
    obtain ⟨v', p, h1, h2, h3, h4⟩ := at_ i u (om_get.mp q2)
    rw [sm_get.mp q1] at h1; cases h1
    obtain ⟨_, _, c⟩ := arg_fp a.rep h3 h4
    rcases c with ⟨u', rfl, rfl⟩ | ⟨k, rfl, c⟩
    · exact .inl (fpA_get (sm_get.mp q1) h2 q3)
    · exact .inr ⟨k, h2, c z q3⟩
  have old : ∀ z, Held H (sm vs) (om os) z → Held H0 σ δ0 z ∨ H0 z = none := fun z ⟨i, h⟩ => by
    rcases own_arg z i h with w | ⟨k, _, w⟩
    · exact nw z w
    · exact a.go.hd z ⟨k, w⟩
  have fresh0 : ∀ z, H z = none → H0 z = none := fun z w => by
    by_cases q : H0 z = none
    · exact q
    · exact absurd w (a.go.st z q)
  -- a slot that was not lent is as it was
  have keep : ∀ i u w, δ[i]? = some (some u) → σ[i]? = some (some w) → i ∉ slots ps → Ok K F' H' w u ∧ u.fp H' w = u.fp H w ∧ ∀ z ∈ u.fp H w, ¬ Held H (sm vs) (om os) z := fun i u w h1 h2 h3 => by
    obtain ⟨w', q1, q2, _⟩ := a.rep.ok i u h1
    rw [h2] at q1; cases q1
    have nh : ∀ z ∈ u.fp H w, ¬ Held H (sm vs) (om os) z := fun z hz ⟨j, hj⟩ => by
      rcases own_arg z j hj with y | ⟨k, y1, y2⟩
      · -- an own thing on its way
        obtain ⟨w2, u2, x1, x2, x3⟩ := hj
        obtain ⟨v', p, k1, k2, k3, k4⟩ := at_ j u2 (om_get.mp x2)
        rw [sm_get.mp x1] at k1; cases k1
        obtain ⟨_, _, c⟩ := arg_fp a.rep k3 k4
        rcases c with ⟨u', rfl, rfl⟩ | ⟨k, rfl, c⟩
        · exact k3.ap z x3 ⟨i, w, u, h2, h1, hz⟩
        · have := a.rep.ap i k z ⟨w, u, h2, h1, hz⟩ (c z x3)
          subst this
          exact h3 (slots_mem k2)
      · have := a.rep.ap i k z ⟨w, u, h2, h1, hz⟩ y2
        subst this
        exact h3 (slots_mem y1)
    have same : ∀ z ∈ u.fp H w, H' z = H z ∧ F' z = none := fun z hz => by
      obtain ⟨⟨xs, e1⟩, e2⟩ := ok_fp q2 z hz
      obtain ⟨x, e3, l⟩ := g.kh z _ e1 (nh z hz)
      refine ⟨by rw [e3, l.lst, e1], ?_⟩
      cases q : F' z with
      | none => rfl
      | some y =>
        rcases g.nf z (by rw [q]; simp) with c | c | c
        · exact absurd e2 c
        · rw [e1] at c; cases c
        · exact absurd c (nh z hz)
    exact ⟨ok_frame g.kf q2 same, fp_frame q2 fun z hz => (same z hz).1, nh⟩
  -- a lent slot
  have lentE : ∀ i, i ∈ slots ps → ∃ (j : Nat) (es : List D) (w : V) (u0 : O), ps[j]? = some (P.sl i) ∧ us[j]? = some (some (O.ln es)) ∧ vs[j]? = some w ∧ σ[i]? = some (some w) ∧ δ[i]? = some (some u0) ∧ (backΔ ps us δ)[i]? = some (some (sameC u0 es)) ∧ ∃ ds, u0 = .ow ds ∨ u0 = .ln ds := fun i hi => by
    obtain ⟨j, hj⟩ := slots_ix hi
    have hjo : j < os.length := by rw [l2]; exact (List.getElem?_eq_some_iff.mp hj).1
    obtain ⟨w, p, h1, h2, h3, h4⟩ := at_ j os[j] (List.getElem?_eq_getElem hjo)
    rw [hj] at h2; cases h2
    obtain ⟨q1, u0, q2⟩ := h3
    have hds : ∃ ds, os[j]? = some (.ln ds) ∧ (u0 = .ow ds ∨ u0 = .ln ds) := by
      cases u0 with
      | ow ds => simp only [argO, q2, Option.some.injEq] at h4; exact ⟨ds, by rw [List.getElem?_eq_getElem hjo, ← h4], .inl rfl⟩
      | ln ds => simp only [argO, q2, Option.some.injEq] at h4; exact ⟨ds, by rw [List.getElem?_eq_getElem hjo, ← h4], .inr rfl⟩
      | fz d => simp only [argO, q2] at h4; cases h4
      | oo d => simp only [argO, q2] at h4; cases h4
      | mx d => simp only [argO, q2] at h4; cases h4
    obtain ⟨ds, e1, e2⟩ := hds
    obtain ⟨_, es, e3⟩ := g.ln j ds (om_get.mpr e1)
    exact ⟨j, es, w, u0, hj, e3, h1, q1, q2, backΔ_in ns hj e3 q2, ds, e2⟩
  have ownB : ∀ i z, Own H' σ (backΔ ps us δ) i z → (i ∉ slots ps ∧ Own H σ δ i z ∧ ¬ Held H (sm vs) (om os) z) ∨ (i ∈ slots ps ∧ ∃ j : Nat, ps[j]? = some (P.sl i) ∧ Own H' (sm vs) us j z) := fun i z ⟨w, u, q1, q2, q3⟩ => by
    by_cases hi : i ∈ slots ps
    · obtain ⟨j, es, w', u0, e1, e2, e3, e4, e5, e6, ds, e7⟩ := lentE i hi
      rw [q1] at e4; cases e4
      rw [q2] at e6
      have eu : u = sameC u0 es := by simpa using e6
      refine .inr ⟨hi, j, e1, w, .ln es, sm_get.mpr e3, e2, ?_⟩
      rw [eu] at q3
      rcases e7 with rfl | rfl <;> exact q3
    · rw [backΔ_out hi] at q2
      obtain ⟨_, e2, e3⟩ := keep i u w q2 q1 hi
      rw [e2] at q3
      exact .inl ⟨hi, ⟨w, u, q1, q2, q3⟩, e3 z q3⟩
  have notBoth : ∀ i j z, Own H σ δ i z → ¬ Held H (sm vs) (om os) z → ¬ Own H' (sm vs) us j z := fun i j z h1 h2 h3 => by
    rcases g.hd z ⟨j, h3⟩ with c | c
    · exact h2 c
    · obtain ⟨⟨xs, e⟩, _⟩ := a.rep.held ⟨i, h1⟩
      rw [c] at e; cases e
  refine ⟨⟨⟨r1.kp, by rw [backΔ_len]; exact a.rep.len, fun i u hu => ?_, fun i j z h1 h2 => ?_, r1.tb⟩, ⟨a.go.kf.trans g.kf, fun z x e n => ?_, fun z hz => ?_, fun z ⟨i, hz⟩ => ?_, fun z hz => g.st z (a.go.st z hz), fun i ds h => ?_⟩, fun i x h => ?_, fun i es h => ?_⟩, ⟨t1.ok, t1.nd, fun z hz ⟨i, hi⟩ => ?_⟩, fun z hz => ?_⟩
  · by_cases hi : i ∈ slots ps
    · obtain ⟨j, es, w, u0, e1, e2, e3, e4, e5, e6, ds, e7⟩ := lentE i hi
      rw [hu] at e6
      have eu : u = sameC u0 es := by simpa using e6
      obtain ⟨w', k1, k2, k3⟩ := r1.ok j _ e2
      rw [sm_get.mpr e3] at k1
      cases k1
      refine ⟨w, e4, ?_⟩
      rw [eu]
      rcases e7 with rfl | rfl <;> exact ⟨k2, k3⟩
    · rw [backΔ_out hi] at hu
      obtain ⟨w, k1, _, k3⟩ := a.rep.ok i u hu
      obtain ⟨e1, e2, _⟩ := keep i u w hu k1 hi
      exact ⟨w, k1, e1, by rw [e2]; exact k3⟩
  · rcases ownB i z h1 with ⟨a1, a2, a3⟩ | ⟨a1, k, a2, a3⟩
    · rcases ownB j z h2 with ⟨b1, b2, b3⟩ | ⟨b1, l, b2, b3⟩
      · exact a.rep.ap i j z a2 b2
      · exact absurd b3 (notBoth i l z a2 a3)
    · rcases ownB j z h2 with ⟨b1, b2, b3⟩ | ⟨b1, l, b2, b3⟩
      · exact absurd a3 (notBoth j k z b2 b3)
      · have := r1.ap k l z a3 b3
        subst this
        rw [a2] at b2
        simpa using b2
  · obtain ⟨u, e1, k1⟩ := a.go.kh z x e n
    obtain ⟨w, e2, k2⟩ := g.kh z u e1 fun c => by
      rcases old z c with y | y
      · exact n y
      · rw [e] at y; cases y
    exact ⟨w, e2, k1.trans k2⟩
  · rcases g.nf z hz with c | c | c
    · exact a.go.nf z c
    · exact .inr (.inl (fresh0 z c))
    · exact (old z c).elim (fun y => .inr (.inr y)) fun y => .inr (.inl y)
  · rcases ownB i z hz with ⟨_, c, _⟩ | ⟨_, k, _, c⟩
    · exact a.go.hd z ⟨i, c⟩
    · rcases g.hd z ⟨k, c⟩ with y | y
      · exact old z y
      · exact .inr (fresh0 z y)
  · obtain ⟨e1, es, e2⟩ := a.go.ln i ds h
    refine ⟨rfl, ?_⟩
    by_cases hi : i ∈ slots ps
    · obtain ⟨j, fs, w, u0, k1, k2, k3, k4, k5, k6, _⟩ := lentE i hi
      rw [e2] at k5; cases k5
      exact ⟨fs, k6⟩
    · exact ⟨es, by rw [backΔ_out hi]; exact e2⟩
  · obtain ⟨x', e⟩ := a.un i x h
    by_cases hi : i ∈ slots ps
    · obtain ⟨j, fs, w, u0, k1, k2, k3, k4, k5, k6, _⟩ := lentE i hi
      exact ⟨_, k6⟩
    · exact ⟨x', by rw [backΔ_out hi]; exact e⟩
  · by_cases hi : i ∈ slots ps
    · obtain ⟨j, fs, w, u0, k1, k2, k3, k4, k5, k6, ds, k7⟩ := lentE i hi
      rw [h] at k6
      rcases k7 with rfl | rfl
      · cases k6
      · exact a.nl i ds k5
    · rw [backΔ_out hi] at h
      exact a.nl i es h
  · rcases ownB i z hi with ⟨_, c1, c2⟩ | ⟨_, k, _, c⟩
    · rcases n1 z hz with y | y
      · exact c2 y
      · obtain ⟨⟨xs, e⟩, _⟩ := a.rep.held ⟨i, c1⟩
        rw [y] at e; cases e
    · exact t1.ap z hz ⟨k, c⟩
  · rcases n1 z hz with y | y
    · exact old z y
    · exact .inr (fresh0 z y)
/-- a call of a def, as an expression -/
theorem sx_fn {ta : TA} {f : List O → Option (O × Δ)} {g : Δ → Option (List P × Δ)} (hg : SXs K ta g) : SX K (tCall (SpV K f) [] E0 ta) (eFn f g) := fun δ p δ' e σ F H r Q k => by
  obtain ⟨⟨ps, δ1⟩, e1, e2⟩ := Option.bind_eq_some_iff.mp e
  obtain ⟨os, e3, e4⟩ := Option.bind_eq_some_iff.mp e2
  dsimp only at e4
  split at e4
  case isFalse => cases e4
  rename_i ns
  obtain ⟨⟨o, δ2⟩, e5, e6⟩ := Option.map_eq_some_iff.mp e4
  cases e6
  refine hg δ ps δ1 e1 σ F H r _ fun vs F1 H1 a1 p1 nd n1 => ?_
  show SpV K f (vs ++ []) H1 Q E0
  rw [List.append_nil]
  refine ⟨F1, os, o, δ2, e5, args_rep a1.rep p1 nd ns e3, fun v F' H' r1 g t1 n2 => ?_⟩
  obtain ⟨c1, c2, c3⟩ := call_ok a1 p1 nd n1 ns e3 rfl r1 g t1 n2
  exact k v F' H' c1 c2 c3
end
end Vi
end
section
set_option Elab.async false
set_option linter.all false
set_option maxRecDepth 100000
set_option maxHeartbeats 1000000
/-! A generator expression that any or all walks, whose element may call defs. -/
namespace Vg
open PySem PySem.Spec PyProof.Rows L2 GenW NdefX
/-- an expression's own scope of names over a caller's -/
def gxOf (X : Cx) (N : List Str) (scope : Scope) (s : Shared) (H : Hp) (code : Value) (fp : List Addr) : Cx where
  prog := X.prog
  w := X.w
  K := X.K
  mg := X.mg
  base := X.base
  A := X.A.in1.in1.deeper (genEnv scope (cloFrom X.env.cells scope.names []) s.heap.objs.size code builtinsNs X.env)
  N := N
  s_0 := s
  H_0 := H
  env := genEnv scope (cloFrom X.env.cells scope.names []) s.heap.objs.size code builtinsNs X.env
  outer := X.stack
  stack := genEnv scope (cloFrom X.env.cells scope.names []) s.heap.objs.size code builtinsNs X.env :: X.stack
  ex := fp
  calm := true
  fn := fun _ => false
  pn := []
  xe := fun _ _ => False
theorem over_loopC {A : Around} {cenv : Env} {elt : Expr} {gs : List Comprehension} {sc : Scope} {pos : Pos} {it : Value} (hf : A.handled = none) : A.over (.compLoop (.GeneratorExp elt gs sc pos) 0 it .none cenv) [] = A.deeper cenv := by
  cases A with
  | mk hd d fr gd u =>
    cases hf
    cases fr <;> cases gd <;> rfl
theorem over_startC {A : Around} {cenv : Env} {elt : Expr} {gs : List Comprehension} {sc : Scope} {pos : Pos} {it : Value} (hf : A.handled = none) : A.over (.compStart (.GeneratorExp elt gs sc pos) 0 it .none cenv) [] = A.deeper cenv := by
  cases A with
  | mk hd d fr gd u =>
    cases hf
    cases fr <;> cases gd <;> rfl
theorem room_gx {X : Cx} {k : Nat} {N : List Str} {scope : Scope} {s : Shared} {H : Hp} {code : Value} {fp : List Addr} (r : Room (k + 1) X.A) : Room k (gxOf X N scope s H code fp).A :=
  ⟨r.hd, by have := r.dp; show X.A.depth + 1 + 3 * k + 5 < _; omega, by have := r.un; show X.A.units + 1 + 1 + 3 + 16 * k + 200 < _; omega⟩
theorem guards_gx {X : Cx} {N : List Str} {scope : Scope} {s : Shared} {H : Hp} {code : Value} {fp : List Addr} : (gxOf X N scope s H code fp).A.guards = X.A.guards := rfl
/-- the scope of a generator expression: its targets (and «.0») are local, the rest is captured -/
structure GSc (X : Cx) (scope : Scope) : Prop where
  kind : scope.kind = .function
  co : scope.isCoroutine = false
  cell : ∀ y ∈ scope.names, y.2 ≠ .cell
  dot : scope.names.lookup (".0" : Str) = some NameKind.local
  free : ∀ y ∈ scope.names, y.2 = .free → ∃ c, X.env.cells.lookup y.1 = some c
/-- what stands in the slots at the beginning: captured values -/
def Capt (X : Cx) (N : List Str) (scope : Scope) (σ σg : L2.St) : Prop :=
  ∀ (i : Nat) (y : Str) (v : V), N[i]? = some y → σg[i]? = some (some v) → scope.names.lookup y = some .free ∧ (X.env.kindOf y = some .cell ∨ X.env.kindOf y = some .free) ∧ Vis X.env.scope y ∧ ∃ j : Nat, X.N[j]? = some y ∧ σ[j]? = some (some v)
section
variable {X : Cx} {pins : List (Addr × Obj)} {σ σg : L2.St} {H : Hp} {s s5 : Shared} {N : List Str} {scope : Scope} {code : Value} {fp : List Addr}
theorem ok_gx (J : Inv X pins σ H s) (hr : X.A.handled = none) (S : GSc X scope) (hfp : ∀ b ∈ fp, FpOk X pins H b) (hlt : ∀ b ∈ fp, b < s.heap.objs.size) : (gxOf X N scope s H code fp).Ok where
  mod := J.ok.mod
  kind := S.kind
  glob := J.ok.glob
  blt := rfl
  above := Nat.le_refl _
  inj := fun x y c h1 h2 => J.ok.inj x y c (clo_cm S.free h1) (clo_cm S.free h2)
  has := fun x h => by
    have h' : scope.names.lookup x = some .cell ∨ scope.names.lookup x = some .free := h
    rcases h' with h' | h'
    · exact absurd rfl (S.cell _ (PySem.mem_of_lookup h'))
    · have hm := PySem.mem_of_lookup h'
      obtain ⟨c, hc⟩ := S.free _ hm rfl
      exact ⟨c, clo_has S.free hm hc⟩
  cab := fun x c h => by cases h
  hd := fun _ => hr
  frames := by
    have e := J.ok.frames
    exact Around.frames_deeper (A := X.A.in1.in1) e
  stk := .inr ⟨rfl, rfl⟩
  exf := fun b hb => by
    obtain ⟨_, _, _, _, h5, _⟩ := hfp b hb
    exact ⟨Nat.ne_of_lt (hlt b hb), fun x c e => h5 x c (clo_cm S.free e)⟩
  bs := J.bs
  bsz := Nat.le_trans J.ok.bsz J.sz
  noex := fun b o e hb => by
    obtain ⟨_, _, _, h4, _⟩ := hfp b hb
    rcases h4 with z | z
    · exact J.ok.noex b o e z
    · exact absurd (Nat.lt_of_lt_of_le (Heap.lt_size e) (Nat.le_trans J.ok.bsz z)) (Nat.lt_irrefl _)
  exfs := fun b hb hm => by
    obtain ⟨_, h2, h3, _⟩ := hfp b hb
    rcases List.mem_cons.mp (J.stkSub b hm) with z | z
    · exact h2 z
    · exact h3 z
  funs := J.stack
  frf := J.stkFree
theorem inv_gx (J : Inv X pins σ H s) (hr : X.A.handled = none) (S : GSc X scope) (hfp : ∀ b ∈ fp, FpOk X pins H b) (hlt : ∀ b ∈ fp, b < s.heap.objs.size) (hc : Capt X N scope σ σg) (hl : σg.length = N.length)
    (hos : s5.os = s.os) (hb : AllBare s5.gens) (hk : ∀ b o, s.heap.get? b = some o → s5.heap.get? b = some o) {m : Str → Option Value} (hn : s5.heap.Ns s.heap.objs.size m) :
    Inv (gxOf X N scope s H code fp) [] σg H s5 where
  ok := ok_gx J hr S hfp hlt
  os := hos
  bare := hb
  base := Un.kept hk
  loc := ⟨m, hn, fun i y v h1 h2 _ => by
    obtain ⟨k1, k2, k3, j, k4, k5⟩ := hc i y v h1 h2
    obtain ⟨mX, _, g⟩ := J.loc
    obtain ⟨u, ru, lk⟩ := g j y v k4 k5 k3
    refine ⟨u, ru, .inr ⟨.inr ?_, ?_⟩⟩
    · exact k1
    · rcases lk with ⟨q1, _⟩ | ⟨_, c, q1, q2⟩
      · rcases k2 with z | z <;> (rw [q1] at z; cases z)
      · exact ⟨c, clo_has S.free (PySem.mem_of_lookup k1) q1, q2.keeps hk⟩⟩
  cell := fun x c e => by
    obtain ⟨v, q⟩ := J.cell x c (clo_cm S.free e)
    exact ⟨v, q.keeps hk⟩
  free := J.hok.fresh (Nat.le_refl _)
  freeC := fun x c e => J.freeC x c (clo_cm S.free e)
  pin := fun p hp => by cases hp
  hok := J.hok.kept hk
  len := hl
end
/-! ### the turns -/
/-- nothing but the table of generators has changed -/
def Same (s s' : Shared) : Prop := s'.heap = s.heap ∧ s'.os = s.os ∧ AllBare s'.gens
/-- at its end -/
def EndG (Z : Cx) (pins : List (Addr × Obj)) (Qd : Hp → Prop) (s1 : Shared) : Prop := ∃ σ H, Inv Z pins σ H s1 ∧ Qd H
/-- a truth value handed out: the walk ends at e -/
def YieldG (Z : Cx) (pins : List (Addr × Obj)) (e : Bool) (Qs : Hp → Prop) : Protocol := fun _ _ v s kap =>
  ∃ b σ H, v = Value.bool b ∧ Inv Z pins σ H s ∧ (b = e → Qs H) ∧ (b ≠ e → ∀ s', Same s s' → kap (.send .none) s')
abbrev RG (Z : Cx) (pins : List (Addr × Obj)) (Qd : Hp → Prop) : GenEnd := fun n s₀ r s₁ =>
  ((r = .ok (.ret .none) ∨ r = .ok .next) ∧ (fun (_ : Nat) (_ : Shared) (t : Shared) => EndG Z pins Qd t) n s₀ s₁) ∨ ∃ x, r = .error x ∧ (fun (_ : Value) (_ : Shared) => False) x s₁
theorem inv_same {Z : Cx} {pins : List (Addr × Obj)} {σ : L2.St} {H : Hp} {s s' : Shared} (I : Inv Z pins σ H s) (h : Same s s') : Inv Z pins σ H s' := by
  obtain ⟨h1, h2, h3⟩ := h
  refine ⟨I.ok, h2.trans I.os, h3, ?_, ?_, ?_, I.free, I.freeC, ?_, ?_, I.len⟩
  · rw [h1]; exact I.base
  · rw [h1]; exact I.loc
  · rw [h1]; exact I.cell
  · rw [h1]; exact I.pin
  · rw [h1]; exact I.hok
/-- what each turn asks -/
def TurnG (J : It) (g : TG) (te : TE) (e : Bool) (Qs Qd : Hp → Prop) (W : Nat → Nat → L2.St → Hp → Prop) : Prop := ∀ i m σ H, W i m σ H →
  (J.stop i H ∧ Qd H) ∨ (J.go i H ∧ ∀ x H', J.yld i H x H' → g x σ H' fun σ2 H2 => te σ2 H2 fun v H3 => ∃ b, v = V.bl b ∧ (b = e → Qs H3) ∧ (b ≠ e → ∃ m', m' < m ∧ W (i + 1) m' σ2 H3))
theorem seg_turns {Z : Cx} {A : Around} {pins : List (Addr × Obj)} {elt tg iter : Expr} {scope : Scope} {pos : Pos} {fp : List Addr} {it : Addr} {tn : Nat → Heap → Prop} {J : It} {g : TG} {te : TE} {e : Bool} {Qs Qd : Hp → Prop} {W : Nat → Nat → L2.St → Hp → Prop}
    (hh : A.handled = none) (hA : Z.A = A.deeper Z.env) (hco : Z.env.scope.isCoroutine = false) (hcalm : Z.calm = true) (hxe : ∀ x s, ¬ Z.xe x s) (T : Turn Z.prog Z.w Z.K tg J fp it tn) (hg : PG Z tg g) (he : PE Z elt te) (hT : TurnG J g te e Qs Qd W)
    (stat : ∀ {H' : Hp}, (∀ b ∈ fp, H' b = none) → ∀ b ∈ fp, FpOk Z pins H' b) :
    ∀ (n m i : Nat) (σ : L2.St) (H : Hp) (s₀ s : Shared), m < n → W i m σ H → Inv Z pins σ H s → tn i s.heap → (∀ b ∈ fp, H b = none) →
      Seg (model Z.prog Z.w) A (RG Z pins Qd) (YieldG Z pins e Qs) n s₀ (.compLoop (.GeneratorExp elt [⟨tg, iter, [], 0⟩] scope pos) 0 (.ref it) .none Z.env)
        ((model Z.prog Z.w).den (.compLoop (.GeneratorExp elt [⟨tg, iter, [], 0⟩] scope pos) 0 (.ref it) .none Z.env)) [] s := by
  intro n
  induction n with
  | zero => intro m i σ H s₀ s hm; exact absurd hm (Nat.not_lt_zero _)
  | succ n ih =>
    intro m i σ H s₀ s hm w I st fr
    show Seg _ A _ _ _ _ _ ((compTurn (.GeneratorExp elt [⟨tg, iter, [], 0⟩] scope pos) 0 (.ref it) .none Z.env).onRaise (leaving Z.env)) _ _
    rw [compTurn_gen]
    rw [Sem.onRaise_eq_wrap]
    refine seg_bind_wrap ?_
    refine wpAny_standAt ?_
    refine seg_bind_wrap ?_
    rw [over_loopC hh, ← hA]
    rcases hT i m σ H w with ⟨stop, qd⟩ | ⟨go, step⟩
    · refine thn (T.done Z rfl rfl rfl hcalm i pins s σ H _ I (stat fr) st stop) fun r s1 ⟨hr, I1⟩ => ?_
      subst hr
      exact seg_end (.ok .next) (.inl ⟨.inr rfl, σ, H, I1, qd⟩)
    · refine thn (T.item Z rfl rfl rfl hcalm i pins s σ H _ I (stat fr) st go) fun r s1 ⟨u, hr, h1⟩ => ?_
      subst hr
      refine seg_bind_wrap ?_
      rw [over_loopC hh, ← hA]
      refine thn h1 fun _ s2 ⟨x, H2, I2, r2, y2, st2, fr2⟩ => ?_
      have I2' := I2.pinned (stat fr2) (T.obj _ _ st2)
      refine seg_bind_wrap ?_
      rw [over_loopC hh, ← hA]
      refine wpAny_mono (hg.run _ s2 σ H2 x u _ I2' r2 (step x H2 y2)) (fun _ s3 h3 => ?_) fun y s' z => absurd z (hxe y s')
      obtain ⟨σ3, H3, I3, q3⟩ := h3
      refine seg_bind_wrap ?_
      simp only [List.forIn_nil]
      refine wpAny_pure ?_
      simp only [if_true]
      have hy : ∀ z, yieldOut Z.env z = yieldValue z := fun z => by unfold yieldOut; rw [hco]; rfl
      simp only [hy]
      rw [Sem.bind_eq_wrap', Sem.bind_eq_wrap', Sem.wrap_wrap, Sem.wrap_wrap]
      refine seg_wrap ?_
      rw [over_loopC hh, ← hA]
      refine wpAny_mono (he.run _ s3 σ3 H3 _ I3 q3) (fun yv s4 h4 => ?_) fun y s' z => absurd z (hxe y s')
      obtain ⟨v4, H4, I4, r4, b, e4, qs, nx⟩ := h4
      subst e4
      have e5 : yv = Value.bool b := r4
      subst e5
      refine seg_at (seg_yield rfl rfl rfl ⟨b, σ3, H4, rfl, I4.unpinned, qs, fun nb s' hs => ?_⟩)
      obtain ⟨m', hm', w'⟩ := nx nb
      have pk : ∀ c ∈ fp, ∀ o, s2.heap.get? c = some o → s4.heap.get? c = some o ∧ H4 c = none := fun c hc o ho =>
        let q := I4.pin (c, o) (List.mem_append_right _ (List.mem_append_right _ (mem_pinsAt hc ho)))
        ⟨q.1, q.2.1⟩
      refine seg_again rfl (ih m' (i + 1) σ3 H4 s' s' (by omega) w' (inv_same I4.unpinned hs) ?_ fun c hc => ?_)
      · rw [hs.1]; exact T.keep _ _ _ st2 fun c hc o ho => (pk c hc o ho).1
      · obtain ⟨o, ho, _⟩ := T.obj _ _ st2 c hc
        exact (pk c hc o ho).2
theorem seg_begin {Z : Cx} {A : Around} {pins : List (Addr × Obj)} {elt tg iter : Expr} {scope : Scope} {pos : Pos} {fp : List Addr} {it : Addr} {tn : Nat → Heap → Prop} {J : It} {g : TG} {te : TE} {e : Bool} {Qs Qd : Hp → Prop} {W : Nat → Nat → L2.St → Hp → Prop}
    (hh : A.handled = none) (hA : Z.A = A.deeper Z.env) (hco : Z.env.scope.isCoroutine = false) (hcalm : Z.calm = true) (hxe : ∀ x s, ¬ Z.xe x s) (T : Turn Z.prog Z.w Z.K tg J fp it tn) (hg : PG Z tg g) (he : PE Z elt te) (hT : TurnG J g te e Qs Qd W)
    (stat : ∀ {H' : Hp}, (∀ b ∈ fp, H' b = none) → ∀ b ∈ fp, FpOk Z pins H' b) {n m : Nat} {σ : L2.St} {H : Hp} {s₀ s : Shared} (hm : m < n) (w : W 0 m σ H) (I : Inv Z pins σ H s) (st : tn 0 s.heap) (fr : ∀ b ∈ fp, H b = none) :
      Seg (model Z.prog Z.w) A (RG Z pins Qd) (YieldG Z pins e Qs) n s₀ (.compStart (.GeneratorExp elt [⟨tg, iter, [], 0⟩] scope pos) 0 (.ref it) .none Z.env)
        ((model Z.prog Z.w).den (.compStart (.GeneratorExp elt [⟨tg, iter, [], 0⟩] scope pos) 0 (.ref it) .none Z.env)) [] s := by
  have loop := seg_turns (iter := iter) (scope := scope) (pos := pos) hh hA hco hcalm hxe T hg he hT stat n m 0 σ H s₀ s hm w I st fr
  show Seg _ _ _ _ _ _ _ ((compStart (.GeneratorExp elt [⟨tg, iter, [], 0⟩] scope pos) 0 (.ref it) .none Z.env).onRaise (leaving Z.env)) _ _
  unfold compStart
  rw [Sem.onRaise_eq_wrap]
  show Seg _ _ _ _ _ _ _ ((ask >>= _).wrap _ _ _ _) _ _
  refine seg_bind_wrap ?_
  refine wpAny_askSetting ?_
  split
  · exact seg_again rfl loop
  · refine seg_bind_wrap (wpAny_rule ?_)
    show Seg _ _ _ _ _ _ _ ((standAt iter.pos >>= _).wrap _ _ _ _) _ _
    refine seg_bind_wrap (wpAny_standAt ?_)
    exact seg_bind_wrap (T.self _ 0 s _ _ st (seg_again rfl loop))
/-- the generator at a, its object ob among the pins, wakes in s -/
structure Wakes1 (Z : Cx) (pins : List (Addr × Obj)) (A : Around) (a : Addr) (g : Nat) (e : Bool) (Qs Qd : Hp → Prop) (n : Nat) (s : Shared) : Prop where
  gen : s.heap.IsGen a g
  lim : s.heap.NoLimit
  go : ∃ gs, s.gens[g]? = some gs ∧ gs.Goes (model Z.prog Z.w) A (RG Z pins Qd) (YieldG Z pins e Qs) n (.send .none) (s.setGen g .running)
theorem next_walk {Z : Cx} {pins : List (Addr × Obj)} {A : Around} {a : Addr} {g n : Nat} {e : Bool} {Qs Qd : Hp → Prop} {s : Shared} {Q : Option Value → Shared → Prop} {E : Value → Shared → Prop} (hh : A.handled = none) (hd : A.depth < recursionLimit)
    (hgen : ∀ σ H t, Inv Z pins σ H t → t.heap.IsGen a g) (wk : Wakes1 Z pins A.in1 a g e Qs Qd n s)
    (hend : ∀ t σ H, Inv Z pins σ H t → Qd H → Q none t) (hstop : ∀ t σ H, Inv Z pins σ H t → Qs H → Q (some (.bool e)) t)
    (hgo : ∀ m t, m < n → Wakes1 Z pins A.in1 a g e Qs Qd m t → Q (some (.bool (!e))) t) :
    wpAny (model Z.prog Z.w) A (pyNext (.ref a)) Q E s := by
  obtain ⟨hg, hl, gs, hgs, go⟩ := wk
  have hgl : g < s.gens.size := (Array.getElem?_eq_some_iff.mp hgs).1
  refine wpAny_gsz (n := g + 1) hgl (next_genG hh hl hd hg hgs go (fun v t gs' hb hv => ?_) (fun t ht h' hk => ?_) fun x t ht => ht.elim)
  · intro hsz
    obtain ⟨b, σ, H, e1, I, qs, nx⟩ := hv
    subst e1
    have I' : Inv Z pins σ H (t.setGen g gs') := inv_same I ⟨rfl, rfl, allBare_setGen I.bare hb⟩
    by_cases h : b = e
    · subst h
      exact hstop _ σ H I' (qs rfl)
    · have hb2 : b = !e := by cases b <;> cases e <;> simp_all
      subst hb2
      have sz : g < t.gens.size := by
        have q : (t.setGen g gs').gens.size = t.gens.size := setGen_size _ _ _
        rw [q] at hsz
        exact hsz
      have k := nx h ((t.setGen g gs').setGen g .running) ⟨rfl, rfl, allBare_setGen I'.bare rfl⟩
      cases n with
      | zero => exact False.elim k
      | succ n => exact hgo n _ (Nat.lt_succ_self n) ⟨hgen σ H _ I', I'.nolimit, gs', setGen_at sz, k⟩
  · intro _
    obtain ⟨σ, H, I, qd⟩ := ht
    have I1 : Inv Z pins σ H (t.setGen g .finished) := inv_same I ⟨rfl, rfl, allBare_setGen I.bare rfl⟩
    exact hend _ σ H (I1.kept (t' := (t.setGen g .finished).toks) hk) qd
theorem all_walk {Z : Cx} {pins : List (Addr × Obj)} {A : Around} {a : Addr} {g : Nat} {Qs Qd : Hp → Prop} {R : Result → Shared → Prop} (hh : A.handled = none) (hd : A.depth < recursionLimit)
    (hgen : ∀ σ H t, Inv Z pins σ H t → t.heap.IsGen a g) (hend : ∀ t σ H, Inv Z pins σ H t → Qd H → R (.ok (.ret (.bool true))) t) (hstop : ∀ t σ H, Inv Z pins σ H t → Qs H → R (.ok (.ret (.bool false))) t) :
    ∀ (n : Nat) (s : Shared), Wakes1 Z pins A.in1.in1 a g false Qs Qd n s → codeAny (model Z.prog Z.w) A (.builtin "all.loop" ⟨[.ref a], []⟩) R s := by
  intro n
  induction n using Nat.strongRecOn with
  | ind n ih =>
    intro s wk
    refine codeAny_builtin F.entry_all_loop ?_
    rw [Around.under_plainId F.plain_all_loop _]
    show wpAny _ A.in1 (pyNext (.ref a) >>= _) _ _ _
    refine wpAny_bind ?_
    refine next_walk (A := A.in1) hh hd hgen wk (fun t σ H I q => ?_) (fun t σ H I q => ?_) fun m t hm wk' => ?_
    · exact wpAny_bind (wpAny_rule (wpAny_pure (hend t σ H I q)))
    · refine wpAny_bind (wpAny_holding (wpAny_truthy_bool ?_))
      refine wpAny_bind (wpAny_letGo ?_)
      simp only [Bool.false_eq_true, if_false]
      exact wpAny_bind (wpAny_rule (wpAny_pure (hstop t σ H I q)))
    · refine wpAny_bind (wpAny_holding (wpAny_truthy_bool ?_))
      refine wpAny_bind (wpAny_letGo ?_)
      simp only [Bool.not_false, if_true]
      exact wpAny_pure ⟨plainId_quiet F.plain_all_loop _, ih m hm t wk'⟩
theorem any_walk {Z : Cx} {pins : List (Addr × Obj)} {A : Around} {a : Addr} {g : Nat} {Qs Qd : Hp → Prop} {R : Result → Shared → Prop} (hh : A.handled = none) (hd : A.depth < recursionLimit)
    (hgen : ∀ σ H t, Inv Z pins σ H t → t.heap.IsGen a g) (hend : ∀ t σ H, Inv Z pins σ H t → Qd H → R (.ok (.ret (.bool false))) t) (hstop : ∀ t σ H, Inv Z pins σ H t → Qs H → R (.ok (.ret (.bool true))) t) :
    ∀ (n : Nat) (s : Shared), Wakes1 Z pins A.in1.in1 a g true Qs Qd n s → codeAny (model Z.prog Z.w) A (.builtin "any.loop" ⟨[.ref a], []⟩) R s := by
  intro n
  induction n using Nat.strongRecOn with
  | ind n ih =>
    intro s wk
    refine codeAny_builtin F.entry_any_loop ?_
    rw [Around.under_plainId F.plain_any_loop _]
    show wpAny _ A.in1 (pyNext (.ref a) >>= _) _ _ _
    refine wpAny_bind ?_
    refine next_walk (A := A.in1) hh hd hgen wk (fun t σ H I q => ?_) (fun t σ H I q => ?_) fun m t hm wk' => ?_
    · exact wpAny_bind (wpAny_rule (wpAny_pure (hend t σ H I q)))
    · refine wpAny_bind (wpAny_holding (wpAny_truthy_bool ?_))
      refine wpAny_bind (wpAny_letGo ?_)
      simp only [if_true]
      exact wpAny_bind (wpAny_rule (wpAny_pure (hstop t σ H I q)))
    · refine wpAny_bind (wpAny_holding (wpAny_truthy_bool ?_))
      refine wpAny_bind (wpAny_letGo ?_)
      simp only [Bool.not_true, Bool.false_eq_true, if_false]
      exact wpAny_pure ⟨plainId_quiet F.plain_any_loop _, ih m hm t wk'⟩
theorem call_all {Z : Cx} {pins : List (Addr × Obj)} {A : Around} {a : Addr} {g n : Nat} {Qs Qd : Hp → Prop} {Q : Value → Shared → Prop} {E : Value → Shared → Prop} {s : Shared} (hh : A.handled = none) (hd : A.depth < recursionLimit)
    (hgen : ∀ σ H t, Inv Z pins σ H t → t.heap.IsGen a g) (wk : Wakes1 Z pins A.in1.in1 a g false Qs Qd n s)
    (hend : ∀ t σ H, Inv Z pins σ H t → Qd H → Q (.bool true) t) (hstop : ∀ t σ H, Inv Z pins σ H t → Qs H → Q (.bool false) t) : wpAny (model Z.prog Z.w) A (call (.builtin "all") [.ref a]) Q E s := by
  refine call_function_tree F.kind_all F.plain_all F.entry_all (F.args_all1 _) ?_
  unfold Builtin.«all»
  refine wpAny_bind (m := oneArg "all" _) (wpAny_pure (wpAny_bind (wpAny_pyIter_gen wk.gen ?_)))
  exact wpAny_pure ⟨plainId_quiet F.plain_all_loop _, all_walk hh hd hgen (fun t σ H I q => hend t σ H I q) (fun t σ H I q => hstop t σ H I q) n s wk⟩
theorem call_any {Z : Cx} {pins : List (Addr × Obj)} {A : Around} {a : Addr} {g n : Nat} {Qs Qd : Hp → Prop} {Q : Value → Shared → Prop} {E : Value → Shared → Prop} {s : Shared} (hh : A.handled = none) (hd : A.depth < recursionLimit)
    (hgen : ∀ σ H t, Inv Z pins σ H t → t.heap.IsGen a g) (wk : Wakes1 Z pins A.in1.in1 a g true Qs Qd n s)
    (hend : ∀ t σ H, Inv Z pins σ H t → Qd H → Q (.bool false) t) (hstop : ∀ t σ H, Inv Z pins σ H t → Qs H → Q (.bool true) t) : wpAny (model Z.prog Z.w) A (call (.builtin "any") [.ref a]) Q E s := by
  refine call_function_tree F.kind_any F.plain_any F.entry_any (F.args_any1 _) ?_
  unfold Builtin.«any»
  refine wpAny_bind (m := oneArg "any" _) (wpAny_pure (wpAny_bind (wpAny_pyIter_gen wk.gen ?_)))
  exact wpAny_pure ⟨plainId_quiet F.plain_any_loop _, any_walk hh hd hgen (fun t σ H I q => hend t σ H I q) (fun t σ H I q => hstop t σ H I q) n s wk⟩
/-! ### the generator is made -/
section
variable {X : Cx} {pins : List (Addr × Obj)} {σ σg : L2.St} {H : Hp} {s : Shared}
structure Made (X : Cx) (pins : List (Addr × Obj)) (σ : L2.St) (scope : Scope) (N : List Str) (elt tg iter : Expr) (gpos : Pos) (P : Addr) (J : It) (H2 H3 : Hp) (a : Addr) (g : Nat) (s3 s5 : Shared) (code : Value) (fp : List Addr) (it : Addr) (tn : Nat → Heap → Prop) : Prop where
  inv : Inv X pins σ H3 s3
  tab : GxR.Tabbed P H2 H3
  turn : Turn X.prog X.w X.K tg J fp it tn
  at0 : tn 0 s5.heap
  fpk : ∀ b ∈ fp, FpOk X pins H3 b
  flt : ∀ b ∈ fp, b < s3.heap.objs.size
  os : s5.os = s3.os
  bare : AllBare s5.gens
  keep : ∀ b o, s3.heap.get? b = some o → s5.heap.get? b = some o
  ns : ∃ m, s5.heap.Ns s3.heap.objs.size m
  alt : s3.heap.objs.size < a
  gen : s5.heap.IsGen a g
  fresh : s5.gens[g]? = some (.fresh (.compStart (.GeneratorExp elt [⟨tg, iter, [], 0⟩] scope gpos) 0 (.ref it) .none (gxOf X N scope s3 H3 code fp).env))
theorem gen_made {c P : Addr} {elt tg iter : Expr} {scope : Scope} {N : List Str} {gpos : Pos} {wi : TI} {k : Nat} {Q' : Value → Shared → Prop} {R : It → Hp → Prop}
    (hr : Room k X.A) (TB : GxR.TabB X.base X.mg c P) (hcode : X.env.code = .ref c) (S : GSc X scope) (hi : PI X tg iter wi) (hs : ∀ v, genFold iter X.env v = pure v) (I : Inv X pins σ H s)
    (h : wi σ H fun J H1 => GxR.TabG H1 P ∧ R J H1) (hQ : ∀ J H2 H3 a g s3 s5 code fp it tn, R J H2 → Made X pins σ scope N elt tg iter gpos P J H2 H3 a g s3 s5 code fp it tn → Q' (.ref a) s5) :
    wpAny (model X.prog X.w) X.A (eval (.GeneratorExp elt [⟨tg, iter, [], 0⟩] scope gpos) X.env) Q' X.xe s := by
  refine wpAny_GeneratorExp_make S.co (closure_ok S.free) S.cell S.dot S.kind hr.depth ?_ hs
  refine thn (hi.run pins s σ H _ I h) fun xv s1 h1 => thn h1 fun itv s2 h2 => ?_
  obtain ⟨it, fp, tn, J, H2, rfl, I2, T, st2, f2, ⟨ps, hP, ht⟩, q2⟩ := h2
  refine ⟨I2.nolimit, ?_⟩
  have hPs : s2.heap.get? P = some { cls := .none, data := .fields ps } := I2.hok P _ hP
  have nP : ∀ b, H2 b = none → b ≠ P := fun b e z => by rw [z, hP] at e; cases e
  have cd : PySem.W.CodeHd s2.heap c P := TB.code.keeps fun b u e => I2.bk b u e
  have cont : ∀ (code : Value) (h3 : Heap) (tk : Nat) (ps' : Array Value), Heap.ExtBut P s2.heap h3 → s2.heap.objs.size ≤ h3.objs.size → h3.get? P = some { cls := .none, data := .fields ps' } → (∃ more, ps' = ps ++ more) → TriplesOk ps'.toList →
      wpAny (model X.prog X.w) X.A (builtinsFor X.env.globals X.env.builtins) (fun bi s₄ => ∀ h', h'.Ns s₄.heap.objs.size (fun y => if y = ".0" then some (.ref it) else none) → Heap.SameBut s₄.heap.objs.size (s₄.heap.push { cls := .type "frame", data := .dict #[] }) h' →
          Q' (.ref h'.objs.size) { s₄ with
            gens := s₄.gens.push (.fresh (.compStart (.GeneratorExp elt [⟨tg, iter, [], 0⟩] scope gpos) 0 (.ref it) .none (genEnv scope (cloFrom X.env.cells scope.names []) s₄.heap.objs.size code bi X.env))),
            toks := s₄.toks + 1 + 1 + 1,
            heap := h'.push { cls := .type "generator", data := .fields #[.int s₄.gens.size 0, .str "<genexpr>" (s₄.toks + 1), .str (X.env.qual ++ "<genexpr>") (s₄.toks + 1 + 1)] } }) X.xe { s2 with heap := h3, toks := tk } := by
    intro code h3 tk ps' hx hsz hP3 ⟨more, em⟩ ht3
    have keep3 : ∀ b u, b ≠ P → s2.heap.get? b = some u → h3.get? b = some u := fun b u hb e => hx b u hb e
    obtain ⟨bm, ob, e1, e2, e3, e4, e5, e6, e7, e8⟩ := TB.bm
    refine wpAny_builtinsFor (m := X.mg) (by rw [I2.ok.glob]; exact (I2.mod.glob.keeps I2.bk).extBut hx TB.gP) e1 e2 (keep3 _ _ e4 (I2.bk _ _ e5)) e6 e7 e8 ?_
    intro h' hn' hs'
    subst em
    have I3 : Inv X pins σ (upd H2 P (.tbl (ps ++ more))) { s2 with heap := h3, toks := tk } := GxR.inv_tab (g' := s2.gens) (d' := s2.drawn) I2 hP (fun b o hb e => keep3 b o hb e) hP3 I2.bare
    have f3 : ∀ b ∈ fp, FpOk X pins (upd H2 P (.tbl (ps ++ more))) b := fun b hb => ⟨by rw [upd_ne (nP b (f2 b hb).1)]; exact (f2 b hb).1, (f2 b hb).2⟩
    have flt : ∀ b ∈ fp, b < h3.objs.size := fun b hb => by
      obtain ⟨o, e, _⟩ := T.obj _ _ st2 b hb
      exact Nat.lt_of_lt_of_le (Heap.lt_size e) hsz
    have hsz' : h'.objs.size = h3.objs.size + 1 := by rw [hs'.1]; exact Heap.size_push ..
    have kp : ∀ (gob : Obj) b o, h3.get? b = some o → (h'.push gob).get? b = some o := fun gob b o e => by
      refine Heap.get?_push_of_some _ ?_
      rw [hs'.2 b (Nat.ne_of_lt (Heap.lt_size e))]
      exact Heap.get?_push_of_some _ e
    refine hQ J H2 (upd H2 P (.tbl (ps ++ more))) h'.objs.size s2.gens.size { s2 with heap := h3, toks := tk } _ code fp it tn q2 ⟨I3, ⟨⟨ps ++ more, upd_same, ht3⟩, fun b hb => upd_ne hb⟩, T, ?_, f3, flt, rfl, I2.bare.push rfl, kp _, ⟨_, hn'.keeps fun b o e => Heap.get?_push_of_some _ e⟩, ?_, ?_, ?_⟩
    · exact T.keep _ _ _ st2 fun b hb o e => kp _ b o (keep3 b o (nP b (f2 b hb).1) e)
    · show h3.objs.size < h'.objs.size
      omega
    · exact ⟨_, _, _, Heap.get?_push_size _ rfl, rfl, rfl, rfl⟩
    · show (s2.gens.push _)[s2.gens.size]? = _
      simp [gxOf]
  cases hf : codeAmong gpos ps.toList with
  | none =>
    refine wpAny_genexprCodeX hcode (cd.code hPs ht) (cd.tab hPs) hf fun c' h' tk hx hge hlt hco' _ htab' _ => ?_
    obtain ⟨o1, vs, f1, tf, fl, tg', inF, tx, tt, op, _, _, _, _, _, _, _, _, _, htr, _⟩ := hco'
    exact cont _ h' tk _ hx (Nat.le_trans hge (Nat.le_of_lt hlt)) htab'.2 ⟨_, rfl⟩ htr
  | some cv =>
    refine wpAny_genexprCode_hit hcode (cd.code hPs ht) hf ?_
    exact cont cv s2.heap s2.toks ps (Heap.ExtBut.refl _ _) (Nat.le_refl _) hPs ⟨#[], by simp⟩ ht
end
section
variable {X : Cx} {N : List Str} {scope : Scope}
/-- the slots of a generator expression hold what it captures -/
def Takes1 (X : Cx) (N : List Str) (scope : Scope) (cg : L2.St → L2.St) : Prop := ∀ σ, σ.length = X.N.length → Capt X N scope σ (cg σ) ∧ (cg σ).length = N.length
/-- any (e = true), all (e = false): the walk ends at the first e -/
def tWalk (e : Bool) (P : Addr) (cg : L2.St → L2.St) (wi : TI) (g : TG) (te : TE) : TE := fun σ H Q => wi σ H fun J H1 => GxR.TabG H1 P ∧ ∀ H2, GxR.Tabbed P H1 H2 →
  ∃ (W : Nat → Nat → L2.St → Hp → Prop) (m : Nat), W 0 m (cg σ) H2 ∧ TurnG J g te e (fun H3 => Q (.bl e) H3) (fun H3 => Q (.bl (!e)) H3) W
variable {pins : List (Addr × Obj)} {σ : L2.St} {H : Hp} {s : Shared}
theorem made_wakes {P : Addr} {elt tg iter : Expr} {gpos : Pos} {g : TG} {te : TE} {cg : L2.St → L2.St} {k : Nat} {e : Bool} {J : It} {H2 H3 : Hp} {a : Addr} {n : Nat} {s3 s5 : Shared} {code : Value} {fp : List Addr} {it : Addr} {tn : Nat → Heap → Prop} {Q : VK} {W : Nat → Nat → L2.St → Hp → Prop} {m : Nat}
    (hr : Room k X.A) (S : GSc X scope) (hcg : Takes1 X N scope cg) (hg : ∀ s H code fp, PG (gxOf X N scope s H code fp) tg g) (he : ∀ s H code fp, PE (gxOf X N scope s H code fp) elt te)
    (M : Made X pins σ scope N elt tg iter gpos P J H2 H3 a n s3 s5 code fp it tn) (w0 : W 0 m (cg σ) H3) (hT : TurnG J g te e (fun H3 => Q (.bl e) H3) (fun H3 => Q (.bl (!e)) H3) W) :
    ∃ ob, (∀ σ' H' t, Inv (gxOf X N scope s3 H3 code fp) [(a, ob)] σ' H' t → t.heap.IsGen a n) ∧
      (∀ σ' H' t v u, Inv (gxOf X N scope s3 H3 code fp) [(a, ob)] σ' H' t → RelV v u → Q v H' → EP X pins σ Q u t) ∧
      Wakes1 (gxOf X N scope s3 H3 code fp) [(a, ob)] X.A.in1.in1 a n e (fun H3 => Q (.bl e) H3) (fun H3 => Q (.bl (!e)) H3) (m + 1) s5 := by
  obtain ⟨ob, nm, qn, ho, hc, hd, hsl⟩ := M.gen
  obtain ⟨mm, hn⟩ := M.ns
  obtain ⟨cap, hl⟩ := hcg σ M.inv.len
  have J5 : ∀ t, Same s5 t → Inv (gxOf X N scope s3 H3 code fp) [(a, ob)] (cg σ) H3 t := fun t ht => by
    have I := inv_gx (code := code) (s5 := t) M.inv hr.hd S M.fpk M.flt cap hl (ht.2.1.trans M.os) ht.2.2 (fun b o e => by rw [ht.1]; exact M.keep b o e) (m := mm) (by rw [ht.1]; exact hn)
    refine I.pins_of fun p hp => ?_
    have ep : p = (a, ob) := by simpa using hp
    subst ep
    refine ⟨by rw [ht.1]; exact ho, M.inv.hok.fresh (Nat.le_of_lt M.alt), Nat.ne_of_gt M.alt, fun hm => ?_, fun v z => by rw [hd] at z; cases z⟩
    obtain ⟨_, o, e, _⟩ := M.inv.stack.mem hm
    exact absurd (Nat.lt_trans (Heap.lt_size e) M.alt) (Nat.lt_irrefl _)
  have fpz : ∀ {H' : Hp}, (∀ b ∈ fp, H' b = none) → ∀ b ∈ fp, FpOk (gxOf X N scope s3 H3 code fp) [(a, ob)] H' b := fun {H'} z b hb => by
    obtain ⟨k1, k2, k3, k4, k5, k6⟩ := M.fpk b hb
    refine ⟨z b hb, Nat.ne_of_lt (M.flt b hb), fun hm => ?_, .inl hb, fun x c e => k5 x c (clo_cm S.free e), fun p hp => ?_⟩
    · rcases List.mem_cons.mp (M.inv.stkSub b hm) with y | y
      · exact k2 y
      · exact k3 y
    · have ep : p = (a, ob) := by simpa [gxOf] using hp
      subst ep
      exact Nat.ne_of_gt (Nat.lt_trans (M.flt b hb) M.alt)
  refine ⟨ob, fun σ' H' t I => ?_, fun σ' H' t v u I rv q => ?_, ⟨M.gen, ?_, _, M.fresh, rfl, ?_⟩⟩
  · exact ⟨ob, nm, qn, (I.pin (a, ob) (by simp)).1, hc, hd, hsl⟩
  · exact ⟨v, H', M.inv.call' (ch := fp) I.os I.base I.hok I.bare fun b hb => let f := M.fpk b hb; ⟨f.2.2.2.1, f.2.1, f.2.2.2.2.1, f.2.2.2.2.2⟩, rv, q⟩
  · exact (J5 s5 ⟨rfl, rfl, M.bare⟩).nolimit
  · refine seg_begin (Z := gxOf X N scope s3 H3 code fp) (A := X.A.in1.in1) hr.hd rfl S.co rfl (fun _ _ z => z) M.turn (hg _ _ _ _) (he _ _ _ _) hT fpz (m := m) (Nat.lt_succ_self m) w0 (J5 _ ⟨rfl, rfl, allBare_setGen M.bare rfl⟩) M.at0 fun b hb => (M.fpk b hb).1
theorem pe_allG {c P : Addr} {elt tg iter : Expr} {p pos gpos : Pos} {wi : TI} {g : TG} {te : TE} {cg : L2.St → L2.St} {k : Nat}
    (hr : Room k X.A) (hgl : Gl X "all") (hm : X.mg "all" = none) (TB : GxR.TabB X.base X.mg c P) (hcode : X.env.code = .ref c) (S : GSc X scope) (hcg : Takes1 X N scope cg) (hi : PI X tg iter wi)
    (hg : ∀ s H code fp, PG (gxOf X N scope s H code fp) tg g) (he : ∀ s H code fp, PE (gxOf X N scope s H code fp) elt te) (hs : ∀ v, genFold iter X.env v = pure v)
    (hb : bootBuiltins "all" = some (.builtin "all") := by rfl)
    (hst : starEach [.GeneratorExp elt [⟨tg, iter, [], 0⟩] scope gpos] X.env = (false, eval (.GeneratorExp elt [⟨tg, iter, [], 0⟩] scope gpos) X.env) :: starEach [] X.env := by rfl) :
    PE X (.Call (.Name "all" p) [.GeneratorExp elt [⟨tg, iter, [], 0⟩] scope gpos] [] pos) (tWalk false P cg wi g te) := by
  refine ⟨fun pins s σ H Q I h => ?_⟩
  refine wpAny_Call_Name_kw (ld_blt I hgl hm hb ?_)
  refine PyProof.Rows.callWith_builtin1 ?_ hst (by rfl)
  rw [hst]
  show wpAny _ _ (spliced ((false, eval (.GeneratorExp elt [⟨tg, iter, [], 0⟩] scope gpos) X.env) :: backTo pos (starEach [] X.env))) _ _ _
  refine Calls.spliced_cons (gen_made (N := N) hr TB hcode S hi hs I h fun J H2 H3 a n s3 s5 code fp it tn q M => ?_)
  refine Calls.spliced_nil ?_
  obtain ⟨W, m, w0, hT⟩ := q H3 M.tab
  obtain ⟨ob, k1, k2, wk⟩ := made_wakes hr S hcg hg he M w0 hT
  exact call_all (Z := gxOf X N scope s3 H3 code fp) hr.hd hr.depth k1 wk (fun t σ' H' I' q => k2 σ' H' t (.bl true) _ I' rfl q) fun t σ' H' I' q => k2 σ' H' t (.bl false) _ I' rfl q
theorem pe_anyG {c P : Addr} {elt tg iter : Expr} {p pos gpos : Pos} {wi : TI} {g : TG} {te : TE} {cg : L2.St → L2.St} {k : Nat}
    (hr : Room k X.A) (hgl : Gl X "any") (hm : X.mg "any" = none) (TB : GxR.TabB X.base X.mg c P) (hcode : X.env.code = .ref c) (S : GSc X scope) (hcg : Takes1 X N scope cg) (hi : PI X tg iter wi)
    (hg : ∀ s H code fp, PG (gxOf X N scope s H code fp) tg g) (he : ∀ s H code fp, PE (gxOf X N scope s H code fp) elt te) (hs : ∀ v, genFold iter X.env v = pure v)
    (hst : starEach [.GeneratorExp elt [⟨tg, iter, [], 0⟩] scope gpos] X.env = (false, eval (.GeneratorExp elt [⟨tg, iter, [], 0⟩] scope gpos) X.env) :: starEach [] X.env := by rfl) :
    PE X (.Call (.Name "any" p) [.GeneratorExp elt [⟨tg, iter, [], 0⟩] scope gpos] [] pos) (tWalk true P cg wi g te) := by
  refine ⟨fun pins s σ H Q I h => ?_⟩
  refine wpAny_Call_Name_kw (ld_blt I hgl hm boot_any ?_)
  refine PyProof.Rows.callWith_builtin1 ?_ hst (by rfl)
  rw [hst]
  show wpAny _ _ (spliced ((false, eval (.GeneratorExp elt [⟨tg, iter, [], 0⟩] scope gpos) X.env) :: backTo pos (starEach [] X.env))) _ _ _
  refine Calls.spliced_cons (gen_made (N := N) hr TB hcode S hi hs I h fun J H2 H3 a n s3 s5 code fp it tn q M => ?_)
  refine Calls.spliced_nil ?_
  obtain ⟨W, m, w0, hT⟩ := q H3 M.tab
  obtain ⟨ob, k1, k2, wk⟩ := made_wakes hr S hcg hg he M w0 hT
  exact call_any (Z := gxOf X N scope s3 H3 code fp) hr.hd hr.depth k1 wk (fun t σ' H' I' q => k2 σ' H' t (.bl false) _ I' rfl q) fun t σ' H' I' q => k2 σ' H' t (.bl true) _ I' rfl q
end
end Vg
end
section
set_option Elab.async false
set_option linter.all false
set_option maxRecDepth 100000
set_option maxHeartbeats 1000000
/-! Defs' promises where it is known that no repr is under way. -/
namespace Vf
open PySem PySem.Spec PyProof.Rows L2
/-- as FnOk, where no guard is on the stack -/
structure FnG (Pg : Program) (w : World) (K : PySem.W.Frag) (mg : Str → Option Value) (base : Heap) (CX : CXT) (k : Nat) (f : Addr) (fd : FuncData) (ps : List Str) (sp : Sp) : Prop where
  len : ∀ zs G R X, sp zs G R X → zs.length = ps.length
  run : ∀ (B : Around) (es : List Env) (t : Shared) (G : Hp) (ar : Args) (us : List Value) (zs : List V) (R : VK) (X : XK), Room k B → B.guards = some [] → Env0 Pg w K mg base B es t G → BindsTo t fd ar (ps.zip us) → Vals zs us → sp zs G R X →
    codeAny (model Pg w) B (.call (.ref f) ar) (CR CX es Pg w G t R X) t
section
variable {Pg : Program} {w : World} {K : PySem.W.Frag} {mg : Str → Option Value} {base : Heap} {CX : CXT} {k j : Nat} {f : Addr} {fd : FuncData} {ps : List Str} {sp sp' : Sp}
theorem FnG.of (F : FnOk Pg w K mg base CX k f fd ps sp) : FnG Pg w K mg base CX k f fd ps sp := ⟨F.len, fun B es t G ar us zs R X hr _ => F.run B es t G ar us zs R X hr⟩
theorem FnG.up (F : FnG Pg w K mg base CX j f fd ps sp) (h : j ≤ k) : FnG Pg w K mg base CX k f fd ps sp := ⟨F.len, fun B es t G ar us zs R X hr => F.run B es t G ar us zs R X (hr.mono h)⟩
theorem FnG.weak (F : FnG Pg w K mg base CX k f fd ps sp) (h : ∀ zs G R X, sp' zs G R X → sp zs G R X) : FnG Pg w K mg base CX k f fd ps sp' :=
  ⟨fun zs G R X q => F.len zs G R X (h _ _ _ _ q), fun B es t G ar us zs R X a b c d e q => F.run B es t G ar us zs R X a b c d e (h _ _ _ _ q)⟩
/-- a def of the text, by its body -/
theorem fnG_of {x qual : Str} {pa : Arguments} {body : List Stmt} {sc : Scope} {dV kV doc pm cdv ct oc : Value} {an od : Option Addr} {osl : Array (Option Value)} {N : List Str}
    (lk : K.lookup f = some ⟨oc, od, .func (PySem.W.fnOf x qual pa body sc dV kV doc pm an cdv ct), osl⟩) (hcd : PySem.W.codeIn K cdv qual = true) (S : FnScope N ps sc) (len : ∀ zs G R X, sp zs G R X → zs.length = ps.length)
    (hbody : ∀ (B : Around) (es : List Env) (t : Shared) (G : Hp) (zs : List V) (R : VK) (X : XK), Room k (B.deeper (envOfC qual sc t.heap.objs.size f cdv)) → B.guards = some [] → sp zs G R X →
      ∃ T, PSs (cxOf CX Pg w K mg base N qual sc f cdv B es t G X) body T ∧ T { nx := fun _ G' => R .non G', rt := R } (start N zs) G) :
    FnG Pg w K mg base CX (k + 1) f (PySem.W.fnOf x qual pa body sc dV kV doc pm an cdv ct) ps sp where
  len := len
  run := by
    intro B es t G ar us zs R X hr hgu e0 hb rv hq
    have kin : K.In t.heap := e0.mod.kin.keeps fun c o e => (e0.bs c o e).1
    have nl : t.heap.NoLimit := e0.mod.nolimit.keeps fun c o e => (e0.bs c o e).1
    refine codeAny_call_function hr.depth (kin _ _ lk) rfl S.co S.gen rfl ?_ ?_
    · exact PySem.W.codeRec_of kin hcd
    refine hb _ _ _ _ ?_
    refine wpAny_newFunctionEnv_cells S.kind ?_ ?_
    · rintro ⟨n, v⟩ hy
      rcases S.par n (List.of_mem_zip hy).1 with q | q
      · exact Or.inl q
      · exact Or.inr ⟨q, PySem.W.cellsFrom_some _ _ _ (.inl q)⟩
    rintro env rfl t1 inC
    refine ⟨nl.keeps inC.toInCall.keep, ?_⟩
    refine codeAny_func ?_
    obtain ⟨T, hT, tq⟩ := hbody B es t G zs R X (hr.deeper _) hgu hq
    have I := inv_start (CX := CX) (E := X) (H := G) S hr.hd e0 (len _ _ _ _ hq) rv inC
    refine wpAny_mono (hT.run [] t1 (start N zs) G _ I tq) ?_ fun _ _ z => z
    intro fl t2 h2
    cases fl with
    | next =>
      obtain ⟨σ2, G2, J, q⟩ := h2
      exact ⟨V.non, G2, J.os, J.bare, J.base, J.hok, (show RelV V.non Value.none from rfl), q⟩
    | ret u =>
      obtain ⟨v, σ2, G2, J, ru, q⟩ := h2
      exact ⟨v, G2, J.os, J.bare, J.base, J.hok, ru, q⟩
    | brk => obtain ⟨_, _, _, q⟩ := h2; exact q.elim
    | cont => obtain ⟨_, _, _, q⟩ := h2; exact q.elim
end
/-! ### calls -/
section
variable {X : Cx} {CX : CXT} {k : Nat} {f : Addr} {fd : FuncData} {ps : List Str} {sp : Sp} {dvs : List V} {ds : List Value} {E : XK} {x : Str} {p pos : Pos} {e : Expr} {es : List Expr} {t : TA}
/-- the running frame may call such a def -/
structure Can (X : Cx) (k : Nat) : Prop where
  room : Room k X.A
  gd : X.A.guards = some []
theorem run_fnG {pins : List (Addr × Obj)} {σ : L2.St} {H : Hp} {s : Shared} {Q : VK} {ar : Args} {us : List Value} {vs : List V} (F : FnG X.prog X.w X.K X.mg X.base CX k f fd ps sp) (hr : Can X k) (hx : Passes CX X E) (I : Inv X pins σ H s)
    (hb : BindsTo s fd ar (ps.zip us)) (r : Vals vs us) (h : sp vs H Q E) : wpAny (model X.prog X.w) X.A (call (.ref f) ar.pos ar.kw) (EP X pins σ Q) X.xe s := by
  refine wpAny_call (codeAny_mono (F.run X.A X.stack s H ar us vs Q E hr.room hr.gd I.env0 hb r h) ?_)
  intro r' s' hq
  match r', hq with
  | .ok (.ret u), hq => exact I.after hq
  | .error e, hq => exact hx pins σ H s e s' I hq
  | .ok .next, hq => exact False.elim hq
  | .ok .brk, hq => exact False.elim hq
  | .ok .cont, hq => exact False.elim hq
/-- f(e, ..) -/
theorem pe_callG (F : FnG X.prog X.w X.K X.mg X.base CX k f fd ps sp) (hr : Can X k) (hg : Gl X x) (hm : X.mg x = some (.ref f)) (hk : PySem.W.keepIn X.K (.ref f) = true) (hb : Binds X.K fd ps []) (hx : Passes CX X E) (ha : PA X (e :: es) t)
    (hdb : (x == ("__debug__" : Str)) = false := by decide) (he : starEach (e :: es) X.env = (false, eval e X.env) :: starEach es X.env := by rfl) (hpl : (backTo pos (starEach es X.env)).any (·.1) = false := by rfl) : PE X (.Call (.Name x p) (e :: es) [] pos) (tCall sp [] E t) := by
  refine ⟨fun pins s σ H Q I h => wpAny_Call_Name_kw (ld_glob I hg hm ?_ hdb)⟩
  refine PySem.W.callWith_K (h₀ := X.base) I.ok.mod.kin hk (thn (ha.run pos pins s σ H _ I h) ?_) he hpl
  rintro us s1 ⟨vs, H1, I1, r, q⟩
  have q' : sp vs H1 Q E := by simpa using q
  have hl : (us ++ []).length = ps.length := by rw [List.append_nil, ← r.length]; exact F.len _ _ _ _ q'
  have hb' := hb s1 us I1.kIn hl
  rw [List.append_nil] at hb'
  exact ⟨I1.kIn, run_fnG (ar := ⟨us, []⟩) F hr hx I1 hb' r q'⟩
theorem pe_callG0 (F : FnG X.prog X.w X.K X.mg X.base CX k f fd ps sp) (hr : Can X k) (hg : Gl X x) (hm : X.mg x = some (.ref f)) (hk : PySem.W.keepIn X.K (.ref f) = true) (hb : Binds X.K fd ps []) (hx : Passes CX X E)
    (hdb : (x == ("__debug__" : Str)) = false := by decide) : PE X (.Call (.Name x p) [] [] pos) (tCall sp [] E tNil) := by
  refine ⟨fun pins s σ H Q I h => wpAny_Call_Name_kw (ld_glob I hg hm ?_ hdb)⟩
  have q' : sp [] H Q E := h
  have hb' := hb s [] I.kIn (F.len _ _ _ _ q')
  exact PySem.W.callWith_K0 I.kIn hk (run_fnG (ar := ⟨[], []⟩) F hr hx I hb' .nil q')
/-- keywords alone: their values in the parameters' order -/
def BindsK (K : PySem.W.Frag) (fd : FuncData) (ps ks : List Str) (pm : {α : Type} → List α → List α) : Prop := ∀ (s : Shared) (ws : List Value), K.In s.heap → ws.length = ks.length → BindsTo s fd ⟨[], ks.zip ws⟩ (ps.zip (pm ws))
def tCallK (sp : Sp) (n : Nat) (pm : {α : Type} → List α → List α) (E : XK) (t : TA) : TE := fun σ H Q => t σ H fun zs H1 => zs.length = n ∧ sp (pm zs) H1 Q E
theorem pe_callGK {kws : List Keyword} {ks : List Str} {pm : {α : Type} → List α → List α} (F : FnG X.prog X.w X.K X.mg X.base CX k f fd ps sp) (hr : Can X k) (hg : Gl X x) (hm : X.mg x = some (.ref f)) (hk : PySem.W.keepIn X.K (.ref f) = true)
    (hb : BindsK X.K fd ps ks pm) (hpm : ∀ {zs : List V} {ws : List Value}, Vals zs ws → Vals (pm zs) (pm ws)) (hx : Passes CX X E) (hkw : PK X kws t)
    (hall : (backToKw pos (keywordEach kws X.env)).all (·.1.isSome) = true := by rfl) (hks : (backToKw pos (keywordEach kws X.env)).filterMap (·.1) = ks := by rfl)
    (hdb : (x == ("__debug__" : Str)) = false := by decide) (hpl : ((backTo pos (starEach [] X.env)).any (·.1) || (backToKw pos (keywordEach kws X.env)).any (·.1.isNone)) = false := by rfl) : PE X (.Call (.Name x p) [] kws pos) (tCallK sp ks.length pm E t) := by
  refine ⟨fun pins s σ H Q I h => wpAny_Call_Name_kw (ld_glob I hg hm ?_ hdb)⟩
  refine PySem.W.callWith_KW0 (h₀ := X.base) I.ok.mod.kin hk hall ?_ hpl
  refine thn (hkw.run pos pins s σ H _ I h) ?_
  rintro ws s1 ⟨zs, H1, I1, r, l, q⟩
  rw [hks]
  exact ⟨I1.kIn, run_fnG (ar := ⟨[], ks.zip ws⟩) F hr hx I1 (hb s1 ws I1.kIn (by rw [← r.length]; exact l)) (hpm r) q⟩
end
section
open Vi
variable {Pg : Program} {w : World} {K : Lay} {mg : Str → Option Value} {base : Heap}
/-- THE RULE for a def, by the values of its body -/
theorem fn_v {x qual : Str} {st : Stmt} {f : Addr} {fd : FuncData} {N ps : List Str} {k : Nat} {m : Δ → Option Out} (Fd : Fun K x qual st f fd) (S : FnScope N ps (defScope st)) (hn : ps.length ≤ N.length)
    (hbody : ∀ (cdv : Value) (B : Around) (es : List Env) (s : Shared) (H : Hp) (E : XK), PySem.W.codeIn K cdv qual = true → (∃ oc od kV doc pm an ct osl, K.K.lookup f = some ⟨oc, od, .func (PySem.W.fnOf x qual (defArgs st) (defBody st) (defScope st) .none kV doc pm an cdv ct), osl⟩) →
      Can (cxOf CX0 Pg w K mg base N qual (defScope st) f cdv B es s H E).nox k → ∃ t, PSs (cxOf CX0 Pg w K mg base N qual (defScope st) f cdv B es s H E).nox (defBody st) t ∧ SS K t m) :
    FnG Pg w K mg base CX0 (k + 1) f fd ps (SpV K (runM ps.length N.length m)) := by
  obtain ⟨oc, od, kV, doc, pm, an, cdv, ct, osl, rfl, lk, hcd⟩ := Fd.ex
  refine fnG_of lk hcd S (fun zs G R X h => spV_len h) fun B es t G zs R X hr hg h => ?_
  obtain ⟨T, hT, hs⟩ := hbody cdv B es t G X hcd ⟨oc, od, kV, doc, pm, an, ct, osl, lk⟩ ⟨hr, hg⟩
  refine ⟨T, hT.nox, ?_⟩
  obtain ⟨F, os, o, δ', e, r, q⟩ := h
  unfold runM at e
  split at e
  case isFalse => cases e
  rename_i hk
  have hn' : os.length ≤ N.length := by omega
  obtain ⟨r0, _⟩ := rep_start (N := N) r hn'
  split at e
  case h_1 o1 δ1 hm =>
    cases e
    refine hs _ _ hm _ F G r0 _ fun v σ' F' H' r1 g t1 n1 => ?_
    obtain ⟨b1, b2, b3⟩ := back_ok r hn' r1 g
    exact q v F' H' b1 b2 ⟨t1.ok, t1.nd, fun a ha z => t1.ap a ha (b3 a z)⟩ fun a ha => (n1 a ha).imp_left fun ⟨j, z⟩ => ⟨j, (rep_start r hn').2 j a z⟩
  case h_2 δ1 hm =>
    cases e
    refine hs _ _ hm _ F G r0 _ fun σ' F' H' r1 g => ?_
    obtain ⟨b1, b2, b3⟩ := back_ok r hn' r1 g
    exact q .non F' H' b1 b2 ⟨.non, by simp [O.fp], fun a ha => by cases ha⟩ fun a ha => by cases ha
  case h_3 => cases e
/-! ### keywords alone: the values in the parameters' order -/
def pmI (ix : List Nat) {α : Type} (l : List α) : List α := ix.filterMap fun i => l[i]?
section
variable {F H F' H' : Hp} {σ : L2.St} {δ δ' : Δ} {vs : List V} {ps : List P} {ix : List Nat}
theorem pmI_cons {α : Type} {l : List α} {i : Nat} {a : α} (h : l[i]? = some a) : pmI (i :: ix) l = a :: pmI ix l := by
  show (i :: ix).filterMap _ = _
  rw [List.filterMap_cons_some h]; rfl
theorem pmI_none {α : Type} {l : List α} {i : Nat} (h : l[i]? = none) : pmI (i :: ix) l = pmI ix l := by
  show (i :: ix).filterMap _ = _
  rw [List.filterMap_cons_none h]; rfl
theorem prs_both {i : Nat} (h : PRs K F H σ δ vs ps) : (∃ v p, vs[i]? = some v ∧ ps[i]? = some p ∧ PR K F H σ δ v p) ∨ (vs[i]? = none ∧ ps[i]? = none) := by
  obtain ⟨l, g⟩ := prs_get h
  cases q : ps[i]? with
  | none => exact .inr ⟨List.getElem?_eq_none (by rw [l]; exact List.getElem?_eq_none_iff.mp q), rfl⟩
  | some p => obtain ⟨v, h1, h2⟩ := g i p q; exact .inl ⟨v, p, h1, rfl, h2⟩
theorem prs_pm (h : PRs K F H σ δ vs ps) : ∀ ix : List Nat, PRs K F H σ δ (pmI ix vs) (pmI ix ps)
  | [] => .nil
  | i :: ix => by
    rcases prs_both (i := i) h with ⟨v, p, h1, h2, h3⟩ | ⟨h1, h2⟩
    · rw [pmI_cons h1, pmI_cons h2]; exact .cons h3 (prs_pm h ix)
    · rw [pmI_none h1, pmI_none h2]; exact prs_pm h ix
theorem fpA_pm (h : PRs K F H σ δ vs ps) : ∀ (ix : List Nat) (a : Addr), a ∈ fpA H (pmI ix vs) (pmI ix ps) → ∃ i ∈ ix, ∃ v p, vs[i]? = some v ∧ ps[i]? = some p ∧ a ∈ p.fp H v
  | [], a, hm => by cases hm
  | i :: ix, a, hm => by
    rcases prs_both (i := i) h with ⟨v, p, h1, h2, h3⟩ | ⟨h1, h2⟩
    · rw [pmI_cons h1, pmI_cons h2] at hm
      rcases List.mem_append.mp (show a ∈ p.fp H v ++ fpA H (pmI ix vs) (pmI ix ps) from hm) with z | z
      · exact ⟨i, List.mem_cons_self, v, p, h1, h2, z⟩
      · obtain ⟨j, hj, r⟩ := fpA_pm h ix a z
        exact ⟨j, List.mem_cons_of_mem _ hj, r⟩
    · rw [pmI_none h1, pmI_none h2] at hm
      obtain ⟨j, hj, r⟩ := fpA_pm h ix a hm
      exact ⟨j, List.mem_cons_of_mem _ hj, r⟩
theorem nd_pm (h : PRs K F H σ δ vs ps) (nd : (fpA H vs ps).Nodup) : ∀ ix : List Nat, ix.Nodup → (fpA H (pmI ix vs) (pmI ix ps)).Nodup
  | [], _ => by simp [pmI, fpA]
  | i :: ix, ni => by
    obtain ⟨n1, n2⟩ := List.nodup_cons.mp ni
    rcases prs_both (i := i) h with ⟨v, p, h1, h2, h3⟩ | ⟨h1, h2⟩
    · rw [pmI_cons h1, pmI_cons h2]
      show (p.fp H v ++ fpA H (pmI ix vs) (pmI ix ps)).Nodup
      rw [List.nodup_append]
      refine ⟨pr_nd h3, nd_pm h nd ix n2, fun a ha b hb e => ?_⟩
      subst e
      obtain ⟨j, hj, w, q, k1, k2, k3⟩ := fpA_pm h ix a hb
      have := fpA_inj nd h1 h2 k1 k2 ha k3
      subst this
      exact n1 hj
    · rw [pmI_none h1, pmI_none h2]; exact nd_pm h nd ix n2
theorem vals_pm {zs : List V} {ws : List Value} (h : Vals zs ws) : ∀ ix : List Nat, Vals (pmI ix zs) (pmI ix ws)
  | [] => .nil
  | i :: ix => by
    cases q : zs[i]? with
    | none =>
      have q2 : ws[i]? = none := List.getElem?_eq_none (by rw [← h.length]; exact List.getElem?_eq_none_iff.mp q)
      rw [pmI_none q, pmI_none q2]; exact vals_pm h ix
    | some v =>
      obtain ⟨u, h1, h2⟩ := h.get q
      rw [pmI_cons q, pmI_cons h1]; exact .cons h2 (vals_pm h ix)
end
def eFnK (n : Nat) (ix : List Nat) (f : List O → Option (O × Δ)) (g : Δ → Option (List P × Δ)) : Δ → Option (P × Δ) := fun δ => (g δ).bind fun r => if r.1.length = n ∧ ix.Nodup then
  (argOs r.2 (pmI ix r.1)).bind fun os => if (slots (pmI ix r.1)).Nodup then (f os).map fun s => (.tm s.1, backΔ (pmI ix r.1) (lent os s.2) r.2) else none else none
theorem sx_fnK {ta : TA} {f : List O → Option (O × Δ)} {g : Δ → Option (List P × Δ)} {n : Nat} {ix : List Nat} (hg : SXs K ta g) : SX K (tCallK (SpV K f) n (fun l => pmI ix l) E0 ta) (eFnK n ix f g) := fun δ p δ' e σ F H r Q k => by
  obtain ⟨⟨ps, δ1⟩, e1, e2⟩ := Option.bind_eq_some_iff.mp e
  dsimp only at e2
  split at e2
  case isFalse => cases e2
  rename_i hc
  obtain ⟨hn, hix⟩ := hc
  obtain ⟨os, e3, e4⟩ := Option.bind_eq_some_iff.mp e2
  split at e4
  case isFalse => cases e4
  rename_i ns
  obtain ⟨⟨o, δ2⟩, e5, e6⟩ := Option.map_eq_some_iff.mp e4
  cases e6
  refine hg δ ps δ1 e1 σ F H r _ fun vs F1 H1 a1 p1 nd n1 => ⟨by rw [(prs_get p1).1]; exact hn, ?_⟩
  have p2 := prs_pm p1 ix
  have nd2 := nd_pm p1 nd ix hix
  have n2 : ∀ z ∈ fpA H1 (pmI ix vs) (pmI ix ps), Held H σ δ z ∨ H z = none := fun z hz => by
    obtain ⟨i, _, v, q, k1, k2, k3⟩ := fpA_pm p1 ix z hz
    exact n1 z (fpA_get k1 k2 k3)
  refine ⟨F1, os, o, δ2, e5, args_rep a1.rep p2 nd2 ns e3, fun v F' H' r1 g t1 n3 => ?_⟩
  obtain ⟨c1, c2, c3⟩ := call_ok a1 p2 nd2 n2 ns e3 rfl r1 g t1 n3
  exact k v F' H' c1 c2 c3
end
end Vf
end
section
set_option Elab.async false
set_option linter.all false
set_option maxRecDepth 100000
set_option maxHeartbeats 1000000
/-! Expressions in one term: the rule and what it does to values, both at once; operators. -/
namespace Vo
open PySem PySem.Spec PyProof.Rows L2 Vi Vf
/-! ### both at once -/
structure Fits (X : Cx) (K : Lay) (k : Nat) : Prop where
  K : X.K = K.K
  can : Can X k
  calm : X.calm = true
def EX (X : Cx) (K : Lay) (e : Expr) (f : Δ → Option (P × Δ)) : Prop := ∃ te, PE X e te ∧ SX K te f
def DX (X : Cx) (K : Lay) (e : Expr) (f : Δ → Option (D × Δ)) : Prop := ∃ te, PE X e te ∧ SD K te f
def TX (X : Cx) (K : Lay) (e : Expr) (f : Δ → Option (Bool × Δ)) : Prop := ∃ tt, PT X e tt ∧ ST K tt f
def AX (X : Cx) (K : Lay) (es : List Expr) (f : Δ → Option (List D × Δ)) : Prop := ∃ ta, PA X es ta ∧ SDs K ta f
def ASX (X : Cx) (K : Lay) (es : List Expr) (f : Δ → Option (List P × Δ)) : Prop := ∃ ta, PA X es ta ∧ SXs K ta f
def KSX (X : Cx) (K : Lay) (es : List Keyword) (f : Δ → Option (List P × Δ)) : Prop := ∃ ta, PK X es ta ∧ SXs K ta f
def BX (X : Cx) (K : Lay) (s : Stmt) (m : Δ → Option Out) : Prop := ∃ t, PS X s t ∧ SS K t m
def BXs (X : Cx) (K : Lay) (s : List Stmt) (m : Δ → Option Out) : Prop := ∃ t, PSs X s t ∧ SS K t m
section
variable {X : Cx} {K : Lay} {k : Nat}
theorem DX.of {e : Expr} {f : Δ → Option (P × Δ)} (h : EX X K e f) : DX X K e (eF f) := let ⟨t, p, s⟩ := h; ⟨t, p, sd_of s⟩
theorem EX.of {e : Expr} {f : Δ → Option (D × Δ)} (h : DX X K e f) : EX X K e (eP f) := let ⟨t, p, s⟩ := h; ⟨t, p, sx_of s⟩
/-! ### names and constants -/
theorem x_var (i : Nat) {x : Str} {pos : Pos} (hN : X.N[i]? = some x := by rfl) (hv : Vis X.env.scope x := by first | exact Or.inl rfl | exact Or.inr (Or.inl rfl) | exact Or.inr (Or.inr rfl)) (hd : (x == ("__debug__" : Str)) = false := by decide)
    (hcd : (x == ("__classdict__" : Str)) = false := by decide) : EX X K (.Name x pos) (eVar i) := ⟨_, pe_var hN hv hd hcd, sx_var⟩
theorem d_int {i : Int} {j : Nat} {pos : Pos} : DX X K (.Constant (.int i) j pos) (eC (.int i)) := ⟨_, pe_int, sd_int⟩
theorem d_str {i : Str} {j : Nat} {pos : Pos} : DX X K (.Constant (.str i) j pos) (eC (.str i)) := ⟨_, pe_str, sd_str⟩
theorem d_bl {i : Bool} {j : Nat} {pos : Pos} : DX X K (.Constant (.bool i) j pos) (eC (.bool i)) := ⟨_, pe_bl, sd_bl⟩
theorem d_non {j : Nat} {pos : Pos} : DX X K (.Constant .none j pos) (eC .none) := ⟨_, pe_non, sd_non⟩
/-! ### argument lists -/
theorem a_nil : AX X K [] eNil := ⟨_, pa_nil, sds_nil⟩
theorem a_cons {e : Expr} {es : List Expr} {f : Δ → Option (D × Δ)} {g : Δ → Option (List D × Δ)} (h : DX X K e f) (hs : AX X K es g) (hst : starEach (e :: es) X.env = (false, eval e X.env) :: starEach es X.env := by rfl) : AX X K (e :: es) (eCons f g) :=
  let ⟨_, p, s⟩ := h; let ⟨_, ps, ss⟩ := hs; ⟨_, pa_cons p ps hst, sds_cons s ss⟩
theorem as_nil : ASX X K [] aNil := ⟨_, pa_nil, sxs_nil⟩
theorem as_cons {e : Expr} {es : List Expr} {f : Δ → Option (P × Δ)} {g : Δ → Option (List P × Δ)} (h : EX X K e f) (hs : ASX X K es g) (hst : starEach (e :: es) X.env = (false, eval e X.env) :: starEach es X.env := by rfl) : ASX X K (e :: es) (aCons f g) :=
  let ⟨_, p, s⟩ := h; let ⟨_, ps, ss⟩ := hs; ⟨_, pa_cons p ps hst, sxs_cons s ss⟩
theorem ks_nil : KSX X K [] aNil := ⟨_, pk_nil, sxs_nil⟩
theorem ks_cons {nm : Option Str} {e : Expr} {kpos : Pos} {es : List Keyword} {f : Δ → Option (P × Δ)} {g : Δ → Option (List P × Δ)} (h : EX X K e f) (hs : KSX X K es g) : KSX X K (⟨nm, e, kpos⟩ :: es) (aCons f g) :=
  let ⟨_, p, s⟩ := h; let ⟨_, ps, ss⟩ := hs; ⟨_, pk_cons p ps, sxs_cons s ss⟩
/-! ### operators -/
/-- an operator that reads its operands -/
def OpS (X : Cx) (K : Lay) (f : Value → Value → Sem Value) (g : D → D → Option D) : Prop := ∃ r, OpR X f r ∧ ScR K r g
/-- an operator of frozen operands -/
def OpF (X : Cx) (K : Lay) (f : Value → Value → Sem Value) (g : D → D → Option O) : Prop := ∃ r, OpR X f r ∧ FdR K r g
theorem d_bin {op : Operator} {a b : Expr} {pos : Pos} {g : D → D → Option D} {f h : Δ → Option (P × Δ)} (ho : OpS X K (binaryOp op) g) (ha : EX X K a f) (hb : EX X K b h) : DX X K (.BinOp a op b pos) (eOp g f h) :=
  let ⟨_, o, so⟩ := ho; let ⟨_, p, s⟩ := ha; let ⟨_, q, t⟩ := hb; ⟨_, pe_op o p q, sd_op so s t⟩
theorem x_bin {op : Operator} {a b : Expr} {pos : Pos} {g : D → D → Option O} {f h : Δ → Option (D × Δ)} (ho : OpF X K (binaryOp op) g) (ha : DX X K a f) (hb : DX X K b h) : EX X K (.BinOp a op b pos) (eOpF g f h) :=
  let ⟨_, o, so⟩ := ho; let ⟨_, p, s⟩ := ha; let ⟨_, q, t⟩ := hb; ⟨_, pe_op o p q, sx_opF so s t⟩
theorem d_cmp {op : CmpOp} {a b : Expr} {pos : Pos} {g : D → D → Option D} {f h : Δ → Option (P × Δ)} (ho : OpS X K (compareOp op) g) (ha : EX X K a f) (hb : EX X K b h) (hm : behindInMarks op b = false := by first | exact nomark _ | rfl) : DX X K (.Compare a [op] [b] pos) (eOp g f h) :=
  let ⟨_, o, so⟩ := ho; let ⟨_, p, s⟩ := ha; let ⟨_, q, t⟩ := hb; ⟨_, pe_cmpR o p q hm, sd_op so s t⟩
theorem t_cmp {op : CmpOp} {a b : Expr} {pos : Pos} {g : D → D → Option D} {f h : Δ → Option (P × Δ)} (ho : OpS X K (compareOp op) g) (ha : EX X K a f) (hb : EX X K b h) (hm : behindInMarks op b = false := by first | exact nomark _ | rfl) : TX X K (.Compare a [op] [b] pos) (eT (eOp g f h)) :=
  let ⟨_, o, so⟩ := ho; let ⟨_, p, s⟩ := ha; let ⟨_, q, t⟩ := hb; ⟨_, pt_cmpR o p q hm, st_testOf (sd_op so s t)⟩
/-! whole numbers -/
def intO (g : Int → Int → Option D) : D → D → Option D
  | .int i, .int j => g i j
  | _, _ => none
theorem intO_eq {g : Int → Int → Option D} {d e z : D} (h : intO g d e = some z) : ∃ i j, d = .int i ∧ e = .int j ∧ g i j = some z := by
  unfold intO at h
  split at h
  · exact ⟨_, _, rfl, rfl, h⟩
  · cases h
theorem sc_I {C : Int → Int → Prop} {r : Int → Int → V} {g : Int → Int → Option D} (h : ∀ i j z, g i j = some z → C i j ∧ sv z = some (r i j)) : ScR K (rI C r) (intO g) := fun H x y d e z hx hy hg => by
  obtain ⟨i, j, rfl, rfl, hz⟩ := intO_eq hg
  obtain ⟨c, s⟩ := h i j z hz
  exact ⟨_, s, fun Q q => ⟨i, j, dp_int hx, dp_int hy, c, q⟩⟩
theorem sc_I0 {r : Int → Int → V} {g : Int → Int → Option D} (h : ∀ i j z, g i j = some z → sv z = some (r i j)) : ScR K (rI0 r) (intO g) := fun H x y d e z hx hy hg => by
  obtain ⟨i, j, rfl, rfl, hz⟩ := intO_eq hg
  exact ⟨_, h i j z hz, fun Q q => ⟨i, j, dp_int hx, dp_int hy, q⟩⟩
def addI : D → D → Option D := intO fun i j => some (.int (i + j))
def subI : D → D → Option D := intO fun i j => some (.int (i - j))
def in64 (i : Int) : Bool := decide (-(2 ^ 64) < i) && decide (i < 2 ^ 64)
def mulI : D → D → Option D := intO fun i j => if in64 i || in64 j then some (.int (i * j)) else none
def fdvI : D → D → Option D := intO fun i j => if j ≠ 0 ∧ j.natAbs < 1073741824 then some (.int (i.fdiv j)) else none
def modI : D → D → Option D := intO fun i j => if j ≠ 0 then some (.int (i.fmod j)) else none
def powI : D → D → Option D := intO fun i j => if 0 ≤ j ∧ j ≤ 1000000 ∧ i.natAbs < 2 ^ 64 then some (.int (i ^ j.toNat)) else none
def andI : D → D → Option D := intO fun i j => some (.int (Builtin.bitAnd i j))
def ltI : D → D → Option D := intO fun i j => some (.bool (decide (i < j)))
def leI : D → D → Option D := intO fun i j => some (.bool (decide (i ≤ j)))
def gtI : D → D → Option D := intO fun i j => some (.bool (decide (j < i)))
def geI : D → D → Option D := intO fun i j => some (.bool (decide (j ≤ i)))
theorem in64_iff {i : Int} (h : in64 i = true) : -(2 ^ 64) < i ∧ i < 2 ^ 64 := by
  unfold in64 at h
  rw [Bool.and_eq_true, decide_eq_true_eq, decide_eq_true_eq] at h
  exact h
theorem o_addI : OpS X K (binaryOp .Add) addI := ⟨_, op_add, sc_I0 fun i j z e => by cases e; rfl⟩
theorem o_subI : OpS X K (binaryOp .Sub) subI := ⟨_, op_sub, sc_I0 fun i j z e => by cases e; rfl⟩
theorem o_mulI : OpS X K (binaryOp .Mult) mulI := ⟨_, op_mul, sc_I fun i j z e => by
  split at e
  · rename_i h
    cases e
    exact ⟨(Bool.or_eq_true _ _ ▸ h).imp in64_iff in64_iff, rfl⟩
  · cases e⟩
theorem o_fdvI : OpS X K (binaryOp .FloorDiv) fdvI := ⟨_, op_fdivN, sc_I fun i j z e => by
  split at e
  · rename_i h; cases e; exact ⟨h, rfl⟩
  · cases e⟩
theorem o_modI : OpS X K (binaryOp .Mod) modI := ⟨_, op_modN, sc_I fun i j z e => by
  split at e
  · rename_i h; cases e; exact ⟨h, rfl⟩
  · cases e⟩
theorem o_powI : OpS X K (binaryOp .Pow) powI := ⟨_, op_pow, sc_I fun i j z e => by
  split at e
  · rename_i h; cases e; exact ⟨h, rfl⟩
  · cases e⟩
theorem o_andI : OpS X K (binaryOp .BitAnd) andI := ⟨_, op_and, sc_I0 fun i j z e => by cases e; rfl⟩
theorem o_ltI : OpS X K (compareOp .Lt) ltI := ⟨_, op_lt, sc_I0 fun i j z e => by cases e; rfl⟩
theorem o_leI : OpS X K (compareOp .LtE) leI := ⟨_, op_le, sc_I0 fun i j z e => by cases e; rfl⟩
theorem o_gtI : OpS X K (compareOp .Gt) gtI := ⟨_, op_gt, sc_I0 fun i j z e => by cases e; rfl⟩
theorem o_geI : OpS X K (compareOp .GtE) geI := ⟨_, op_ge, sc_I0 fun i j z e => by cases e; rfl⟩
/-! equality, membership -/
def eqD (d e : D) : Option D := if SeqAt.shaped d = true ∧ SeqAt.shaped e = true then some (.bool (PyData.eqv d e)) else none
def neD (d e : D) : Option D := if SeqAt.shaped d = true ∧ SeqAt.shaped e = true then some (.bool (!PyData.eqv d e)) else none
theorem o_eqD (F : Fits X K k) : OpS X K (compareOp .Eq) eqD := ⟨rEqD X.K, op_eqD F.can.room.units, fun H x y d e z hx hy hg => by
  unfold eqD at hg
  split at hg
  · rename_i h; cases hg
    rw [F.K]
    exact ⟨_, rfl, fun Q q => ⟨d, e, hx, hy, h.1, h.2, q⟩⟩
  · cases hg⟩
theorem o_neD (F : Fits X K k) : OpS X K (compareOp .NotEq) neD := ⟨rNeD X.K, op_neD F.can.room.units, fun H x y d e z hx hy hg => by
  unfold neD at hg
  split at hg
  · rename_i h; cases hg
    rw [F.K]
    exact ⟨_, rfl, fun Q q => ⟨d, e, hx, hy, h.1, h.2, q⟩⟩
  · cases hg⟩
def rInT (K : PySem.W.Frag) (neg : Bool) : R2 := fun x y H Q => ∃ d ds, Dp K H x d ∧ Dp K H y (.tuple ds) ∧ SeqAt.shaped d = true ∧ SeqAt.shaped (.tuple ds) = true ∧ Q (.bl (if neg then !(ds.any fun z => PyData.eqv z d) else ds.any fun z => PyData.eqv z d)) H
theorem room65 (F : Fits X K k) : X.A.units + 65 < cLine := by have := F.can.room.un; omega
end
end Vo
end
section
set_option Elab.async false
set_option linter.all false
set_option maxRecDepth 100000
set_option maxHeartbeats 1000000
/-! Membership, sums of sequences, built-ins, over values. -/
namespace Vp
open PySem PySem.Spec PyProof.Rows L2 Vi Vf Vo
section
variable {X : Cx} {K : Lay} {k : Nat} {F H : Hp}
/-! ### in, not in -/
def rInA (K : PySem.W.Frag) (neg : Bool) : R2 := fun x y H Q => ∃ d e ds, Dp K H x d ∧ Dp K H y e ∧ (e = .list ds ∨ e = .tuple ds) ∧ SeqAt.shaped d = true ∧ SeqAt.shaped e = true ∧ Q (.bl (if neg then !(ds.any fun z => PyData.eqv z d) else ds.any fun z => PyData.eqv z d)) H
theorem op_inA (hu : X.A.units + 65 < cLine) : OpR X (compareOp .In) (rInA X.K false) := fun pins s σ H x y v u Q I rx ry h => by
  obtain ⟨d, e, ds, hd, he, hc, sd, se, q⟩ := h
  obtain ⟨as, r1⟩ := Dp.reads I d x v hd rx
  obtain ⟨bs, r2⟩ := Dp.reads I e y u he ry
  rcases hc with rfl | rfl
  · exact SeqAt.in_list_reads r2 r1 (SeqAt.canLay_of_shaped se) (SeqAt.canLay_of_shaped sd) (room_in_shaped sd hu) ⟨.bl _, H, I, rfl, q⟩
  · exact SeqAt.in_tuple_reads r2 r1 (SeqAt.canLay_of_shaped se) (SeqAt.canLay_of_shaped sd) (room_in_shaped sd hu) ⟨.bl _, H, I, rfl, q⟩
theorem op_ninA (hu : X.A.units + 65 < cLine) : OpR X (compareOp .NotIn) (rInA X.K true) := fun pins s σ H x y v u Q I rx ry h => by
  obtain ⟨d, e, ds, hd, he, hc, sd, se, q⟩ := h
  obtain ⟨as, r1⟩ := Dp.reads I d x v hd rx
  obtain ⟨bs, r2⟩ := Dp.reads I e y u he ry
  rcases hc with rfl | rfl
  · exact SeqAt.notIn_list_reads r2 r1 (SeqAt.canLay_of_shaped se) (SeqAt.canLay_of_shaped sd) (room_in_shaped sd hu) ⟨.bl _, H, I, rfl, q⟩
  · exact SeqAt.notIn_tuple_reads r2 r1 (SeqAt.canLay_of_shaped se) (SeqAt.canLay_of_shaped sd) (room_in_shaped sd hu) ⟨.bl _, H, I, rfl, q⟩
def itemsOf : D → Option (List D)
  | .list ds => some ds
  | .tuple ds => some ds
  | _ => none
def inD (neg : Bool) (d e : D) : Option D := (itemsOf e).bind fun ds => if SeqAt.shaped d = true ∧ SeqAt.shaped e = true then some (.bool (if neg then !(ds.any fun z => PyData.eqv z d) else ds.any fun z => PyData.eqv z d)) else none
theorem sc_inA {neg : Bool} : ScR K (rInA K neg) (inD neg) := fun H x y d e z hx hy hg => by
  obtain ⟨ds, e1, e2⟩ := Option.bind_eq_some_iff.mp hg
  split at e2
  · rename_i h
    cases e2
    refine ⟨_, rfl, fun Q q => ⟨d, e, ds, hx, hy, ?_, h.1, h.2, q⟩⟩
    cases e <;> cases e1
    · exact .inl rfl
    · exact .inr rfl
  · cases e2
theorem o_inD (Z : Fits X K k) : OpS X K (compareOp .In) (inD false) := ⟨rInA X.K false, op_inA (room65 Z), by rw [Z.K]; exact sc_inA⟩
theorem o_ninD (Z : Fits X K k) : OpS X K (compareOp .NotIn) (inD true) := ⟨rInA X.K true, op_ninA (room65 Z), by rw [Z.K]; exact sc_inA⟩
/-! ### + of sequences -/
def rCatL (K : PySem.W.Frag) : R2 := fun x y H Q => ∃ a b xs ys, x = .ref a ∧ y = .ref b ∧ SqL K H a xs ∧ SqL K H b ys ∧ xs.length + ys.length ≤ sizeLine ∧ ∀ p, H p = none → Q (.ref p) (upd H p (.lst (xs ++ ys)))
theorem op_catL : OpR X (binaryOp .Add) (rCatL X.K) := fun pins s σ H x y v u Q I rx ry h => by
  obtain ⟨a, b, xs, ys, rfl, rfl, ha, hb, hz, q⟩ := h
  cases rx; cases ry
  obtain ⟨its, r1, p1, _⟩ := I.list ha
  obtain ⟨jts, r2, p2, _⟩ := I.list hb
  obtain ⟨⟨cls, dd, data, sl⟩, n, ho, hc, hd, hs⟩ := id p1
  obtain ⟨⟨cls2, dd2, data2, sl2⟩, n2, ho2, hc2, hd2, hs2⟩ := id p2
  simp only at hc hs hc2 hs2
  subst hc hs hc2 hs2
  refine concat_meets (T := "list") ⟨_, ho, rfl⟩ ⟨_, ho2, rfl⟩ noFill_list_add seq_list_add PySem.F.slot_list_add PySem.F.entry_list_add (PySem.F.args_list_add_2 _ _) (list_addW a b its.toArray jts.toArray n n2 dd dd2 sl sl2 ?_) ⟨ho, ho2, ?_⟩
  · rw [List.size_toArray, List.size_toArray, ← r1.length, ← r2.length]; exact hz
  · have ea : its.toArray ++ jts.toArray = (its ++ jts).toArray := by simp
    rw [ea]
    exact ⟨.ref _, _, I.lnew (t' := s.toks) (r1.append r2) (by rw [List.length_append]; exact hz), rfl, q _ I.fresh⟩
def addO : D → D → Option O
  | .int i, .int j => some (.fz (.int (i + j)))
  | .str i, .str j => if i.length + j.length ≤ sizeLine then some (.fz (.str (i ++ j))) else none
  | .list xs, .list ys => if xs.length + ys.length ≤ sizeLine then some (.ow (xs ++ ys)) else none
  | .tuple xs, .tuple ys => if xs.length + ys.length ≤ sizeLine then some (.fz (.tuple (xs ++ ys))) else none
  | _, _ => none
def rAddS : R2 := fun x y H Q => ∃ i j, x = .str i ∧ y = .str j ∧ i.length + j.length ≤ sizeLine ∧ Q (.str (i ++ j)) H
def rAddU (K : PySem.W.Frag) : R2 := fun x y H Q => rI0 (fun i j => .int (i + j)) x y H Q ∨ rAddS x y H Q ∨ rCatL K x y H Q ∨ rCatA K x y H Q
theorem fd_add : FdR K (rAddU K) addO := fun F H x y d e o kp hx hy hg Q gv => by
  unfold addO at hg
  split at hg
  · cases hg
    exact .inl ⟨_, _, dp_int hx, dp_int hy, gv.sc kp rfl⟩
  · split at hg
    · rename_i h; cases hg
      exact .inr (.inl ⟨_, _, dp_str hx, dp_str hy, h, gv.sc kp rfl⟩)
    · cases hg
  · split at hg
    · rename_i xs ys h; cases hg
      obtain ⟨p, vs, rfl, s1, a1⟩ := dp_list hx
      obtain ⟨q, ws, rfl, s2, a2⟩ := dp_list hy
      exact .inr (.inr (.inl ⟨p, q, vs, ws, rfl, rfl, kp.sqL s1, kp.sqL s2, by rw [dpa_len a1, dpa_len a2]; exact h, fun l hl => gv.lst kp (dpa_app a1 a2) hl⟩))
    · cases hg
  · split at hg
    · rename_i xs ys h; cases hg
      obtain ⟨p, vs, rfl, s1, a1⟩ := dp_tuple hx
      obtain ⟨q, ws, rfl, s2, a2⟩ := dp_tuple hy
      refine .inr (.inr (.inr ⟨p, q, vs, ws, rfl, rfl, kp.sqT s1, kp.sqT s2, by rw [dpa_len a1, dpa_len a2]; exact h, fun e1 => ?_, fun _ e2 => ?_, fun _ _ l hl => gv.tup kp (dpa_app a1 a2) hl⟩))
      · subst e1
        cases a1
        exact gv.fz kp hy
      · subst e2
        cases a2
        exact gv.fz kp (by rw [List.append_nil]; exact hx)
    · cases hg
  · cases hg
theorem o_addO : OpF X K (binaryOp .Add) addO ↔ OpF X K (binaryOp .Add) addO := Iff.rfl
theorem o_add (Z : Fits X K k) : OpF X K (binaryOp .Add) addO := ⟨rAddU X.K, OpR.or op_add (OpR.or op_add_str (OpR.or op_catL op_catA)), by rw [Z.K]; exact fd_add⟩
/-! ### a new list, times a number -/
def repP (p : P) (d : D) : Option O := match p, d with
  | .tm (.ow ds), .int i => if -(2 ^ 63) ≤ i ∧ i < 2 ^ 63 ∧ ds.length * i.toNat ≤ sizeLine then some (.ow (List.replicate i.toNat ds).flatten) else none
  | _, _ => none
theorem repP_eq {p : P} {d : D} {o : O} (h : repP p d = some o) : ∃ ds i, p = .tm (.ow ds) ∧ d = .int i ∧ (-(2 ^ 63) ≤ i ∧ i < 2 ^ 63 ∧ ds.length * i.toNat ≤ sizeLine) ∧ o = .ow (List.replicate i.toNat ds).flatten := by
  unfold repP at h
  split at h
  · split at h
    · rename_i h1; cases h; exact ⟨_, _, rfl, rfl, h1, rfl⟩
    · cases h
  · cases h
def eRep (f : Δ → Option (P × Δ)) (g : Δ → Option (D × Δ)) : Δ → Option (P × Δ) := fun δ => (f δ).bind fun r => (g r.2).bind fun s => (repP r.1 s.1).map fun o => (.tm o, s.2)
theorem dpa_rep {vs : List V} {ds : List D} (h : DpAll K F vs ds) : ∀ n : Nat, DpAll K F (List.replicate n vs).flatten (List.replicate n ds).flatten
  | 0 => .nil
  | n + 1 => by
    rw [List.replicate_succ, List.replicate_succ, List.flatten_cons, List.flatten_cons]
    exact dpa_app h (dpa_rep h n)
theorem sx_rep {ta tb : TE} {f : Δ → Option (P × Δ)} {g : Δ → Option (D × Δ)} (hf : SX K ta f) (hg : SD K tb g) : SX K (tOp rRep ta tb) (eRep f g) := fun δ p δ' e σ F H rp Q kq => by
  obtain ⟨⟨p1, δ1⟩, e1, e⟩ := Option.bind_eq_some_iff.mp e
  obtain ⟨⟨d, δ2⟩, e2, e⟩ := Option.bind_eq_some_iff.mp e
  obtain ⟨o, e3, e4⟩ := Option.map_eq_some_iff.mp e
  obtain ⟨ds, i, rfl, rfl, hc, rfl⟩ := repP_eq e3
  cases e4
  refine hf δ _ _ e1 σ F H rp _ fun x F1 H1 a1 q1 n1 => ?_
  refine hg _ _ _ e2 σ F1 H1 a1.rep _ fun y F2 H2 a2 d2 => ?_
  obtain ⟨q2, _⟩ := q1.step a2
  obtain ⟨p, rfl, xs, h1, h2, h3⟩ := q2.ok
  have a3 := a1.trans a2
  refine ⟨p, i, xs, rfl, dp_int d2, h1, hc.1, hc.2.1, by rw [dpa_len h3]; exact hc.2.2, fun l hl => ?_⟩
  have gv : Gives K F2 H2 (.ow (List.replicate i.toNat ds).flatten) Q := gives_of a2.rep fun v F' H' a p' n' => kq v F' H' (a3.trans a) p' (n'.from a3.go)
  exact gv.lst a2.rep.kp (dpa_rep h3 _) hl
theorem x_rep {a b : Expr} {pos : Pos} {f : Δ → Option (P × Δ)} {g : Δ → Option (D × Δ)} (ha : EX X K a f) (hb : DX X K b g) : EX X K (.BinOp a .Mult b pos) (eRep f g) :=
  let ⟨_, p, s⟩ := ha; let ⟨_, q, t⟩ := hb; ⟨_, pe_op op_rep p q, sx_rep s t⟩
/-! ### calls of built-ins -/
/-- a built-in that reads its one argument -/
theorem d_call1 {x id : Str} {e : Expr} {p pos : Pos} {r : List V → Hp → VK → Prop} {g : D → Option D} {f : Δ → Option (P × Δ)} {i : String} (hc : CallR X (.builtin i) r) (hr : CrR K r g) (he : EX X K e f) (hm : X.mg x = none) (hg : Gl X x := by rfl) (hv : bootBuiltins x = some (.builtin i) := by rfl)
    (hn : x ≠ "__name__" := by decide) (hdb : (x == ("__debug__" : Str)) = false := by decide) (hst : starEach [e] X.env = (false, eval e X.env) :: starEach [] X.env := by rfl) (hpl : (backTo pos (starEach [] X.env)).any (·.1) = false := by rfl) : DX X K (.Call (.Name x p) [e] [] pos) (eCall1 g f) :=
  let ⟨_, q, s⟩ := he; ⟨_, pe_callB hc hg hm hv (pa_cons q pa_nil hst) hn hdb hst hpl, sd_call1 hr s⟩
theorem d_callT1 {x : Str} {e : Expr} {p pos : Pos} {r : List V → Hp → VK → Prop} {g : D → Option D} {f : Δ → Option (P × Δ)} {i : String} (hc : CallR X (.type i) r) (hr : CrR K r g) (he : EX X K e f) (hm : X.mg x = none) (hg : Gl X x := by rfl) (hv : bootBuiltins x = some (.type i) := by rfl)
    (hn : x ≠ "__name__" := by decide) (hdb : (x == ("__debug__" : Str)) = false := by decide) (hst : starEach [e] X.env = (false, eval e X.env) :: starEach [] X.env := by rfl) (hpl : (backTo pos (starEach [] X.env)).any (·.1) = false := by rfl) : DX X K (.Call (.Name x p) [e] [] pos) (eCall1 g f) :=
  let ⟨_, q, s⟩ := he; ⟨_, pe_callTy hc hg hm hv (pa_cons q pa_nil hst) hn hdb hst hpl, sd_call1 hr s⟩
/-- a built-in of frozen arguments -/
theorem x_call {x : Str} {e : Expr} {es : List Expr} {p pos : Pos} {r : List V → Hp → VK → Prop} {g : List D → Option O} {f : Δ → Option (List D × Δ)} {i : String} (hc : CallR X (.builtin i) r) (hr : CdR K r g) (he : AX X K (e :: es) f) (hm : X.mg x = none) (hg : Gl X x := by rfl) (hv : bootBuiltins x = some (.builtin i) := by rfl)
    (hn : x ≠ "__name__" := by decide) (hdb : (x == ("__debug__" : Str)) = false := by decide) (hst : starEach (e :: es) X.env = (false, eval e X.env) :: starEach es X.env := by rfl) (hpl : (backTo pos (starEach es X.env)).any (·.1) = false := by rfl) : EX X K (.Call (.Name x p) (e :: es) [] pos) (eCall g f) :=
  let ⟨_, q, s⟩ := he; ⟨_, pe_callB hc hg hm hv q hn hdb hst hpl, sx_call hr s⟩
theorem x_callT {x : Str} {e : Expr} {es : List Expr} {p pos : Pos} {r : List V → Hp → VK → Prop} {g : List D → Option O} {f : Δ → Option (List D × Δ)} {i : String} (hc : CallR X (.type i) r) (hr : CdR K r g) (he : AX X K (e :: es) f) (hm : X.mg x = none) (hg : Gl X x := by rfl) (hv : bootBuiltins x = some (.type i) := by rfl)
    (hn : x ≠ "__name__" := by decide) (hdb : (x == ("__debug__" : Str)) = false := by decide) (hst : starEach (e :: es) X.env = (false, eval e X.env) :: starEach es X.env := by rfl) (hpl : (backTo pos (starEach es X.env)).any (·.1) = false := by rfl) : EX X K (.Call (.Name x p) (e :: es) [] pos) (eCall g f) :=
  let ⟨_, q, s⟩ := he; ⟨_, pe_callTy hc hg hm hv q hn hdb hst hpl, sx_call hr s⟩
/-! len -/
def rLen (K : PySem.W.Frag) : List V → Hp → VK → Prop := fun xs H Q => ∃ x n, xs = [x] ∧ LenV K x H n ∧ Q (.int n) H
def lenD : D → Option D
  | .list ds => some (.int (ds.length : Nat))
  | .tuple ds => some (.int (ds.length : Nat))
  | .str s => if s.length ≤ sizeLine then some (.int (s.length : Nat)) else none
  | _ => none
theorem cr_len : CrR K (rLen K) lenD := fun H x d z hx hg => by
  unfold lenD at hg
  split at hg
  · cases hg
    obtain ⟨p, xs, rfl, s, a⟩ := dp_list hx
    exact ⟨_, rfl, fun Q q => ⟨_, _, rfl, .inl ⟨xs, s, rfl⟩, by rw [dpa_len a]; exact q⟩⟩
  · cases hg
    obtain ⟨p, xs, rfl, s, a⟩ := dp_tuple hx
    exact ⟨_, rfl, fun Q q => ⟨_, _, rfl, .inr ⟨xs, s, rfl⟩, by rw [dpa_len a]; exact q⟩⟩
  · split at hg
    · rename_i h; cases hg
      obtain rfl := dp_str hx
      exact ⟨_, rfl, fun Q q => ⟨_, _, rfl, ⟨h, rfl⟩, q⟩⟩
    · cases hg
  · cases hg
theorem d_len (Z : Fits X K k) {e : Expr} {p pos : Pos} {f : Δ → Option (P × Δ)} (he : EX X K e f) (hm : X.mg "len" = none) (hg : Gl X "len" := by rfl) (hst : starEach [e] X.env = (false, eval e X.env) :: starEach [] X.env := by rfl) (hpl : (backTo pos (starEach [] X.env)).any (·.1) = false := by rfl) :
    DX X K (.Call (.Name "len" p) [e] [] pos) (eCall1 lenD f) := d_call1 (id := "len") (r := rLen X.K) call_len (by rw [Z.K]; exact cr_len) he hm hg PySem.boot_len (by decide) (by decide) hst hpl
/-! abs, int, max, min of two -/
def absD : D → Option D
  | .int i => some (.int (if i < 0 then -i else i))
  | _ => none
def intD : D → Option D
  | .int i => some (.int i)
  | .bool b => some (.int (if b then 1 else 0))
  | _ => none
theorem cr_abs : CrR K (fun xs H Q => ∃ i, xs = [.int i] ∧ Q (.int (if i < 0 then -i else i)) H) absD := fun H x d z hx hg => by
  unfold absD at hg
  split at hg
  · cases hg
    obtain rfl := dp_int hx
    exact ⟨_, rfl, fun Q q => ⟨_, rfl, q⟩⟩
  · cases hg
theorem cr_int : CrR K (fun xs H Q => (∃ i, xs = [.int i] ∧ Q (.int i) H) ∨ ∃ k, xs = [.bl k] ∧ Q (.int (if k then 1 else 0)) H) intD := fun H x d z hx hg => by
  unfold intD at hg
  split at hg
  · cases hg
    obtain rfl := dp_int hx
    exact ⟨_, rfl, fun Q q => .inl ⟨_, rfl, q⟩⟩
  · cases hg
    obtain rfl := dp_bool hx
    exact ⟨_, rfl, fun Q q => .inr ⟨_, rfl, q⟩⟩
  · cases hg
theorem d_abs {e : Expr} {p pos : Pos} {f : Δ → Option (P × Δ)} (he : EX X K e f) (hm : X.mg "abs" = none) (hg : Gl X "abs" := by rfl) (hst : starEach [e] X.env = (false, eval e X.env) :: starEach [] X.env := by rfl) (hpl : (backTo pos (starEach [] X.env)).any (·.1) = false := by rfl) :
    DX X K (.Call (.Name "abs" p) [e] [] pos) (eCall1 absD f) := d_call1 (id := "abs") call_abs cr_abs he hm hg (by decide +kernel) (by decide) (by decide) hst hpl
theorem d_intc {e : Expr} {p pos : Pos} {f : Δ → Option (P × Δ)} (he : EX X K e f) (hm : X.mg "int" = none) (hg : Gl X "int" := by rfl) (hst : starEach [e] X.env = (false, eval e X.env) :: starEach [] X.env := by rfl) (hpl : (backTo pos (starEach [] X.env)).any (·.1) = false := by rfl) :
    DX X K (.Call (.Name "int" p) [e] [] pos) (eCall1 intD f) := d_callT1 call_int1 cr_int he hm hg (by decide +kernel) (by decide) (by decide) hst hpl
def max2D : List D → Option O
  | [.int i, .int j] => some (.fz (.int (if j > i then j else i)))
  | _ => none
def min2D : List D → Option O
  | [.int i, .int j] => some (.fz (.int (if j < i then j else i)))
  | _ => none
theorem two_int {vs : List V} {i j : Int} (h : DpAll K F vs [.int i, .int j]) : vs = [.int i, .int j] := by
  cases h with
  | cons a b => cases b with
    | cons c d => cases d; rw [dp_int a, dp_int c]
theorem cd_max2 : CdR K (fun xs H Q => ∃ i j, xs = [.int i, .int j] ∧ Q (.int (if j > i then j else i)) H) max2D := fun F H vs ds o kp hx hg Q gv => by
  unfold max2D at hg
  split at hg
  · cases hg; exact ⟨_, _, two_int hx, gv.sc kp rfl⟩
  · cases hg
theorem cd_min2 : CdR K (fun xs H Q => ∃ i j, xs = [.int i, .int j] ∧ Q (.int (if j < i then j else i)) H) min2D := fun F H vs ds o kp hx hg Q gv => by
  unfold min2D at hg
  split at hg
  · cases hg; exact ⟨_, _, two_int hx, gv.sc kp rfl⟩
  · cases hg
theorem x_max2 (Z : Fits X K k) {a b : Expr} {p pos : Pos} {f : Δ → Option (List D × Δ)} (he : AX X K [a, b] f) (hm : X.mg "max" = none) (hg : Gl X "max" := by rfl) (hst : starEach [a, b] X.env = (false, eval a X.env) :: starEach [b] X.env := by rfl) (hpl : (backTo pos (starEach [b] X.env)).any (·.1) = false := by rfl) :
    EX X K (.Call (.Name "max" p) [a, b] [] pos) (eCall max2D f) := x_call (call_max2 Z.calm) cd_max2 he hm hg (by decide +kernel) (by decide) (by decide) hst hpl
theorem x_min2 (Z : Fits X K k) {a b : Expr} {p pos : Pos} {f : Δ → Option (List D × Δ)} (he : AX X K [a, b] f) (hm : X.mg "min" = none) (hg : Gl X "min" := by rfl) (hst : starEach [a, b] X.env = (false, eval a X.env) :: starEach [b] X.env := by rfl) (hpl : (backTo pos (starEach [b] X.env)).any (·.1) = false := by rfl) :
    EX X K (.Call (.Name "min" p) [a, b] [] pos) (eCall min2D f) := x_call (call_min2 Z.calm) cd_min2 he hm hg (by decide +kernel) (by decide) (by decide) hst hpl
/-! max, min, sorted, sum of a list of whole numbers -/
def intsOf : List D → Option (List Int)
  | [] => some []
  | .int i :: r => (intsOf r).map (i :: ·)
  | _ => none
theorem intsOf_eq : ∀ {ds : List D} {ns : List Int}, intsOf ds = some ns → ds = ns.map .int
  | [], ns, h => by cases h; rfl
  | d :: r, ns, h => by
    cases d with
    | int i =>
      obtain ⟨ms, e1, e2⟩ := Option.map_eq_some_iff.mp (show (intsOf r).map (i :: ·) = some ns from h)
      subst e2
      rw [intsOf_eq e1]; rfl
    | _ => cases h
theorem intsOf_map : ∀ ns : List Int, intsOf (ns.map .int) = some ns
  | [] => rfl
  | n :: r => by show (intsOf (r.map .int)).map (n :: ·) = _; rw [intsOf_map r]; rfl
def maxL : List Int → Option Int
  | [] => none
  | n :: r => some (r.foldl (fun a b => if a < b then b else a) n)
def intsD : D → Option (List Int)
  | .list ds => intsOf ds
  | _ => none
theorem intsD_eq {d : D} {ns : List Int} {x : V} (h : intsD d = some ns) (hx : Dp K H x d) : ∃ a, x = .ref a ∧ SqL K H a (ns.map V.int) := by
  unfold intsD at h
  split at h
  · obtain ⟨p, xs, rfl, s, a⟩ := dp_list hx
    rw [intsOf_eq h] at a
    rw [dpa_ints_inv a] at s
    exact ⟨p, rfl, s⟩
  · cases h
theorem foldl_max : ∀ (r : List Int) (n : Int), (r.foldl (fun a b => if a < b then b else a) n ∈ n :: r) ∧ ∀ y ∈ n :: r, y ≤ r.foldl (fun a b => if a < b then b else a) n
  | [], n => by simp
  | m :: r, n => by
    obtain ⟨h1, h2⟩ := foldl_max r (if n < m then m else n)
    simp only [List.foldl_cons]
    refine ⟨?_, fun y hy => ?_⟩
    · rcases List.mem_cons.mp h1 with e | e
      · rw [e]; split <;> simp
      · exact List.mem_cons_of_mem _ (List.mem_cons_of_mem _ e)
    · have hn : (if n < m then m else n) ≤ r.foldl (fun a b => if a < b then b else a) (if n < m then m else n) := h2 _ List.mem_cons_self
      rcases List.mem_cons.mp hy with e | e
      · rw [e]; split at hn <;> split <;> omega
      · rcases List.mem_cons.mp e with e | e
        · rw [e]; split at hn <;> split <;> omega
        · exact h2 y (List.mem_cons_of_mem _ e)
theorem maxL_ok {ns : List Int} {m : Int} (h : maxL ns = some m) : m ∈ ns ∧ ∀ y ∈ ns, y ≤ m := by
  cases ns with
  | nil => cases h
  | cons n r => cases h; exact foldl_max r n
def maxD (d : D) : Option D := (intsD d).bind fun ns => (maxL ns).map .int
theorem cr_maxD : CrR K (rMax K) maxD := fun H x d z hx hg => by
  obtain ⟨ns, e1, e2⟩ := Option.bind_eq_some_iff.mp hg
  obtain ⟨m, e3, e4⟩ := Option.map_eq_some_iff.mp e2
  subst e4
  obtain ⟨a, rfl, s⟩ := intsD_eq e1 hx
  obtain ⟨h1, h2⟩ := maxL_ok e3
  refine ⟨_, rfl, fun Q q => ⟨a, ns, rfl, s, List.length_pos_of_mem h1, fun n hn hle => ?_⟩⟩
  have : n = m := Int.le_antisymm (h2 n hn) (hle m h1)
  rw [this]; exact q
theorem d_max (Z : Fits X K k) {e : Expr} {p pos : Pos} {f : Δ → Option (P × Δ)} (he : EX X K e f) (hm : X.mg "max" = none) (hg : Gl X "max" := by rfl) (hst : starEach [e] X.env = (false, eval e X.env) :: starEach [] X.env := by rfl) (hpl : (backTo pos (starEach [] X.env)).any (·.1) = false := by rfl) :
    DX X K (.Call (.Name "max" p) [e] [] pos) (eCall1 maxD f) := d_call1 (id := "max") (r := rMax X.K) (cr_max Z.calm) (by rw [Z.K]; exact cr_maxD) he hm hg (by decide +kernel) (by decide) (by decide) hst hpl
/-- a list of numbers, rising: the one that is sorted -/
def sortI (ns : List Int) : List Int := ns.mergeSort (fun a b => decide (a ≤ b))
theorem sortI_uniq {ns ms : List Int} (hp : ms.Perm ns) (hs : ms.Pairwise (· ≤ ·)) : ms = sortI ns := by
  have h1 : (sortI ns).Perm ns := List.mergeSort_perm _ _
  have h2 : (sortI ns).Pairwise (fun a b => decide (a ≤ b) = true) := List.pairwise_mergeSort (fun a b c h1 h2 => by rw [decide_eq_true_eq] at *; omega) (fun a b => by rw [Bool.or_eq_true, decide_eq_true_eq, decide_eq_true_eq]; omega) ns
  have h3 : (sortI ns).Pairwise (· ≤ ·) := h2.imp fun h => of_decide_eq_true h
  exact List.Perm.eq_of_pairwise (fun a b _ _ h1 h2 => Int.le_antisymm h1 h2) hs h3 (hp.trans h1.symm)
def sortedO : List D → Option O
  | [d] => (intsD d).map fun ns => .ow ((sortI ns).map .int)
  | _ => none
theorem cd_sorted : CdR K (rSortedI K) sortedO := fun F H vs ds o kp hx hg Q gv => by
  unfold sortedO at hg
  split at hg
  · obtain ⟨ns, e1, e2⟩ := Option.map_eq_some_iff.mp hg
    subst e2
    cases hx with
    | cons a b =>
      cases b
      obtain ⟨p, rfl, s⟩ := intsD_eq e1 (dp_mono kp a)
      refine ⟨p, ns, rfl, s, fun ms q hp hs hq => ?_⟩
      rw [sortI_uniq hp hs]
      exact gv.lst kp (dpa_ints _) hq
  · cases hg
theorem x_sorted (Z : Fits X K k) {e : Expr} {p pos : Pos} {f : Δ → Option (List D × Δ)} (he : AX X K [e] f) (hm : X.mg "sorted" = none) (hg : Gl X "sorted" := by rfl) (hst : starEach [e] X.env = (false, eval e X.env) :: starEach [] X.env := by rfl) (hpl : (backTo pos (starEach [] X.env)).any (·.1) = false := by rfl) :
    EX X K (.Call (.Name "sorted" p) [e] [] pos) (eCall sortedO f) := x_call (r := rSortedI X.K) cr_sortedI (by rw [Z.K]; exact cd_sorted) he hm hg (by decide +kernel) (by decide) (by decide) hst hpl
end
end Vp
end
section
set_option Elab.async false
set_option linter.all false
set_option maxRecDepth 100000
set_option maxHeartbeats 3000000
/-! set(xs) of a list of whole numbers; its length; sorted. -/
namespace Vs
open PySem PySem.Spec PyProof.Rows L2 Vi Vf Vo Vp
abbrev setNew (w : World) : Obj := { cls := .type "set", dict := none, data := .set #[] 0 (.fresh 0 0 (!w.params.followText "set-order")) }
section
variable {P : Program} {w : World} {A : Around} {E : Value → Shared → Prop} {s : Shared}
/-- what stands behind it -/
def SetBack (w : World) (s : Shared) (ns : List Int) (r : Value) (t : Shared) : Prop := r = .none ∧ ∃ h' tk c, t = { s with heap := h', toks := tk } ∧ SetR w h' s.heap.objs.size (fun j => decide (j ∈ ns)) c ∧ c ≤ ns.length ∧ ∀ b o, s.heap.get? b = some o → h'.get? b = some o
theorem set_init {l : Addr} {items : Array Value} {ns : List Int} (hh : A.handled = none) (hl : s.heap.IsList l items) (hit : IntsAre items.toList ns) (hb : ns.length + 1 < scanBound) :
    codeAny (model P w) A (.call (.builtin "set.__init__") ⟨[.ref s.heap.objs.size, .ref l], []⟩) (wants (SetBack w s ns) E) { s with heap := s.heap.push (setNew w) } := by
  have nS : (s.heap.push (setNew w)).get? s.heap.objs.size = some (setNew w) := Heap.get?_push_size _ rfl
  have tS : Shared.TypeIs { s with heap := s.heap.push (setNew w) } (.ref s.heap.objs.size) "set" := ⟨_, nS, rfl⟩
  have e1 : items.size = ns.length := by
    have q := IntsAre.length hit
    rwa [Array.length_toList] at q
  refine codeAny_call_builtin F.called_set.init.plain F.entry_set_init (check_set_init_1 tS ?_)
  have hlt : l < s.heap.objs.size := let ⟨_, h, _⟩ := hl; Heap.lt_size h
  obtain ⟨⟨cls, dd, data, sl⟩, ho, hc, n, hd⟩ := id hl
  simp only at hc hd
  subst hc
  subst hd
  have ho2 := Heap.get?_push_of_some (setNew w) ho
  have q1 := F.sub_list_set
  have q2 := F.sub_list_frozenset
  have q3 : (Value.type "list" == Value.type "dict") = false := by decide
  have hl2 : (s.heap.push (setNew w)).IsList l items := ⟨_, ho2, rfl, n, rfl⟩
  unfold Builtin.«set.__init__» noKeywords Builtin.Frozenset.updateFrom
  generalize hz : pyIter = Z
  wp_walk
  subst hz
  refine wpAny_pyIter_list hl2 ?_
  refine wpAny_bind (wpAny_runValue ?_)
  have hin : A.in1.in1.handled = none := hh
  have sz : (s.heap.push (setNew w)).objs.size = s.heap.objs.size + 1 := Heap.size_push ..
  have n1 : l ≠ (s.heap.push (setNew w)).objs.size := by rw [sz]; exact Nat.ne_of_lt (Nat.lt_succ_of_lt hlt)
  have n2 : s.heap.objs.size ∉ [(s.heap.push (setNew w)).objs.size, l] := by
    rw [sz]
    intro z
    rcases List.mem_cons.mp z with z | z
    · exact Nat.ne_of_lt (Nat.lt_succ_self _) z
    · exact Nat.ne_of_gt hlt (List.mem_singleton.mp z)
  have val : ∀ (i : Nat) (v : Value), items[i]? = some v → ∃ k t, ns[i]? = some k ∧ v = .int k t := fun i v hv => by
    have hi : i < ns.length := by rw [← e1]; exact (Array.getElem?_eq_some_iff.mp hv).1
    obtain ⟨t, e⟩ := PyProof.Rows.IntsAre.int_at hit i v (by rw [Array.getElem?_toList]; exact hv)
    refine ⟨ns[i], t, List.getElem?_eq_getElem hi, ?_⟩
    rw [e, List.getD_eq_getElem?_getD, List.getElem?_eq_getElem hi] <;> rfl
  refine set_update_ints ((Walks.list (A := A.in1.in1) hin _ l n1 items).toS) s.heap.objs.size n2 ns e1 hb val (items.size - 0) 0 _ (by omega) (Nat.zero_le _) ⟨⟨_, Heap.get?_push_size _ rfl, rfl, rfl⟩, hl2.push _⟩ ?_ ?_
  · exact ⟨0, Nat.le_refl 0, setR_new_at (Heap.get?_push_of_some _ nS)⟩
  · rintro ⟨h', g2, d', tk', os'⟩ c' hm hc' hS'
    obtain rfl : g2 = s.gens := hm.gens
    obtain rfl : d' = s.drawn := hm.drawn
    obtain rfl : os' = s.os := hm.os
    show wpAny _ _ _ _ _ _
    refine wpAny_pure ?_
    show wpAny _ _ (ret Value.none) _ _ _
    refine wpAny_pure ⟨rfl, h', tk', c', rfl, hS', by rw [← e1]; exact hc', fun b o e => hm.heap b o ?_ (Heap.get?_push_of_some _ (Heap.get?_push_of_some _ e))⟩
    have hb0 : b < s.heap.objs.size := Heap.lt_size e
    intro z
    rcases List.mem_cons.mp z with z | z
    · exact Nat.ne_of_lt hb0 z
    · have z2 := List.mem_singleton.mp z
      rw [sz] at z2
      exact Nat.ne_of_lt (Nat.lt_succ_of_lt hb0) z2
theorem call_set_ints {l : Addr} {items : Array Value} {ns : List Int} {Q : Value → Shared → Prop} (hh : A.handled = none) (hl : s.heap.IsList l items) (hit : IntsAre items.toList ns) (hb : ns.length + 1 < scanBound)
    (h : ∀ (h' : Heap) (tk c : Nat), SetR w h' s.heap.objs.size (fun j => decide (j ∈ ns)) c → c ≤ ns.length → (∀ b o, s.heap.get? b = some o → h'.get? b = some o) → Q (.ref s.heap.objs.size) { s with heap := h', toks := tk }) :
    wpAny (model P w) A (call (.type "set") [.ref l]) Q E s := by
  obtain ⟨c, tl, hmro⟩ := F.called_set.mro
  have z1 := F.called_set.made
  have z2 := F.called_set.sub
  refine wpAny_call (codeAny_of_tree ?_)
  show wpAny (model P w) _ (callAny (.type "set") ⟨[.ref l], []⟩) _ _ s
  refine wpAny_pure ⟨Code.quiet_builtin _ (by decide +kernel), ?_⟩
  refine codeAny_builtin F.entry_type_call ?_
  rw [Around.under_plain (weight_type_call_type "set" [.ref l] []) rfl]
  have z3 := F.called_set.notType
  have z4 := F.called_set.canCreate
  have z5 := F.typeCall_set_1 (.ref l)
  repeat any_goals (first | assumption | wp_step)
  refine codeAny_mono (code_set_led1 (.ref l) (E := E) (Q₁ := fun obj t => obj = .ref s.heap.objs.size ∧ t = { s with heap := s.heap.push (setNew w) }) ⟨rfl, rfl⟩) ?_
  intro r t hr
  match r, hr with
  | .error e, hr => exact hr
  | .ok .next, hr => exact hr.elim
  | .ok .brk, hr => exact hr.elim
  | .ok .cont, hr => exact hr.elim
  | .ok (.ret obj), hr =>
    obtain ⟨rfl, rfl⟩ := hr
    have tS : Shared.TypeIs { s with heap := s.heap.push (setNew w) } (.ref s.heap.objs.size) "set" := ⟨_, Heap.get?_push_size _ rfl, rfl⟩
    have z6 := F.called_set.init.lookup
    have z7 := F.called_set.init.bind (.ref s.heap.objs.size)
    repeat any_goals (first | assumption | wp_step)
    refine codeAny_mono (set_init (E := E) hh hl hit hb) ?_
    intro r2 t2 hr2
    match r2, hr2 with
    | .error e, hr2 => exact hr2
    | .ok .next, hr2 => exact hr2.elim
    | .ok .brk, hr2 => exact hr2.elim
    | .ok .cont, hr2 => exact hr2.elim
    | .ok (.ret v), hr2 =>
      obtain ⟨rfl, h', tk, c', rfl, hS, hc, hk⟩ := hr2
      repeat any_goals (first | assumption | wp_step)
      exact h _ _ _ hS hc hk
end
end Vs
end
section
set_option Elab.async false
set_option linter.all false
set_option maxRecDepth 100000
set_option maxHeartbeats 3000000
/-! repr, isinstance, list, tuple, sets, divmod: rules over values. -/
namespace Vt
open PySem PySem.Spec PyProof.Rows L2 Vi Vf Vo Vp Vs
section
variable {X : Cx} {K : Lay} {k : Nat} {F H : Hp}
/-! ### repr -/
def rRepr (K : PySem.W.Frag) : List V → Hp → VK → Prop := fun xs H Q => ∃ x d, xs = [x] ∧ Dp K H x d ∧ d.showable = true ∧ d.hasDict = false ∧ d.depth ≤ 100 ∧ d.shown.length ≤ sizeLine ∧ Q (.str d.shown) H
theorem call_repr (hr : Can X k) : CallR X (.builtin "repr") (rRepr X.K) := fun pins s σ H xs us Q I r h => by
  obtain ⟨x, d, rfl, hd, h1, h2, h3, h4, q⟩ := h
  obtain ⟨u, rfl, ru⟩ := vals1 r
  have fin : ∀ tk tk', EP X pins σ Q (.str d.shown tk') { s with toks := tk } := fun tk tk' => ⟨.str d.shown, H, I.tok tk, ⟨tk', rfl⟩, q⟩
  have heapy : ∀ a, u = .ref a → wpAny (model X.prog X.w) X.A (call (.builtin "repr") [u]) (EP X pins σ Q) X.xe s := fun a e => by
    subst e
    obtain ⟨as, rd⟩ := Dp.reads I d x _ hd ru
    refine PySem.repr_of_reads' (h₀ := s.heap) rd h1 (fun z => by rw [h2] at z; cases z) hr.gd (by have := hr.room.un; omega) (fun b o e => e) (fun h' u tk hk => ?_) h4
    exact ⟨.str d.shown, H, I.kept (t' := tk) hk, ⟨u, rfl⟩, q⟩
  cases hd with
  | non => cases ru; exact PySem.P.repr_of_none (fin _ _)
  | bl b => cases ru; exact PySem.P.repr_of_bool (fin _ _)
  | int i =>
    obtain ⟨t, rfl⟩ := ru
    exact PySem.P.repr_of_int (by simpa [PyData.showable] using h1) (fin _ _)
  | str z =>
    obtain ⟨t, rfl⟩ := ru
    exact PySem.P.repr_of_str (fin _ _) h4
  | lst s' a => cases ru; exact heapy _ rfl
  | tup s' a => cases ru; exact heapy _ rfl
def reprD (d : D) : Option D := if d.showable = true ∧ d.hasDict = false ∧ d.depth ≤ 100 ∧ d.shown.length ≤ sizeLine then some (.str d.shown) else none
theorem cr_reprD : CrR K (rRepr K) reprD := fun H x d z hx hg => by
  unfold reprD at hg
  split at hg
  · rename_i h; cases hg
    exact ⟨_, rfl, fun Q q => ⟨x, d, rfl, hx, h.1, h.2.1, h.2.2.1, h.2.2.2, q⟩⟩
  · cases hg
theorem d_repr (Z : Fits X K k) {e : Expr} {p pos : Pos} {f : Δ → Option (P × Δ)} (he : EX X K e f) (hm : X.mg "repr" = none) (hg : Gl X "repr" := by rfl) (hst : starEach [e] X.env = (false, eval e X.env) :: starEach [] X.env := by rfl) (hpl : (backTo pos (starEach [] X.env)).any (·.1) = false := by rfl) :
    DX X K (.Call (.Name "repr" p) [e] [] pos) (eCall1 reprD f) := d_call1 (id := "repr") (r := rRepr X.K) (call_repr Z.can) (by rw [Z.K]; exact cr_reprD) he hm hg (by decide +kernel) (by decide) (by decide) hst hpl
/-! ### isinstance -/
def tyName : D → String
  | .none => "NoneType"
  | .bool _ => "bool"
  | .int _ => "int"
  | .str _ => "str"
  | .list _ => "list"
  | .tuple _ => "tuple"
  | .dict _ => "dict"
theorem ty_dp {x : V} {d : D} (h : Dp K H x d) : TyX K H x (.type (tyName d)) := by
  cases h with
  | non => exact .base .non
  | bl b => exact .base (.bl b)
  | int i => exact .base (.int i)
  | str z => exact .base (.str z)
  | lst s a =>
    rcases s with (s | ⟨o, s⟩) | ⟨o, its, n, hk, hc, _⟩
    · exact .base (.lst s)
    · exact .base (.frz s)
    · exact .kList hk hc
  | tup s a =>
    rcases s with (s | ⟨o, s⟩) | ⟨o, its, n, hk, hc, _⟩
    · exact .base (.tup s)
    · exact .fTuple s
    · exact .kTuple hk hc
def isiD (T : String) (d : D) : Option D := (kitB (tyName d) T).map .bool
def eIsi (T : String) (f : Δ → Option (P × Δ)) : Δ → Option (D × Δ) := fun δ => (f δ).bind fun r => (r.1.data r.2).bind fun d => (isiD T d).map fun z => (z, r.2)
theorem sd_isi {te : TE} {f : Δ → Option (P × Δ)} {T : String} (hf : SX K te f) : SD K (tCB (rIsi K) (tCons te (tCons (tC (.ty T)) tNil))) (eIsi T f) := fun δ d δ' e σ F H rp Q kq => by
  obtain ⟨⟨p, δ1⟩, e1, e⟩ := Option.bind_eq_some_iff.mp e
  obtain ⟨dx, e2, e⟩ := Option.bind_eq_some_iff.mp e
  obtain ⟨z, e3, e4⟩ := Option.map_eq_some_iff.mp e
  obtain ⟨b, e5, rfl⟩ := Option.map_eq_some_iff.mp e3
  cases e4
  refine hf δ p δ1 e1 σ F H rp _ fun x F1 H1 a1 p1 n1 => ?_
  exact ⟨x, .ty T, _, _, b, rfl, .ty T, ty_dp (pr_dp a1.rep p1 e2), kit_ty e5, kq _ F1 H1 a1 (.bl b)⟩
theorem d_isi (Z : Fits X K k) {a : Expr} {x : Str} {T : String} {p p2 pos : Pos} {f : Δ → Option (P × Δ)} (ha : EX X K a f) (hm : X.mg "isinstance" = none) (hmT : X.mg x = none) (hv : bootBuiltins x = some (.type T) := by decide +kernel) (hg : Gl X "isinstance" := by rfl) (hgT : Gl X x := by rfl)
    (hn : x ≠ "__name__" := by decide) (hd : (x == ("__debug__" : Str)) = false := by decide) (hst : starEach [a, .Name x p2] X.env = (false, eval a X.env) :: starEach [.Name x p2] X.env := by rfl) (hst2 : starEach [.Name x p2] X.env = (false, eval (.Name x p2) X.env) :: starEach [] X.env := by rfl)
    (hpl : (backTo pos (starEach [.Name x p2] X.env)).any (·.1) = false := by rfl) : DX X K (.Call (.Name "isinstance" p) [a, .Name x p2] [] pos) (eIsi T f) := by
  obtain ⟨te, q, s⟩ := ha
  refine ⟨_, pe_callB (r := rIsi X.K) call_isi hg hm (by decide +kernel) (pa_cons q (pa_cons (pe_bltn hgT hmT hv (v := .ty T) rfl hn hd) pa_nil hst2) hst) (by decide) (by decide) hst hpl, ?_⟩
  rw [Z.K]
  exact sd_isi s
/-! ### list, tuple -/
def rListOf (K : PySem.W.Frag) : List V → Hp → VK → Prop := fun xs H Q => ∃ p ys, xs = [.ref p] ∧ (SqL K H p ys ∨ SqT K H p ys) ∧ ∀ l, H l = none → Q (.ref l) (upd H l (.lst ys))
def rTupOf (K : PySem.W.Frag) : List V → Hp → VK → Prop := fun xs H Q => ∃ p ys, xs = [.ref p] ∧ ((SqL K H p ys ∧ ∀ l, H l = none → Q (.ref l) (upd H l (.tup ys))) ∨ (SqT K H p ys ∧ Q (.ref p) H))
def listO : List D → Option O
  | [.list ds] => some (.ow ds)
  | [.tuple ds] => some (.ow ds)
  | _ => none
def tupO : List D → Option O
  | [.list ds] => some (.fz (.tuple ds))
  | [.tuple ds] => some (.fz (.tuple ds))
  | _ => none
theorem one_dp {vs : List V} {d : D} (h : DpAll K F vs [d]) : ∃ v, vs = [v] ∧ Dp K F v d := by
  cases h with
  | cons a b => cases b; exact ⟨_, rfl, a⟩
theorem cd_list : CdR K (rListOf K) listO := fun F H vs ds o kp hx hg Q gv => by
  unfold listO at hg
  split at hg
  · cases hg
    obtain ⟨v, rfl, h⟩ := one_dp hx
    obtain ⟨p, xs, rfl, s, a⟩ := dp_list h
    exact ⟨p, xs, rfl, .inl (kp.sqL s), fun l hl => gv.lst kp a hl⟩
  · cases hg
    obtain ⟨v, rfl, h⟩ := one_dp hx
    obtain ⟨p, xs, rfl, s, a⟩ := dp_tuple h
    exact ⟨p, xs, rfl, .inr (kp.sqT s), fun l hl => gv.lst kp a hl⟩
  · cases hg
theorem cd_tup : CdR K (rTupOf K) tupO := fun F H vs ds o kp hx hg Q gv => by
  unfold tupO at hg
  split at hg
  · cases hg
    obtain ⟨v, rfl, h⟩ := one_dp hx
    obtain ⟨p, xs, rfl, s, a⟩ := dp_list h
    exact ⟨p, xs, rfl, .inl ⟨kp.sqL s, fun l hl => gv.tup kp a hl⟩⟩
  · cases hg
    obtain ⟨v, rfl, h⟩ := one_dp hx
    have h' := h
    obtain ⟨p, xs, rfl, s, a⟩ := dp_tuple h
    exact ⟨p, xs, rfl, .inr ⟨kp.sqT s, gv.fz kp h'⟩⟩
  · cases hg
theorem x_list (Z : Fits X K k) {e : Expr} {p pos : Pos} {f : Δ → Option (List D × Δ)} (he : AX X K [e] f) (hm : X.mg "list" = none) (hg : Gl X "list" := by rfl) (hst : starEach [e] X.env = (false, eval e X.env) :: starEach [] X.env := by rfl) (hpl : (backTo pos (starEach [] X.env)).any (·.1) = false := by rfl) :
    EX X K (.Call (.Name "list" p) [e] [] pos) (eCall listO f) := x_callT (r := rListOf X.K) call_list_of (by rw [Z.K]; exact cd_list) he hm hg (by decide +kernel) (by decide) (by decide) hst hpl
theorem x_tup (Z : Fits X K k) {e : Expr} {p pos : Pos} {f : Δ → Option (List D × Δ)} (he : AX X K [e] f) (hm : X.mg "tuple" = none) (hg : Gl X "tuple" := by rfl) (hst : starEach [e] X.env = (false, eval e X.env) :: starEach [] X.env := by rfl) (hpl : (backTo pos (starEach [] X.env)).any (·.1) = false := by rfl) :
    EX X K (.Call (.Name "tuple" p) [e] [] pos) (eCall tupO f) := x_callT (r := rTupOf X.K) call_tuple_of (by rw [Z.K]; exact cd_tup) he hm hg (by decide +kernel) (by decide) (by decide) hst hpl
/-! ### list(range(n)), list(range(a, b)) -/
def rangeV (lo : Int) (n : Nat) : List V := (List.range n).map fun (j : Nat) => V.int (lo + (j : Int))
theorem vals_items {acc : Array Value} {lo : Int} {n : Nat} (h : ItemsOf (fun i v => ∃ t, v = .int (lo + (i : Int) * 1) t) acc n) : Vals (rangeV lo n) acc.toList := by
  obtain ⟨h1, h2⟩ := h
  refine vals_of_idx _ _ (by rw [Array.length_toList, h1]; simp [rangeV]) fun j u hj => ?_
  have hj' : acc[j]? = some u := by rw [← Array.getElem?_toList]; exact hj
  obtain ⟨t, rfl⟩ := h2 j u hj'
  have hl : j < n := by rw [← h1]; exact (Array.getElem?_eq_some_iff.mp hj').1
  refine ⟨.int (lo + (j : Int)), by simp [rangeV, hl], t, by rw [Int.mul_one]⟩
def rgS (i : Int) : Bool := decide (-(2 ^ 23) ≤ i) && decide (i ≤ 2 ^ 23)
theorem rgS_iff {i : Int} (h : rgS i = true) : -(2 ^ 23) ≤ i ∧ i ≤ 2 ^ 23 := by
  unfold rgS at h
  rw [Bool.and_eq_true, decide_eq_true_eq, decide_eq_true_eq] at h
  exact h
theorem list_of_range {pins : List (Addr × Obj)} {σ : L2.St} {s : Shared} {Q : VK} {lo hi : Int} {r : Addr} {t u v : Tok} (hh : X.A.handled = none) (I : Inv X pins σ H s) (hr : IsRange s.heap r lo hi 1 t u v) (h1 : rgS lo = true) (h2 : rgS hi = true)
    (q : ∀ p, H p = none → Q (.ref p) (upd H p (.lst (rangeV lo (hi - lo).toNat)))) : wpAny (model X.prog X.w) X.A (call (.type "list") [.ref r]) (EP X pins σ Q) X.xe s := by
  obtain ⟨a1, a2⟩ := rgS_iff h1
  obtain ⟨b1, b2⟩ := rgS_iff h2
  have hn : Builtin.Range.rangeSize lo hi 1 = ((hi - lo).toNat : Nat) := by rw [rangeSize_one]; split <;> omega
  refine call_list_range hh hr (small_one (by omega) (by omega) (by omega) (by omega)) hn (by omega) fun h' tk acc c' hk hS hacc => ?_
  refine ⟨.ref s.heap.objs.size, _, I.laid (t' := tk) hk (Nat.le_refl _) (o := .lst (rangeV lo (hi - lo).toNat)) ⟨?_, acc.toList, c', vals_items hacc, hS⟩, rfl, q _ I.fresh⟩
  have : (rangeV lo (hi - lo).toNat).length = (hi - lo).toNat := by simp [rangeV]
  rw [this, sizeLine_eq]
  omega
def tListR1 (ta : TE) : TE := fun σ H Q => ta σ H fun x H1 => ∃ i : Int, x = .int i ∧ rgS i = true ∧ ∀ p, H1 p = none → Q (.ref p) (upd H1 p (.lst (rangeV 0 i.toNat)))
def tListR2 (ta tb : TE) : TE := fun σ H Q => ta σ H fun x H1 => tb σ H1 fun y H2 => ∃ i j : Int, x = .int i ∧ y = .int j ∧ rgS i = true ∧ rgS j = true ∧ ∀ p, H2 p = none → Q (.ref p) (upd H2 p (.lst (rangeV i (j - i).toNat)))
theorem pe_listR1 {a : Expr} {ta : TE} {p p2 q pos : Pos} (hc : X.calm = true) (hm : X.mg "list" = none) (hm2 : X.mg "range" = none) (ha : PE X a ta) (hg : Gl X "list" := by rfl) (hg2 : Gl X "range" := by rfl)
    (na : starEach [a] X.env = (false, eval a X.env) :: starEach [] X.env := by rfl) : PE X (.Call (.Name "list" p) [.Call (.Name "range" p2) [a] [] q] [] pos) (tListR1 ta) := by
  refine ⟨fun pins s σ H Q I h => ?_⟩
  refine Call_ (ld_blt I hg hm (u := .type "list") (by decide +kernel) (PyProof.Rows.callWith_type1 (PyProof.Rows.args_cons ?_ rfl) rfl rfl))
  refine Call_ (ld_blt I hg2 hm2 boot_range (PyProof.Rows.callWith_type1 (PyProof.Rows.args_cons (thn (ha.run pins s σ H _ I h) ?_) na) na rfl))
  rintro v s1 ⟨x, H1, I1, r1, i, rfl, hi, q1⟩
  obtain ⟨t, rfl⟩ := r1
  refine PyProof.Rows.args_nil ?_
  refine call_range_1 ?_
  refine PyProof.Rows.args_nil ?_
  have I2 : Inv X pins σ H1 { s1 with heap := s1.heap.push { cls := .type "range", data := .fields #[.int 0 s1.toks, .int i t, .int 1 (s1.toks + 1)] }, toks := s1.toks + 1 + 1 } := I1.kept fun b o e => Heap.get?_push_of_some _ e
  refine list_of_range (I1.ok.hd hc) I2 (IsRange.new _ _ _ _ _ _ _) (by decide) hi ?_
  rw [show (i - 0).toNat = i.toNat by rw [Int.sub_zero]]
  exact q1
theorem pe_listR2 {a b : Expr} {ta tb : TE} {p p2 q pos : Pos} (hc : X.calm = true) (hm : X.mg "list" = none) (hm2 : X.mg "range" = none) (ha : PE X a ta) (hb : PE X b tb) (hg : Gl X "list" := by rfl) (hg2 : Gl X "range" := by rfl)
    (na : starEach [a, b] X.env = (false, eval a X.env) :: starEach [b] X.env := by rfl) (nb : starEach [b] X.env = (false, eval b X.env) :: starEach [] X.env := by rfl) : PE X (.Call (.Name "list" p) [.Call (.Name "range" p2) [a, b] [] q] [] pos) (tListR2 ta tb) := by
  refine ⟨fun pins s σ H Q I h => ?_⟩
  refine Call_ (ld_blt I hg hm (u := .type "list") (by decide +kernel) (PyProof.Rows.callWith_type1 (PyProof.Rows.args_cons ?_ rfl) rfl rfl))
  refine Call_ (ld_blt I hg2 hm2 boot_range (PyProof.Rows.callWith_type1 (PyProof.Rows.args_cons (thn (ha.run pins s σ H _ I h) ?_) na) na (by rw [nb]; rfl)))
  rintro v s1 ⟨x, H1, I1, r1, h1⟩
  refine PyProof.Rows.args_cons (thn (hb.run pins s1 σ H1 _ I1 h1) ?_) nb
  rintro u s2 ⟨y, H2, I2, r2, i, j, rfl, rfl, hi, hj, q1⟩
  obtain ⟨t, rfl⟩ := r1
  obtain ⟨t2, rfl⟩ := r2
  refine PyProof.Rows.args_nil ?_
  refine call_range_2 ?_
  refine PyProof.Rows.args_nil ?_
  have I3 : Inv X pins σ H2 { s2 with heap := s2.heap.push { cls := .type "range", data := .fields #[.int i t, .int j t2, .int 1 s2.toks] }, toks := s2.toks + 1 } := I2.kept fun b o e => Heap.get?_push_of_some _ e
  exact list_of_range (I1.ok.hd hc) I3 (IsRange.new _ _ _ _ _ _ _) hi hj q1
theorem dpa_range (lo : Int) (n : Nat) : DpAll K F (rangeV lo n) (rangeD lo n) := by
  have : rangeV lo n = ((List.range n).map fun (j : Nat) => lo + (j : Int)).map V.int := by simp [rangeV]
  rw [this]
  have e : rangeD lo n = ((List.range n).map fun (j : Nat) => lo + (j : Int)).map .int := by simp [rangeD]
  rw [e]
  exact dpa_ints _
def eListR1 (f : Δ → Option (D × Δ)) : Δ → Option (P × Δ) := fun δ => (f δ).bind fun r => match r.1 with
  | .int i => if rgS i = true then some (.tm (.ow (rangeD 0 i.toNat)), r.2) else none
  | _ => none
def eListR2 (f g : Δ → Option (D × Δ)) : Δ → Option (P × Δ) := fun δ => (f δ).bind fun r => (g r.2).bind fun s => match r.1, s.1 with
  | .int i, .int j => if rgS i = true ∧ rgS j = true then some (.tm (.ow (rangeD i (j - i).toNat)), s.2) else none
  | _, _ => none
theorem sx_listR1 {te : TE} {f : Δ → Option (D × Δ)} (hf : SD K te f) : SX K (tListR1 te) (eListR1 f) := fun δ p δ' e σ F H rp Q kq => by
  obtain ⟨⟨d, δ1⟩, e1, e⟩ := Option.bind_eq_some_iff.mp e
  cases d with
  | int i =>
    dsimp only at e
    split at e
    case isFalse => cases e
    rename_i hi
    cases e
    refine hf δ _ _ e1 σ F H rp _ fun x F1 H1 a1 d1 => ⟨i, dp_int d1, hi, fun l hl => ?_⟩
    have gv : Gives K F1 H1 (.ow (rangeD 0 i.toNat)) Q := gives_of a1.rep fun v F' H' a p' n' => kq v F' H' (a1.trans a) p' (n'.from a1.go)
    exact gv.lst a1.rep.kp (dpa_range _ _) hl
  | _ => cases e
theorem sx_listR2 {te tb : TE} {f g : Δ → Option (D × Δ)} (hf : SD K te f) (hg : SD K tb g) : SX K (tListR2 te tb) (eListR2 f g) := fun δ p δ' e σ F H rp Q kq => by
  obtain ⟨⟨d, δ1⟩, e1, e⟩ := Option.bind_eq_some_iff.mp e
  obtain ⟨⟨d2, δ2⟩, e2, e⟩ := Option.bind_eq_some_iff.mp e
  cases d with
  | int i =>
    cases d2 with
    | int j =>
      dsimp only at e
      split at e
      case isFalse => cases e
      rename_i hi
      cases e
      refine hf δ _ _ e1 σ F H rp _ fun x F1 H1 a1 d1 => ?_
      refine hg _ _ _ e2 σ F1 H1 a1.rep _ fun y F2 H2 a2 d2 => ⟨i, j, dp_int d1, dp_int d2, hi.1, hi.2, fun l hl => ?_⟩
      have a3 := a1.trans a2
      have gv : Gives K F2 H2 (.ow (rangeD i (j - i).toNat)) Q := gives_of a2.rep fun v F' H' a p' n' => kq v F' H' (a3.trans a) p' (n'.from a3.go)
      exact gv.lst a2.rep.kp (dpa_range _ _) hl
    | _ => cases e
  | _ => cases e
theorem x_listR1 (Z : Fits X K k) {a : Expr} {p p2 q pos : Pos} {f : Δ → Option (D × Δ)} (ha : DX X K a f) (hm : X.mg "list" = none) (hm2 : X.mg "range" = none) (hg : Gl X "list" := by rfl) (hg2 : Gl X "range" := by rfl) (na : starEach [a] X.env = (false, eval a X.env) :: starEach [] X.env := by rfl) :
    EX X K (.Call (.Name "list" p) [.Call (.Name "range" p2) [a] [] q] [] pos) (eListR1 f) := let ⟨_, u, v⟩ := ha; ⟨_, pe_listR1 Z.calm hm hm2 u hg hg2 na, sx_listR1 v⟩
theorem x_listR2 (Z : Fits X K k) {a b : Expr} {p p2 q pos : Pos} {f g : Δ → Option (D × Δ)} (ha : DX X K a f) (hb : DX X K b g) (hm : X.mg "list" = none) (hm2 : X.mg "range" = none) (hg : Gl X "list" := by rfl) (hg2 : Gl X "range" := by rfl) (na : starEach [a, b] X.env = (false, eval a X.env) :: starEach [b] X.env := by rfl)
    (nb : starEach [b] X.env = (false, eval b X.env) :: starEach [] X.env := by rfl) : EX X K (.Call (.Name "list" p) [.Call (.Name "range" p2) [a, b] [] q] [] pos) (eListR2 f g) := let ⟨_, u, v⟩ := ha; let ⟨_, w, z⟩ := hb; ⟨_, pe_listR2 Z.calm hm hm2 u w hg hg2 na nb, sx_listR2 v z⟩
/-! ### set(xs): its length, sorted -/
def dd : List Int → List Int
  | [] => []
  | n :: r => if n ∈ r then dd r else n :: dd r
theorem dd_mem : ∀ {ns : List Int} {x : Int}, x ∈ dd ns ↔ x ∈ ns
  | [], x => by simp [dd]
  | n :: r, x => by
    unfold dd
    split
    · rename_i h
      rw [dd_mem, List.mem_cons]
      exact ⟨.inr, fun z => z.elim (fun e => e ▸ h) id⟩
    · rw [List.mem_cons, List.mem_cons, dd_mem]
theorem dd_nodup : ∀ ns : List Int, (dd ns).Nodup
  | [] => .nil
  | n :: r => by
    unfold dd
    split
    · exact dd_nodup r
    · rename_i h
      exact List.nodup_cons.mpr ⟨fun z => h (dd_mem.mp z), dd_nodup r⟩
theorem setR_len {w : World} {h : Heap} {a : Addr} {ns : List Int} {c : Nat} (R : SetR w h a (fun j => decide (j ∈ ns)) c) : c = (dd ns).length := by
  obtain ⟨o, es, ep, t, _, _, _, _, nd, hm, _, _, hc, _⟩ := R
  have pm : (es.toList.map keyOf).Perm (dd ns) := (List.perm_ext_iff_of_nodup nd (dd_nodup ns)).mpr fun x => by
    rw [← hm x, decide_eq_true_eq, dd_mem]
  have := pm.length_eq
  rw [List.length_map, Array.length_toList, hc] at this
  exact this
def rSetL (K : PySem.W.Frag) (w : World) : List V → Hp → VK → Prop := fun xs H Q => ∃ (l : Addr) (ns : List Int), xs = [.ref l] ∧ SqL K H l (ns.map V.int) ∧ ns.length ≤ 4000 ∧ ∀ a, H a = none → Q (.ref a) (upd H a (SetO w a (fun j => decide (j ∈ ns)) (dd ns).length))
theorem call_setL (hc : X.calm = true) : CallR X (.type "set") (rSetL X.K X.w) := fun pins s σ H xs us Q I r h => by
  obtain ⟨l, ns, rfl, hs, hl, q⟩ := h
  rw [Vals.ref1 r]
  obtain ⟨its, rv, pl, _⟩ := I.list hs
  have hi : IntsAre its.toArray.toList ns := by simpa using rv.ints
  refine call_set_ints (I.ok.hd hc) pl.isList hi (by unfold scanBound; omega) fun h' tk c R _ hk => ?_
  have ec := setR_len R
  subst ec
  exact ⟨.ref s.heap.objs.size, _, I.laid (t' := tk) hk (Nat.le_refl _) (setO_new R), rfl, q _ I.fresh⟩
def rLenO (w : World) : List V → Hp → VK → Prop := fun xs H Q => ∃ (a : Addr) (S : Int → Bool) (n : Nat), xs = [.ref a] ∧ H a = some (SetO w a S n) ∧ n ≤ 4000 ∧ Q (.int n) H
theorem call_lenO : CallR X (.builtin "len") (rLenO X.w) := fun pins s σ H xs us Q I r h => by
  obtain ⟨a, S, n, rfl, ha, hl, q⟩ := h
  rw [Vals.ref1 r]
  obtain ⟨o, es, ep, t, ho, hex, hd, _, _, _, _, hf, hn, _⟩ := setO_get I ha
  exact call_len_set ho hex hd hf (by rw [hn]; omega) ⟨.int n, H, I.tok _, ⟨_, by rw [hn]⟩, q⟩
theorem new_ext {p : Addr} {u : HO} (kp : Kp F H) (hp : H p = none) : New F H F (upd H p u) := ⟨.rfl, kp.trans (.new hp), .new hp, fun _ z => .inl z⟩
theorem dd_le : ∀ ns : List Int, (dd ns).length ≤ ns.length
  | [] => Nat.le_refl _
  | n :: r => by
    unfold dd
    have := dd_le r
    split
    · rw [List.length_cons]; omega
    · rw [List.length_cons, List.length_cons]; omega
def lenSetD (d : D) : Option D := (intsD d).bind fun ns => if ns.length ≤ 4000 then some (.int ((dd ns).length : Nat)) else none
def sortSetO (d : D) : Option O := (intsD d).bind fun ns => if ns.length ≤ 4000 ∧ (dd ns).length < 64 then some (.ow ((sortI (dd ns)).map .int)) else none
theorem sd_lenSet {te : TE} {f : Δ → Option (P × Δ)} {w : World} (hf : SX K te f) : SD K (tCB (rLenO w) (tCons (tCB (rSetL K w) (tCons te tNil)) tNil)) (eCall1 lenSetD f) := fun δ d δ' e σ F H rp Q kq => by
  obtain ⟨⟨p, δ1⟩, e1, e⟩ := Option.bind_eq_some_iff.mp e
  obtain ⟨dx, e2, e⟩ := Option.bind_eq_some_iff.mp e
  obtain ⟨z, e3, e4⟩ := Option.map_eq_some_iff.mp e
  cases e4
  obtain ⟨ns, e5, e6⟩ := Option.bind_eq_some_iff.mp e3
  split at e6
  case isFalse => cases e6
  rename_i hl
  cases e6
  refine hf δ p δ1 e1 σ F H rp _ fun x F1 H1 a1 p1 n1 => ?_
  obtain ⟨a, rfl, s⟩ := intsD_eq e5 (pr_dp a1.rep p1 e2)
  refine ⟨a, ns, rfl, s, hl, fun b hb => ⟨b, _, _, rfl, upd_same, Nat.le_trans (dd_le ns) hl, ?_⟩⟩
  exact kq _ F1 _ (a1.trans (New.aft a1.rep (new_ext a1.rep.kp hb))) (.int _)
theorem sx_sortSet {te : TE} {f : Δ → Option (P × Δ)} {w : World} (hf : SX K te f) : SX K (tCB (rSortedSet w) (tCons (tCB (rSetL K w) (tCons te tNil)) tNil)) (fun δ => (f δ).bind fun r => (r.1.data r.2).bind fun d => (sortSetO d).map fun o => (.tm o, r.2)) := fun δ q δ' e σ F H rp Q kq => by
  obtain ⟨⟨p, δ1⟩, e1, e⟩ := Option.bind_eq_some_iff.mp e
  obtain ⟨dx, e2, e⟩ := Option.bind_eq_some_iff.mp e
  obtain ⟨z, e3, e4⟩ := Option.map_eq_some_iff.mp e
  cases e4
  obtain ⟨ns, e5, e6⟩ := Option.bind_eq_some_iff.mp e3
  split at e6
  case isFalse => cases e6
  rename_i hl
  cases e6
  refine hf δ p δ1 e1 σ F H rp _ fun x F1 H1 a1 p1 n1 => ?_
  obtain ⟨a, rfl, s⟩ := intsD_eq e5 (pr_dp a1.rep p1 e2)
  refine ⟨a, ns, rfl, s, hl.1, fun b hb => ⟨b, _, _, rfl, upd_same, hl.2, fun ms l hs hm hlen hn => ?_⟩⟩
  have a2 := a1.trans (New.aft a1.rep (new_ext (u := SetO w b (fun j => decide (j ∈ ns)) (dd ns).length) a1.rep.kp hb))
  have em : ms = sortI (dd ns) := sortI_uniq ((List.perm_ext_iff_of_nodup (hs.imp fun h => Int.ne_of_lt h) (dd_nodup ns)).mpr fun x => by
    rw [hm x, decide_eq_true_eq, dd_mem]) (hs.imp fun h => Int.le_of_lt h)
  subst em
  have gv : Gives K F1 (upd H1 b (SetO w b (fun j => decide (j ∈ ns)) (dd ns).length)) (.ow ((sortI (dd ns)).map .int)) Q := gives_of a2.rep fun v F' H' a p' n' => kq v F' H' (a2.trans a) p' (n'.from a2.go)
  exact gv.lst a2.rep.kp (dpa_ints _) hn
theorem pe_call1 {x id : Str} {e : Expr} {te : TE} {p pos : Pos} {r : List V → Hp → VK → Prop} {i : String} (hc : CallR X (.builtin i) r) (he : PE X e te) (hm : X.mg x = none) (hg : Gl X x) (hv : bootBuiltins x = some (.builtin i)) (hn : x ≠ "__name__") (hdb : (x == ("__debug__" : Str)) = false)
    (hst : starEach [e] X.env = (false, eval e X.env) :: starEach [] X.env := by rfl) : PE X (.Call (.Name x p) [e] [] pos) (tCB r (tCons te tNil)) := pe_callB hc hg hm hv (pa_cons he pa_nil hst) hn hdb hst rfl
theorem d_lenSet (Z : Fits X K k) {a : Expr} {p p2 q pos : Pos} {f : Δ → Option (P × Δ)} (ha : EX X K a f) (hm : X.mg "len" = none) (hm2 : X.mg "set" = none) (hg : Gl X "len" := by rfl) (hg2 : Gl X "set" := by rfl) (na : starEach [a] X.env = (false, eval a X.env) :: starEach [] X.env := by rfl)
    (nb : starEach [.Call (.Name "set" p2) [a] [] q] X.env = (false, eval (.Call (.Name "set" p2) [a] [] q) X.env) :: starEach [] X.env := by rfl) : DX X K (.Call (.Name "len" p) [.Call (.Name "set" p2) [a] [] q] [] pos) (eCall1 lenSetD f) := by
  obtain ⟨te, u, v⟩ := ha
  refine ⟨_, pe_callB (r := rLenO X.w) call_lenO hg hm PySem.boot_len (pa_cons (pe_callTy (r := rSetL X.K X.w) (call_setL Z.calm) hg2 hm2 PyProof.Rows.boot_set (pa_cons u pa_nil na) (by decide) (by decide) na rfl) pa_nil nb) (by decide) (by decide) nb rfl, ?_⟩
  rw [Z.K]
  exact sd_lenSet v
theorem x_sortSet (Z : Fits X K k) {a : Expr} {p p2 q pos : Pos} {f : Δ → Option (P × Δ)} (ha : EX X K a f) (hm : X.mg "sorted" = none) (hm2 : X.mg "set" = none) (hg : Gl X "sorted" := by rfl) (hg2 : Gl X "set" := by rfl) (na : starEach [a] X.env = (false, eval a X.env) :: starEach [] X.env := by rfl)
    (nb : starEach [.Call (.Name "set" p2) [a] [] q] X.env = (false, eval (.Call (.Name "set" p2) [a] [] q) X.env) :: starEach [] X.env := by rfl) : EX X K (.Call (.Name "sorted" p) [.Call (.Name "set" p2) [a] [] q] [] pos) (fun δ => (f δ).bind fun r => (r.1.data r.2).bind fun d => (sortSetO d).map fun o => (.tm o, r.2)) := by
  obtain ⟨te, u, v⟩ := ha
  refine ⟨_, pe_callB (r := rSortedSet X.w) (cr_sortedSet Z.calm) hg hm (by decide +kernel) (pa_cons (pe_callTy (r := Vt.rSetL X.K X.w) (call_setL Z.calm) hg2 hm2 PyProof.Rows.boot_set (pa_cons u pa_nil na) (by decide) (by decide) na rfl) pa_nil nb) (by decide) (by decide) nb rfl, ?_⟩
  rw [Z.K]
  exact sx_sortSet v
end
end Vt
end
section
set_option Elab.async false
set_option linter.all false
set_option maxRecDepth 100000
set_option maxHeartbeats 3000000
/-! Displays, subscripts, conditions, statements: both at once. -/
namespace Vu
open PySem PySem.Spec PyProof.Rows L2 Vi Vf Vo Vp Vs Vt
def OX (X : Cx) (K : Lay) (e : Option Expr) (g : Δ → Option (Option Int × Δ)) : Prop := ∃ t, PO X e t ∧ SO K t g
def WX (X : Cx) (K : Lay) (e : Expr) (f : Δ → Option (Bool × Δ)) : Prop := ∃ tt, PW X e tt ∧ ST K tt f
def GX (X : Cx) (K : Lay) (e : Expr) (ix : List Nat) (h : D → Δ → Option Δ) : Prop := ∃ g, PG X e g ∧ SG K g ix h
def GXs (X : Cx) (K : Lay) (es : List Expr) (ix : List Nat) (h : List D → Δ → Option Δ) : Prop := ∃ g, PGs X es g ∧ SGs K g ix h
def IX (X : Cx) (K : Lay) (tg e : Expr) (c : Δ → Option (List D × Δ)) : Prop := ∃ wi, PI X tg e wi ∧ SI K wi c
section
variable {X : Cx} {K : Lay} {k : Nat}
/-! ### expressions -/
theorem x_lst {es : List Expr} {pos : Pos} {f : Δ → Option (List D × Δ)} (h : AX X K es f) : EX X K (.List es pos) (eLst f) := let ⟨_, p, s⟩ := h; ⟨_, pe_lst p, sx_lst s⟩
theorem d_tup {es : List Expr} {j : Nat} {pos : Pos} {f : Δ → Option (List D × Δ)} (h : AX X K es f) : DX X K (.Tuple es j pos) (eTup f) := let ⟨_, p, s⟩ := h; ⟨_, pe_tup p, sd_tup s⟩
theorem d_ix (Z : Fits X K k) {a b : Expr} {pos : Pos} {f : Δ → Option (P × Δ)} {g : Δ → Option (D × Δ)} (ha : EX X K a f) (hb : DX X K b g) (hs : PlainIx b := by intro _ _; rfl) : DX X K (.Subscript a b pos) (eIx f g) := by
  obtain ⟨_, p, s⟩ := ha
  obtain ⟨_, q, t⟩ := hb
  refine ⟨_, pe_ix (r := rIx X.K) ix_seq p q hs, ?_⟩
  rw [Z.K]
  exact sd_ix s t
theorem o_no : OX X K none eNo := ⟨_, po_none, so_no⟩
theorem o_yes {e : Expr} {g : Δ → Option (D × Δ)} (h : DX X K e g) : OX X K (some e) (eYes g) := let ⟨_, p, s⟩ := h; ⟨_, po_some p, so_yes s⟩
theorem x_sl (Z : Fits X K k) {e : Expr} {lo hi : Option Expr} {p2 pos : Pos} {f : Δ → Option (P × Δ)} {a b : Δ → Option (Option Int × Δ)} (he : EX X K e f) (ha : OX X K lo a) (hb : OX X K hi b) : EX X K (.Subscript e (.Slice lo hi none p2) pos) (eSl f a b) := by
  obtain ⟨_, p, s⟩ := he
  obtain ⟨_, q, t⟩ := ha
  obtain ⟨_, r, u⟩ := hb
  refine ⟨_, pe_slice (r := rSlU X.K) sl_any p q r, ?_⟩
  rw [Z.K]
  exact sx_sl s t u
theorem x_if {c a b : Expr} {pos : Pos} {t : Δ → Option (Bool × Δ)} {f g : Δ → Option (P × Δ)} (hc : TX X K c t) (ha : EX X K a f) (hb : EX X K b g) : EX X K (.IfExp c a b pos) (eIf t f g) :=
  let ⟨_, p, s⟩ := hc; let ⟨_, q, u⟩ := ha; let ⟨_, r, w⟩ := hb; ⟨_, pe_ifExp p q r, sx_if s u w⟩
theorem d_and {a b : Expr} {rest : List Expr} {pos : Pos} {f g : Δ → Option (D × Δ)} (ha : DX X K a f) (hb : DX X K (.BoolOp .And (b :: rest) pos) g) : DX X K (.BoolOp .And (a :: b :: rest) pos) (eAndV f g) :=
  let ⟨_, p, s⟩ := ha; let ⟨_, q, t⟩ := hb; ⟨_, pe_and p q, sd_andV s t⟩
theorem d_or {a b : Expr} {rest : List Expr} {pos : Pos} {f g : Δ → Option (D × Δ)} (ha : DX X K a f) (hb : DX X K (.BoolOp .Or (b :: rest) pos) g) : DX X K (.BoolOp .Or (a :: b :: rest) pos) (eOrV f g) :=
  let ⟨_, p, s⟩ := ha; let ⟨_, q, t⟩ := hb; ⟨_, pe_or p q, sd_orV s t⟩
theorem d_one {op : BoolOp} {a : Expr} {pos : Pos} {f : Δ → Option (D × Δ)} (ha : DX X K a f) : DX X K (.BoolOp op [a] pos) f := let ⟨_, p, s⟩ := ha; ⟨_, pe_one p, s⟩
theorem d_not {a : Expr} {pos : Pos} {f : Δ → Option (D × Δ)} (ha : DX X K a f) : DX X K (.UnaryOp .Not a pos) (eNotV f) := let ⟨_, p, s⟩ := ha; ⟨_, pe_not p, sd_notV s⟩
def negD : D → Option D
  | .int i => some (.int (-i))
  | _ => none
theorem ud_neg : UdR K (rU fun i => .int (-i)) negD := fun H x d z hx hg => by
  unfold negD at hg
  split at hg
  · cases hg
    exact ⟨_, rfl, fun Q q => ⟨_, dp_int hx, q⟩⟩
  · cases hg
theorem d_neg {a : Expr} {pos : Pos} {f : Δ → Option (D × Δ)} (ha : DX X K a f) : DX X K (.UnaryOp .USub a pos) (eUn negD f) := let ⟨_, p, s⟩ := ha; ⟨_, pe_un un_neg p, sd_un ud_neg s⟩
/-! ### conditions -/
theorem t_of {e : Expr} {f : Δ → Option (D × Δ)} (h : DX X K e f) (he : ∀ whole, isTrue e X.env whole = (do let v ← whole; standAt e.pos; holding [v] (truthy v)) := by intro _; rfl) : TX X K e (eT f) := let ⟨_, p, s⟩ := h; ⟨_, pt_val p he, st_bOf s⟩
theorem t_tru (Z : Fits X K k) {e : Expr} {f : Δ → Option (P × Δ)} (h : EX X K e f) (he : ∀ whole, isTrue e X.env whole = (do let v ← whole; standAt e.pos; holding [v] (truthy v)) := by intro _; rfl) : TX X K e (eTru f) := by
  obtain ⟨_, p, s⟩ := h
  refine ⟨_, pt_truth p he, ?_⟩
  rw [Z.K]
  exact st_tru s
theorem t_not {a : Expr} {pos : Pos} {f : Δ → Option (Bool × Δ)} (ha : TX X K a f) : TX X K (.UnaryOp .Not a pos) (eNot f) := let ⟨_, p, s⟩ := ha; ⟨_, pt_not p, st_not s⟩
theorem t_w {e : Expr} {f : Δ → Option (Bool × Δ)} (h : WX X K e f) : TX X K e f := let ⟨_, p, s⟩ := h; ⟨_, p.pt, s⟩
theorem w_and1 {a : Expr} {pos : Pos} {f : Δ → Option (Bool × Δ)} (ha : TX X K a f) : WX X K (.BoolOp .And [a] pos) f := let ⟨_, p, s⟩ := ha; ⟨_, pw_and1 p, s⟩
theorem w_or1 {a : Expr} {pos : Pos} {f : Δ → Option (Bool × Δ)} (ha : TX X K a f) : WX X K (.BoolOp .Or [a] pos) f := let ⟨_, p, s⟩ := ha; ⟨_, pw_or1 p, s⟩
theorem w_and {a b : Expr} {rest : List Expr} {pos : Pos} {f g : Δ → Option (Bool × Δ)} (ha : TX X K a f) (hb : WX X K (.BoolOp .And (b :: rest) pos) g) : WX X K (.BoolOp .And (a :: b :: rest) pos) (eAnd f g) :=
  let ⟨_, p, s⟩ := ha; let ⟨_, q, t⟩ := hb; ⟨_, pw_and p q, st_and s t⟩
theorem w_or {a b : Expr} {rest : List Expr} {pos : Pos} {f g : Δ → Option (Bool × Δ)} (ha : TX X K a f) (hb : WX X K (.BoolOp .Or (b :: rest) pos) g) : WX X K (.BoolOp .Or (a :: b :: rest) pos) (eOr f g) :=
  let ⟨_, p, s⟩ := ha; let ⟨_, q, t⟩ := hb; ⟨_, pw_or p q, st_or s t⟩
/-! ### targets, iterables -/
theorem g_name (i : Nat) {x : Str} {p : Pos} (hN : X.N.Nodup) (hi : X.N[i]? = some x := by rfl) (hx : Loc X.env.scope x := by first | exact .inl rfl | exact .inr rfl) (hf : X.fn x = true ∨ X.env.scope.names.lookup x = some .local := by first | exact .inl rfl | exact .inr rfl) : GX X K (.Name x p) [i] (hName i) :=
  ⟨_, pg_name hN hi hx hf, sg_name⟩
theorem gs_nil : GXs X K [] [] hNil := ⟨_, pgs_nil, sgs_nil⟩
theorem gs_cons {e : Expr} {es : List Expr} {ix jx : List Nat} {a : D → Δ → Option Δ} {b : List D → Δ → Option Δ} (h : GX X K e ix a) (hs : GXs X K es jx b) (hst : (assignEach (e :: es) X.env).map (·.2) = assign e X.env :: (assignEach es X.env).map (·.2) := by rfl) : GXs X K (e :: es) (ix ++ jx) (hCons a b) :=
  let ⟨_, p, s⟩ := h; let ⟨_, q, t⟩ := hs; ⟨_, pgs_cons p q hst, sgs_cons s t⟩
theorem g_tup (Z : Fits X K k) {es : List Expr} {j n : Nat} {pos : Pos} {ix : List Nat} {b : List D → Δ → Option Δ} (hs : GXs X K es ix b) (hn : (assignEach es X.env).length = n := by rfl) (hst : (assignEach es X.env).findIdx? (·.1) = none := by rfl) : GX X K (.Tuple es j pos) ix (hTup n b) := by
  obtain ⟨_, q, t⟩ := hs
  refine ⟨_, pg_tup Z.calm q hn hst, ?_⟩
  rw [Z.K]
  exact sg_tup t
theorem i_list (Z : Fits X K k) {tg e : Expr} {f : Δ → Option (D × Δ)} (h : DX X K e f) : IX X K tg e (eSeq f) := by
  obtain ⟨_, p, s⟩ := h
  refine ⟨_, pi_list p, ?_⟩
  rw [Z.K]
  exact si_list s
theorem i_tup (Z : Fits X K k) {tg e : Expr} {f : Δ → Option (D × Δ)} (h : DX X K e f) : IX X K tg e (eSeqT f) := by
  obtain ⟨_, p, s⟩ := h
  refine ⟨_, pi_tup p, ?_⟩
  rw [Z.K]
  exact si_tup s
theorem i_rng1 {tg a : Expr} {p pos : Pos} {f : Δ → Option (List D × Δ)} (h : AX X K [a] f) (hm : X.mg "range" = none) (hg : Gl X "range" := by rfl) (hs : starEach [a] X.env = [(false, eval a X.env)] := by rfl) : IX X K tg (.Call (.Name "range" p) [a] [] pos) (eRng1 f) := let ⟨_, q, s⟩ := h; ⟨_, pi_range1 hg hm q hs, si_rng1 s⟩
theorem i_rng2 {tg a b : Expr} {p pos : Pos} {f : Δ → Option (List D × Δ)} (h : AX X K [a, b] f) (hm : X.mg "range" = none) (hg : Gl X "range" := by rfl) (hs : starEach [a, b] X.env = [(false, eval a X.env), (false, eval b X.env)] := by rfl) (hs2 : starEach [b] X.env = [(false, eval b X.env)] := by rfl) :
    IX X K tg (.Call (.Name "range" p) [a, b] [] pos) (eRng2 f) := let ⟨_, q, s⟩ := h; ⟨_, pi_range2 hg hm q hs hs2, si_rng2 s⟩
/-! ### statements -/
theorem bs_nil : BXs X K [] mPass := ⟨_, pss_nil, ss_pass⟩
theorem bs_cons {s : Stmt} {r : List Stmt} {a b : Δ → Option Out} (h : BX X K s a) (hs : BXs X K r b) : BXs X K (s :: r) (mSeq a b) := let ⟨_, p, u⟩ := h; let ⟨_, q, t⟩ := hs; ⟨_, pss_cons p q, ss_seq u t⟩
theorem b_pass {pos : Pos} : BX X K (.Pass pos) mPass := ⟨_, ps_pass, ss_pass⟩
theorem b_brk {pos : Pos} : BX X K (.Break pos) mBrk := ⟨_, ps_break, ss_brk⟩
theorem b_cnt {pos : Pos} : BX X K (.Continue pos) mCnt := ⟨_, ps_continue, ss_cnt⟩
def mNever : Δ → Option Out := fun _ => none
theorem b_never {s : Stmt} : BX X K s mNever := ⟨_, ps_never, fun δ out e => by cases e⟩
theorem b_expr {e : Expr} {pos : Pos} {f : Δ → Option (P × Δ)} (h : EX X K e f) (hs : swapsWith e none pos.line X.env = pure false := by rfl) : BX X K (.Expr e pos) (mDrop f) := let ⟨_, p, s⟩ := h; ⟨_, ps_expr p hs, ss_drop s⟩
theorem b_ret {e : Expr} {pos : Pos} {f : Δ → Option (P × Δ)} (h : EX X K e f) : BX X K (.Return (some e) pos) (mRet f) := let ⟨_, p, s⟩ := h; ⟨_, ps_ret p, ss_ret s⟩
theorem b_retN {pos : Pos} : BX X K (.Return none pos) mRetN := ⟨_, ps_retN, ss_retN⟩
theorem b_if {c : Expr} {a b : List Stmt} {pos : Pos} {t : Δ → Option (Bool × Δ)} {f g : Δ → Option Out} (hc : TX X K c t) (ha : BXs X K a f) (hb : BXs X K b g) : BX X K (.If c a b pos) (mIf t f g) :=
  let ⟨_, p, s⟩ := hc; let ⟨_, q, u⟩ := ha; let ⟨_, r, w⟩ := hb; ⟨_, ps_if p q r, ss_if s u w⟩
theorem b_asg (i : Nat) {x : Str} {p pos : Pos} {e : Expr} {f : Δ → Option (P × Δ)} (hN : X.N.Nodup) (h : EX X K e f) (hi : X.N[i]? = some x := by rfl) (hx : Loc X.env.scope x := by first | exact .inl rfl | exact .inr rfl) (hf : X.fn x = true ∨ X.env.scope.names.lookup x = some .local := by first | exact .inl rfl | exact .inr rfl)
    (hs : swapsWithSole [.Name x p] e pos.line X.env = pure false := by rfl) (hw : swappedStores [.Name x p] e X.env = pure none := by rfl) (h1 : (assignEach [.Name x p] X.env).map (·.2) = [assign (.Name x p) X.env] := by rfl) : BX X K (.Assign [.Name x p] e pos) (mAsg i f) :=
  let ⟨_, q, s⟩ := h; ⟨_, ps_asg q (pg_name hN hi hx hf) hs hw h1, ss_asg s⟩
theorem b_tgt {tg e : Expr} {pos : Pos} {ix : List Nat} {f : Δ → Option (D × Δ)} {h : D → Δ → Option Δ} (he : DX X K e f) (hg : GX X K tg ix h) (hs : swapsWithSole [tg] e pos.line X.env = pure false := by rfl) (hw : swappedStores [tg] e X.env = pure none := by rfl)
    (h1 : (assignEach [tg] X.env).map (·.2) = [assign tg X.env] := by rfl) : BX X K (.Assign [tg] e pos) (mTgt f h) := let ⟨_, q, s⟩ := he; let ⟨_, r, t⟩ := hg; ⟨_, ps_asg q r hs hw h1, ss_tgt s t⟩
theorem b_for (Z : Fits X K k) {tg iter : Expr} {body : List Stmt} {pos : Pos} {ix : List Nat} {c : Δ → Option (List D × Δ)} {h : D → Δ → Option Δ} {b : Δ → Option Out} (hp : PassesOwn (model X.prog X.w) X.A X.env X.xe) (hi : IX X K tg iter c) (hg : GX X K tg ix h) (hb : BXs X K body b)
    (hs : ∀ x, foldedSetIterable iter X.env x = pure x := by intro _; rfl) : BX X K (.For tg iter body [] pos) (mFor c h b) := let ⟨_, p, s⟩ := hi; let ⟨_, q, t⟩ := hg; let ⟨_, r, u⟩ := hb; ⟨_, ps_for hp Z.calm p q r hs, ss_for s t u⟩
theorem b_while {c : Expr} {body : List Stmt} {pos : Pos} {t : Δ → Option (Bool × Δ)} {b : Δ → Option Out} (fuel : Nat) (hp : PassesOwn (model X.prog X.w) X.A X.env X.xe) (hc : TX X K c t) (hb : BXs X K body b) : BX X K (.While c body [] pos) (mWhile t b fuel) :=
  let ⟨_, p, s⟩ := hc; let ⟨_, r, u⟩ := hb; ⟨_, ps_while hp p r, ss_while s u fuel⟩
def augI (g : Int → Int → Int) : D → D → Option D
  | .int i, .int j => some (.int (g i j))
  | _, _ => none
theorem au_ip {g : Int → Int → Int} : AuR K (ipI g) (augI g) := fun H x y d e z hx hy hg => by
  unfold augI at hg
  split at hg
  · cases hg
    exact ⟨_, rfl, fun Q q => ⟨_, _, dp_int hx, dp_int hy, q⟩⟩
  · cases hg
theorem b_augI (i : Nat) {x : Str} {e : Expr} {op : Operator} {g : Int → Int → Int} {pos pos' : Pos} {f : Δ → Option (D × Δ)} (ho : PIp X op (ipI g)) (hN : X.N.Nodup) (he : DX X K e f) (hi : X.N[i]? = some x := by rfl) (hx : Loc X.env.scope x := by first | exact .inl rfl | exact .inr rfl)
    (hf : X.fn x = true ∨ X.env.scope.names.lookup x = some .local := by first | exact .inl rfl | exact .inr rfl) : BX X K (.AugAssign (.Name x pos') op e pos) (mAug i (augI g) f) := let ⟨_, p, s⟩ := he; ⟨_, ps_aug hN hi hx p ho hf, ss_aug au_ip s⟩
end
end Vu
end
section
set_option Elab.async false
set_option linter.all false
set_option maxRecDepth 100000
set_option maxHeartbeats 3000000
/-! What changes an own list: methods, stores, several names at once. -/
namespace Vv
open PySem PySem.Spec PyProof.Rows L2 Vi Vf Vo Vp Vs Vt Vu
section
variable {X : Cx} {K : Lay} {k : Nat} {F H F' H' F0 H0 : Hp} {σ σ' : L2.St} {δ δ' δ0 : Δ} {o : O}
/-- the items of an own list in slot i -/
def ownAt (δ : Δ) (i : Nat) : Option (List D) := match δ[i]? with
  | some (some (.ow ds)) => some ds
  | some (some (.ln ds)) => some ds
  | _ => none
def setOwn (δ : Δ) (i : Nat) (es : List D) : Δ := match δ[i]? with
  | some (some (.ln _)) => δ.set i (some (.ln es))
  | _ => δ.set i (some (.ow es))
theorem ownAt_eq {i : Nat} {ds : List D} (h : ownAt δ i = some ds) : ∃ o, δ[i]? = some (some o) ∧ (o = .ow ds ∨ o = .ln ds) ∧ ∀ es, setOwn δ i es = δ.set i (some (sameC o es)) := by
  unfold ownAt at h
  split at h
  · rename_i e; cases h; exact ⟨_, e, .inl rfl, fun es => by unfold setOwn; rw [e]; rfl⟩
  · rename_i e; cases h; exact ⟨_, e, .inr rfl, fun es => by unfold setOwn; rw [e]; rfl⟩
  · cases h
theorem own_ref (r : Rep K F H σ δ) {i : Nat} {ds : List D} (h1 : δ[i]? = some (some o)) (h2 : o = .ow ds ∨ o = .ln ds) : ∃ p xs, σ[i]? = some (some (.ref p)) ∧ H p = some (.lst xs) ∧ F p = none ∧ DpAll K F xs ds ∧ o.fp H (.ref p) = [p] := by
  obtain ⟨v, q1, q2, _⟩ := r.ok i o h1
  rcases h2 with rfl | rfl
  · obtain ⟨p, rfl, xs, e1, e2, e3⟩ := q2; exact ⟨p, xs, q1, e1, e2, e3, rfl⟩
  · obtain ⟨p, rfl, xs, e1, e2, e3⟩ := q2; exact ⟨p, xs, q1, e1, e2, e3, rfl⟩
theorem sameC_fp {p : Addr} {es : List D} : (sameC o es).fp H (.ref p) = [p] := by cases o <;> rfl
/-- an own list changes -/
theorem rep_mut (r : Rep K F H σ δ) {i : Nat} {p : Addr} {ys : List V} {ds es : List D} (h1 : δ[i]? = some (some o)) (h2 : o = .ow ds ∨ o = .ln ds) (hσ : σ[i]? = some (some (.ref p))) (d : DpAll K F ys es) :
    Rep K F (upd H p (.lst ys)) σ (δ.set i (some (sameC o es))) ∧ Go F H σ δ F (upd H p (.lst ys)) σ (δ.set i (some (sameC o es))) := by
  obtain ⟨p', xs, q1, q2, q3, q4, q5⟩ := own_ref r h1 h2
  rw [hσ] at q1; cases q1
  have ip : Own H σ δ i p := ⟨_, o, hσ, h1, by rw [q5]; exact List.mem_cons_self⟩
  have hlt : i < δ.length := (List.getElem?_eq_some_iff.mp h1).1
  have same : ∀ (j : Nat) (w : V) (u : O), j ≠ i → σ[j]? = some (some w) → δ[j]? = some (some u) → ∀ a ∈ u.fp H w, (upd H p (.lst ys)) a = H a := fun j w u hj e1 e2 a ha => upd_ne fun z => by
    subst z
    exact hj (r.ap j i a ⟨w, u, e1, e2, ha⟩ ip)
  have own_of : ∀ j a, Own (upd H p (.lst ys)) σ (δ.set i (some (sameC o es))) j a → Own H σ δ j a := fun j a ⟨w, u, e1, e2, e3⟩ => by
    by_cases hj : i = j
    · subst hj
      rw [hσ] at e1; cases e1
      rw [List.getElem?_set_self hlt] at e2; cases e2
      rw [sameC_fp] at e3
      rw [List.mem_singleton.mp e3]
      exact ip
    · rw [set_get_ne hj] at e2
      obtain ⟨w', z1, z2, _⟩ := r.ok j u e2
      rw [e1] at z1; cases z1
      rw [fp_frame z2 (same j w u (fun z => hj z.symm) e1 e2)] at e3
      exact ⟨w, u, e1, e2, e3⟩
  refine ⟨⟨fun a x e => ?_, by rw [List.length_set]; exact r.len, fun j u hj => ?_, fun j l a hj hl => r.ap j l a (own_of j a hj) (own_of l a hl), r.tb⟩, ⟨.rfl, fun a x e n => ⟨x, ?_, .rfl⟩, fun a z => .inl z, fun a ⟨j, hj⟩ => .inl ⟨j, own_of j a hj⟩, fun a z => ?_, fun j ds' hj => ⟨rfl, ?_⟩⟩⟩
  · rw [upd_ne (show a ≠ p by intro z; subst z; rw [q3] at e; cases e)]; exact r.kp a x e
  · by_cases hij : i = j
    · subst hij
      rw [List.getElem?_set_self hlt] at hj; cases hj
      refine ⟨_, hσ, ?_, by rw [sameC_fp]; simp⟩
      have : OwL K F (upd H p (.lst ys)) p es := ⟨ys, upd_same, q3, d⟩
      rcases h2 with rfl | rfl
      · exact ⟨p, rfl, this⟩
      · exact ⟨p, rfl, this⟩
    · rw [set_get_ne hij] at hj
      obtain ⟨w, e1, e2, e3⟩ := r.ok j u hj
      have s := same j w u (fun z => hij z.symm) e1 hj
      exact ⟨w, e1, ok_frame .rfl e2 fun a ha => ⟨s a ha, (ok_fp e2 a ha).2⟩, by rw [fp_frame e2 s]; exact e3⟩
  · rw [upd_ne fun z => n (by subst z; exact ⟨i, ip⟩)]; exact e
  · by_cases h : a = p
    · subst h; rw [upd_same]; simp
    · rw [upd_ne h]; exact z
  · by_cases hij : i = j
    · subst hij
      rw [h1] at hj; cases hj
      rcases h2 with h2 | h2
      · cases h2
      · exact ⟨es, List.getElem?_set_self hlt⟩
    · exact ⟨ds', by rw [set_get_ne hij]; exact hj⟩
theorem mut_aft (a : Aft K F0 H0 σ δ0 F H δ) {i : Nat} {p : Addr} {ys : List V} {ds es : List D} (h1 : δ[i]? = some (some o)) (h2 : o = .ow ds ∨ o = .ln ds) (hσ : σ[i]? = some (some (.ref p))) (d : DpAll K F ys es) : Aft K F0 H0 σ δ0 F (upd H p (.lst ys)) (δ.set i (some (sameC o es))) := by
  obtain ⟨r, g⟩ := rep_mut a.rep h1 h2 hσ d
  have hlt : i < δ.length := (List.getElem?_eq_some_iff.mp h1).1
  refine ⟨r, a.go.trans g, fun j x h => ?_, fun j fs h => ?_⟩
  · obtain ⟨x', e⟩ := a.un j x h
    by_cases hij : i = j
    · subst hij; exact ⟨_, List.getElem?_set_self hlt⟩
    · exact ⟨x', by rw [set_get_ne hij]; exact e⟩
  · by_cases hij : i = j
    · subst hij
      rw [List.getElem?_set_self hlt] at h
      rcases h2 with rfl | rfl
      · cases h
      · exact a.nl i ds h1
    · rw [set_get_ne hij] at h
      exact a.nl j fs h
/-- a method of a list that changes it: what it does to the items, what it gives -/
def MuR (K : Lay) (r : V → List V → Hp → VK → Prop) (m : List D → List D → Option (D × List D)) : Prop := ∀ F H p xs ds vs as z es, H p = some (.lst xs) → DpAll K F xs ds → DpAll K F vs as → m ds as = some (z, es) → ∃ ys w, DpAll K F ys es ∧ Dp K F w z ∧ ∀ Q : VK, Q w (upd H p (.lst ys)) → r (.ref p) vs H Q
def eMeth (i : Nat) (m : List D → List D → Option (D × List D)) (g : Δ → Option (List D × Δ)) : Δ → Option (D × Δ) := fun δ => (ownAt δ i).bind fun _ => (g δ).bind fun r => (ownAt r.2 i).bind fun ds => (m ds r.1).map fun z => (z.1, setOwn r.2 i z.2)
theorem sd_meth {r : V → List V → Hp → VK → Prop} {m : List D → List D → Option (D × List D)} {ta : TA} {g : Δ → Option (List D × Δ)} {i : Nat} (hr : MuR K r m) (hg : SDs K ta g) : SD K (tBM K "list" r (tVar i) ta) (eMeth i m g) := fun δ d δ' e σ F H rp Q kq => by
  obtain ⟨ds0, e0, e⟩ := Option.bind_eq_some_iff.mp e
  obtain ⟨⟨as, δ1⟩, e1, e⟩ := Option.bind_eq_some_iff.mp e
  obtain ⟨ds, e2, e⟩ := Option.bind_eq_some_iff.mp e
  obtain ⟨⟨z, es⟩, e3, e4⟩ := Option.map_eq_some_iff.mp e
  cases e4
  obtain ⟨o0, h1, h2, _⟩ := ownAt_eq e0
  obtain ⟨p, xs, q1, q2, q3, q4, _⟩ := own_ref rp h1 h2
  refine ⟨.ref p, q1, .inl ⟨rfl, xs, SqL.of q2⟩, ?_⟩
  refine hg δ as δ1 e1 σ F H rp _ fun vs F1 H1 a1 d1 => ?_
  obtain ⟨o1, h3, h4, h5⟩ := ownAt_eq e2
  obtain ⟨p', xs', q1', q2', q3', q4', _⟩ := own_ref a1.rep h3 h4
  rw [q1] at q1'; cases q1'
  obtain ⟨ys, w, w1, w2, w3⟩ := hr F1 H1 p xs' ds vs as z es q2' q4' d1 e3
  refine w3 _ ?_
  have a2 := mut_aft a1 h3 h4 q1 w1
  dsimp only at kq
  rw [h5 es] at kq
  exact kq w F1 _ a2 w2
/-! the methods -/
def mApp : List D → List D → Option (D × List D) := fun ds as => match as with
  | [d] => if ds.length < sizeLine then some (.none, ds ++ [d]) else none
  | _ => none
theorem mu_app : MuR K rAppend mApp := fun F H p xs ds vs as z es h1 h2 h3 e => by
  unfold mApp at e
  split at e
  · split at e
    · rename_i hl; cases e
      obtain ⟨v, rfl, hv⟩ := one_dp h3
      exact ⟨xs ++ [v], .non, dpa_app h2 (.cons hv .nil), .non, fun Q q => ⟨p, xs, v, rfl, rfl, h1, by rw [dpa_len h2]; exact hl, q⟩⟩
    · cases e
  · cases e
def mPopI : List D → List D → Option (D × List D) := fun ds as => match as with
  | [.int i] => if -(2 ^ 63) ≤ i ∧ i < 2 ^ 63 then (seqIndex? i ds.length).bind fun k => (ds[k]?).map fun d => (d, ds.eraseIdx k) else none
  | _ => none
theorem mu_popI : MuR K rPopAt mPopI := fun F H p xs ds vs as z es h1 h2 h3 e => by
  unfold mPopI at e
  split at e
  · split at e
    · rename_i i hl
      obtain ⟨k, e1, e2⟩ := Option.bind_eq_some_iff.mp e
      obtain ⟨d, e3, e4⟩ := Option.map_eq_some_iff.mp e2
      cases e4
      obtain ⟨v, rfl, hv⟩ := one_dp h3
      obtain ⟨w, g1, g2⟩ := dpa_get h2 e3
      exact ⟨xs.eraseIdx k, w, dpa_erase k h2, g2, fun Q q => ⟨p, xs, i, k, w, rfl, by rw [dp_int hv], h1, hl.1, hl.2, by rw [dpa_len h2]; exact e1, g1, q⟩⟩
    · cases e
  · cases e
theorem x_meth (Z : Fits X K k) (i : Nat) {x name : Str} {id : String} {e : Expr} {es : List Expr} {xp apos pos : Pos} {r : V → List V → Hp → VK → Prop} {m : List D → List D → Option (D × List D)} {g : Δ → Option (List D × Δ)} (slot : Slot "list" name id) (hty : typeOf (.builtin id) = pure (.type "method_descriptor")) (hm : MtR X id r) (hr : MuR K r m) (ha : AX X K (e :: es) g)
    (hN : X.N[i]? = some x := by rfl) (hv : Vis X.env.scope x := by first | exact Or.inl rfl | exact Or.inr (Or.inl rfl) | exact Or.inr (Or.inr rfl)) (hd : (x == ("__debug__" : Str)) = false := by decide) (hcd : (x == ("__classdict__" : Str)) = false := by decide)
    (hbase : attributeBase (.Name x xp) name X.env (eval (.Name x xp) X.env) = eval (.Name x xp) X.env := by rfl)
    (hfew : ((backTo pos (starEach (e :: es) X.env)).all (fun x => !x.1) && (backToKw pos (keywordEach [] X.env)).all (fun x => x.1.isSome) && decide ((e :: es).length + ([] : List Keyword).length + (if ([] : List Keyword).isEmpty then 0 else 1) < 30)) = true := by rfl)
    (hline : (apos.endLine == pos.line) = true := by rfl) (hs : starEach (e :: es) X.env = (false, eval e X.env) :: starEach es X.env := by rfl) (hpl : (backTo pos (starEach es X.env)).any (·.1) = false := by rfl) :
    DX X K (.Call (.Attribute (.Name x xp) name apos) (e :: es) [] pos) (eMeth i m g) := by
  obtain ⟨ta, p, s⟩ := ha
  refine ⟨_, pe_bm PySem.F.plainAttrs_list slot hty hm (pe_var (i := i) hN hv hd hcd) p hbase hfew hline hs hpl, ?_⟩
  rw [Z.K]
  exact sd_meth hr s
/-! ### targets that write to an own list -/
structure SM (K : Lay) (g : TG) (h : D → Δ → Option Δ) : Prop where
  run : ∀ d δ δ', h d δ = some δ' → ∀ σ F H v, Rep K F H σ δ → Dp K F v d → ∀ Q : L2.St → Hp → Prop, (∀ σ' F' H', Rep K F' H' σ' δ' → Go F H σ δ F' H' σ' δ' → Q σ' H') → g v σ H Q
structure SMs (K : Lay) (g : TGs) (h : List D → Δ → Option Δ) : Prop where
  run : ∀ ds δ δ', h ds δ = some δ' → ∀ σ F H vs, Rep K F H σ δ → DpAll K F vs ds → ∀ Q : L2.St → Hp → Prop, (∀ σ' F' H', Rep K F' H' σ' δ' → Go F H σ δ F' H' σ' δ' → Q σ' H') → g vs σ H Q
def MX (X : Cx) (K : Lay) (e : Expr) (h : D → Δ → Option Δ) : Prop := ∃ g, PG X e g ∧ SM K g h
def MXs (X : Cx) (K : Lay) (es : List Expr) (h : List D → Δ → Option Δ) : Prop := ∃ g, PGs X es g ∧ SMs K g h
theorem sm_of {g : TG} {ix : List Nat} {h : D → Δ → Option Δ} (s : SG K g ix h) : SM K g h := ⟨fun d δ δ' e σ F H v r hd Q k => s.run d δ δ' e σ F H v r hd Q fun σ' r' g' _ _ _ _ => k σ' F H r' g'⟩
theorem m_of {e : Expr} {ix : List Nat} {h : D → Δ → Option Δ} (s : GX X K e ix h) : MX X K e h := let ⟨_, p, t⟩ := s; ⟨_, p, sm_of t⟩
theorem sms_nil : SMs K gNil hNil := ⟨fun ds δ δ' e σ F H vs r hd Q k => sgs_nil.run ds δ δ' e σ F H vs r hd Q fun σ' r' g' _ _ _ _ => k σ' F H r' g'⟩
theorem sms_cons {g : TG} {gs : TGs} {a : D → Δ → Option Δ} {b : List D → Δ → Option Δ} (ha : SM K g a) (hb : SMs K gs b) : SMs K (gCons g gs) (hCons a b) := ⟨fun ds δ δ' e σ F H vs r hd Q k => by
  cases ds with
  | nil => cases e
  | cons d ds =>
    obtain ⟨δ1, e1, e2⟩ := Option.bind_eq_some_iff.mp e
    cases hd with
    | cons h1 h2 =>
      refine ⟨_, _, rfl, ha.run d δ δ1 e1 σ F H _ r h1 _ fun σ1 F1 H1 r1 g1 => ?_⟩
      exact hb.run ds δ1 δ' e2 σ1 F1 H1 _ r1 (dpa_mono g1.kf h2) _ fun σ2 F2 H2 r2 g2 => k σ2 F2 H2 r2 (g1.trans g2)⟩
theorem sm_tup {n : Nat} {gs : TGs} {b : List D → Δ → Option Δ} (hb : SMs K gs b) : SM K (gTup K n gs) (hTup n b) := ⟨fun d δ δ' e σ F H v r hd Q k => by
  cases d with
  | tuple ds =>
    simp only [hTup] at e
    split at e
    · rename_i hl
      obtain ⟨a, xs, rfl, h1, h2⟩ := dp_tuple hd
      exact ⟨a, xs, rfl, r.kp.sqT h1, by rw [dpa_len h2]; exact hl, hb.run ds δ δ' e σ F H xs r h2 Q k⟩
    · cases e
  | _ => cases e⟩
theorem ms_nil : MXs X K [] hNil := ⟨_, pgs_nil, sms_nil⟩
theorem ms_cons {e : Expr} {es : List Expr} {a : D → Δ → Option Δ} {b : List D → Δ → Option Δ} (h : MX X K e a) (hs : MXs X K es b) (hst : (assignEach (e :: es) X.env).map (·.2) = assign e X.env :: (assignEach es X.env).map (·.2) := by rfl) : MXs X K (e :: es) (hCons a b) :=
  let ⟨_, p, s⟩ := h; let ⟨_, q, t⟩ := hs; ⟨_, pgs_cons p q hst, sms_cons s t⟩
theorem m_tup (Z : Fits X K k) {es : List Expr} {j n : Nat} {pos : Pos} {b : List D → Δ → Option Δ} (hs : MXs X K es b) (hn : (assignEach es X.env).length = n := by rfl) (hst : (assignEach es X.env).findIdx? (·.1) = none := by rfl) : MX X K (.Tuple es j pos) (hTup n b) := by
  obtain ⟨_, q, t⟩ := hs
  refine ⟨_, pg_tup Z.calm q hn hst, ?_⟩
  rw [Z.K]
  exact sm_tup t
def hSub (i : Nat) (gj : Δ → Option (D × Δ)) : D → Δ → Option Δ := fun d δ => (ownAt δ i).bind fun _ => (gj δ).bind fun r => match r.1 with
  | .int n => (ownAt r.2 i).bind fun ds => (ixN ds.length n).map fun j => setOwn r.2 i (ds.set j d)
  | _ => none
theorem sm_sub {tj : TE} {gj : Δ → Option (D × Δ)} {i : Nat} (hj : SD K tj gj) : SM K (gSub (tVar i) tj L2.rSetL) (hSub i gj) := ⟨fun d δ δ' e σ F H v r hd Q kq => by
  obtain ⟨ds0, e0, e⟩ := Option.bind_eq_some_iff.mp e
  obtain ⟨⟨dj, δ1⟩, e1, e⟩ := Option.bind_eq_some_iff.mp e
  cases dj with
  | int n =>
    obtain ⟨ds, e2, e⟩ := Option.bind_eq_some_iff.mp e
    obtain ⟨j, e3, e4⟩ := Option.map_eq_some_iff.mp e
    subst e4
    obtain ⟨o0, h1, h2, _⟩ := ownAt_eq e0
    obtain ⟨p, xs, q1, q2, q3, q4, _⟩ := own_ref r h1 h2
    refine ⟨.ref p, q1, ?_⟩
    refine hj δ _ δ1 e1 σ F H r _ fun w F1 H1 a1 d1 => ?_
    obtain ⟨o1, h3, h4, h5⟩ := ownAt_eq e2
    obtain ⟨p', xs', q1', q2', q3', q4', _⟩ := own_ref a1.rep h3 h4
    rw [q1] at q1'; cases q1'
    refine ⟨p, xs', n, j, rfl, dp_int d1, q2', by rw [dpa_len q4']; exact e3, ?_⟩
    obtain ⟨r2, g2⟩ := rep_mut a1.rep h3 h4 q1 (dpa_set (dp_mono a1.go.kf hd) j q4')
    dsimp only at kq
    rw [h5] at kq
    exact kq σ F1 _ r2 (a1.go.trans g2)
  | _ => cases e⟩
theorem m_sub (i : Nat) {x : Str} {b : Expr} {xp pos : Pos} {g : Δ → Option (D × Δ)} (hb : DX X K b g) (hN : X.N[i]? = some x := by rfl) (hv : Vis X.env.scope x := by first | exact Or.inl rfl | exact Or.inr (Or.inl rfl) | exact Or.inr (Or.inr rfl)) (hd : (x == ("__debug__" : Str)) = false := by decide) (hcd : (x == ("__classdict__" : Str)) = false := by decide)
    (ha : ∀ v, assign (.Subscript (.Name x xp) b pos) X.env v = (do
      let ov ← holding [v] (eval (.Name x xp) X.env)
      let iv ← holding [v, ov] (eval b X.env)
      standAt pos
      holding [v, ov, iv] (setItem ov iv v)
      release [v, ov, iv] []) := by intro _; rfl) : MX X K (.Subscript (.Name x xp) b pos) (hSub i g) :=
  let ⟨_, p, s⟩ := hb; ⟨_, pg_sub (pe_var (i := i) hN hv hd hcd) p set_list ha, sm_sub s⟩
theorem ss_tgtM {te : TE} {g : TG} {f : Δ → Option (D × Δ)} {h : D → Δ → Option Δ} (hf : SD K te f) (hg : SM K g h) : SS K (tAsg te g) (mTgt f h) := fun δ out e σ F H r E kq => by
  obtain ⟨⟨d, δ1⟩, e1, e⟩ := Option.bind_eq_some_iff.mp e
  obtain ⟨δ2, e2, e⟩ := Option.map_eq_some_iff.mp e
  cases e
  exact hf δ d δ1 e1 σ F H r _ fun v F1 H1 a1 p1 => hg.run d δ1 δ2 e2 σ F1 H1 v a1.rep p1 _ fun σ2 F2 H2 r2 g2 => kq σ2 F2 H2 r2 (a1.go.trans g2)
theorem b_mtgt {tg e : Expr} {pos : Pos} {f : Δ → Option (D × Δ)} {h : D → Δ → Option Δ} (he : DX X K e f) (hg : MX X K tg h) (hs : swapsWithSole [tg] e pos.line X.env = pure false := by rfl) (hw : swappedStores [tg] e X.env = pure none := by rfl)
    (h1 : (assignEach [tg] X.env).map (·.2) = [assign tg X.env] := by rfl) : BX X K (.Assign [tg] e pos) (mTgt f h) := let ⟨_, q, s⟩ := he; let ⟨_, r, t⟩ := hg; ⟨_, ps_asg q r hs hw h1, ss_tgtM s t⟩
/-! ### divmod -/
def rDvm : List V → Hp → VK → Prop := fun xs H Q => ∃ i j, xs = [.int i, .int j] ∧ CDiv i j ∧ ∀ p, H p = none → Q (.ref p) (upd H p (.tup [.int (i / j), .int (i % j)]))
def dvmO : List D → Option O
  | [.int i, .int j] => if 0 < j ∧ j < 1073741824 then some (.fz (.tuple [.int (i / j), .int (i % j)])) else none
  | _ => none
theorem cd_dvm : CdR K rDvm dvmO := fun F H vs ds o kp hx hg Q gv => by
  unfold dvmO at hg
  split at hg
  · split at hg
    · rename_i h; cases hg
      exact ⟨_, _, two_int hx, h, fun p hp => gv.tup kp (.cons (.int _) (.cons (.int _) .nil)) hp⟩
    · cases hg
  · cases hg
theorem x_dvm {a b : Expr} {p pos : Pos} {f : Δ → Option (List D × Δ)} (he : AX X K [a, b] f) (hm : X.mg "divmod" = none) (hg : Gl X "divmod" := by rfl) (hst : starEach [a, b] X.env = (false, eval a X.env) :: starEach [b] X.env := by rfl) (hpl : (backTo pos (starEach [b] X.env)).any (·.1) = false := by rfl) :
    EX X K (.Call (.Name "divmod" p) [a, b] [] pos) (eCall dvmO f) := x_call (r := rDvm) call_divmod cd_dvm he hm hg (by decide +kernel) (by decide) (by decide) hst hpl
end
end Vv
end
section
set_option Elab.async false
set_option linter.all false
set_option maxRecDepth 100000
set_option maxHeartbeats 3000000
/-! any, all of a generator expression, over values. -/
namespace Vw
open PySem PySem.Spec PyProof.Rows L2 Vi Vf Vo Vp Vs Vt Vu Vv Vg
section
variable {X : Cx} {K : Lay} {k : Nat} {F H F' H' F0 H0 F1 H1 F2 H2 : Hp} {σ σ' : L2.St} {δ δ' δ0 : Δ} {o : O}
theorem new_trans (a : New F H F1 H1) (b : New F1 H1 F2 H2) : New F H F2 H2 where
  kf := a.kf.trans b.kf
  up := b.up
  kh := a.kh.trans b.kh
  nf := fun z hz => (b.nf z hz).elim (a.nf z) fun h => .inr (by
    cases q : H z with
    | none => rfl
    | some x => obtain ⟨u, e, _⟩ := a.kh z x q; rw [h] at e; cases e)
/-- where no slot holds anything, all that stood is kept -/
theorem new_of_go (r : Rep K F' H' σ' δ') (g : Go F H σ δ F' H' σ' δ') (n : ∀ a, ¬ Held H σ δ a) : New F H F' H' := ⟨g.kf, r.kp, fun a o e => g.kh a o e (n a), fun z hz => (g.nf z hz).elim .inl fun h => .inr (h.resolve_right (n z))⟩
def isFz : Option O → Bool
  | some (.fz _) => true
  | none => true
  | _ => false
theorem fz_held (h : δ.all isFz = true) (a : Addr) : ¬ Held H σ δ a := fun ⟨i, v, o, _, e2, e3⟩ => by
  have := List.all_eq_true.mp h (some o) (List.mem_of_getElem? e2)
  cases o <;> first | cases e3 | cases this
/-! ### what it captures -/
def frz1 (δ : Δ) (j : Nat) : Δ := match force (.sl j) δ with
  | some r => r.2
  | none => δ
def frzAll (cap : List Nat) (δ : Δ) : Δ := cap.foldl frz1 δ
theorem frz1_ok (a : Aft K F0 H0 σ δ0 F H δ) (j : Nat) : ∃ F', Aft K F0 H0 σ δ0 F' H (frz1 δ j) ∧ Kp F F' := by
  unfold frz1
  cases q : force (.sl j) δ with
  | none => exact ⟨F, a, .rfl⟩
  | some r =>
    obtain ⟨d, δ1⟩ := r
    have hs : ∃ o, δ[j]? = some (some o) := by
      cases e : δ[j]? with
      | none => simp [force, e] at q
      | some u =>
        cases u with
        | none => simp [force, e] at q
        | some o => exact ⟨o, rfl⟩
    obtain ⟨o, ho⟩ := hs
    obtain ⟨v, e1, _⟩ := a.rep.ok j o ho
    obtain ⟨F', a', _, kf, _⟩ := force_ok (p := .sl j) (v := v) a ⟨e1, o, ho⟩ (fun z hz => by cases hz) q
    exact ⟨F', a', kf⟩
theorem frzAll_ok : ∀ (cap : List Nat) {F : Hp} {δ : Δ}, Aft K F0 H0 σ δ0 F H δ → ∃ F', Aft K F0 H0 σ δ0 F' H (frzAll cap δ) ∧ Kp F F'
  | [], F, δ, a => ⟨F, a, .rfl⟩
  | j :: cap, F, δ, a => by
    obtain ⟨F1, a1, k1⟩ := frz1_ok a j
    obtain ⟨F2, a2, k2⟩ := frzAll_ok cap a1
    exact ⟨F2, a2, k1.trans k2⟩
def cgOf (nt : Nat) (cap : List Nat) (σ : L2.St) : L2.St := List.replicate nt none ++ cap.map fun j => (σ[j]?).getD none
def gΔ1 (δ : Δ) (j : Nat) : Option O := match δ[j]? with
  | some (some (.fz d)) => some (.fz d)
  | _ => none
def gΔ (nt : Nat) (cap : List Nat) (δ : Δ) : Δ := List.replicate nt none ++ cap.map (gΔ1 δ)
theorem gΔ_fz (nt : Nat) (cap : List Nat) (δ : Δ) : (gΔ nt cap δ).all isFz = true := by
  unfold gΔ
  rw [List.all_append, Bool.and_eq_true, List.all_eq_true, List.all_eq_true]
  refine ⟨fun x hx => ?_, fun x hx => ?_⟩
  · rw [List.eq_of_mem_replicate hx]; rfl
  · obtain ⟨j, _, e⟩ := List.mem_map.mp hx
    subst e
    unfold gΔ1
    split <;> rfl
theorem rep_g (r : Rep K F H σ δ) (nt : Nat) (cap : List Nat) : Rep K F H (cgOf nt cap σ) (gΔ nt cap δ) := by
  refine ⟨r.kp, by simp [cgOf, gΔ], fun i u hu => ?_, fun i j a hi _ => absurd ⟨i, hi⟩ (fz_held (gΔ_fz nt cap δ) a), r.tb⟩
  unfold gΔ at hu
  by_cases hn : i < nt
  · rw [List.getElem?_append_left (by simpa using hn), List.getElem?_replicate, if_pos hn] at hu; cases hu
  · have hn' : nt ≤ i := by omega
    rw [List.getElem?_append_right (by simpa using hn'), List.length_replicate, List.getElem?_map] at hu
    obtain ⟨j, e1, e2⟩ := Option.map_eq_some_iff.mp hu
    unfold gΔ1 at e2
    split at e2
    · rename_i d hd
      cases e2
      obtain ⟨v, q1, q2, _⟩ := r.ok j _ hd
      refine ⟨v, ?_, q2, by simp [O.fp]⟩
      unfold cgOf
      rw [List.getElem?_append_right (by simpa using hn'), List.length_replicate, List.getElem?_map, e1]
      show some ((σ[j]?).getD none) = _
      rw [q1]; rfl
    · cases e2
/-! ### the walk -/
def walkG (e : Bool) (h : D → Δ → Option Δ) (f : Δ → Option (D × Δ)) : List D → Δ → Option Bool
  | [], _ => some (!e)
  | d :: ds, δ => (h d δ).bind fun δ1 => (f δ1).bind fun r => (bOf r.1).bind fun b => if b = e then some e else walkG e h f ds r.2
def eWalk (e : Bool) (nt : Nat) (cap : List Nat) (c : Δ → Option (List D × Δ)) (h : D → Δ → Option Δ) (f : Δ → Option (D × Δ)) : Δ → Option (D × Δ) := fun δ => (c δ).bind fun r =>
  (walkG e h f r.1 (gΔ nt cap (frzAll cap r.2))).map fun b => (.bool b, frzAll cap r.2)
theorem go_held {δ2 : Δ} (g : Go F H σ δ F' H' σ' δ2) (n : ∀ a, ¬ Held H σ δ a) : ∀ a, Held H' σ' δ2 a → H a = none := fun a h => (g.hd a h).resolve_left (n a)
theorem rep_tab (r : Rep K F H σ δ) {T : Addr} (hT : T ∈ K.T) (t : GxR.Tabbed T H H1) : New F H F H1 := by
  obtain ⟨ps, e1, tr1⟩ := r.tab hT
  obtain ⟨⟨qs, e2, tr2⟩, same⟩ := t
  have kh : Kp H H1 := fun a o e => by
    by_cases ha : a = T
    · subst ha
      rw [e1] at e; cases e
      exact ⟨_, e2, .inr ⟨ps, qs, rfl, rfl, fun _ => tr2⟩⟩
    · exact ⟨o, by rw [same a ha]; exact e, .rfl⟩
  exact ⟨.rfl, r.kp.trans kh, kh, fun z hz => .inl hz⟩
theorem sd_walk {T : Addr} (hT : T ∈ K.T) {e : Bool} {nt : Nat} {cap : List Nat} {wi : TI} {g : TG} {te : TE} {ix : List Nat} {c : Δ → Option (List D × Δ)} {h : D → Δ → Option Δ} {f : Δ → Option (D × Δ)} (hi : SI K wi c) (hg : SG K g ix h) (he : SD K te f) :
    SD K (tWalk e T (cgOf nt cap) wi g te) (eWalk e nt cap c h f) := fun δ d δ' ee σ F H r Q kq => by
  obtain ⟨⟨ds, δ1⟩, e1, ee⟩ := Option.bind_eq_some_iff.mp ee
  obtain ⟨bb, e2, e3⟩ := Option.map_eq_some_iff.mp ee
  cases e3
  refine hi δ ds δ1 e1 σ F H r _ fun J F1 H1 a1 w => ⟨a1.rep.tab hT, fun H2 tb => ?_⟩
  obtain ⟨G, Y, wk, hG, hY⟩ := w
  obtain ⟨F2, a2, k12⟩ := frzAll_ok cap a1
  have n2 := rep_tab a2.rep hT tb
  have a3 := a2.trans (n2.aft a2.rep)
  -- what stays of the walk
  let W : Nat → Nat → L2.St → Hp → Prop := fun i m σg H3 => ∃ F3 δg, Rep K F3 H3 σg δg ∧ New F2 H2 F3 H3 ∧ (∀ a, Held H3 σg δg a → H2 a = none) ∧ walkG e h f (ds.drop i) δg = some bb ∧ m = ds.length - i ∧ i ≤ ds.length
  have stopQ : ∀ {F3 H3 : Hp}, New F2 H2 F3 H3 → Q (.bl bb) H3 := fun n3 => kq _ _ _ (a3.trans (n3.aft a3.rep)) (.bl bb)
  refine ⟨W, ds.length, ⟨F2, gΔ nt cap (frzAll cap δ1), rep_g a3.rep nt cap, .rfl a3.rep.kp, fun a ha => absurd ha (fz_held (gΔ_fz nt cap _) a), by simpa using e2, by simp, Nat.zero_le _⟩, ?_⟩
  rintro i m σg H3 ⟨F3, δg, r3, n3, hd3, e4, rfl, hle⟩
  have kf3 : Kp F1 F3 := k12.trans n3.kf
  by_cases hlt : i < ds.length
  · refine .inr ⟨wk.goes i H3 hlt (hG H3 (kf3.trans r3.kp)), fun x H4 y => ?_⟩
    obtain ⟨d, F4, q1, n4, d4⟩ := hY i H3 x H4 F3 hlt kf3 r3.kp (wk.yields i H3 x H4 hlt (hG H3 (kf3.trans r3.kp)) y)
    have a4 := n4.aft r3
    have ed : ds.drop i = d :: ds.drop (i + 1) := by
      obtain ⟨q2, q3⟩ := List.getElem?_eq_some_iff.mp q1
      rw [List.drop_eq_getElem_cons q2, q3]
    rw [ed] at e4
    obtain ⟨δ5, e5, e6⟩ := Option.bind_eq_some_iff.mp e4
    obtain ⟨⟨z, δ6⟩, e7, e8⟩ := Option.bind_eq_some_iff.mp e6
    obtain ⟨b, e9, e10⟩ := Option.bind_eq_some_iff.mp e8
    refine hg.run d δg δ5 e5 σg F4 H4 x a4.rep d4 _ fun σ5 r5 g5 _ _ _ _ => ?_
    refine he δ5 z δ6 e7 σ5 F4 H4 r5 _ fun v F6 H6 a6 d6 => ?_
    have gAll := (a4.go.trans g5).trans a6.go
    -- nothing that stood at H2 has changed
    have n6 : New F2 H2 F6 H6 := by
      refine ⟨n3.kf.trans gAll.kf, a6.rep.kp, fun a o ea => ?_, fun a hz => ?_⟩
      · obtain ⟨u, eu, lu⟩ := n3.kh a o ea
        obtain ⟨w, ew, lw⟩ := gAll.kh a u eu fun hh => by
          have := hd3 a hh
          rw [ea] at this; cases this
        exact ⟨w, ew, lu.trans lw⟩
      · rcases gAll.nf a hz with hh | hh | hh
        · exact n3.nf a hh
        · refine .inr ?_
          cases q : H2 a with
          | none => rfl
          | some x0 => obtain ⟨u, eu, _⟩ := n3.kh a x0 q; rw [hh] at eu; cases eu
        · exact .inr (hd3 a hh)
    have hd6 : ∀ a, Held H6 σ5 δ6 a → H2 a = none := fun a hh => by
      rcases gAll.hd a hh with q | q
      · exact hd3 a q
      · cases q2 : H2 a with
        | none => rfl
        | some x0 => obtain ⟨u, eu, _⟩ := n3.kh a x0 q2; rw [q] at eu; cases eu
    have eb := bOf_eq e9
    subst eb
    refine ⟨b, dp_bool d6, fun hb => ?_, fun hb => ?_⟩
    · rw [if_pos hb] at e10
      cases e10
      exact stopQ n6
    · rw [if_neg hb] at e10
      exact ⟨ds.length - (i + 1), by omega, F6, δ6, a6.rep, n6, hd6, e10, rfl, hlt⟩
  · have ei : i = ds.length := by omega
    subst ei
    refine .inl ⟨wk.stops H3 (hG H3 (kf3.trans r3.kp)), ?_⟩
    rw [List.drop_length] at e4
    cases e4
    exact stopQ n3
/-! ### many contexts at once -/
theorem DX.all {ι : Type} {Y : ι → Cx} {e : Expr} {f : Δ → Option (D × Δ)} (h : ∀ z, DX (Y z) K e f) : ∃ te, (∀ z, PE (Y z) e te) ∧ SD K te f :=
  ⟨fun σ H Q => ∀ z, (h z).choose σ H Q, fun z => ⟨fun pins s σ H Q I q => (h z).choose_spec.1.run pins s σ H Q I (q z)⟩, fun δ d δ' e σ F H r Q kq z => (h z).choose_spec.2 δ d δ' e σ F H r Q kq⟩
theorem TX.all {ι : Type} {Y : ι → Cx} {e : Expr} {f : Δ → Option (Bool × Δ)} (h : ∀ z, TX (Y z) K e f) : ∃ te, (∀ z, PT (Y z) e te) ∧ ST K te f :=
  ⟨fun σ H Q => ∀ z, (h z).choose σ H Q, fun z => ⟨fun pins s σ H Q I q => (h z).choose_spec.1.run pins s σ H Q I (q z)⟩, fun δ d δ' e σ F H r Q kq z => (h z).choose_spec.2 δ d δ' e σ F H r Q kq⟩
theorem GX.all {ι : Type} {Y : ι → Cx} {e : Expr} {ix : List Nat} {h : D → Δ → Option Δ} (g : ∀ z, GX (Y z) K e ix h) : ∃ t, (∀ z, PG (Y z) e t) ∧ SG K t ix h :=
  ⟨fun v σ H Q => ∀ z, (g z).choose v σ H Q, fun z => ⟨fun pins s σ H v u Q I r q => (g z).choose_spec.1.run pins s σ H v u Q I r (q z)⟩, ⟨fun d δ δ' e σ F H v r hd Q kq z => (g z).choose_spec.2.run d δ δ' e σ F H v r hd Q kq⟩⟩
/-- what a generator expression's context hangs on -/
abbrev GI := Shared × Hp × Value × List Addr
abbrev gxY (X : Cx) (N : List Str) (scope : Scope) (z : GI) : Cx := gxOf X N scope z.1 z.2.1 z.2.2.1 z.2.2.2
theorem fits_g {N : List Str} {scope : Scope} {z : GI} (Z : Fits X K (k + 1)) : Fits (gxY X N scope z) K k := ⟨Z.K, ⟨room_gx Z.can.room, Z.can.gd⟩, rfl⟩
/-- the captured names -/
def capOk (XN : List Str) (xs gs : Scope) : List Str → List Nat → Bool
  | [], [] => true
  | y :: ys, j :: js => (gs.names.lookup y == some .free) && (xs.names.lookup y == some .cell || xs.names.lookup y == some .free) && (XN[j]? == some y) && capOk XN xs gs ys js
  | _, _ => false
theorem capOk_at {XN : List Str} {xs gs : Scope} : ∀ {ys : List Str} {js : List Nat}, capOk XN xs gs ys js = true → ys.length = js.length ∧ ∀ (i : Nat) (y : Str), ys[i]? = some y → ∃ j, js[i]? = some j ∧ gs.names.lookup y = some .free ∧ (xs.names.lookup y = some .cell ∨ xs.names.lookup y = some .free) ∧ XN[j]? = some y
  | [], [], _ => ⟨rfl, fun i y h => by simp at h⟩
  | [], _ :: _, h => by cases h
  | _ :: _, [], h => by cases h
  | y :: ys, j :: js, h => by
    simp only [capOk, Bool.and_eq_true, Bool.or_eq_true, beq_iff_eq] at h
    obtain ⟨⟨⟨h1, h2⟩, h3⟩, h4⟩ := h
    obtain ⟨l, g⟩ := capOk_at h4
    refine ⟨by simp [l], fun i x hx => ?_⟩
    cases i with
    | zero => simp at hx; subst hx; exact ⟨j, rfl, h1, h2, h3⟩
    | succ i => obtain ⟨j', q⟩ := g i x (by simpa using hx); exact ⟨j', by simpa using q.1, q.2⟩
theorem takes_of {tn cn : List Str} {cap : List Nat} {scope : Scope} (h : capOk X.N X.env.scope scope cn cap = true) : Takes1 X (tn ++ cn) scope (cgOf tn.length cap) := fun σ hl => by
  obtain ⟨l, g⟩ := capOk_at h
  refine ⟨fun i y v h1 h2 => ?_, by simp [cgOf, l]⟩
  unfold cgOf at h2
  by_cases hn : i < tn.length
  · rw [List.getElem?_append_left (by simpa using hn), List.getElem?_replicate, if_pos hn] at h2; cases h2
  · have hn' : tn.length ≤ i := by omega
    rw [List.getElem?_append_right hn'] at h1
    rw [List.getElem?_append_right (by simpa using hn'), List.length_replicate, List.getElem?_map] at h2
    obtain ⟨j, g1, g2, g3, g4⟩ := g _ y h1
    rw [g1] at h2
    have h3 : (σ[j]?).getD none = some v := by simpa using h2
    refine ⟨g2, g3, g3.elim (fun z => .inr (.inl z)) fun z => .inr (.inr z), j, g4, ?_⟩
    cases q : σ[j]? with
    | none => rw [q] at h3; cases h3
    | some u => rw [q] at h3; rw [show u = some v from h3]
theorem d_allG (Z : Fits X K k) {c T : Addr} {elt tg iter : Expr} {p pos gpos : Pos} {scope : Scope} (tn cn : List Str) (cap : List Nat) {ix : List Nat} {ci : Δ → Option (List D × Δ)} {h : D → Δ → Option Δ} {f : Δ → Option (D × Δ)} (hT : T ∈ K.T) (hm : X.mg "all" = none) (TB : GxR.TabB X.base X.mg c T) (hcode : X.env.code = .ref c) (S : GSc X scope)
    (hi : IX X K tg iter ci) (hg : ∀ z : GI, GX (gxY X (tn ++ cn) scope z) K tg ix h) (he : ∀ z : GI, DX (gxY X (tn ++ cn) scope z) K elt f) (hcap : capOk X.N X.env.scope scope cn cap = true := by rfl) (hs : ∀ v, genFold iter X.env v = pure v := by intro _; rfl) (hgl : Gl X "all" := by rfl)
    (hst : starEach [.GeneratorExp elt [⟨tg, iter, [], 0⟩] scope gpos] X.env = (false, eval (.GeneratorExp elt [⟨tg, iter, [], 0⟩] scope gpos) X.env) :: starEach [] X.env := by rfl) :
    DX X K (.Call (.Name "all" p) [.GeneratorExp elt [⟨tg, iter, [], 0⟩] scope gpos] [] pos) (eWalk false tn.length cap ci h f) := by
  obtain ⟨_, p1, s1⟩ := hi
  obtain ⟨_, p2, s2⟩ := GX.all hg
  obtain ⟨_, p3, s3⟩ := DX.all he
  exact ⟨_, pe_allG (N := tn ++ cn) Z.can.room hgl hm TB hcode S (takes_of hcap) p1 (fun s H code fp => p2 (s, H, code, fp)) (fun s H code fp => p3 (s, H, code, fp)) hs (by decide +kernel) hst, sd_walk hT s1 s2 s3⟩
theorem d_anyG (Z : Fits X K k) {c T : Addr} {elt tg iter : Expr} {p pos gpos : Pos} {scope : Scope} (tn cn : List Str) (cap : List Nat) {ix : List Nat} {ci : Δ → Option (List D × Δ)} {h : D → Δ → Option Δ} {f : Δ → Option (D × Δ)} (hT : T ∈ K.T) (hm : X.mg "any" = none) (TB : GxR.TabB X.base X.mg c T) (hcode : X.env.code = .ref c) (S : GSc X scope)
    (hi : IX X K tg iter ci) (hg : ∀ z : GI, GX (gxY X (tn ++ cn) scope z) K tg ix h) (he : ∀ z : GI, DX (gxY X (tn ++ cn) scope z) K elt f) (hcap : capOk X.N X.env.scope scope cn cap = true := by rfl) (hs : ∀ v, genFold iter X.env v = pure v := by intro _; rfl) (hgl : Gl X "any" := by rfl)
    (hst : starEach [.GeneratorExp elt [⟨tg, iter, [], 0⟩] scope gpos] X.env = (false, eval (.GeneratorExp elt [⟨tg, iter, [], 0⟩] scope gpos) X.env) :: starEach [] X.env := by rfl) :
    DX X K (.Call (.Name "any" p) [.GeneratorExp elt [⟨tg, iter, [], 0⟩] scope gpos] [] pos) (eWalk true tn.length cap ci h f) := by
  obtain ⟨_, p1, s1⟩ := hi
  obtain ⟨_, p2, s2⟩ := GX.all hg
  obtain ⟨_, p3, s3⟩ := DX.all he
  exact ⟨_, pe_anyG (N := tn ++ cn) Z.can.room hgl hm TB hcode S (takes_of hcap) p1 (fun s H code fp => p2 (s, H, code, fp)) (fun s H code fp => p3 (s, H, code, fp)) hs hst, sd_walk hT s1 s2 s3⟩
end
end Vw
end
section
set_option Elab.async false
set_option linter.all false
set_option maxRecDepth 100000
set_option maxHeartbeats 2000000
/-! list(zip(a, b)) of two lists. -/
namespace Vz
open PySem
open Sem (wp)
theorem zip_no_len : typeLookup (.type "zip") "__len__" = pure none := by rw [typeLookup_type, builtinLookup_eq_fast]; kernel_rfl
theorem zip_no_hint : typeLookup (.type "zip") "__length_hint__" = pure none := by rw [typeLookup_type, builtinLookup_eq_fast]; kernel_rfl
section
variable {prog : Program} {w : World} {A : Around} {s : Shared} {R : Result → Shared → Prop}
/-- the zip behind i pairs -/
structure ZS (h : Heap) (S z TI TO i1 i2 l1 l2 : Addr) (xs ys : Array Value) (i : Nat) : Prop where
  ti : IsPair h TI (.ref i1) (.ref i2)
  h1 : h.IsListIter i1 l1 i
  h2 : h.IsListIter i2 l2 i
  hl1 : h.IsList l1 xs
  hl2 : h.IsList l2 ys
  to : ∃ o, h.get? TO = some o
  st : (IsZip h z TI TO .none ∧ ∃ a b, IsPair h TO a b) ∨ ∃ T f oT, IsZipHeld h z TI TO T f ∧ h.get? T = some oT ∧ T ≠ z ∧ T ≠ i1 ∧ T ≠ i2 ∧ T ≠ S
/-- the list so far -/
def Acc (h : Heap) (S z TO i1 i2 : Addr) (xs ys acc : Array Value) (i : Nat) : Prop := acc.size = i ∧ ∀ (j : Nat) (v : Value), acc[j]? = some v → ∃ T x y, v = .ref T ∧ IsPair h T x y ∧ xs[j]? = some x ∧ ys[j]? = some y ∧ T ≠ S ∧ T ≠ z ∧ T ≠ TO ∧ T ≠ i1 ∧ T ≠ i2
theorem ZS.next {S z TI TO i1 i2 l1 l2 : Addr} {xs ys : Array Value} {i : Nat} {Q : Option Value → Shared → Prop} {E : Value → Shared → Prop} (D : ZipApart z TI TO i1 i2 l1 l2) (Z : ZS s.heap S z TI TO i1 i2 l1 l2 xs ys i) (hx : i < xs.size) (hy : i < ys.size) (hS : S < s.heap.objs.size)
    (nS : S ≠ TI ∧ S ≠ i1 ∧ S ≠ i2 ∧ S ≠ l1 ∧ S ≠ l2 ∧ S ≠ z)
    (hQ : ∀ h', ZS h' S z TI TO i1 i2 l1 l2 xs ys (i + 1) → IsPair h' s.heap.objs.size xs[i] ys[i] → h'.objs.size = s.heap.objs.size + 1 → (∀ c o, c ≠ z → c ≠ TO → c ≠ i1 → c ≠ i2 → s.heap.get? c = some o → h'.get? c = some o) → Q (some (.ref s.heap.objs.size)) { s with heap := h' }) :
    wpAny (model prog w) A (pyNext (.ref z)) Q E s := by
  have ex := Array.getElem?_eq_getElem hx
  have ey := Array.getElem?_eq_getElem hy
  have lt : ∀ {c o}, s.heap.get? c = some o → s.heap.objs.size ≠ c := fun e => Nat.ne_of_gt (Heap.lt_size e)
  have n1 : s.heap.objs.size ≠ i1 := let ⟨_, e, _⟩ := Z.h1; lt e
  have n2 : s.heap.objs.size ≠ i2 := let ⟨_, e, _⟩ := Z.h2; lt e
  rcases Z.st with ⟨hz, a, b, hTO⟩ | ⟨T, f, oT, hz, hT, r1, r2, r3, r4⟩
  · refine wpAny_pyNext_zip_item D hz Z.ti hTO Z.h1 Z.h2 Z.hl1 Z.hl2 ex ey fun h' a1 a2 a3 a4 a5 a6 hk => ?_
    exact hQ h' ⟨hk _ _ D.TIz D.TITO D.TIi1 D.TIi2 Z.ti, a3, a4, Z.hl1.at fun o e => hk _ o D.l1z D.l1TO D.l1i1 D.l1i2 e, Z.hl2.at fun o e => hk _ o D.l2z D.l2TO D.l2i1 D.l2i2 e, ⟨_, a2⟩,
      .inr ⟨s.heap.objs.size, false, _, a1, a5, lt hz, n1, n2, Nat.ne_of_gt hS⟩⟩ a5 a6 hk
  · refine wpAny_pyNext_zip_item_held D hz hT Z.ti Z.h1 Z.h2 Z.hl1 Z.hl2 ex ey fun h' a1 a3 a4 a5 a6 hk => ?_
    exact hQ h' ⟨hk _ _ D.TIz D.TIi1 D.TIi2 Z.ti, a3, a4, Z.hl1.at fun o e => hk _ o D.l1z D.l1i1 D.l1i2 e, Z.hl2.at fun o e => hk _ o D.l2z D.l2i1 D.l2i2 e, (let ⟨o, e⟩ := Z.to; ⟨o, hk _ _ D.TOz D.TOi1 D.TOi2 e⟩),
      .inr ⟨T, true, oT, a1, hk _ _ r1 r2 r3 hT, r1, r2, r3, r4⟩⟩ a5 a6 fun c o c1 _ c3 c4 e => hk c o c1 c3 c4 e
theorem ZS.stop {S z TI TO i1 i2 l1 l2 : Addr} {xs ys : Array Value} {i : Nat} {Q : Option Value → Shared → Prop} {E : Value → Shared → Prop} (hh : A.handled = none) (D : ZipApart z TI TO i1 i2 l1 l2) (Z : ZS s.heap S z TI TO i1 i2 l1 l2 xs ys i) (he : xs[i]? = none ∨ ys[i]? = none)
    (hQ : ∀ h', (∀ c o, c ≠ z → c ≠ TO → c ≠ i1 → c ≠ i2 → s.heap.get? c = some o → h'.get? c = some o) → Q none { s with heap := h' }) :
    wpAny (model prog w) A (pyNext (.ref z)) Q E s := by
  rcases Z.st with ⟨hz, a, b, hTO⟩ | ⟨T, f, oT, hz, hT, r1, r2, r3, r4⟩
  · exact wpAny_pyNext_zip_end hh D hz Z.ti hTO Z.h1 Z.h2 Z.hl1 Z.hl2 he hQ
  · exact wpAny_pyNext_zip_end_held hh D hz hT Z.ti Z.h1 Z.h2 Z.hl1 Z.hl2 he fun h' hk => hQ h' fun c o c1 _ c3 c4 e => hk c o c1 c3 c4 e
theorem ZS.keep {h h' : Heap} {S z TI TO i1 i2 l1 l2 : Addr} {xs ys : Array Value} {i : Nat} (Z : ZS h S z TI TO i1 i2 l1 l2 xs ys i) (nS : S ≠ TI ∧ S ≠ i1 ∧ S ≠ i2 ∧ S ≠ l1 ∧ S ≠ l2 ∧ S ≠ z ∧ S ≠ TO) (hk : ∀ b o, b ≠ S → h.get? b = some o → h'.get? b = some o) : ZS h' S z TI TO i1 i2 l1 l2 xs ys i := by
  obtain ⟨n1, n2, n3, n4, n5, n6, n7⟩ := nS
  refine ⟨hk _ _ n1.symm Z.ti, Z.h1.at fun o e => hk _ o n2.symm e, Z.h2.at fun o e => hk _ o n3.symm e, Z.hl1.at fun o e => hk _ o n4.symm e, Z.hl2.at fun o e => hk _ o n5.symm e, (let ⟨o, e⟩ := Z.to; ⟨o, hk _ _ n7.symm e⟩), ?_⟩
  rcases Z.st with ⟨hz, a, b, hTO⟩ | ⟨T, f, oT, hz, hT, r1, r2, r3, r4⟩
  · exact .inl ⟨hk _ _ n6.symm hz, a, b, hk _ _ n7.symm hTO⟩
  · exact .inr ⟨T, f, oT, hk _ _ n6.symm hz, hk _ _ r4 hT, r1, r2, r3, r4⟩
theorem extend_loop {S z TI TO i1 i2 l1 l2 : Addr} {xs ys : Array Value} (res : Value) (hh : A.handled = none) (D : ZipApart z TI TO i1 i2 l1 l2) (nS : S ≠ TI ∧ S ≠ i1 ∧ S ≠ i2 ∧ S ≠ l1 ∧ S ≠ l2 ∧ S ≠ z ∧ S ≠ TO) (hn : min xs.size ys.size ≤ sizeLine) :
    ∀ (k i : Nat) (s : Shared) (acc : Array Value) (c : Nat), min xs.size ys.size - i = k → i ≤ min xs.size ys.size → ZS s.heap S z TI TO i1 i2 l1 l2 xs ys i → s.heap.get? S = some { cls := .type "list", dict := none, data := .seq acc c, slots := #[] } → Acc s.heap S z TO i1 i2 xs ys acc i →
    (∀ h' acc' c', (∀ b o, b ≠ S → b ≠ z → b ≠ TO → b ≠ i1 → b ≠ i2 → s.heap.get? b = some o → h'.get? b = some o) → h'.get? S = some { cls := .type "list", dict := none, data := .seq acc' c', slots := #[] } → Acc h' S z TO i1 i2 xs ys acc' (min xs.size ys.size) → R (.ok (.ret res)) { s with heap := h' }) →
    codeAny (model prog w) A (.builtin "list.extend.loop" ⟨[.ref S, .ref z, res], []⟩) R s := by
  have hh1 : A.in1.handled = none := by simp [hh]
  obtain ⟨n1, n2, n3, n4, n5, n6, n7⟩ := nS
  have accK : ∀ {h h' : Heap} {acc : Array Value} {i : Nat}, Acc h S z TO i1 i2 xs ys acc i → (∀ c o, c ≠ S → c ≠ z → c ≠ TO → c ≠ i1 → c ≠ i2 → h.get? c = some o → h'.get? c = some o) → Acc h' S z TO i1 i2 xs ys acc i := fun {h h' acc i} a hk =>
    ⟨a.1, fun j v e => let ⟨T, x, y, q1, q2, q3, q4, q5, q6, q7, q8, q9⟩ := a.2 j v e; ⟨T, x, y, q1, hk _ _ q5 q6 q7 q8 q9 q2, q3, q4, q5, q6, q7, q8, q9⟩⟩
  intro k
  induction k with
  | zero =>
    intro i s acc c hk hi hst hS hacc hR
    have hin : i = min xs.size ys.size := by omega
    subst hin
    refine codeAny_builtin F.entry_extend_loop ?_
    rw [Around.under_plainId F.plain_extend_loop _]
    show wpAny _ A.in1 (pyNext (.ref z) >>= _) _ _ s
    have hend : xs[min xs.size ys.size]? = none ∨ ys[min xs.size ys.size]? = none := by
      rcases Nat.le_total xs.size ys.size with h | h
      · exact .inl (Array.getElem?_eq_none (by rw [Nat.min_eq_left h]; exact Nat.le_refl _))
      · exact .inr (Array.getElem?_eq_none (by rw [Nat.min_eq_right h]; exact Nat.le_refl _))
    refine wpAny_bind (hst.stop hh1 D hend fun h' hk' => ?_)
    exact wpAny_pure (hR h' acc c (fun b o _ c1 c2 c3 c4 e => hk' b o c1 c2 c3 c4 e) (hk' _ _ n6 n7 n2 n3 hS) (accK hacc fun b o _ c1 c2 c3 c4 e => hk' b o c1 c2 c3 c4 e))
  | succ k ih =>
    intro i s acc c hk hi hst hS hacc hR
    have hlt : i < min xs.size ys.size := by omega
    have hx : i < xs.size := Nat.lt_of_lt_of_le hlt (Nat.min_le_left ..)
    have hy : i < ys.size := Nat.lt_of_lt_of_le hlt (Nat.min_le_right ..)
    refine codeAny_builtin F.entry_extend_loop ?_
    rw [Around.under_plainId F.plain_extend_loop _]
    show wpAny _ A.in1 (pyNext (.ref z) >>= _) _ _ s
    refine wpAny_bind (hst.next D hx hy (Heap.lt_size hS) ⟨n1, n2, n3, n4, n5, n6⟩ fun h' Z' hp hsz hk' => ?_)
    have hS' := hk' _ _ n6 n7 n2 n3 hS
    show wpAny _ A.in1 (updateSeq S (·.push (.ref s.heap.objs.size)) >>= _) _ _ _
    refine wpAny_bind ?_
    have oth : ∀ b o, b ≠ S → h'.get? b = some o → (h'.update S (Obj.mapSeq (·.push (Value.ref s.heap.objs.size)))).get? b = some o := fun b o hb e => (Heap.get?_update_other _ _ (Ne.symm hb)).trans e
    have both : ∀ b o, b ≠ S → b ≠ z → b ≠ TO → b ≠ i1 → b ≠ i2 → s.heap.get? b = some o → (h'.update S (Obj.mapSeq (·.push (Value.ref s.heap.objs.size)))).get? b = some o := fun b o c0 c1 c2 c3 c4 e => oth b o c0 (hk' b o c1 c2 c3 c4 e)
    have ne : ∀ {c : Addr} {o : Obj}, s.heap.get? c = some o → s.heap.objs.size ≠ c := fun e => Nat.ne_of_gt (Heap.lt_size e)
    have nz : s.heap.objs.size ≠ z := by
      rcases hst.st with ⟨hz, _⟩ | ⟨T, f, oT, hz, _⟩
      · exact ne hz
      · exact ne hz
    have nTO : s.heap.objs.size ≠ TO := let ⟨_, e⟩ := hst.to; ne e
    refine wpAny_updateSeq hS' rfl (wpAny_pure ⟨plainId_quiet F.plain_extend_loop _, ih (i + 1) _ (acc.push (.ref s.heap.objs.size)) _ (by omega) hlt (Z'.keep ⟨n1, n2, n3, n4, n5, n6, n7⟩ oth) (Heap.get?_update_self _ hS' rfl) ⟨by rw [Array.size_push, hacc.1], fun j v hj => ?_⟩ fun h'' acc' c' hk2 hS'' hacc' => ?_⟩)
      (by rw [hacc.1]; omega) (by show (acc.push _).size ≤ sizeLine + 1; rw [Array.size_push, hacc.1]; omega)
    · rw [Array.getElem?_push] at hj
      split at hj
      · rename_i ej
        cases hj
        rw [hacc.1] at ej
        subst ej
        exact ⟨_, _, _, rfl, oth _ _ (Nat.ne_of_gt (Heap.lt_size hS)) hp, Array.getElem?_eq_getElem hx, Array.getElem?_eq_getElem hy, Nat.ne_of_gt (Heap.lt_size hS), nz, nTO, (let ⟨_, e, _⟩ := hst.h1; ne e), let ⟨_, e, _⟩ := hst.h2; ne e⟩
      · obtain ⟨T, x, y, q1, q2, q3, q4, q5, q6, q7, q8, q9⟩ := hacc.2 j v hj
        exact ⟨T, x, y, q1, both _ _ q5 q6 q7 q8 q9 q2, q3, q4, q5, q6, q7, q8, q9⟩
    · exact hR h'' acc' c' (fun b o c0 c1 c2 c3 c4 e => hk2 b o c0 c1 c2 c3 c4 (both b o c0 c1 c2 c3 c4 e)) hS'' hacc'
theorem extend_zip {S z TI TO i1 i2 l1 l2 : Addr} {xs ys : Array Value} {c₀ : Nat} (res : Value) (hh : A.handled = none) (D : ZipApart z TI TO i1 i2 l1 l2) (nS : S ≠ TI ∧ S ≠ i1 ∧ S ≠ i2 ∧ S ≠ l1 ∧ S ≠ l2 ∧ S ≠ z ∧ S ≠ TO) (hn : min xs.size ys.size ≤ sizeLine) (Z : ZS s.heap S z TI TO i1 i2 l1 l2 xs ys 0) (hz : IsZip s.heap z TI TO .none)
    (hS : s.heap.get? S = some { cls := .type "list", data := .seq #[] c₀ })
    (hR : ∀ h' acc' c', (∀ b o, b ≠ S → b ≠ z → b ≠ TO → b ≠ i1 → b ≠ i2 → s.heap.get? b = some o → h'.get? b = some o) → h'.get? S = some { cls := .type "list", dict := none, data := .seq acc' c', slots := #[] } → Acc h' S z TO i1 i2 xs ys acc' (min xs.size ys.size) → R (.ok (.ret res)) { s with heap := h' }) :
    wpAny (model prog w) A.in1 (Builtin.List.listExtendWith (.ref S) (.ref z) res)
      (fun fin s' => match fin with | .done f => R (.ok f) s' | .again c' => c'.quiet = true ∧ codeAny (model prog w) A c' R s') (fun e s' => R (.error e) s') s := by
  have hT : s.TypeIs (.ref z) "zip" := ⟨_, hz, rfl⟩
  have hSI : S ≠ z := nS.2.2.2.2.2.1
  unfold Builtin.List.listExtendWith
  refine wpAny_bind (wpAny_typeOf hT ?_)
  have h1 : Builtin.List.listSameRef (.ref S) (.ref z) = false := by simp [Builtin.List.listSameRef, hSI]
  have h2 : (Value.type "zip" == Value.type "list") = false := by decide
  have h3 : (Value.type "zip" == Value.type "tuple") = false := by decide
  simp only [h1, h2, h3, Bool.or_false, Bool.false_eq_true, if_false]
  refine wpAny_bind (wpAny_pyIter_zip hz ?_)
  refine wpAny_bind (wpAny_holding ?_)
  unfold Builtin.List.listLengthHint
  refine wpAny_bind (wpAny_specialOf hT zip_no_len ?_)
  show wpAny _ A.in1 (specialOf (Value.ref z) (Str.ofString "__length_hint__") >>= _) _ _ _
  refine wpAny_bind (wpAny_specialOf hT zip_no_hint ?_)
  refine wpAny_pure ?_
  show wpAny _ A.in1 (rule "list.extend.makes-room" >>= fun _ => Builtin.List.listTouch (.ref S) >>= fun _ =>
    again (.builtin "list.extend.loop" ⟨[.ref S, .ref z, res], []⟩)) _ _ _
  refine wpAny_bind (wpAny_rule ?_)
  refine wpAny_bind ?_
  show wpAny _ A.in1 (updateSeq S (·.push .none) >>= fun _ => updateSeq S (·.pop)) _ _ _
  refine wpAny_bind (wpAny_updateSeq hS rfl ?_)
  have hS₂ := Heap.get?_update_self (Obj.mapSeq (·.push Value.none)) hS rfl
  refine wpAny_updateSeq (hz := by seq_fits) hS₂ rfl ?_
  have hS₃ := Heap.get?_update_self (Obj.mapSeq (·.pop)) hS₂ rfl
  have oth : ∀ b o, b ≠ S → s.heap.get? b = some o → ((s.heap.update S (Obj.mapSeq (·.push Value.none))).update S (Obj.mapSeq (·.pop))).get? b = some o :=
    fun b o hb e => (Heap.get?_update_other _ _ (Ne.symm hb)).trans ((Heap.get?_update_other _ _ (Ne.symm hb)).trans e)
  refine wpAny_pure ⟨plainId_quiet F.plain_extend_loop _, extend_loop res hh D nS hn _ 0 _ _ _ rfl (Nat.zero_le _) (Z.keep nS oth) hS₃ ⟨rfl, fun j v e => by simp at e⟩ fun h' acc' c' hk hS' hacc => ?_⟩
  exact hR h' acc' c' (fun b o c0 c1 c2 c3 c4 e => hk b o c0 c1 c2 c3 c4 (oth b o c0 e)) hS' hacc
theorem init_zip {S z TI TO i1 i2 l1 l2 : Addr} {xs ys : Array Value} (hh : A.handled = none) (D : ZipApart z TI TO i1 i2 l1 l2) (nS : S ≠ TI ∧ S ≠ i1 ∧ S ≠ i2 ∧ S ≠ l1 ∧ S ≠ l2 ∧ S ≠ z ∧ S ≠ TO) (hn : min xs.size ys.size ≤ sizeLine) (Z : ZS s.heap S z TI TO i1 i2 l1 l2 xs ys 0) (hz : IsZip s.heap z TI TO .none)
    (hS : s.heap.get? S = some { cls := .type "list", data := .seq #[] })
    (hR : ∀ h' acc' c', (∀ b o, b ≠ S → b ≠ z → b ≠ TO → b ≠ i1 → b ≠ i2 → s.heap.get? b = some o → h'.get? b = some o) → h'.get? S = some { cls := .type "list", dict := none, data := .seq acc' c', slots := #[] } → Acc h' S z TO i1 i2 xs ys acc' (min xs.size ys.size) → R (.ok (.ret .none)) { s with heap := h' }) :
    wpAny (model prog w) A.in1 (Builtin.«list.__init__» ⟨[.ref S, .ref z], []⟩)
      (fun fin s' => match fin with | .done f => R (.ok f) s' | .again c' => c'.quiet = true ∧ codeAny (model prog w) A c' R s') (fun e s' => R (.error e) s') s := by
  show wpAny _ A.in1 (do let old ← Builtin.List.listItems (.ref S); Builtin.List.listUpdate (.ref S) (fun _ => #[]); letGo old.toList.reverse; Builtin.List.listExtendWith (.ref S) (.ref z) .none) _ _ s
  refine wpAny_bind ?_
  unfold Builtin.List.listItems
  refine wpAny_bind (wpAny_seqItems hS rfl (wpAny_pure ?_))
  show wpAny _ A.in1 (updateSeq S (fun _ => #[]) >>= fun _ => letGo (#[] : Array Value).toList.reverse >>= fun _ => Builtin.List.listExtendWith (.ref S) (.ref z) .none) _ _ s
  refine wpAny_bind (wpAny_updateSeq hS rfl ?_)
  have hS₂ := Heap.get?_update_self (Obj.mapSeq (fun _ => (#[] : Array Value))) hS rfl
  have oth : ∀ b o, b ≠ S → s.heap.get? b = some o → (s.heap.update S (Obj.mapSeq (fun _ => (#[] : Array Value)))).get? b = some o :=
    fun b o hb e => (Heap.get?_update_other _ _ (Ne.symm hb)).trans e
  refine wpAny_bind (wpAny_letGo ?_)
  refine extend_zip .none hh D nS hn (Z.keep nS oth) (oth _ _ nS.2.2.2.2.2.1.symm hz) hS₂ fun h' acc' c' hk hS' hacc => ?_
  exact hR h' acc' c' (fun b o c0 c1 c2 c3 c4 e => hk b o c0 c1 c2 c3 c4 (oth b o c0 e)) hS' hacc
end
section
variable {prog : Program} {w : World} {A : Around} {E : Value → Shared → Prop} {s : Shared}
/-- the new list's items: pairs, in a heap -/
def Pairs (h : Heap) (xs ys acc : Array Value) : Prop := acc.size = min xs.size ys.size ∧ ∀ (j : Nat) (v : Value), acc[j]? = some v → ∃ T x y, v = .ref T ∧ IsPair h T x y ∧ xs[j]? = some x ∧ ys[j]? = some y
/-- zip(a, b), then list of it -/
theorem call_list_zip {l1 l2 : Addr} {xs ys : Array Value} {Q : Value → Shared → Prop} (hh : A.handled = none) (hl1 : s.heap.IsList l1 xs) (hl2 : s.heap.IsList l2 ys) (hn : min xs.size ys.size ≤ sizeLine)
    (h : ∀ z h1, (∀ c o, s.heap.get? c = some o → h1.get? c = some o) → s.heap.objs.size ≤ h1.objs.size →
      (∀ Q' : Value → Shared → Prop, (∀ L h' acc c, (∀ b o, s.heap.get? b = some o → h'.get? b = some o) → s.heap.get? L = none → h'.get? L = some { cls := .type "list", dict := none, data := .seq acc c, slots := #[] } → Pairs h' xs ys acc → Q' (.ref L) { s with heap := h' }) →
        wpAny (model prog w) A (call (.type "list") [.ref z]) Q' E { s with heap := h1 }) → Q (.ref z) { s with heap := h1 }) :
    wpAny (model prog w) A (call (.type "zip") [.ref l1, .ref l2]) Q E s := by
  refine call_zip_2 hl1 hl2 fun h1 hz hTI hTO hit1 hit2 hsz hk => ?_
  obtain ⟨o1, ho1, _⟩ := id hl1
  obtain ⟨o2, ho2, _⟩ := id hl2
  have a1 := Heap.lt_size ho1
  have a2 := Heap.lt_size ho2
  refine h _ h1 hk (by omega) fun Q' hQ => ?_
  have D := PyProof.Rows.zipApart_new (n := s.heap.objs.size) a1 a2
  refine callType_codes (s := { s with heap := h1 }) (Q₁ := fun obj s₁ => obj = .ref h1.objs.size ∧ s₁ = { s with heap := h1.push { cls := .type "list", data := .seq #[] } }) F.called_list (F.typeCall_list_1 _) F.entry_list_init
    (code_list_new _ ⟨rfl, rfl⟩) fun obj s₁ h₁ => ?_
  obtain ⟨rfl, rfl⟩ := h₁
  have hS : (h1.push { cls := .type "list", data := .seq #[] }).get? h1.objs.size = some { cls := .type "list", data := .seq #[] } := Heap.get?_push_size _ rfl
  have up : ∀ c o, h1.get? c = some o → (h1.push { cls := .type "list", data := .seq #[] }).get? c = some o := fun c o e => Heap.get?_push_of_some _ e
  have ne : ∀ {c : Addr} {o : Obj}, h1.get? c = some o → h1.objs.size ≠ c := fun e => Nat.ne_of_gt (Heap.lt_size e)
  have nS : h1.objs.size ≠ s.heap.objs.size + 2 ∧ h1.objs.size ≠ s.heap.objs.size ∧ h1.objs.size ≠ s.heap.objs.size + 1 ∧ h1.objs.size ≠ l1 ∧ h1.objs.size ≠ l2 ∧ h1.objs.size ≠ s.heap.objs.size + 4 ∧ h1.objs.size ≠ s.heap.objs.size + 3 :=
    ⟨ne hTI, (let ⟨_, e, _⟩ := hit1; ne e), (let ⟨_, e, _⟩ := hit2; ne e), ne (hk _ _ ho1), ne (hk _ _ ho2), ne hz, ne hTO⟩
  refine ⟨⟨_, hS, rfl⟩, F.args_list_init_2 _ _, init_zip (A := A.in1) (by simp [hh]) D nS hn ⟨up _ _ hTI, hit1.at fun o e => up _ o e, hit2.at fun o e => up _ o e, hl1.at fun o e => up _ o (hk _ o e), hl2.at fun o e => up _ o (hk _ o e), ⟨_, up _ _ hTO⟩, .inl ⟨up _ _ hz, _, _, up _ _ hTO⟩⟩ (up _ _ hz) hS fun h' acc' c' hk2 hS' hacc => ⟨rfl, ?_⟩⟩
  refine hQ h1.objs.size h' acc' c' (fun b o e => ?_) ?_ hS' ⟨hacc.1, fun j v e => let ⟨T, x, y, q1, q2, q3, q4, _⟩ := hacc.2 j v e; ⟨T, x, y, q1, q2, q3, q4⟩⟩
  · have lt : b < s.heap.objs.size := Heap.lt_size e
    have hne : ∀ k, b ≠ s.heap.objs.size + k := fun k => Nat.ne_of_lt (Nat.lt_of_lt_of_le lt (Nat.le_add_right _ _))
    exact hk2 b o (by rw [hsz]; exact hne 5) (hne 4) (hne 3) (hne 0) (hne 1) (up _ _ (hk _ _ e))
  · exact Heap.get?_none_of_le (by omega)
end
end Vz
end
section
set_option Elab.async false
set_option linter.all false
set_option maxRecDepth 100000
set_option maxHeartbeats 3000000
/-! Calls of defs, comprehensions, more iterables: both at once. -/
namespace Vx
open PySem PySem.Spec PyProof.Rows L2 Vi Vf Vo Vp Vs Vt Vu Vv Vg Vw
section
variable {X : Cx} {K : Lay} {k : Nat}
/-! ### iterables -/
theorem i_enum (Z : Fits X K k) {a : Expr} {p pos tpos : Pos} {elts : List Expr} {kk : Nat} {f : Δ → Option (List D × Δ)} (h : AX X K [a] f) (hm : X.mg "enumerate" = none) (hg : Gl X "enumerate" := by rfl) (hs : starEach [a] X.env = [(false, eval a X.env)] := by rfl) :
    IX X K (.Tuple elts kk tpos) (.Call (.Name "enumerate" p) [a] [] pos) (eEnum f) := by
  obtain ⟨_, q, s⟩ := h
  refine ⟨_, pi_enum hg hm q hs, ?_⟩
  rw [Z.K]
  exact si_enum s
theorem i_zip (Z : Fits X K k) {a b : Expr} {p pos tpos : Pos} {elts : List Expr} {kk : Nat} {f : Δ → Option (List D × Δ)} (h : AX X K [a, b] f) (hm : X.mg "zip" = none) (hg : Gl X "zip" := by rfl) (hs : starEach [a, b] X.env = (false, eval a X.env) :: starEach [b] X.env := by rfl) (hpl : (backTo pos (starEach [b] X.env)).any (·.1) = false := by rfl) :
    IX X K (.Tuple elts kk tpos) (.Call (.Name "zip" p) [a, b] [] pos) (eZip f) := by
  obtain ⟨_, q, s⟩ := h
  refine ⟨_, pi_zip hg hm q hs hpl, ?_⟩
  rw [Z.K]
  exact si_zip s
theorem i_str {tg e : Expr} {f : Δ → Option (D × Δ)} (h : DX X K e f) : IX X K tg e (eStr f) := let ⟨_, p, s⟩ := h; ⟨_, pi_str p, si_str s⟩
/-! ### comprehensions -/
abbrev BI := Shared × Hp × Addr × List (Str × Addr) × List Addr
abbrev bX (X : Cx) (scope : Scope) (z : BI) : Cx := X.blk z.1 z.2.1 scope (compEnvC scope z.2.2.2.1 z.2.2.1 X.env) z.2.2.2.2
theorem fits_b {scope : Scope} {z : BI} (Z : Fits X K k) : Fits (bX X scope z) K k := ⟨Z.K, ⟨Z.can.room, Z.can.gd⟩, Z.calm⟩
def CX1 (X : Cx) (K : Lay) (ifs : List Expr) (t : Δ → Option (Bool × Δ)) : Prop := ∃ tt, PTs X ifs tt ∧ ST K tt t
def eYesT : Δ → Option (Bool × Δ) := fun δ => some (true, δ)
theorem c_nil : CX1 X K [] eYesT := ⟨_, pts_nil, fun δ b δ' e σ F H r Q kq => by cases e; exact kq F H (.rfl r)⟩
theorem c_one {c : Expr} {t : Δ → Option (Bool × Δ)} (h : TX X K c t) : CX1 X K [c] t := let ⟨_, p, s⟩ := h; ⟨_, pts_one p, s⟩
theorem CX1.all {ι : Type} {Y : ι → Cx} {e : List Expr} {f : Δ → Option (Bool × Δ)} (h : ∀ z, CX1 (Y z) K e f) : ∃ te, (∀ z, PTs (Y z) e te) ∧ ST K te f :=
  ⟨fun σ H Q => ∀ z, (h z).choose σ H Q, fun z => ⟨fun pins s σ H Q I q => (h z).choose_spec.1.run pins s σ H Q I (q z)⟩, fun δ d δ' e σ F H r Q kq z => (h z).choose_spec.2 δ d δ' e σ F H r Q kq⟩
theorem EX.all {ι : Type} {Y : ι → Cx} {e : Expr} {f : Δ → Option (P × Δ)} (h : ∀ z, EX (Y z) K e f) : ∃ te, (∀ z, PE (Y z) e te) ∧ SX K te f :=
  ⟨fun σ H Q => ∀ z, (h z).choose σ H Q, fun z => ⟨fun pins s σ H Q I q => (h z).choose_spec.1.run pins s σ H Q I (q z)⟩, fun δ d δ' e σ F H r Q kq z => (h z).choose_spec.2 δ d δ' e σ F H r Q kq⟩
theorem x_lc (Z : Fits X K k) (hN : X.N.Nodup) {elt tg iter : Expr} {ifs : List Expr} {scope : Scope} (own : List (Str × Nat)) {pos : Pos} {ix : List Nat} {c : Δ → Option (List D × Δ)} {h : D → Δ → Option Δ} {t : Δ → Option (Bool × Δ)} {f : Δ → Option (D × Δ)}
    (ok : BlkOk X.N X.env.scope scope own) (hi : IX X K tg iter c) (hg : ∀ z : BI, GX (bX X scope z) K tg ix h) (ht : ∀ z : BI, CX1 (bX X scope z) K ifs t) (hf : ∀ z : BI, DX (bX X scope z) K elt f) (hs : ∀ x, foldedSetIterable iter X.env x = pure x := by intro _; rfl) (hix : ∀ j ∈ ix, j ∈ own.map (·.2) := by decide) :
    EX X K (.ListComp elt [⟨tg, iter, ifs, 0⟩] scope pos) (eLc (own.map (·.2)) c h t f) := by
  obtain ⟨_, p1, s1⟩ := hi
  obtain ⟨_, p2, s2⟩ := GX.all hg
  obtain ⟨_, p3, s3⟩ := CX1.all ht
  obtain ⟨_, p4, s4⟩ := DX.all hf
  exact ⟨_, pe_lc Z.calm hN p1 ok (fun s H C cl fp => p2 (s, H, C, cl, fp)) (fun s H C cl fp => p3 (s, H, C, cl, fp)) (fun s H C cl fp => p4 (s, H, C, cl, fp)) hs, sx_lc s1 s2 s3 s4 hix⟩
theorem b_setLc (Z : Fits X K k) (hN : X.N.Nodup) (i : Nat) {y : Str} {py : Pos} {elt tg iter : Expr} {ifs : List Expr} {scope : Scope} (own : List (Str × Nat)) {pos spos : Pos} {ix : List Nat} {c : Δ → Option (List D × Δ)} {h : D → Δ → Option Δ} {t : Δ → Option (Bool × Δ)} {f : Δ → Option (D × Δ)}
    (ok : BlkOk X.N X.env.scope scope own) (hi : IX X K tg iter c) (hg : ∀ z : BI, GX (bX X scope z) K tg ix h) (ht : ∀ z : BI, CX1 (bX X scope z) K ifs t) (hf : ∀ z : BI, DX (bX X scope z) K elt f) (hs : ∀ x, foldedSetIterable iter X.env x = pure x := by intro _; rfl) (hix : ∀ j ∈ ix, j ∈ own.map (·.2) := by decide)
    (hy : X.N[i]? = some y := by rfl) (hyl : X.env.scope.names.lookup y = some .local := by rfl) (hsw : swapsWith (.ListComp elt [⟨tg, iter, ifs, 0⟩] scope pos) (some (.Name y py)) spos.line X.env = pure true := by rfl) :
    BX X K (.Assign [.Name y py] (.ListComp elt [⟨tg, iter, ifs, 0⟩] scope pos) spos) (mAsg i (eLc (own.map (·.2)) c h t f)) := by
  obtain ⟨_, p1, s1⟩ := hi
  obtain ⟨_, p2, s2⟩ := GX.all hg
  obtain ⟨_, p3, s3⟩ := CX1.all ht
  obtain ⟨_, p4, s4⟩ := DX.all hf
  exact ⟨_, ps_setLc Z.calm hN hy hyl hsw p1 ok (fun s H C cl fp => p2 (s, H, C, cl, fp)) (fun s H C cl fp => p3 (s, H, C, cl, fp)) (fun s H C cl fp => p4 (s, H, C, cl, fp)) hs, ss_asg (sx_lc s1 s2 s3 s4 hix)⟩
end
end Vx
end
section
set_option Elab.async false
set_option linter.all false
set_option maxRecDepth 100000
set_option maxHeartbeats 3000000
/-! Displays of own things, several names at once, lists inside lists. -/
namespace Vy
open PySem PySem.Spec PyProof.Rows L2 Vi Vf Vo Vp Vs Vt Vu Vv Vg Vw Vx
section
variable {X : Cx} {K : Lay} {k : Nat} {F H F' H' F0 H0 F1 H1 : Hp} {σ σ' : L2.St} {δ δ' δ0 δ1 : Δ} {v : V} {p : P} {o : O} {d : D} {vs : List V} {ps : List P} {os : List O}
/-! ### a display of own things -/
def ofO : O → Option I
  | .fz d => some (.fz d)
  | .ow ds => some (.ow ds)
  | .oo dss => some (.oo dss)
  | _ => none
def mixI : List P → Option (List I)
  | [] => some []
  | .tm o :: ps => (ofO o).bind fun i => (mixI ps).map (i :: ·)
  | .sl _ :: _ => none
theorem ofO_ok {i : I} (h : ofO o = some i) (t : Ok K F H v o) : OkI K F H v i ∧ i.fp H v = o.fp H v := by
  cases o <;> cases h <;> exact ⟨t, rfl⟩
theorem mix_ok : ∀ {vs : List V} {ps : List P} {is : List I}, PRs K F H σ δ vs ps → mixI ps = some is → OkIs K F H vs is ∧ fpI H vs is = fpA H vs ps
  | _, _, _, .nil, e => by cases e; exact ⟨.nil, rfl⟩
  | _, _, _, .cons (b := .tm o) a r, e => by
    obtain ⟨i, e1, e2⟩ := Option.bind_eq_some_iff.mp e
    obtain ⟨is, e3, e4⟩ := Option.map_eq_some_iff.mp e2
    subst e4
    obtain ⟨h1, h2⟩ := ofO_ok e1 a.ok
    obtain ⟨h3, h4⟩ := mix_ok r e3
    exact ⟨.cons h1 h3, by unfold fpI fpA; rw [h2, h4]; rfl⟩
  | _, _, _, .cons (b := .sl _) _ _, e => by cases e
theorem prs_fp : ∀ {vs : List V} {ps : List P}, PRs K F H σ δ vs ps → ∀ a ∈ fpA H vs ps, (∃ xs, H a = some (.lst xs)) ∧ F a = none ∧ ¬ Held H σ δ a
  | _, _, .nil, a, h => by cases h
  | _, _, .cons x y, a, h => by
    rcases List.mem_append.mp h with e | e
    · exact pr_fp x a e
    · exact prs_fp y a e
def eMix (g : Δ → Option (List P × Δ)) : Δ → Option (P × Δ) := fun δ => (g δ).bind fun r => if r.1.length ≤ sizeLine then (mixI r.1).map fun is => (.tm (.mx is), r.2) else none
theorem sx_mix {ta : TA} {g : Δ → Option (List P × Δ)} (hg : SXs K ta g) : SX K (tLst ta) (eMix g) := fun δ p δ' e σ F H rp Q kq => by
  obtain ⟨⟨ps, δ1⟩, e1, e⟩ := Option.bind_eq_some_iff.mp e
  split at e
  case isFalse => cases e
  rename_i hz
  obtain ⟨is, e2, e⟩ := Option.map_eq_some_iff.mp e
  cases e
  refine hg δ ps δ1 e1 σ F H rp _ fun vs F1 H1 a1 p1 nd n1 => ⟨by rw [(prs_get p1).1]; exact hz, fun b hb => ?_⟩
  obtain ⟨ok, fe⟩ := mix_ok p1 e2
  have nw : New F1 H1 F1 (upd H1 b (.lst vs)) := new_ext a1.rep.kp hb
  have a2 := nw.aft a1.rep
  have fpa := prs_fp p1
  have nb : ∀ a ∈ fpI H1 vs is, a ≠ b := fun a ha z => by
    subst z
    obtain ⟨⟨xs, q⟩, _⟩ := fpa a (by rw [← fe]; exact ha)
    rw [hb] at q; cases q
  have same : ∀ a ∈ fpI H1 vs is, (upd H1 b (.lst vs)) a = H1 a := fun a ha => upd_ne (nb a ha)
  have fk : fpI (upd H1 b (.lst vs)) vs is = fpI H1 vs is := fpI_frame ok same
  have mk : mkids (upd H1 b (.lst vs)) b is = fpI H1 vs is := by rw [mkids_at upd_same, fk]
  have Fb : F1 b = none := a1.rep.kp.free hb
  have nhb : ¬ Held H1 σ δ1 b := fun z => by obtain ⟨⟨xs, w⟩, _⟩ := a1.rep.held z; rw [hb] at w; cases w
  refine kq (.ref b) F1 (upd H1 b (.lst vs)) (a1.trans a2) ⟨⟨b, vs, rfl, upd_same, Fb, okIs_frame .rfl ok fun a ha => ⟨same a ha, (fpa a (by rw [← fe]; exact ha)).2.1⟩⟩, ?_, fun a ha z => ?_⟩ fun a ha => ?_
  · show (b :: mkids _ b is).Nodup
    rw [mk, fe]
    exact List.nodup_cons.mpr ⟨fun q => nb b (by rw [fe]; exact q) rfl, nd⟩
  · have ha' : a ∈ b :: mkids (upd H1 b (.lst vs)) b is := ha
    rw [mk] at ha'
    have z' := held_upd a1.rep nhb z
    rcases List.mem_cons.mp ha' with q | q
    · subst q; exact nhb z'
    · exact (fpa a (by rw [← fe]; exact q)).2.2 z'
  · have ha' : a ∈ b :: mkids (upd H1 b (.lst vs)) b is := ha
    rw [mk] at ha'
    rcases List.mem_cons.mp ha' with q | q
    · subst q
      refine .inr ?_
      cases w : H a with
      | none => rfl
      | some u => exact absurd hb (a1.go.st a (by rw [w]; simp))
    · exact n1 a (by rw [← fe]; exact q)
theorem x_mix {es : List Expr} {pos : Pos} {g : Δ → Option (List P × Δ)} (h : ASX X K es g) : EX X K (.List es pos) (eMix g) := let ⟨_, p, s⟩ := h; ⟨_, pe_lst p, sx_mix s⟩
/-! ### several names at once, each its own thing -/
def ownP : P → Δ → Option (O × Δ)
  | .tm (.ln _), _ => none
  | .tm o, δ => some (o, δ)
  | .sl i, δ => (force (.sl i) δ).map fun r => (.fz r.1, r.2)
def ownPs : List P → Δ → Option (List O × Δ)
  | [], δ => some ([], δ)
  | p :: ps, δ => (ownP p δ).bind fun r => (ownPs ps r.2).map fun s => (r.1 :: s.1, s.2)
def putAll : List Nat → List O → Δ → Option Δ
  | [], [], δ => some δ
  | i :: is, o :: os, δ => if noLn δ i = true then putAll is os (δ.set i (some o)) else none
  | _, _, _ => none
def fpO (H : Hp) : List V → List O → List Addr
  | v :: vs, o :: os => o.fp H v ++ fpO H vs os
  | _, _ => []
/-- several on their way, all apart from the slots -/
inductive Tms (K : Lay) (F H : Hp) (σ : L2.St) (δ : Δ) : List V → List O → Prop
  | nil : Tms K F H σ δ [] []
  | cons {a : V} {b : O} {as : List V} {bs : List O} : Tmp K F H σ δ a b → Tms K F H σ δ as bs → Tms K F H σ δ (a :: as) (b :: bs)
theorem tms_fp : ∀ {vs : List V} {os : List O}, Tms K F H σ δ vs os → ∀ a ∈ fpO H vs os, (∃ xs, H a = some (.lst xs)) ∧ F a = none ∧ ¬ Held H σ δ a
  | _, _, .nil, a, h => by cases h
  | _, _, .cons x y, a, h => by
    rcases List.mem_append.mp h with e | e
    · exact ⟨(ok_fp x.ok a e).1, (ok_fp x.ok a e).2, x.ap a e⟩
    · exact tms_fp y a e
theorem tms_len : ∀ {vs : List V} {os : List O}, Tms K F H σ δ vs os → vs.length = os.length
  | _, _, .nil => rfl
  | _, _, .cons _ b => by rw [List.length_cons, List.length_cons, tms_len b]
theorem prs_step : ∀ {vs : List V} {ps : List P}, PRs K F H σ δ vs ps → Aft K F H σ δ F' H' δ' → PRs K F' H' σ δ' vs ps ∧ fpA H' vs ps = fpA H vs ps
  | _, _, .nil, _ => ⟨.nil, rfl⟩
  | _, _, .cons x y, a => by
    obtain ⟨h1, h2⟩ := x.step a
    obtain ⟨h3, h4⟩ := prs_step y a
    exact ⟨.cons h1 h3, by unfold fpA; rw [h2, h4]⟩
/-- slots' own things frozen, the rest as it is -/
theorem ownPs_ok : ∀ {ps : List P} {vs : List V} {os : List O} {F H : Hp} {δ δ1 : Δ}, Rep K F H σ δ → PRs K F H σ δ vs ps → (fpA H vs ps).Nodup → ownPs ps δ = some (os, δ1) →
    ∃ F', Aft K F H σ δ F' H δ1 ∧ Tms K F' H σ δ1 vs os ∧ (fpO H vs os).Nodup ∧ (∀ a ∈ fpO H vs os, a ∈ fpA H vs ps)
  | [], _, os, F, H, δ, δ1, r, .nil, nd, e => by
    cases e
    exact ⟨F, .rfl r, .nil, by simp [fpO], fun z hz => by cases hz⟩
  | p :: ps, _, os, F, H, δ, δ1, r, .cons (a := v) (as := vs) x y, nd, e => by
    obtain ⟨⟨o, δ2⟩, e1, e2⟩ := Option.bind_eq_some_iff.mp e
    obtain ⟨⟨os2, δ3⟩, e3, e4⟩ := Option.map_eq_some_iff.mp e2
    cases e4
    have nd' : (p.fp H v ++ fpA H vs ps).Nodup := nd
    rw [List.nodup_append] at nd'
    obtain ⟨nd1, nd2, nd3⟩ := nd'
    cases p with
    | tm u =>
      have : u = o ∧ δ = δ2 := by cases u <;> cases e1 <;> exact ⟨rfl, rfl⟩
      obtain ⟨rfl, rfl⟩ := this
      obtain ⟨F', b1, b3, b4, b5⟩ := ownPs_ok r y nd2 e3
      refine ⟨F', b1, .cons (x.step b1).1 b3, ?_, fun z hz => ?_⟩
      · show (u.fp H v ++ fpO H vs os2).Nodup
        rw [List.nodup_append]
        exact ⟨nd1, b4, fun a ha b hb => nd3 a ha b (b5 b hb)⟩
      · rcases List.mem_append.mp hz with w | w
        · exact List.mem_append_left _ w
        · exact List.mem_append_right _ (b5 z w)
    | sl j =>
      obtain ⟨⟨d, δ4⟩, f1, f2⟩ := Option.map_eq_some_iff.mp e1
      cases f2
      obtain ⟨F1, c1, c2, c3, c4⟩ := force_ok (.rfl r) x (fun z hz => by cases hz) f1
      obtain ⟨y2, fe⟩ := prs_step y c1
      obtain ⟨F', b1, b3, b4, b5⟩ := ownPs_ok c1.rep y2 nd2 e3
      refine ⟨F', c1.trans b1, .cons ⟨dp_mono b1.go.kf c2, by simp [O.fp], fun z hz => by cases hz⟩ b3, b4, fun z hz => ?_⟩
      exact List.mem_append_right _ (b5 z hz)
/-- a slot is given a value, seen from farther back -/
theorem put_far {σ0 : L2.St} (r : Rep K F H σ δ) (t : Tmp K F H σ δ v o) {i : Nat} (hi : noLn δ i = true) (n : ∀ a ∈ o.fp H v, Held H0 σ0 δ0 a ∨ H0 a = none) (g : Go F0 H0 σ0 δ0 F H σ δ) :
    Rep K F H (σ.set i (some v)) (δ.set i (some o)) ∧ Go F0 H0 σ0 δ0 F H (σ.set i (some v)) (δ.set i (some o)) ∧ ∀ a, Held H (σ.set i (some v)) (δ.set i (some o)) a → Held H σ δ a ∨ a ∈ o.fp H v := by
  have hlt : i < δ.length := by
    cases q : δ[i]? with
    | none => simp [noLn, q] at hi
    | some z => exact (List.getElem?_eq_some_iff.mp q).1
  have own_of : ∀ j a, Own H (σ.set i (some v)) (δ.set i (some o)) j a → (j = i ∧ a ∈ o.fp H v) ∨ (j ≠ i ∧ Own H σ δ j a) := fun j a ⟨w, u, q1, q2, q3⟩ => by
    by_cases hj : i = j
    · subst hj
      rw [List.getElem?_set_self hlt] at q2
      rw [List.getElem?_set_self (by rw [r.len]; exact hlt)] at q1
      cases q1; cases q2
      exact .inl ⟨rfl, q3⟩
    · rw [set_get_ne hj] at q1 q2
      exact .inr ⟨fun z => hj z.symm, w, u, q1, q2, q3⟩
  refine ⟨⟨r.kp, by rw [List.length_set, List.length_set]; exact r.len, fun j u hj => ?_, fun j k a hj hk => ?_, r.tb⟩, ⟨g.kf, g.kh, g.nf, fun a ⟨j, hj⟩ => ?_, g.st, fun j ds hj => ?_⟩, fun a ⟨j, hj⟩ => ?_⟩
  · by_cases hij : i = j
    · subst hij
      rw [List.getElem?_set_self hlt] at hj; cases hj
      exact ⟨v, List.getElem?_set_self (by rw [r.len]; exact hlt), t.ok, t.nd⟩
    · rw [set_get_ne hij] at hj
      obtain ⟨w, q1, q2, q3⟩ := r.ok j u hj
      exact ⟨w, by rw [set_get_ne hij]; exact q1, q2, q3⟩
  · rcases own_of j a hj with ⟨rfl, h1⟩ | ⟨n1, h1⟩
    · rcases own_of k a hk with ⟨rfl, h2⟩ | ⟨n2, h2⟩
      · rfl
      · exact absurd ⟨k, h2⟩ (t.ap a h1)
    · rcases own_of k a hk with ⟨rfl, h2⟩ | ⟨n2, h2⟩
      · exact absurd ⟨j, h1⟩ (t.ap a h2)
      · exact r.ap j k a h1 h2
  · rcases own_of j a hj with ⟨rfl, h1⟩ | ⟨n1, h1⟩
    · exact n a h1
    · exact g.hd a ⟨j, h1⟩
  · obtain ⟨q1, es, q2⟩ := g.ln j ds hj
    by_cases hij : i = j
    · subst hij
      simp [noLn, q2] at hi
    · exact ⟨(set_get_ne hij).trans q1, es, (set_get_ne hij).trans q2⟩
  · rcases own_of j a hj with ⟨rfl, h1⟩ | ⟨n1, h1⟩
    · exact .inr h1
    · exact .inl ⟨j, h1⟩
def setAll (σ : L2.St) : List Nat → List V → L2.St
  | i :: is, v :: vs => setAll (σ.set i (some v)) is vs
  | _, _ => σ
theorem putAll_ok {σ0 : L2.St} {F0 H0 F H : Hp} {δ0 : Δ} : ∀ {is : List Nat} {vs : List V} {os : List O} {σ : L2.St} {δ δ1 : Δ}, Rep K F H σ δ → Tms K F H σ δ vs os → (fpO H vs os).Nodup → (∀ a ∈ fpO H vs os, Held H0 σ0 δ0 a ∨ H0 a = none) → Go F0 H0 σ0 δ0 F H σ δ → putAll is os δ = some δ1 →
    Rep K F H (setAll σ is vs) δ1 ∧ Go F0 H0 σ0 δ0 F H (setAll σ is vs) δ1 ∧ is.length = vs.length
  | [], _, _, σ, δ, δ1, r, .nil, nd, n, g, e => by cases e; exact ⟨r, g, rfl⟩
  | [], _, _, σ, δ, δ1, r, .cons x y, nd, n, g, e => by cases e
  | i :: is, _, _, σ, δ, δ1, r, .nil, nd, n, g, e => by cases e
  | i :: is, _, _, σ, δ, δ1, r, .cons (a := v) (b := o) (as := vs) (bs := os) x y, nd, n, g, e => by
    unfold putAll at e
    split at e
    case isFalse => cases e
    rename_i hi
    have nd' : (o.fp H v ++ fpO H vs os).Nodup := nd
    rw [List.nodup_append] at nd'
    obtain ⟨nd1, nd2, nd3⟩ := nd'
    obtain ⟨r1, g1, h1⟩ := put_far r x hi (fun a ha => n a (List.mem_append_left _ ha)) g
    have y1 : Tms K F H (σ.set i (some v)) (δ.set i (some o)) vs os := by
      have dj : ∀ a ∈ fpO H vs os, a ∉ o.fp H v := fun a ha z => nd3 a z a ha rfl
      clear e nd nd2 nd3 n
      induction y with
      | nil => exact .nil
      | cons a b ih =>
        refine .cons ⟨a.ok, a.nd, fun z hz w => ?_⟩ (ih fun z hz => dj z (List.mem_append_right _ hz))
        rcases h1 z w with q | q
        · exact a.ap z hz q
        · exact dj z (List.mem_append_left _ hz) q
    obtain ⟨a1, a2, a3⟩ := putAll_ok r1 y1 nd2 (fun a ha => n a (List.mem_append_right _ ha)) g1 e
    exact ⟨a1, a2, by simp [a3]⟩
def gNames : List Nat → TGs
  | [] => gNil
  | i :: is => gCons (gName i) (gNames is)
theorem gNames_ok : ∀ {is : List Nat} {vs : List V} {σ : L2.St} {Q : L2.St → Hp → Prop}, is.length = vs.length → Q (setAll σ is vs) H → gNames is vs σ H Q
  | [], [], _, _, _, q => ⟨rfl, q⟩
  | [], _ :: _, _, _, l, _ => by cases l
  | _ :: _, [], _, _, l, _ => by cases l
  | i :: is, v :: vs, σ, Q, l, q => ⟨v, vs, rfl, gNames_ok (is := is) (by simpa using l) q⟩
def mTup (is : List Nat) (g : Δ → Option (List P × Δ)) : Δ → Option Out := fun δ => (g δ).bind fun r => if r.1.length ≤ sizeLine ∧ r.1.length = is.length then (ownPs r.1 r.2).bind fun s => (putAll is s.1 s.2).map .nx else none
theorem ss_tup {n : Nat} {is : List Nat} {ta : TA} {g : Δ → Option (List P × Δ)} (hg : SXs K ta g) (hn : is.length = n) : SS K (tAsg (tTup ta) (gTup K n (gNames is))) (mTup is g) := fun δ out e σ F H rp E kq => by
  obtain ⟨⟨ps, δ1⟩, e1, e⟩ := Option.bind_eq_some_iff.mp e
  dsimp only at e
  split at e
  case isFalse => cases e
  rename_i hz
  obtain ⟨⟨os, δ2⟩, e2, e⟩ := Option.bind_eq_some_iff.mp e
  obtain ⟨δ3, e3, e⟩ := Option.map_eq_some_iff.mp e
  cases e
  refine hg δ ps δ1 e1 σ F H rp _ fun vs F1 H1 a1 p1 nd n1 => ⟨by rw [(prs_get p1).1]; exact hz.1, fun b hb => ?_⟩
  have nw : New F1 H1 F1 (upd H1 b (.tup vs)) := new_ext a1.rep.kp hb
  have a2 := nw.aft a1.rep
  obtain ⟨p2, fe⟩ := prs_step p1 a2
  obtain ⟨F2, a3, t3, nd3, sub3⟩ := ownPs_ok a2.rep p2 (by rw [fe]; exact nd) e2
  have g3 := (a1.go.trans a2.go).trans a3.go
  obtain ⟨r4, g4, l4⟩ := putAll_ok (σ0 := σ) (δ0 := δ) (F0 := F) (H0 := H) a3.rep t3 nd3 (fun a ha => n1 a (by rw [← fe]; exact sub3 a ha)) g3 e3
  refine ⟨b, vs, rfl, SqT.of upd_same, by rw [← l4, hn], gNames_ok l4 ?_⟩
  exact kq _ F2 _ r4 g4
def NX (X : Cx) (is : List Nat) (es : List Expr) : Prop := PGs X es (gNames is)
theorem n_nil : NX X [] [] := pgs_nil
theorem n_cons (i : Nat) {x : Str} {p : Pos} {es : List Expr} {is : List Nat} (hN : X.N.Nodup) (h : NX X is es) (hi : X.N[i]? = some x := by rfl) (hx : Loc X.env.scope x := by first | exact .inl rfl | exact .inr rfl) (hf : X.fn x = true ∨ X.env.scope.names.lookup x = some .local := by first | exact .inl rfl | exact .inr rfl)
    (hst : (assignEach ((.Name x p) :: es) X.env).map (·.2) = assign (.Name x p) X.env :: (assignEach es X.env).map (·.2) := by rfl) : NX X (i :: is) ((.Name x p) :: es) := pgs_cons (pg_name hN hi hx hf) h hst
theorem b_tup (Z : Fits X K k) (is : List Nat) {n : Nat} {es ns : List Expr} {j jn : Nat} {p1 p2 pos : Pos} {g : Δ → Option (List P × Δ)} (ha : ASX X K es g) (hg : NX X is ns) (hl : is.length = n := by rfl) (hn : (assignEach ns X.env).length = n := by rfl) (hst : (assignEach ns X.env).findIdx? (·.1) = none := by rfl)
    (hs : swapsWithSole [.Tuple ns jn p1] (.Tuple es j p2) pos.line X.env = pure false := by rfl) (hw : swappedStores [.Tuple ns jn p1] (.Tuple es j p2) X.env = pure none := by rfl)
    (h1 : (assignEach [.Tuple ns jn p1] X.env).map (·.2) = [assign (.Tuple ns jn p1) X.env] := by rfl) : BX X K (.Assign [.Tuple ns jn p1] (.Tuple es j p2) pos) (mTup is g) := by
  obtain ⟨_, p, s⟩ := ha
  refine ⟨_, ps_asg (pe_tup p) (pg_tup (n := n) Z.calm hg hn hst) hs hw h1, ?_⟩
  rw [Z.K]
  exact ss_tup s hl
/-! ### a slot's own thing changes, at an address of its own -/
theorem rep_chg (r : Rep K F H σ δ) {i : Nat} {o' : O} {q : Addr} {ys : List V} (h1 : δ[i]? = some (some o)) (hσ : σ[i]? = some (some v)) (hq : q ∈ o.fp H v) (ok : Ok K F (upd H q (.lst ys)) v o') (fe : o'.fp (upd H q (.lst ys)) v = o.fp H v) (hl : isLn o = false) :
    Rep K F (upd H q (.lst ys)) σ (δ.set i (some o')) ∧ Go F H σ δ F (upd H q (.lst ys)) σ (δ.set i (some o')) := by
  obtain ⟨v', e1, e2, e3⟩ := r.ok i o h1
  rw [hσ] at e1; cases e1
  have iq : Own H σ δ i q := ⟨v, o, hσ, h1, hq⟩
  have hlt : i < δ.length := (List.getElem?_eq_some_iff.mp h1).1
  have same : ∀ (j : Nat) (w : V) (u : O), j ≠ i → σ[j]? = some (some w) → δ[j]? = some (some u) → ∀ a ∈ u.fp H w, (upd H q (.lst ys)) a = H a := fun j w u hj e1 e2 a ha => upd_ne fun z => by
    subst z
    exact hj (r.ap j i a ⟨w, u, e1, e2, ha⟩ iq)
  have own_of : ∀ j a, Own (upd H q (.lst ys)) σ (δ.set i (some o')) j a → Own H σ δ j a := fun j a ⟨w, u, q1, q2, q3⟩ => by
    by_cases hj : i = j
    · subst hj
      rw [List.getElem?_set_self hlt] at q2
      rw [hσ] at q1
      cases q1; cases q2
      rw [fe] at q3
      exact ⟨v, o, hσ, h1, q3⟩
    · rw [set_get_ne hj] at q2
      obtain ⟨w', z1, z2, _⟩ := r.ok j u q2
      rw [q1] at z1; cases z1
      rw [fp_frame z2 (same j w u (fun z => hj z.symm) q1 q2)] at q3
      exact ⟨w, u, q1, q2, q3⟩
  have Fq : F q = none := (ok_fp e2 q hq).2
  refine ⟨⟨fun a u e => ?_, by rw [List.length_set]; exact r.len, fun j u hj => ?_, fun j k a hj hk => r.ap j k a (own_of j a hj) (own_of k a hk), r.tb⟩, ⟨.rfl, fun a u e nh => ⟨u, ?_, .rfl⟩, fun _ z => .inl z, fun a ⟨j, hj⟩ => .inl ⟨j, own_of j a hj⟩, fun a z => ?_, fun j ds hj => ⟨rfl, ds, ?_⟩⟩⟩
  · rw [upd_ne (show a ≠ q by intro z; subst z; rw [Fq] at e; cases e)]
    exact r.kp a u e
  · by_cases hij : i = j
    · subst hij
      rw [List.getElem?_set_self hlt] at hj; cases hj
      exact ⟨v, hσ, ok, by rw [fe]; exact e3⟩
    · rw [set_get_ne hij] at hj
      obtain ⟨w, q1, q2, q3⟩ := r.ok j u hj
      have sm := same j w u (fun z => hij z.symm) q1 hj
      exact ⟨w, q1, ok_frame .rfl q2 fun a ha => ⟨sm a ha, (ok_fp q2 a ha).2⟩, by rw [fp_frame q2 sm]; exact q3⟩
  · rw [upd_ne fun z => nh (by subst z; exact ⟨i, iq⟩)]; exact e
  · by_cases w : a = q
    · subst w; rw [upd_same]; simp
    · rw [upd_ne w]; exact z
  · by_cases hij : i = j
    · subst hij
      rw [h1] at hj; cases hj; cases hl
    · rw [set_get_ne hij]; exact hj
theorem chg_aft (a : Aft K F0 H0 σ δ0 F H δ) {i : Nat} {o' : O} {q : Addr} {ys : List V} (h1 : δ[i]? = some (some o)) (hσ : σ[i]? = some (some v)) (hq : q ∈ o.fp H v) (ok : Ok K F (upd H q (.lst ys)) v o') (fe : o'.fp (upd H q (.lst ys)) v = o.fp H v) (hl : isLn o = false) (hl' : isLn o' = false) :
    Aft K F0 H0 σ δ0 F (upd H q (.lst ys)) (δ.set i (some o')) := by
  obtain ⟨r, g⟩ := rep_chg a.rep h1 hσ hq ok fe hl
  refine ⟨r, a.go.trans g, fun j u hj => ?_, fun j es hj => ?_⟩
  · obtain ⟨u1, q1⟩ := a.un j u hj
    by_cases hij : i = j
    · subst hij; exact ⟨_, set_get_eq h1⟩
    · exact ⟨u1, by rw [set_get_ne hij]; exact q1⟩
  · by_cases hij : i = j
    · subst hij; rw [set_get_eq h1] at hj; cases hj; cases hl'
    · rw [set_get_ne hij] at hj; exact a.nl j es hj
end
end Vy
end
section
set_option Elab.async false
set_option linter.all false
set_option maxRecDepth 100000
set_option maxHeartbeats 3000000
/-! Lists inside lists: s[i].append(x), for x in s[i]: x.append(y), s.index(x). -/
namespace Va
open PySem PySem.Spec PyProof.Rows L2 Vi Vf Vo Vp Vs Vt Vu Vv Vg Vw Vx Vy
section
variable {X : Cx} {K : Lay} {k : Nat} {F H F' H' F0 H0 F1 H1 : Hp} {σ σ' : L2.St} {δ δ' δ0 δ1 : Δ} {v : V} {p : P} {o : O} {d : D} {vs : List V} {ps : List P} {os : List O}
/-- an expression that leaves the heap as it is -/
def SQ (K : Lay) (te : TE) (g : Δ → Option (D × Δ)) : Prop := ∀ δ d δ', g δ = some (d, δ') → ∀ σ F H, Rep K F H σ δ → ∀ Q : VK, (∀ v F', Aft K F H σ δ F' H δ' → Dp K F' v d → Q v H) → te σ H Q
def QX (X : Cx) (K : Lay) (e : Expr) (f : Δ → Option (D × Δ)) : Prop := ∃ te, PE X e te ∧ SQ K te f
theorem sq_c {w : V} (h : sv d = some w) : SQ K (tC w) (eC d) := fun δ d' δ' e σ F H r Q kq => by
  cases e; exact kq w F (.rfl r) (sv_dp h)
theorem sq_var {i : Nat} : SQ K (tVar i) (eF (eVar i)) := fun δ d δ' e σ F H r Q kq => by
  obtain ⟨⟨p, δ1⟩, e1, e2⟩ := Option.bind_eq_some_iff.mp e
  unfold eVar at e1
  split at e1
  · rename_i d0 hd
    cases e1
    cases e2
    obtain ⟨v, q1, q2, _⟩ := r.ok i _ hd
    exact ⟨v, q1, kq v F (.rfl r) q2⟩
  · rename_i o hn hd
    cases e1
    obtain ⟨v, q1, q2, _⟩ := r.ok i _ hd
    obtain ⟨F2, a2, d2, _⟩ := force_ok (p := .sl i) (v := v) (.rfl r) ⟨q1, o, hd⟩ (fun z hz => by cases hz) e2
    exact ⟨v, q1, kq v F2 a2 d2⟩
  · cases e1
theorem q_int {i : Int} {j : Nat} {pos : Pos} : QX X K (.Constant (.int i) j pos) (eC (.int i)) := ⟨_, pe_int, sq_c rfl⟩
theorem q_non {j : Nat} {pos : Pos} : QX X K (.Constant .none j pos) (eC .none) := ⟨_, pe_non, sq_c rfl⟩
theorem q_var (i : Nat) {x : Str} {pos : Pos} (hN : X.N[i]? = some x := by rfl) (hv : Vis X.env.scope x := by first | exact Or.inl rfl | exact Or.inr (Or.inl rfl) | exact Or.inr (Or.inr rfl)) (hd : (x == ("__debug__" : Str)) = false := by decide) (hcd : (x == ("__classdict__" : Str)) = false := by decide) : QX X K (.Name x pos) (eF (eVar i)) := ⟨_, pe_var (i := i) hN hv hd hcd, sq_var⟩
/-! ### s[i].append(x) -/
/-- the items of the j-th list -/
def rowAt (n : Int) : O → Option (Nat × List D)
  | .oo dss => (ixN dss.length n).bind fun j => (dss[j]?).map fun es => (j, es)
  | .mx is => (ixN is.length n).bind fun j => match is[j]? with
    | some (.ow es) => some (j, es)
    | _ => none
  | _ => none
def setRow (j : Nat) (es : List D) : O → O
  | .oo dss => .oo (dss.set j es)
  | .mx is => .mx (is.set j (.ow es))
  | o => o
theorem owa_get : ∀ {qs : List Addr} {dss : List (List D)} {j : Nat} {es : List D}, OwA K F H qs dss → dss[j]? = some es → ∃ q, qs[j]? = some q ∧ OwL K F H q es
  | _, _, _, _, .nil, e => by simp at e
  | _, _, 0, _, .cons a _, e => by simp at e; subst e; exact ⟨_, rfl, a⟩
  | _, _, j + 1, es, .cons _ b, e => by
    obtain ⟨q, h1, h2⟩ := owa_get (j := j) b (by simpa using e)
    exact ⟨q, by simpa using h1, h2⟩
theorem owa_len : ∀ {qs : List Addr} {dss : List (List D)}, OwA K F H qs dss → qs.length = dss.length
  | _, _, .nil => rfl
  | _, _, .cons _ b => by rw [List.length_cons, List.length_cons, owa_len b]
theorem okIs_len : ∀ {vs : List V} {is : List I}, OkIs K F H vs is → vs.length = is.length
  | _, _, .nil => rfl
  | _, _, .cons _ b => by rw [List.length_cons, List.length_cons, okIs_len b]
theorem okIs_get : ∀ {vs : List V} {is : List I} {j : Nat} {i : I}, OkIs K F H vs is → is[j]? = some i → ∃ v, vs[j]? = some v ∧ OkI K F H v i ∧ ∀ a ∈ i.fp H v, a ∈ fpI H vs is
  | _, _, _, _, .nil, e => by simp at e
  | _, _, 0, _, .cons a _, e => by simp at e; subst e; exact ⟨_, rfl, a, fun z hz => List.mem_append_left _ hz⟩
  | _, _, j + 1, i, .cons _ b, e => by
    obtain ⟨v, h1, h2, h3⟩ := okIs_get (j := j) b (by simpa using e)
    exact ⟨v, by simpa using h1, h2, fun z hz => List.mem_append_right _ (h3 z hz)⟩
theorem owl_new {q : Addr} {ys : List V} {es : List D} (Fq : F q = none) (h : DpAll K F ys es) : OwL K F (upd H q (.lst ys)) q es := ⟨ys, upd_same, Fq, h⟩
theorem owa_set {q : Addr} {ys : List V} {es : List D} (Fq : F q = none) (hy : DpAll K F ys es) : ∀ {qs : List Addr} {dss : List (List D)} {j : Nat}, OwA K F H qs dss → qs.Nodup → qs[j]? = some q → OwA K F (upd H q (.lst ys)) qs (dss.set j es)
  | _, _, _, .nil, _, e => by simp at e
  | _, _, 0, .cons (q := p) a b, nd, e => by
    simp at e; subst e
    refine .cons (owl_new Fq hy) (owa_frame .rfl b fun z hz => ⟨upd_ne fun w => ?_, ?_⟩)
    · subst w; exact (List.nodup_cons.mp nd).1 hz
    · obtain ⟨ds, xs, _, w, _⟩ := owa_mem b z hz; exact w
  | _, _, j + 1, .cons (q := p) a b, nd, e => by
    have e' := (by simpa using e : _)
    refine .cons ?_ (owa_set Fq hy b (List.nodup_cons.mp nd).2 e')
    obtain ⟨xs, h1, h2, h3⟩ := a
    refine ⟨xs, ?_, h2, h3⟩
    rw [upd_ne fun w => ?_]; exact h1
    subst w
    exact (List.nodup_cons.mp nd).1 (List.mem_of_getElem? e')
theorem okIs_set {q : Addr} {ys : List V} {es : List D} (Fq : F q = none) (hy : DpAll K F ys es) : ∀ {vs : List V} {is : List I} {j : Nat} {es0 : List D}, OkIs K F H vs is → (fpI H vs is).Nodup → vs[j]? = some (.ref q) → is[j]? = some (.ow es0) →
    OkIs K F (upd H q (.lst ys)) vs (is.set j (.ow es)) ∧ fpI (upd H q (.lst ys)) vs (is.set j (.ow es)) = fpI H vs is
  | _, _, _, _, .nil, _, e, _ => by simp at e
  | _, _, 0, es0, .cons a b, nd, e, e2 => by
    simp at e e2
    subst e e2
    have nd' : ([q] ++ fpI H _ _).Nodup := nd
    have nq : ∀ z ∈ fpI H _ _, z ≠ q := fun z hz w => by
      subst w
      exact (List.nodup_append.mp nd').2.2 z (by simp) z hz rfl
    have sm : ∀ z ∈ fpI H _ _, (upd H q (.lst ys)) z = H z := fun z hz => upd_ne (nq z hz)
    refine ⟨.cons ⟨q, rfl, owl_new Fq hy⟩ (okIs_frame .rfl b fun z hz => ⟨sm z hz, (okIs_fp b z hz).2⟩), ?_⟩
    show [q] ++ fpI (upd H q (.lst ys)) _ _ = [q] ++ fpI H _ _
    rw [fpI_frame b sm]
  | v :: vs, i :: is, j + 1, es0, .cons a b, nd, e, e2 => by
    have e' := (by simpa using e : _)
    have e2' := (by simpa using e2 : _)
    have nd' : (i.fp H v ++ fpI H vs is).Nodup := nd
    obtain ⟨n1, n2, n3⟩ := List.nodup_append.mp nd'
    obtain ⟨h1, h2⟩ := okIs_set Fq hy b n2 e' e2'
    obtain ⟨w, g1, g2, g3⟩ := okIs_get b e2'
    rw [e'] at g1; cases g1
    have qin : q ∈ fpI H vs is := g3 q (by simp [I.fp])
    have sm : ∀ z ∈ i.fp H v, (upd H q (.lst ys)) z = H z := fun z hz => upd_ne fun w => by
      subst w; exact n3 z hz z qin rfl
    refine ⟨.cons (okI_frame .rfl a fun z hz => ⟨sm z hz, (okI_fp a z hz).2⟩) h1, ?_⟩
    show i.fp (upd H q (.lst ys)) v ++ fpI (upd H q (.lst ys)) vs (is.set j (.ow es)) = i.fp H v ++ fpI H vs is
    rw [h2, fpI_frame1 a sm]
/-- the j-th list of a slot's own list of lists: where it stands, and what a change makes -/
theorem row_ok (ok : Ok K F H v o) (nd : (o.fp H v).Nodup) {n : Int} {j : Nat} {es : List D} (e : rowAt n o = some (j, es)) :
    ∃ p zs q xs, v = .ref p ∧ H p = some (.lst zs) ∧ atI zs n = some (.ref q) ∧ q ∈ o.fp H v ∧ H q = some (.lst xs) ∧ DpAll K F xs es ∧ F q = none ∧ isLn o = false ∧ isLn (setRow j [] o) = false ∧
      ∀ (ys : List V) (es' : List D), DpAll K F ys es' → Ok K F (upd H q (.lst ys)) v (setRow j es' o) ∧ (setRow j es' o).fp (upd H q (.lst ys)) v = o.fp H v ∧ isLn (setRow j es' o) = false := by
  cases o with
  | oo dss =>
    obtain ⟨j', e1, e⟩ := Option.bind_eq_some_iff.mp e
    obtain ⟨es', e2, e3⟩ := Option.map_eq_some_iff.mp e
    cases e3
    obtain ⟨p, qs, rfl, h1, h2, h3⟩ := ok
    obtain ⟨q, q1, xs, q2, q3, q4⟩ := owa_get h3 e2
    have fe : O.fp H (.ref p) (.oo dss) = p :: qs := by show p :: kids H p = _; rw [kids_refs h1]
    rw [fe] at nd
    obtain ⟨np, nq⟩ := List.nodup_cons.mp nd
    have qm := List.mem_of_getElem? q1
    have qp : p ≠ q := fun z => by subst z; exact np qm
    refine ⟨p, _, q, xs, rfl, h1, ?_, by rw [fe]; exact List.mem_cons_of_mem _ qm, q2, q4, q3, rfl, rfl, fun ys es2 hy => ⟨⟨p, qs, rfl, by rw [upd_ne qp]; exact h1, h2, owa_set q3 hy h3 nq q1⟩, ?_, rfl⟩⟩
    · unfold atI
      rw [List.length_map, owa_len h3, e1]
      show (qs.map V.ref)[j]? = _
      rw [List.getElem?_map, q1]; rfl
    · rw [fe]
      show p :: kids (upd H q (.lst ys)) p = _
      rw [kids_refs (show (upd H q (.lst ys)) p = some (.lst (qs.map V.ref)) by rw [upd_ne qp]; exact h1)]
  | mx is =>
    obtain ⟨j', e1, e⟩ := Option.bind_eq_some_iff.mp e
    split at e
    case h_2 => cases e
    rename_i es' e2
    cases e
    obtain ⟨p, zs, rfl, h1, h2, h3⟩ := ok
    obtain ⟨w, q1, ⟨q, rfl, xs, q2, q3, q4⟩, q5⟩ := okIs_get h3 e2
    have fe : O.fp H (.ref p) (.mx is) = p :: fpI H zs is := by show p :: mkids H p is = _; rw [mkids_at h1]
    rw [fe] at nd
    obtain ⟨np, nq⟩ := List.nodup_cons.mp nd
    have qm : q ∈ fpI H zs is := q5 q (by simp [I.fp])
    have qp : p ≠ q := fun z => by subst z; exact np qm
    refine ⟨p, zs, q, xs, rfl, h1, ?_, by rw [fe]; exact List.mem_cons_of_mem _ qm, q2, q4, q3, rfl, rfl, fun ys es2 hy => ?_⟩
    · unfold atI
      rw [okIs_len h3, e1]
      exact q1
    · obtain ⟨s1, s2⟩ := okIs_set q3 hy h3 nq q1 e2
      have hp : (upd H q (.lst ys)) p = some (.lst zs) := by rw [upd_ne qp]; exact h1
      refine ⟨⟨p, zs, rfl, hp, h2, s1⟩, ?_, rfl⟩
      rw [fe]
      show p :: mkids (upd H q (.lst ys)) p _ = _
      rw [mkids_at hp, s2]
  | _ => cases e
def eSubApp (i : Nat) (gj ga : Δ → Option (D × Δ)) : Δ → Option (D × Δ) := fun δ => (δ[i]?.bind id).bind fun _ => (gj δ).bind fun r => match r.1 with
  | .int n => (r.2[i]?.bind id).bind fun o1 => (rowAt n o1).bind fun _ => (ga r.2).bind fun s => (s.2[i]?.bind id).bind fun o => (rowAt n o).bind fun z => if z.2.length < sizeLine then some (.none, s.2.set i (some (setRow z.1 (z.2 ++ [s.1]) o))) else none
  | _ => none
theorem id_some {α : Type} {x : Option (Option α)} {a : α} (h : x.bind id = some a) : x = some (some a) := by
  cases x with
  | none => cases h
  | some y => cases y with
    | none => cases h
    | some z => cases h; rfl
theorem sd_subApp {i : Nat} {tj ta : TE} {gj ga : Δ → Option (D × Δ)} (hj : SQ K tj gj) (ha : SQ K ta ga) : SD K (tBM K "list" rAppend (tOp (rIx K) (tVar i) tj) (tCons ta tNil)) (eSubApp i gj ga) := fun δ d δ' e σ F H rp Q kq => by
  obtain ⟨o0, h0, e⟩ := Option.bind_eq_some_iff.mp e
  have h0 := id_some h0
  obtain ⟨⟨dn, δ1⟩, e1, e⟩ := Option.bind_eq_some_iff.mp e
  cases dn with
  | int n =>
    dsimp only at e
    obtain ⟨o1, g1, e⟩ := Option.bind_eq_some_iff.mp e
    have g1 := id_some g1
    obtain ⟨⟨j1, es1⟩, g2, e⟩ := Option.bind_eq_some_iff.mp e
    obtain ⟨⟨da, δ2⟩, e2, e⟩ := Option.bind_eq_some_iff.mp e
    obtain ⟨o, ho, e⟩ := Option.bind_eq_some_iff.mp e
    have ho := id_some ho
    obtain ⟨⟨j, es⟩, e3, e⟩ := Option.bind_eq_some_iff.mp e
    split at e
    case isFalse => cases e
    rename_i hz
    cases e
    obtain ⟨v, hv, _⟩ := rp.ok i _ h0
    refine ⟨v, hv, ?_⟩
    refine hj δ _ δ1 e1 σ F H rp _ fun w F1 a1 d1 => ?_
    obtain ⟨v', k1, k2, k3⟩ := a1.rep.ok i o1 g1
    rw [hv] at k1; cases k1
    obtain ⟨p, zs, q, xs, rfl, m2, m3, _, m5, _⟩ := row_ok k2 k3 g2
    refine .inl ⟨p, zs, n, .ref q, rfl, dp_int d1, SqL.of m2, m3, .inl ⟨rfl, xs, SqL.of m5⟩, ?_⟩
    refine ha δ1 _ δ2 e2 σ F1 H a1.rep _ fun y F2 a2 d2 => ?_
    obtain ⟨v', k1, k2, k3⟩ := a2.rep.ok i o ho
    rw [hv] at k1; cases k1
    obtain ⟨p', zs', q', xs', c1, c2, c3, c4, c5, c6, c7, c8, c9, c10⟩ := row_ok k2 k3 e3
    cases c1
    rw [m2] at c2; cases c2
    rw [m3] at c3; cases c3
    rw [m5] at c5; cases c5
    refine ⟨q, xs, y, rfl, rfl, m5, by rw [dpa_len c6]; exact hz, ?_⟩
    obtain ⟨w1, w2, w3⟩ := c10 (xs ++ [y]) (es ++ [da]) (dpa_app c6 (.cons d2 .nil))
    exact kq .non F2 _ (chg_aft (a1.trans a2) ho hv c4 w1 w2 c8 w3) .non
  | _ => cases e
theorem x_subApp (Z : Fits X K k) (i : Nat) {x : Str} {b e : Expr} {xp spos apos pos : Pos} {gj ga : Δ → Option (D × Δ)} (hj : QX X K b gj) (ha : QX X K e ga) (hpi : PlainIx b := by intro _ _; rfl)
    (hN : X.N[i]? = some x := by rfl) (hv : Vis X.env.scope x := by first | exact Or.inl rfl | exact Or.inr (Or.inl rfl) | exact Or.inr (Or.inr rfl)) (hd : (x == ("__debug__" : Str)) = false := by decide) (hcd : (x == ("__classdict__" : Str)) = false := by decide)
    (hbase : attributeBase (.Subscript (.Name x xp) b spos) "append" X.env (eval (.Subscript (.Name x xp) b spos) X.env) = eval (.Subscript (.Name x xp) b spos) X.env := by rfl)
    (hfew : ((backTo pos (starEach [e] X.env)).all (fun x => !x.1) && (backToKw pos (keywordEach [] X.env)).all (fun x => x.1.isSome) && decide (([e] : List Expr).length + ([] : List Keyword).length + (if ([] : List Keyword).isEmpty then 0 else 1) < 30)) = true := by rfl)
    (hline : (apos.endLine == pos.line) = true := by rfl) (hs : starEach [e] X.env = (false, eval e X.env) :: starEach [] X.env := by rfl) (hpl : (backTo pos (starEach [] X.env)).any (·.1) = false := by rfl) :
    DX X K (.Call (.Attribute (.Subscript (.Name x xp) b spos) "append" apos) [e] [] pos) (eSubApp i gj ga) := by
  obtain ⟨tj, p, s⟩ := hj
  obtain ⟨ta, q, t⟩ := ha
  refine ⟨_, pe_bm PySem.F.plainAttrs_list PySem.F.slot_list_append PySem.F.type_list_append mt_append (pe_ix (r := rIx X.K) ix_seq (pe_var (i := i) hN hv hd hcd) p hpi) (pa_cons q pa_nil hs) hbase hfew hline hs hpl, ?_⟩
  rw [Z.K]
  exact sd_subApp s t
/-! ### s.index(x) -/
def idxD (d e : D) : Option D := match d with
  | .list ds => if SeqAt.shaped (.list ds) = true ∧ SeqAt.shaped e = true then (ds.findIdx? fun z => PyData.eqv z e).map fun j => .int (j : Nat) else none
  | _ => none
def isList : D → Bool
  | .list _ => true
  | _ => false
def eIdx (f g : Δ → Option (P × Δ)) : Δ → Option (D × Δ) := fun δ => (f δ).bind fun r => (r.1.data r.2).bind fun d0 => if isList d0 = true then (g r.2).bind fun s => (r.1.data s.2).bind fun d => (s.1.data s.2).bind fun e => (idxD d e).map fun z => (z, s.2) else none
theorem dp_sqL {x : V} {ds : List D} (h : Dp K H x (.list ds)) : ∃ p xs, x = .ref p ∧ SqL K H p xs := by
  obtain ⟨p, xs, e, s, _⟩ := dp_list h
  exact ⟨p, xs, e, s⟩
theorem sd_index {ta tb : TE} {f g : Δ → Option (P × Δ)} (hf : SX K ta f) (hg : SX K tb g) : SD K (tBM K "list" (rIndexD K) ta (tCons tb tNil)) (eIdx f g) := fun δ d δ' e σ F H rp Q kq => by
  obtain ⟨⟨p, δ1⟩, e1, e⟩ := Option.bind_eq_some_iff.mp e
  obtain ⟨d0, e0, e⟩ := Option.bind_eq_some_iff.mp e
  split at e
  case isFalse => cases e
  rename_i hl
  obtain ⟨⟨q, δ2⟩, e2, e⟩ := Option.bind_eq_some_iff.mp e
  obtain ⟨dx, e3, e⟩ := Option.bind_eq_some_iff.mp e
  obtain ⟨dy, e4, e⟩ := Option.bind_eq_some_iff.mp e
  obtain ⟨z, e5, e⟩ := Option.map_eq_some_iff.mp e
  cases e
  cases d0 with
  | list ds0 =>
    refine hf δ p δ1 e1 σ F H rp _ fun x F1 H1 a1 p1 n1 => ?_
    obtain ⟨a, xs, rfl, sq⟩ := dp_sqL (pr_dp a1.rep p1 e0)
    refine ⟨.inl ⟨rfl, xs, sq⟩, ?_⟩
    refine hg δ1 q δ2 e2 σ F1 H1 a1.rep _ fun y F2 H2 a2 p2 n2 => ?_
    have px := pr_dp a2.rep (p1.step a2).1 e3
    have py := pr_dp a2.rep p2 e4
    cases dx with
    | list ds =>
      unfold idxD at e5
      dsimp only at e5
      split at e5
      case isFalse => cases e5
      rename_i hs
      obtain ⟨j, e6, e7⟩ := Option.map_eq_some_iff.mp e5
      subst e7
      obtain ⟨hlt, h1, h2⟩ := List.findIdx?_eq_some_iff_getElem.mp e6
      refine ⟨a, y, dy, ds, j, ds[j], rfl, rfl, px, py, hs.1, hs.2, List.getElem?_eq_getElem hlt, h1, fun m z' hm hz => ?_, kq _ F2 H2 (a1.trans a2) (.int _)⟩
      have hml : m < ds.length := Nat.lt_trans hm hlt
      rw [List.getElem?_eq_getElem hml] at hz
      cases hz
      have := h2 m hm
      simpa using this
    | _ => cases e5
  | _ => cases hl
theorem x_index (Z : Fits X K k) {a b : Expr} {apos pos : Pos} {f g : Δ → Option (P × Δ)} (ha : EX X K a f) (hb : EX X K b g)
    (hbase : attributeBase a "index" X.env (eval a X.env) = eval a X.env := by rfl)
    (hfew : ((backTo pos (starEach [b] X.env)).all (fun x => !x.1) && (backToKw pos (keywordEach [] X.env)).all (fun x => x.1.isSome) && decide (([b] : List Expr).length + ([] : List Keyword).length + (if ([] : List Keyword).isEmpty then 0 else 1) < 30)) = true := by rfl)
    (hline : (apos.endLine == pos.line) = true := by rfl) (hs : starEach [b] X.env = (false, eval b X.env) :: starEach [] X.env := by rfl) (hpl : (backTo pos (starEach [] X.env)).any (·.1) = false := by rfl) :
    DX X K (.Call (.Attribute a "index" apos) [b] [] pos) (eIdx f g) := by
  obtain ⟨ta, p, s⟩ := ha
  obtain ⟨tb, q, t⟩ := hb
  refine ⟨_, pe_bm PySem.F.plainAttrs_list PySem.F.slot_list_index PySem.F.type_list_index (mt_indexD (room65 Z)) p (pa_cons q pa_nil hs) hbase hfew hline hs hpl, ?_⟩
  rw [Z.K]
  exact sd_index s t
/-! ### for c in s[n]: c.append(x) : what is in the slot is spoilt -/
def mSpoil (i j : Nat) (n : Int) (d : D) : Δ → Option Out := fun δ => (δ[i]?.bind id).bind fun o => match o with
  | .mx is => (ixN is.length n).bind fun a => match is[a]? with
    | some (.oo dss) => if (dss.all fun es => decide (es.length < sizeLine)) = true ∧ noLn δ j = true ∧ i ≠ j ∧ (sv d).isSome = true then some (.nx ((δ.set i none).set j none)) else none
    | _ => none
  | _ => none
theorem fpI_part : ∀ {vs : List V} {is : List I} {j : Nat} {i : I} {v : V}, (fpI H vs is).Nodup → vs[j]? = some v → is[j]? = some i → (i.fp H v).Nodup
  | [], _, _, _, _, _, e, _ => by simp at e
  | _ :: _, [], _, _, _, _, _, e => by simp at e
  | v :: vs, i :: is, 0, _, _, nd, e, e2 => by
    simp at e e2
    subst e e2
    exact (List.nodup_append.mp (show (i.fp H v ++ fpI H vs is).Nodup from nd)).1
  | v :: vs, i :: is, j + 1, _, _, nd, e, e2 => fpI_part (j := j) (List.nodup_append.mp (show (i.fp H v ++ fpI H vs is).Nodup from nd)).2.1 (by simpa using e) (by simpa using e2)
/-- a slot of which nothing is known may hold anything -/
theorem rep_any (r : Rep K F H σ δ) {j : Nat} {x : V} (h : δ[j]? = some none) : Rep K F H (σ.set j (some x)) δ ∧ ∀ a, Held H (σ.set j (some x)) δ a → Held H σ δ a := by
  have own_of : ∀ l a, Own H (σ.set j (some x)) δ l a → Own H σ δ l a := fun l a ⟨w, u, q1, q2, q3⟩ => by
    have hl : j ≠ l := fun z => by subst z; rw [h] at q2; cases q2
    rw [set_get_ne hl] at q1
    exact ⟨w, u, q1, q2, q3⟩
  refine ⟨⟨r.kp, by rw [List.length_set]; exact r.len, fun l u hl => ?_, fun a b c ha hb => r.ap a b c (own_of a c ha) (own_of b c hb), r.tb⟩, fun a ⟨l, hl⟩ => ⟨l, own_of l a hl⟩⟩
  have hn : j ≠ l := fun z => by subst z; rw [h] at hl; cases hl
  obtain ⟨w, q1, q2⟩ := r.ok l u hl
  exact ⟨w, by rw [set_get_ne hn]; exact q1, q2⟩
theorem nd_inj {α : Type} : ∀ {l : List α} {i j : Nat} {a : α}, l.Nodup → l[i]? = some a → l[j]? = some a → i = j
  | [], _, _, _, _, h, _ => by simp at h
  | x :: l, 0, 0, _, _, _, _ => rfl
  | x :: l, 0, j + 1, a, nd, h, g => by
    simp at h; subst h
    exact absurd (List.mem_of_getElem? (by simpa using g)) (List.nodup_cons.mp nd).1
  | x :: l, i + 1, 0, a, nd, h, g => by
    simp at g; subst g
    exact absurd (List.mem_of_getElem? (by simpa using h)) (List.nodup_cons.mp nd).1
  | x :: l, i + 1, j + 1, a, nd, h, g => congrArg Nat.succ (nd_inj (i := i) (j := j) (a := a) (List.nodup_cons.mp nd).2 (by simpa using h) (by simpa using g))
theorem ss_spoil {i j : Nat} {n : Int} {w : V} {d : D} (hw : sv d = some w) : SS K (tFor (iList K (tOp (rIx K) (tVar i) (tC (.int n)))) (gName j) (tSeq (tDrop (tBM K "list" rAppend (tVar j) (tCons (tC w) tNil))) tNext)) (mSpoil i j n d) := fun δ out e σ F H r E kq => by
  obtain ⟨o, h0, e⟩ := Option.bind_eq_some_iff.mp e
  have h0 := id_some h0
  cases o with
  | mx is =>
    dsimp only at e
    obtain ⟨a, e1, e⟩ := Option.bind_eq_some_iff.mp e
    split at e
    case h_2 => cases e
    rename_i dss e2
    split at e
    case isFalse => cases e
    rename_i hc
    obtain ⟨hz, hj, hij, _⟩ := hc
    cases e
    obtain ⟨v, hv, ⟨p, zs, rfl, h1, h2, h3⟩, hnd⟩ := r.ok i _ h0
    obtain ⟨u, q1, ⟨p2, qs, rfl, k1, k2, k3⟩, q5⟩ := okIs_get h3 e2
    have fe : O.fp H (.ref p) (.mx is) = p :: fpI H zs is := by show p :: mkids H p is = _; rw [mkids_at h1]
    rw [fe] at hnd
    obtain ⟨np, nq⟩ := List.nodup_cons.mp hnd
    have fe2 : I.fp H (.ref p2) (.oo dss) = p2 :: qs := by show p2 :: kids H p2 = _; rw [kids_refs k1]
    have inq : ∀ z ∈ p2 :: qs, Own H σ δ i z := fun z hz => ⟨_, _, hv, h0, by rw [fe]; exact List.mem_cons_of_mem _ (q5 z (by rw [fe2]; exact hz))⟩
    have nd2 : (p2 :: qs).Nodup := by
      rw [← fe2]
      exact fpI_part nq q1 e2
    have Fz : ∀ z ∈ p2 :: qs, F z = none := fun z hz => (r.held ⟨i, inq z hz⟩).2
    have jl : j < δ.length := by
      unfold noLn at hj
      cases q : δ[j]? with
      | none => rw [q] at hj; cases hj
      | some z => exact (List.getElem?_eq_some_iff.mp q).1
    -- the beginning
    obtain ⟨r1, o1⟩ := r.drop i
    obtain ⟨r2, o2⟩ := r1.drop j
    have dj : ((δ.set i none).set j none)[j]? = some none := List.getElem?_set_self (by simpa using jl)
    have nh0 : ∀ z ∈ p2 :: qs, ¬ Held H σ ((δ.set i none).set j none) z := fun z hz ⟨l, hl⟩ => by
      have a1 := (o2 l z hl).2
      exact (o1 l z a1).1 (r.ap l i z (o1 l z a1).2 (inq z hz))
    have lnk : ∀ (l : Nat) (ds : List D), δ[l]? = some (some (O.ln ds)) → l ≠ i ∧ l ≠ j ∧ ((δ.set i none).set j none)[l]? = some (some (O.ln ds)) := fun l ds hl => by
      have n1 : i ≠ l := fun z => by subst z; rw [h0] at hl; cases hl
      have n2 : j ≠ l := fun z => by subst z; unfold noLn at hj; rw [hl] at hj; cases hj
      exact ⟨n1.symm, n2.symm, by rw [set_get_ne n2, set_get_ne n1]; exact hl⟩
    have g0 : Go F H σ δ F H σ ((δ.set i none).set j none) := ⟨.rfl, fun a o e _ => ⟨o, e, .rfl⟩, fun _ z => .inl z, fun a ⟨l, hl⟩ => .inl ⟨l, (o1 l a (o2 l a hl).2).2⟩, fun _ z => z, fun l ds hl => ⟨rfl, ds, (lnk l ds hl).2.2⟩⟩
    have lens : ∀ (k : Nat) (q : Addr), qs[k]? = some q → ∃ xs, H q = some (.lst xs) ∧ xs.length < sizeLine := fun k q hq => by
      have hk : k < dss.length := by rw [← owa_len k3]; exact (List.getElem?_eq_some_iff.mp hq).1
      obtain ⟨q', b1, xs, b2, _, b4⟩ := owa_get k3 (List.getElem?_eq_getElem hk)
      rw [hq] at b1; cases b1
      refine ⟨xs, b2, ?_⟩
      rw [dpa_len b4]
      exact of_decide_eq_true (List.all_eq_true.mp hz _ (List.getElem_mem hk))
    have at_ : atI zs n = some (.ref p2) := by
      unfold atI
      rw [okIs_len h3, e1]
      exact q1
    refine ⟨.ref p, hv, .inl ⟨p, zs, n, .ref p2, rfl, rfl, SqL.of h1, at_, p2, rfl, ⟨_, SqL.of k1⟩, ?_⟩⟩
    refine ⟨fun t m σ' H' => m = qs.length - t ∧ t ≤ qs.length ∧ σ'.length = σ.length ∧ H' p2 = some (.lst (qs.map V.ref)) ∧ (∀ (k : Nat) (q : Addr), qs[k]? = some q → ∃ xs, H' q = some (.lst xs) ∧ (t ≤ k → xs.length < sizeLine)) ∧ Rep K F H' σ' ((δ.set i none).set j none) ∧ Go F H σ δ F H' σ' ((δ.set i none).set j none) ∧ (∀ z ∈ p2 :: qs, ¬ Held H' σ' ((δ.set i none).set j none) z),
      ⟨qs.length, by simp, Nat.zero_le _, rfl, k1, fun k q hq => let ⟨xs, b1, b2⟩ := lens k q hq; ⟨xs, b1, fun _ => b2⟩, r2, g0, nh0⟩, ?_⟩
    rintro t m σ' H' ⟨rfl, ht, hl, hp, hx, r', g', nh⟩
    by_cases hlt : t < qs.length
    · have gq : (qs.map V.ref)[t]? = some (.ref qs[t]) := by rw [List.getElem?_map, List.getElem?_eq_getElem hlt]; rfl
      refine .inr ⟨⟨_, _, SqL.of hp, gq⟩, fun σ2 H2 => ∃ m', m' < qs.length - t ∧ (m' = qs.length - (t + 1) ∧ t + 1 ≤ qs.length ∧ σ2.length = σ.length ∧ H2 p2 = some (.lst (qs.map V.ref)) ∧ (∀ (k : Nat) (q : Addr), qs[k]? = some q → ∃ xs, H2 q = some (.lst xs) ∧ (t + 1 ≤ k → xs.length < sizeLine)) ∧ Rep K F H2 σ2 ((δ.set i none).set j none) ∧ Go F H σ δ F H2 σ2 ((δ.set i none).set j none) ∧ (∀ z ∈ p2 :: qs, ¬ Held H2 σ2 ((δ.set i none).set j none) z)), fun _ _ z => z, fun x H2 y => ?_⟩
      obtain ⟨rfl, y⟩ := y
      have ex := (y _ (SqL.of hp)).symm.trans gq
      cases ex
      have qm : qs[t] ∈ p2 :: qs := List.mem_cons_of_mem _ (List.getElem_mem hlt)
      obtain ⟨xs, b1, b2⟩ := hx t qs[t] (List.getElem?_eq_getElem hlt)
      obtain ⟨r3, hd3⟩ := rep_any (x := .ref qs[t]) r' dj
      have nh3 : ∀ z ∈ p2 :: qs, ¬ Held H2 (σ'.set j (some (.ref qs[t]))) ((δ.set i none).set j none) z := fun z hz w => nh z hz (hd3 z w)
      have jl' : j < σ'.length := by rw [hl, r.len]; exact jl
      refine ⟨.ref qs[t], List.getElem?_set_self jl', .inl ⟨rfl, xs, SqL.of b1⟩, qs[t], xs, w, rfl, rfl, b1, b2 (Nat.le_refl _), ?_⟩
      have pq : p2 ≠ qs[t] := fun z => (List.nodup_cons.mp nd2).1 (by rw [z]; exact List.getElem_mem hlt)
      refine ⟨qs.length - (t + 1), by omega, rfl, hlt, by rw [List.length_set]; exact hl, by rw [upd_ne pq]; exact hp, fun k q hq => ?_, r3.upd (Fz _ qm) (nh3 _ qm) (.inr ⟨xs, b1⟩), ⟨g'.kf, fun a o ea na => ?_, g'.nf, fun a ha => ?_, fun a ha => ?_, fun l ds hl2 => ?_⟩, fun z hz ha => nh3 z hz (held_upd r3 (nh3 _ qm) ha)⟩
      · by_cases hk : k = t
        · subst hk
          rw [List.getElem?_eq_getElem hlt] at hq
          cases hq
          exact ⟨_, upd_same, fun z => absurd z (by omega)⟩
        · have nq : q ≠ qs[t] := fun z => by
            have nd3 := (List.nodup_cons.mp nd2).2
            subst z
            exact hk (nd_inj nd3 hq (List.getElem?_eq_getElem hlt))
          obtain ⟨ys, c1, c2⟩ := hx k q hq
          exact ⟨ys, by rw [upd_ne nq]; exact c1, fun z => c2 (by omega)⟩
      · obtain ⟨u, c1, c2⟩ := g'.kh a o ea na
        refine ⟨u, ?_, c2⟩
        rw [upd_ne fun z => na (by subst z; exact ⟨i, inq _ qm⟩)]
        exact c1
      · exact g'.hd a (hd3 a (held_upd r3 (nh3 _ qm) ha))
      · by_cases z : a = qs[t]
        · subst z; rw [upd_same]; simp
        · rw [upd_ne z]; exact g'.st a ha
      · obtain ⟨c1, es, c2⟩ := g'.ln l ds hl2
        refine ⟨?_, es, c2⟩
        rw [set_get_ne (lnk l ds hl2).2.1.symm]
        exact c1
    · have et : t = qs.length := by omega
      refine .inl ⟨⟨_, SqL.of hp, by rw [List.length_map]; omega⟩, kq σ' F H' r' g'⟩
  | _ => cases e
theorem b_spoil (Z : Fits X K k) (hp : PassesOwn (model X.prog X.w) X.A X.env X.xe) (i j : Nat) {s c : Str} {n : Int} {jn jd : Nat} {cp sp np ip cp2 ap cp3 ep fp : Pos} (hN : X.N.Nodup)
    (hi : X.N[i]? = some s := by rfl) (hj : X.N[j]? = some c := by rfl) (hvs : Vis X.env.scope s := by first | exact Or.inl rfl | exact Or.inr (Or.inl rfl) | exact Or.inr (Or.inr rfl)) (hvc : Vis X.env.scope c := by first | exact Or.inl rfl | exact Or.inr (Or.inl rfl) | exact Or.inr (Or.inr rfl))
    (hds : (s == ("__debug__" : Str)) = false := by decide) (hcs : (s == ("__classdict__" : Str)) = false := by decide) (hdc : (c == ("__debug__" : Str)) = false := by decide) (hcc : (c == ("__classdict__" : Str)) = false := by decide)
    (hx : Loc X.env.scope c := by first | exact .inl rfl | exact .inr rfl) (hf : X.fn c = true ∨ X.env.scope.names.lookup c = some .local := by first | exact .inl rfl | exact .inr rfl)
    (hbase : attributeBase (.Name c cp2) "append" X.env (eval (.Name c cp2) X.env) = eval (.Name c cp2) X.env := by rfl)
    (hfew : ((backTo cp3 (starEach [.Constant .none jd np] X.env)).all (fun x => !x.1) && (backToKw cp3 (keywordEach [] X.env)).all (fun x => x.1.isSome) && decide (([.Constant .none jd np] : List Expr).length + ([] : List Keyword).length + (if ([] : List Keyword).isEmpty then 0 else 1) < 30)) = true := by rfl)
    (hline : (ap.endLine == cp3.line) = true := by rfl) (hs : starEach [.Constant .none jd np] X.env = (false, eval (.Constant .none jd np) X.env) :: starEach [] X.env := by rfl) (hpl : (backTo cp3 (starEach [] X.env)).any (·.1) = false := by rfl)
    (hsw : swapsWith (.Call (.Attribute (.Name c cp2) "append" ap) [.Constant .none jd np] [] cp3) none ep.line X.env = pure false := by rfl)
    (hfold : ∀ x, foldedSetIterable (.Subscript (.Name s sp) (.Constant (.int n) jn ip) fp) X.env x = pure x := by intro _; rfl) {pos : Pos} :
    BX X K (.For (.Name c cp) (.Subscript (.Name s sp) (.Constant (.int n) jn ip) fp) [.Expr (.Call (.Attribute (.Name c cp2) "append" ap) [.Constant .none jd np] [] cp3) ep] [] pos) (mSpoil i j n .none) := by
  refine ⟨_, ps_for hp Z.calm (pi_list (pe_ix (r := rIx X.K) ix_seq (pe_var (i := i) hi hvs hds hcs) pe_int (by intro _ _; rfl))) (pg_name (i := j) hN hj hx hf)
    (pss_cons (ps_expr (pe_bm PySem.F.plainAttrs_list PySem.F.slot_list_append PySem.F.type_list_append mt_append (pe_var (i := j) hj hvc hdc hcc) (pa_cons pe_non pa_nil hs) hbase hfew hline hs hpl) hsw) pss_nil) hfold, ?_⟩
  rw [Z.K]
  exact ss_spoil rfl
end
end Va
end
section
set_option Elab.async false
set_option linter.all false
set_option maxRecDepth 100000
set_option maxHeartbeats 1000000
/-! The law's own call, where no guard is on the stack and tables of code objects are tracked. -/
namespace Ve
open PySem PySem.Spec PyProof.Rows L2 Vf
/-- what is tracked as the law begins -/
def Hlaw (T : List Addr) (a : Addr) (u : Option HO) : Hp := fun b => if b ∈ T then some (.tbl #[]) else if b = a then u else none
theorem hlaw_in {T : List Addr} {a b : Addr} {u : Option HO} (h : b ∈ T) : Hlaw T a u b = some (.tbl #[]) := if_pos h
theorem hlaw_a {T : List Addr} {a : Addr} {u : Option HO} (h : a ∉ T) : Hlaw T a u a = u := by
  unfold Hlaw
  rw [if_neg h, if_pos rfl]
theorem hlaw_some {T : List Addr} {a b : Addr} {u : Option HO} {y : HO} (h : Hlaw T a u b = some y) : (b ∈ T ∧ y = .tbl #[]) ∨ (b ∉ T ∧ b = a ∧ u = some y) := by
  unfold Hlaw at h
  by_cases hb : b ∈ T
  · rw [if_pos hb] at h; cases h; exact .inl ⟨hb, rfl⟩
  · rw [if_neg hb] at h
    by_cases ha : b = a
    · rw [if_pos ha] at h; exact .inr ⟨hb, ha, h⟩
    · rw [if_neg ha] at h; cases h
abbrev lawList (us : List Value) : Obj := { cls := .type "list", data := .seq us.toArray }
abbrev emptyTab : Obj := { cls := .none, data := .fields #[] }
theorem law_callV {Pg : Program} {w : World} {K : PySem.W.Frag} {mg mb : Str → Option Value} {k : Nat} {fa a : Addr} {cs : List (Addr × Addr)} {fd : FuncData} {x : Str} {sp : Sp} {s : Shared} {us : List Value} {ns : List Int}
    (kin : K.In s.heap) (g1 : s.heap.Ns mainGlobals mg) (g2 : s.heap.Ns builtinsNs mb) (g3 : ∀ y : Str, y ≠ "__name__" → mb y = bootBuiltins y) (nl : s.heap.NoLimit) (ng : s.gens = #[])
    (tE : ∀ p ∈ cs, s.heap.get? p.2 = some emptyTab) (tK : ∀ p ∈ cs, K.lookup p.2 = none) (tC : ∀ p ∈ cs, PySem.W.CodeHd s.heap p.1 p.2)
    (bm : ∃ (m : Addr) (ob : Obj), mg "__builtins__" = some (.ref m) ∧ m ≠ builtinsNs ∧ s.heap.get? m = some ob ∧ ob.cls = .type "module" ∧ ob.dict = some builtinsNs ∧ ob.data = .plain)
    (oa : s.heap.get? a = some (lawList us)) (ari : IntsAre us ns) (hl : ns.length ≤ sizeLine) (hr : Room k callerA)
    (F : ∀ base : Heap, K.In base → base.Ns mainGlobals mg → (∀ p ∈ cs, GxR.TabB base mg p.1 p.2) → FnG Pg w K mg base CX0 k fa fd [x] sp) (bnd : ∀ (t : Shared) (u : Value), BindsTo t fd ⟨[u], []⟩ [(x, u)])
    (hsp : ∀ H : Hp, (∀ p ∈ cs, H p.2 = some (.tbl #[])) → SqL K H a (ns.map V.int) → sp [.ref a] H (fun v _ => v = .bl true) E0) :
    codeAny (model Pg w) callerA (.call (.ref fa) ⟨[.ref a], []⟩) (fun r t => r = .ok (.ret (.bool true)) ∧ OldK s.heap t.heap ∧ t.os = s.os ∧ AllBare t.gens) s := by
  have rv := vals_ints ari
  have inT : ∀ p ∈ cs, p.2 ∈ cs.map (·.2) := fun p hp => List.mem_map.mpr ⟨p, hp, rfl⟩
  have atT : ∀ b ∈ cs.map (·.2), ∃ p ∈ cs, p.2 = b ∧ s.heap.get? b = some emptyTab := fun b hb => by
    obtain ⟨p, hp, e⟩ := List.mem_map.mp hb
    subst e
    exact ⟨p, hp, rfl, tE p hp⟩
  have aT : a ∉ cs.map (·.2) := fun z => by
    obtain ⟨_, _, _, q⟩ := atT a z
    rw [oa] at q
    injection q with q
    have q2 := congrArg Obj.cls q
    cases q2
  generalize hu : (match K.lookup a with | some _ => none | none => some (HO.frz (lawList us) (.lst (ns.map V.int)))) = u
  have uS : ∀ y, u = some y → K.lookup a = none ∧ y = HO.frz (lawList us) (.lst (ns.map V.int)) := fun y e => by
    rw [← hu] at e
    cases q : K.lookup a with
    | some o => rw [q] at e; cases e
    | none => rw [q] at e; cases e; exact ⟨rfl, rfl⟩
  -- the abstract heap
  generalize hH : Hlaw (cs.map (·.2)) a u = H
  have Hs : ∀ b y, H b = some y → (b ∈ cs.map (·.2) ∧ y = .tbl #[]) ∨ (b ∉ cs.map (·.2) ∧ b = a ∧ u = some y) := fun b y e => hlaw_some (by rw [hH]; exact e)
  have hok : HOk Pg w H s.heap := fun b y e => by
    rcases Hs b y e with ⟨h1, rfl⟩ | ⟨_, rfl, h3⟩
    · obtain ⟨_, _, _, q⟩ := atT b h1
      exact q
    · obtain ⟨_, rfl⟩ := uS y h3
      refine ⟨oa, ?_, us, _, rv, oa⟩
      rw [List.length_map]; exact hl
  have hS : SqL K H a (ns.map V.int) := by
    cases q : K.lookup a with
    | some o =>
      have e := kin a o q
      rw [oa] at e
      cases e
      refine .inr ⟨_, us.toArray, _, q, rfl, rfl, rfl, ?_, by simpa using rv⟩
      rw [List.size_toArray, ari.length]
      exact hl
    | none =>
      refine .inl (.inr ⟨lawList us, ?_⟩)
      rw [← hH, hlaw_a aT, ← hu, q]
  have hT : ∀ p ∈ cs, H p.2 = some (.tbl #[]) := fun p hp => by rw [← hH]; exact hlaw_in (inT p hp)
  -- what is no list and no table is not tracked
  have free : ∀ {b : Addr} {o : Obj}, s.heap.get? b = some o → (∀ vs n, o.data ≠ .seq vs n) → o.data ≠ .fields #[] → H b = none := fun {b o} e n1 n2 => by
    cases q : H b with
    | none => rfl
    | some y =>
      rcases Hs b y q with ⟨h1, _⟩ | ⟨_, h2, _⟩
      · obtain ⟨_, _, _, q2⟩ := atT b h1
        rw [e] at q2; cases q2
        exact (n2 rfl).elim
      · subst h2
        rw [e] at oa; cases oa
        exact (n1 _ _ rfl).elim
  have keepB : ∀ {b : Addr} {o : Obj}, s.heap.get? b = some o → H b = none → (hidT s.heap H).get? b = some o := fun e n => hidT_get e n
  have nsB : ∀ {b : Addr} {m : Str → Option Value}, s.heap.Ns b m → (hidT s.heap H).Ns b m := fun {b m} h => by
    obtain ⟨o, es, ep, e, d, r⟩ := h
    refine ⟨o, es, ep, keepB e (free e ?_ ?_), d, r⟩
    · intro vs n z; rw [d] at z; cases z
    · intro z; rw [d] at z; cases z
  have kinB : K.In (hidT s.heap H) := fun b o e => by
    refine keepB (kin b o e) ?_
    cases q : H b with
    | none => rfl
    | some y =>
      rcases Hs b y q with ⟨h1, _⟩ | ⟨_, h2, h3⟩
      · obtain ⟨p, hp, ep, _⟩ := atT b h1
        rw [← ep, tK p hp] at e; cases e
      · rw [h2, (uS y h3).1] at e; cases e
  have modB : L2.Mod K mg (hidT s.heap H) := by
    obtain ⟨mc, n1, n2⟩ := nl
    exact ⟨kinB, nsB g1, ⟨mb, nsB g2, g3⟩, mc, nsB n1, n2⟩
  have TB : ∀ p ∈ cs, GxR.TabB (hidT s.heap H) mg p.1 p.2 := fun p hp => by
    have hp2 := tE p hp
    refine ⟨?_, ?_, ?_⟩
    · obtain ⟨o, vs, file, tf, flags, tg, inF, text, tt, e1, r1, r2, r3, rest⟩ := tC p hp
      refine ⟨o, vs, file, tf, flags, tg, inF, text, tt, keepB e1 (free e1 ?_ ?_), r1, r2, r3, rest⟩
      · intro vs n z; rw [r2] at z; cases z
      · intro z
        rw [r2] at z; cases z
        simp at r3
    · obtain ⟨m, ob, b1, b2, b3, b4, b5, b6⟩ := bm
      refine ⟨m, ob, b1, b2, ?_, ?_, keepB b3 (free b3 ?_ ?_), b4, b5, b6⟩
      · intro q
        obtain ⟨o, es, ep, e, hd, _⟩ := g1
        rw [q, e] at b3; cases b3
        rw [hd] at b6; cases b6
      · intro q
        rw [q, hp2] at b3; cases b3
        cases b6
      · intro vs n z; rw [b6] at z; cases z
      · intro z; rw [b6] at z; cases z
    · intro z
      obtain ⟨o, es, ep, e, hd, _⟩ := g1
      rw [z, hp2] at e; cases e
      cases hd
  have e0 : Env0 Pg w K mg (hidT s.heap H) callerA [] s H := by
    refine ⟨rfl, modB, fun b o e => of_hidT e, Nat.le_of_eq (hidT_size _ _), trivial, fun b hb => ?_, hok, .of_eq ng⟩
    cases hb
  refine codeAny_mono ((F _ kinB (nsB g1) TB).run callerA [] s H ⟨[.ref a], []⟩ [.ref a] [.ref a] _ _ hr rfl e0 (bnd s (.ref a)) (.cons rfl .nil) (hsp H hT hS)) ?_
  intro r t h
  match r, h with
  | .error e, h => exact h.elim
  | .ok .next, h => exact h.elim
  | .ok .brk, h => exact h.elim
  | .ok .cont, h => exact h.elim
  | .ok (.ret y), h =>
    obtain ⟨v, G, os, bare, un, hokG, ry, q⟩ := h
    obtain rfl : v = .bl true := q
    obtain rfl : y = Value.bool true := ry
    have kept : ∀ b o, b ∉ cs.map (·.2) → s.heap.get? b = some o → t.heap.get? b = some o := fun b o nb e => by
      cases q : H b with
      | none => exact un.keep b o e q (fun z => by cases z) (fun z => by cases z)
      | some y =>
        rcases Hs b y q with ⟨h1, _⟩ | ⟨_, h2, h3⟩
        · exact absurd h1 nb
        · obtain ⟨_, rfl⟩ := uS y h3
          obtain ⟨e1, _⟩ := hok b _ q
          obtain ⟨e2, _⟩ := hokG b _ (un.frzs b _ _ q)
          rw [e] at e1; cases e1
          exact e2
    have more : ∀ p ∈ cs, ∃ z : Array Value, t.heap.get? p.2 = some { cls := .none, data := .fields z } := fun p hp => by
      obtain ⟨z, e⟩ := un.tbls p.2 #[] (hT p hp)
      exact ⟨_, hokG p.2 _ e⟩
    refine ⟨rfl, ⟨fun b o e => ?_, fun b o e => ?_⟩, os, bare⟩
    · by_cases hb : b ∈ cs.map (·.2)
      · obtain ⟨p, hp, ep, q⟩ := atT b hb
        obtain ⟨z, hz⟩ := more p hp
        rw [e] at q; cases q
        subst ep
        refine .inr (.inl ⟨((tC p hp).tab (tE p hp)).isCodeTable, rfl, #[], z, rfl, ?_⟩)
        rw [Array.empty_append]; exact hz
      · exact .inl (kept b o hb e)
    · by_cases hb : b ∈ cs.map (·.2)
      · obtain ⟨p, hp, ep, _⟩ := atT b hb
        obtain ⟨z, hz⟩ := more p hp
        subst ep
        exact ⟨_, hz⟩
      · exact ⟨o, kept b o hb e⟩
/-- the head's promise: a law whose value is known for each list of numbers -/
structure LawV (l : PySem.W.OpenLaw) (w : World) (K : PySem.W.Frag) (k n : Nat) (x : Str) (mg : Str → Option Value) (h : Heap) (fa : Addr) (fd : FuncData) (cs : List (Addr × Addr)) (sp : Sp) : Prop where
  tE : ∀ p ∈ cs, h.get? p.2 = some emptyTab
  tK : ∀ p ∈ cs, K.lookup p.2 = none
  tC : ∀ p ∈ cs, PySem.W.CodeHd h p.1 p.2
  bnd : ∀ (s : Shared) (u : Value), BindsTo s fd ⟨[u], []⟩ [(x, u)]
  val : ∀ (H : Hp) (a : Addr) (ns : List Int), ns.length ≤ n → (∀ z ∈ ns, Builtin.Int.intBits z ≤ 1048576) → (∀ p ∈ cs, H p.2 = some (.tbl #[])) → SqL K H a (ns.map V.int) → sp [.ref a] H (fun v _ => v = .bl true) E0
  ok : ∀ base : Heap, K.In base → base.Ns mainGlobals mg → (∀ p ∈ cs, GxR.TabB base mg p.1 p.2) → FnG l.prog w K mg base CX0 k fa fd [x] sp
theorem walk_V {l : PySem.W.OpenLaw} {n k : Nat} {q : Program} {loose : List Str} {XP : (Str → Option Value) → Heap → Prop} {YP : World → Heap → Prop} {d : DefRec} {K : Params → PySem.W.Frag} {x : Str} (hn : l.most = some n) (hn2 : n ≤ sizeLine) (hdf : d.params.defaults = []) (hr : Room k callerA)
    (hY : ∀ (w : World) (h : Heap), YP w h → (K w.params).In h)
    (own : List Str) (hrec : ∀ y ∈ own, ((recsOf q).any fun e => e.name == y) = true)
    (F : ∀ (w : World) (mg : Str → Option Value) (fa : Addr) (h : Heap), YP w h → (K w.params).In h → h.Ns mainGlobals mg → mg d.name = some (.ref fa) → (∀ y ∈ own, ∀ g, mg y = some (.ref g) → LamX.OwnTab (K w.params) g h) →
      ∃ fd cs sp, LawV l w (K w.params) k n x mg h fa fd cs sp) :
    PySem.W.WalkO q loose XP YP l.row.toRowW d [] (fun f vs => PySem.call f vs) := by
  refine Att.attach_callB hn hdf ?_
  intro w s₀ s₁ mg mb fa o pm cd doc a vs ns G Y ho hd hcd hmg hobj hin hlen hbits hg
  have kin := hY w _ Y
  have tabs : ∀ y ∈ own, ∀ g, mg y = some (.ref g) → LamX.OwnTab (K w.params) g s₁.heap := by
    intro y hy g hg' c P o1 fd1 e dd vs1 sl k1 k2 k3 k4 k5
    obtain ⟨r, hm, hr1⟩ := List.any_eq_true.mp (hrec y hy)
    have er : r.name = y := beq_iff_eq.mp hr1
    obtain ⟨a', o', fd', c', P', h1, h2, h3, h4, h5, h6⟩ := G.T.tab r hm
    rw [er, hg'] at h1; cases h1
    rw [kin _ _ k1] at h2; cases h2
    rw [k2] at h3; cases h3
    rw [k3] at h4; cases h4
    obtain ⟨⟨oc, vc, e1, _, e3, e4⟩, hP⟩ := h6
    rw [kin _ _ k4] at e1; cases e1
    cases e3
    rw [k5] at e4; cases e4
    exact hP
  obtain ⟨fd, cs, sp, L⟩ := F w mg fa _ Y kin G.T.g hmg tabs
  exact law_callV kin G.T.g G.T.b G.T.builtins G.T.nolimit hg L.tE L.tK L.tC G.T.bmain hobj hin (Nat.le_trans hlen hn2) hr L.ok L.bnd fun H hH hS => L.val H a ns hlen hbits hH hS
end Ve
end
section
set_option Elab.async false
set_option linter.all false
set_option maxRecDepth 100000
set_option maxHeartbeats 3000000
/-! [[] for x in xs]; len(set(list(zip(a, b)))); defs by name; the law's end. -/
namespace Vb
open PySem PySem.Spec PyProof.Rows L2 Vi Vf Vo Vp Vs Vt Vu Vv Vg Vw Vx Vy Va
section
variable {X : Cx} {K : Lay} {k : Nat} {F H F' H' F0 H0 F1 H1 : Hp} {σ σ' : L2.St} {δ δ' δ0 δ1 : Δ} {v : V} {p : P} {o : O} {d : D} {vs : List Nat} {ps : List P} {os : List O}
/-! ### [[] for x in xs] -/
theorem wipe_self {η : Δ} : wipeΔ (wipeΔ η vs) vs = wipeΔ η vs := by
  apply List.ext_getElem?
  intro i
  by_cases z : i ∈ vs
  · have none_of : ∀ {τ : Δ} {us : List Nat}, i ∈ us → i < τ.length → (wipeΔ τ us)[i]? = some none := by
      intro τ us
      induction us with
      | nil => intro z; cases z
      | cons u us ih =>
        intro z hi
        unfold wipeΔ
        by_cases e : u = i
        · subst e; rw [List.getElem?_set_self (by rw [wipeΔ_len]; exact hi)]
        · rw [List.getElem?_set_ne e]
          exact ih ((List.mem_cons.mp z).resolve_left fun q => e q.symm) hi
    by_cases hi : i < η.length
    · rw [none_of z (by rw [wipeΔ_len]; exact hi), none_of z hi]
    · rw [List.getElem?_eq_none (by rw [wipeΔ_len, wipeΔ_len]; omega), List.getElem?_eq_none (by rw [wipeΔ_len]; omega)]
  · rw [wipeΔ_out z]
theorem owa_app : ∀ {qs rs : List Addr} {dss ess : List (List D)}, OwA K F H qs dss → OwA K F H rs ess → OwA K F H (qs ++ rs) (dss ++ ess)
  | _, _, _, _, .nil, h => h
  | _, _, _, _, .cons a b, h => .cons a (owa_app b h)
theorem rep_succ (n : Nat) : List.replicate (n + 1) ([] : List D) = List.replicate n [] ++ [[]] := by
  rw [List.replicate_succ']
def eLcE (vs : List Nat) (c : Δ → Option (List D × Δ)) (h : D → Δ → Option Δ) : Δ → Option (P × Δ) := fun δ => (c δ).bind fun r => if r.1.length ≤ sizeLine ∧ vs.all (okv r.2) = true ∧ (r.1.all fun d => (h d (wipeΔ r.2 vs)).isSome) = true then some (.tm (.oo (List.replicate r.1.length [])), restΔ r.2 (wipeΔ r.2 vs) vs) else none
theorem sx_lcE {wi : TI} {g : TG} {ix : List Nat} {c : Δ → Option (List D × Δ)} {h : D → Δ → Option Δ} (hi : SI K wi c) (hg : SG K g ix h)
    (hix : ∀ j ∈ ix, j ∈ vs := by decide) : SX K (tLc wi g tYes (tLst tNil) vs) (eLcE vs c h) := fun δ p δ' e σ F H r Q k => by
  obtain ⟨⟨ds, δ1⟩, e1, e⟩ := Option.bind_eq_some_iff.mp e
  split at e
  case isFalse => cases e
  rename_i hc
  obtain ⟨hsz, hok, hall⟩ := hc
  have hvs := okv_all hok
  have hsz : ds.length ≤ sizeLine := hsz
  cases e
  refine hi δ ds δ1 e1 σ F H r _ fun J F1 H1 a1 w => ?_
  obtain ⟨G, Y, wk, hG, hY⟩ := w
  intro L hL
  have hLH : H L = none := by
    cases q : H L with
    | none => rfl
    | some z => exact absurd hL (a1.go.st L (by rw [q]; simp))
  have hF1 : F1 L = none := a1.rep.kp.free hL
  have nh1 : ¬ Held H1 σ δ1 L := fun z => by obtain ⟨⟨xs, w⟩, _⟩ := a1.rep.held z; rw [hL] at w; cases w
  let Pv : Nat → Hp → Prop := fun i H2 => ∃ F2, Rep K F2 H2 σ (wipeΔ δ1 vs) ∧ Go F H σ δ F2 H2 σ (wipeΔ δ1 vs) ∧ Kp F1 F2 ∧ Tmp K F2 H2 σ (wipeΔ δ1 vs) (.ref L) (.oo (List.replicate i [])) ∧ ∀ a ∈ O.fp H2 (.ref L) (.oo (List.replicate i [])), H a = none
  have gw : Go F1 H1 σ δ1 F1 H1 σ (wipeΔ δ1 vs) := Go.forget a1.rep rfl (fun _ _ => rfl) hvs
  have rw1 := (a1.rep.forget (σ' := σ) (vs := vs) rfl fun _ _ => rfl)
  have nhw : ¬ Held H1 σ (wipeΔ δ1 vs) L := fun ⟨j, hj⟩ => nh1 ⟨j, rw1.2 j L hj⟩
  refine lc_it wk Pv ?_ (fun i H2 _ ⟨F2, r2, _, k2, _⟩ => hG H2 (k2.trans r2.kp)) (fun i x H2 H3 hlt ⟨F2, r2, g2, k2, l2, n2⟩ y => ?_) (fun H2 ⟨F2, r2, g2, k2, l2, n2⟩ => ?_)
  · -- the start
    have ru := rw1.1.upd (L := L) (u := .lst []) hF1 nhw (.inl hL)
    have fe : O.fp (upd H1 L (.lst [])) (.ref L) (.oo (List.replicate 0 ([] : List D))) = [L] := by
      have : kids (upd H1 L (.lst [])) L = [] := kids_refs (qs := []) (by rw [upd_same]; rfl)
      show L :: kids _ L = [L]
      rw [this]
    refine ⟨F1, ru, (a1.go.trans gw).trans ⟨.rfl, fun a o e _ => ⟨o, by rw [upd_ne (ne_of_none e hL)]; exact e, .rfl⟩, fun _ z => .inl z, fun a z => .inl (held_upd rw1.1 nhw z), fun a z => ?_, fun i ds z => ⟨rfl, ds, z⟩⟩, .rfl, ⟨⟨L, [], rfl, upd_same, hF1, .nil⟩, by rw [fe]; simp, fun a ha z => ?_⟩, fun a ha => ?_⟩
    · by_cases q : a = L
      · subst q; rw [upd_same]; simp
      · rw [upd_ne q]; exact z
    · rw [fe] at ha
      have : a = L := by simpa using ha
      subst this
      exact nhw (held_upd rw1.1 nhw z)
    · rw [fe] at ha
      have : a = L := by simpa using ha
      subst this
      exact hLH
  · -- a turn
    obtain ⟨d, F3, q1, n3, d3⟩ := hY i H2 x H3 F2 hlt k2 r2.kp y
    have a3 := n3.aft r2
    obtain ⟨l3, fe3⟩ := Tmp.frame l2 a3.go
    have fw := a3.rep.forget (σ' := L2.wipe σ vs) (vs := vs) (wipe_length σ vs) (fun j hj => wipe_get hj)
    rw [wipe_self] at fw
    have hd4 : (h d (wipeΔ δ1 vs)).isSome = true := List.all_eq_true.mp hall d (List.mem_of_getElem? q1)
    obtain ⟨δ4, e4⟩ := Option.isSome_iff_exists.mp hd4
    refine hg.run d (wipeΔ δ1 vs) δ4 e4 (L2.wipe σ vs) F3 H3 x fw.1 d3 _ fun σ4 r4 g4 ln4 s4 t4 u4 => ?_
    have sj : ∀ j, j ∉ vs → σ4[j]? = σ[j]? := fun j hj => (s4 j fun z => hj (hix j z)).trans (wipe_get hj)
    have ls : σ4.length = σ.length := ln4.trans (wipe_length σ vs)
    refine ⟨wipe_ext ls sj, ?_⟩
    dsimp only [tYes]
    rw [if_pos rfl]
    refine ⟨by decide, fun q hq => ?_⟩
    obtain ⟨p', qs, ep, h1, h2, h3⟩ := l3.ok
    cases ep
    have fk : O.fp H3 (.ref L) (.oo (List.replicate i ([] : List D))) = L :: qs := by show L :: kids H3 L = _; rw [kids_refs h1]
    have nd := l3.nd
    rw [fk] at nd
    have ap := l3.ap
    rw [fk] at ap
    obtain ⟨nL, nq⟩ := List.nodup_cons.mp nd
    have qL : q ≠ L := fun z => by subst z; rw [h1] at hq; cases hq
    have qm : ∀ z ∈ qs, z ≠ q := fun z hz w => by
      subst w
      obtain ⟨es, xs, w, _⟩ := owa_mem h3 z hz
      rw [hq] at w; cases w
    have Fq : F3 q = none := a3.rep.kp.free hq
    have hqs : H q = none := by
      cases w : H q with
      | none => rfl
      | some z => exact absurd hq ((g2.trans a3.go).st q (by rw [w]; simp))
    have nhq : ¬ Held H3 σ (wipeΔ δ1 vs) q := fun z => by obtain ⟨⟨xs, w⟩, _⟩ := a3.rep.held z; rw [hq] at w; cases w
    have r5 := a3.rep.upd (u := .lst []) Fq nhq (.inl hq)
    have g5 := (g2.trans a3.go).late (u := .lst []) hqs fun a => held_upd a3.rep nhq
    have nhL : ¬ Held (upd H3 q (.lst [])) σ (wipeΔ δ1 vs) L := fun z => ap L List.mem_cons_self (held_upd a3.rep nhq z)
    have hL5 : (upd H3 q (.lst [])) L = some (.lst (qs.map V.ref)) := by rw [upd_ne qL.symm]; exact h1
    have lq : qs.length = i := by rw [owa_len h3, List.length_replicate]
    have ile : i < ds.length := hlt
    refine ⟨qs.map V.ref, hL5, by rw [List.length_map, lq]; omega, F3, r5.upd (u := .lst (qs.map V.ref ++ [.ref q])) h2 nhL (.inr ⟨_, hL5⟩), g5.late (u := .lst (qs.map V.ref ++ [.ref q])) hLH fun a => held_upd r5 nhL, k2.trans a3.go.kf, ?_, ?_⟩
    · have hL6 : (upd (upd H3 q (.lst [])) L (.lst (qs.map V.ref ++ [.ref q]))) L = some (.lst ((qs ++ [q]).map V.ref)) := by rw [upd_same, List.map_append]; rfl
      have f6 : O.fp (upd (upd H3 q (.lst [])) L (.lst (qs.map V.ref ++ [.ref q]))) (.ref L) (.oo (List.replicate (i + 1) ([] : List D))) = L :: (qs ++ [q]) := by
        show L :: kids _ L = _
        rw [kids_refs hL6]
      have keep : ∀ z ∈ qs, (upd (upd H3 q (.lst [])) L (.lst (qs.map V.ref ++ [.ref q]))) z = H3 z := fun z hz => by
        rw [upd_ne (fun w => nL (by subst w; exact hz)), upd_ne (qm z hz)]
      refine ⟨⟨L, qs ++ [q], rfl, hL6, h2, ?_⟩, ?_, fun a ha w => ?_⟩
      · rw [rep_succ]
        refine owa_app (owa_frame .rfl h3 fun z hz => ⟨keep z hz, ?_⟩) (.cons ⟨[], ?_, Fq, .nil⟩ .nil)
        · obtain ⟨es, xs, _, w, _⟩ := owa_mem h3 z hz; exact w
        · rw [upd_ne qL, upd_same]
      · rw [f6]
        refine List.nodup_cons.mpr ⟨fun z => ?_, List.nodup_append.mpr ⟨nq, by simp, fun a ha b hb e => ?_⟩⟩
        · rcases List.mem_append.mp z with w | w
          · exact nL w
          · exact qL (by simpa using w : L = q).symm
        · have : b = q := by simpa using hb
          subst this; exact qm a ha e
      · rw [f6] at ha
        have w2 := held_upd a3.rep nhq (held_upd r5 nhL w)
        rcases List.mem_cons.mp ha with z | z
        · subst z; exact ap a List.mem_cons_self w2
        · rcases List.mem_append.mp z with z | z
          · exact ap a (List.mem_cons_of_mem _ z) w2
          · have : a = q := by simpa using z
            subst this; exact nhq w2
    · have hL6 : (upd (upd H3 q (.lst [])) L (.lst (qs.map V.ref ++ [.ref q]))) L = some (.lst ((qs ++ [q]).map V.ref)) := by rw [upd_same, List.map_append]; rfl
      intro a ha
      have f6 : O.fp (upd (upd H3 q (.lst [])) L (.lst (qs.map V.ref ++ [.ref q]))) (.ref L) (.oo (List.replicate (i + 1) ([] : List D))) = L :: (qs ++ [q]) := by
        show L :: kids _ L = _
        rw [kids_refs hL6]
      rw [f6] at ha
      rw [← fe3, fk] at n2
      rcases List.mem_cons.mp ha with z | z
      · subst z; exact hLH
      · rcases List.mem_append.mp z with z | z
        · exact n2 a (List.mem_cons_of_mem _ z)
        · have : a = q := by simpa using z
          subst this; exact hqs
  · have hl9 : (wipeΔ δ1 vs).length = δ1.length := wipeΔ_len vs
    obtain ⟨q1, q2, q3⟩ := rest_ok a1.rep r2 g2 k2 hok fun j hj es q => wipeΔ_in q hj
    have lt_of : ∀ {j : Nat} {o : O}, δ1[j]? = some (some o) → j < δ1.length := fun e => (List.getElem?_eq_some_iff.mp e).1
    refine k (.ref L) F2 H2 ⟨q1, q2, fun i o e => ?_, fun i es e => ?_⟩ ⟨l2.ok, l2.nd, fun a ha z => l2.ap a ha (q3 a z)⟩ fun a ha => .inr (n2 a ha)
    · obtain ⟨o1, e1⟩ := a1.un i o e
      by_cases hi : i ∈ vs
      · exact ⟨o1, by rw [restΔ_in hl9 hi (lt_of e1)]; exact e1⟩
      · exact ⟨o1, by rw [restΔ_out hi, wipeΔ_out hi]; exact e1⟩
    · by_cases hi : i ∈ vs
      · have h1 := List.all_eq_true.mp hok i hi
        by_cases hlt : i < δ1.length
        · rw [restΔ_in hl9 hi hlt] at e
          exact a1.nl i es e
        · rw [List.getElem?_eq_none (by rw [restΔ_len, hl9]; omega)] at e; cases e
      · rw [restΔ_out hi, wipeΔ_out hi] at e
        exact a1.nl i es e
theorem x_lcE (Z : Fits X K k) (hN : X.N.Nodup) {tg iter : Expr} {scope : Scope} (own : List (Str × Nat)) {pos epos : Pos} {ix : List Nat} {c : Δ → Option (List D × Δ)} {h : D → Δ → Option Δ}
    (ok : BlkOk X.N X.env.scope scope own) (hi : IX X K tg iter c) (hg : ∀ z : BI, GX (bX X scope z) K tg ix h) (hs : ∀ x, foldedSetIterable iter X.env x = pure x := by intro _; rfl) (hix : ∀ j ∈ ix, j ∈ own.map (·.2) := by decide) :
    EX X K (.ListComp (.List [] epos) [⟨tg, iter, [], 0⟩] scope pos) (eLcE (own.map (·.2)) c h) := by
  obtain ⟨_, p1, s1⟩ := hi
  obtain ⟨_, p2, s2⟩ := GX.all hg
  exact ⟨_, pe_lc Z.calm hN p1 ok (fun s H C cl fp => p2 (s, H, C, cl, fp)) (fun s H C cl fp => pts_nil) (fun s H C cl fp => pe_lst pa_nil) hs, sx_lcE s1 s2 hix⟩
theorem b_setLcE (Z : Fits X K k) (hN : X.N.Nodup) (i : Nat) {y : Str} {py : Pos} {tg iter : Expr} {scope : Scope} (own : List (Str × Nat)) {pos spos epos : Pos} {ix : List Nat} {c : Δ → Option (List D × Δ)} {h : D → Δ → Option Δ}
    (ok : BlkOk X.N X.env.scope scope own) (hi : IX X K tg iter c) (hg : ∀ z : BI, GX (bX X scope z) K tg ix h) (hs : ∀ x, foldedSetIterable iter X.env x = pure x := by intro _; rfl) (hix : ∀ j ∈ ix, j ∈ own.map (·.2) := by decide)
    (hy : X.N[i]? = some y := by rfl) (hyl : X.env.scope.names.lookup y = some .local := by rfl) (hsw : swapsWith (.ListComp (.List [] epos) [⟨tg, iter, [], 0⟩] scope pos) (some (.Name y py)) spos.line X.env = pure true := by rfl) :
    BX X K (.Assign [.Name y py] (.ListComp (.List [] epos) [⟨tg, iter, [], 0⟩] scope pos) spos) (mAsg i (eLcE (own.map (·.2)) c h)) := by
  obtain ⟨_, p1, s1⟩ := hi
  obtain ⟨_, p2, s2⟩ := GX.all hg
  exact ⟨_, ps_setLc Z.calm hN hy hyl hsw p1 ok (fun s H C cl fp => p2 (s, H, C, cl, fp)) (fun s H C cl fp => pts_nil) (fun s H C cl fp => pe_lst pa_nil) hs, ss_asg (sx_lcE s1 s2 hix)⟩
/-! ### len(set(list(zip(a, b)))) -/
def ddp : List (Int × Int) → List (Int × Int)
  | [] => []
  | n :: r => if n ∈ r then ddp r else n :: ddp r
theorem ddp_mem : ∀ {ns : List (Int × Int)} {x : Int × Int}, x ∈ ddp ns ↔ x ∈ ns
  | [], x => by simp [ddp]
  | n :: r, x => by
    unfold ddp
    split
    · rename_i h
      rw [ddp_mem, List.mem_cons]
      exact ⟨.inr, fun z => z.elim (fun e => by rw [e]; exact h) id⟩
    · rw [List.mem_cons, List.mem_cons, ddp_mem]
theorem ddp_nodup : ∀ ns : List (Int × Int), (ddp ns).Nodup
  | [] => by simp [ddp]
  | n :: r => by
    unfold ddp
    split
    · exact ddp_nodup r
    · rename_i h
      exact List.nodup_cons.mpr ⟨fun z => h (ddp_mem.mp z), ddp_nodup r⟩
def pr2 (x : Int × Int) : List Int := [x.1, x.2]
theorem pr2_inj {x y : Int × Int} (h : pr2 x = pr2 y) : x = y := by
  cases x; cases y
  simp only [pr2, List.cons.injEq, and_true] at h
  obtain ⟨rfl, rfl⟩ := h; rfl
theorem nd_perm {α : Type} {l m : List α} (a : l.Nodup) (b : m.Nodup) (h : ∀ x, x ∈ l ↔ x ∈ m) : l.length = m.length := ((List.perm_ext_iff_of_nodup a b).mpr h).length_eq
theorem vals_getV : ∀ {xs : List V} {us : List Value} {j : Nat} {u : Value}, Vals xs us → us[j]? = some u → ∃ x, xs[j]? = some x ∧ RelV x u
  | _, _, _, _, .nil, h => by simp at h
  | _, _, 0, _, .cons r _, h => by simp at h; subst h; exact ⟨_, rfl, r⟩
  | _, _, j + 1, u, .cons _ t, h => by
    obtain ⟨x, h1, h2⟩ := vals_getV (j := j) (u := u) t (by simpa using h)
    exact ⟨x, by simpa using h1, h2⟩
theorem keys_of {Pg : Program} {w : World} {h : Heap} : ∀ (l : List Value) (zs : List (Int × Int)), l.length = zs.length → (∀ (j : Nat) (v : Value), l[j]? = some v → ∃ T z, v = .ref T ∧ zs[j]? = some z ∧ IsT Pg w h (pr2 z) T) →
    ∃ ks : List (Addr × List Int), l = ks.map (fun p => Value.ref p.1) ∧ (∀ p ∈ ks, IsT Pg w h p.2 p.1) ∧ ks.map (·.2) = zs.map pr2
  | [], [], _, _ => ⟨[], rfl, (fun p hp => by cases hp), rfl⟩
  | [], _ :: _, l, _ => by cases l
  | _ :: _, [], l, _ => by cases l
  | v :: l, z :: zs, e, h => by
    obtain ⟨T, z', e1, e2, e3⟩ := h 0 v rfl
    simp at e2
    subst e1 e2
    obtain ⟨ks, a1, a2, a3⟩ := keys_of l zs (by simpa using e) fun j v hj => h (j + 1) v (by simpa using hj)
    exact ⟨(T, pr2 z) :: ks, by rw [List.map_cons, ← a1], fun p hp => (List.mem_cons.mp hp).elim (fun q => by rw [q]; exact e3) (a2 p), by rw [List.map_cons, List.map_cons, a3]⟩
def tLSZ (K : PySem.W.Frag) (ta tb : TE) : TE := fun σ H Q => ta σ H fun x H1 => tb σ H1 fun y H2 => ∃ (a b : Addr) (ns ms : List Int), x = .ref a ∧ y = .ref b ∧ SqL K H2 a (ns.map V.int) ∧ SqL K H2 b (ms.map V.int) ∧ ns.length < 64 ∧ Q (.int ((ddp (ns.zip ms)).length : Nat)) H2
theorem pe_LSZ {a b : Expr} {ta tb : TE} {p1 p2 p3 p4 q1 q2 q3 pos : Pos} (hc : X.calm = true) (hu : X.A.units + 64 < cLine) (m1 : X.mg "len" = none) (m2 : X.mg "set" = none) (m3 : X.mg "list" = none) (m4 : X.mg "zip" = none) (ha : PE X a ta) (hb : PE X b tb)
    (g1 : Gl X "len" := by rfl) (g2 : Gl X "set" := by rfl) (g3 : Gl X "list" := by rfl) (g4 : Gl X "zip" := by rfl) (na : starEach [a, b] X.env = (false, eval a X.env) :: starEach [b] X.env := by rfl) (nb : starEach [b] X.env = (false, eval b X.env) :: starEach [] X.env := by rfl) :
    PE X (.Call (.Name "len" p1) [.Call (.Name "set" p2) [.Call (.Name "list" p3) [.Call (.Name "zip" p4) [a, b] [] q1] [] q2] [] q3] [] pos) (tLSZ X.K ta tb) := by
  refine ⟨fun pins s σ H Q I h => ?_⟩
  refine Call_ (ld_blt I g1 m1 PySem.boot_len ?_)
  refine PyProof.Rows.callWith_builtin1 (PyProof.Rows.args_cons ?_ rfl) rfl rfl
  refine Call_ (ld_blt I g2 m2 PyProof.Rows.boot_set ?_)
  refine PyProof.Rows.callWith_type1 (PyProof.Rows.args_cons ?_ rfl) rfl rfl
  refine Call_ (ld_blt I g3 m3 (u := .type "list") (by decide +kernel) (PyProof.Rows.callWith_type1 (PyProof.Rows.args_cons ?_ rfl) rfl rfl))
  refine Call_ (ld_blt I g4 m4 PyProof.Rows.boot_zip (PyProof.Rows.callWith_type1 (PyProof.Rows.args_cons (thn (ha.run pins s σ H _ I h) ?_) na) na (by rw [nb]; rfl)))
  rintro v s1 ⟨x, H1, I1, r1, h1⟩
  refine PyProof.Rows.args_cons (thn (hb.run pins s1 σ H1 _ I1 h1) ?_) nb
  rintro u s2 ⟨y, H2, I2, r2, l1, l2, ns, ms, rfl, rfl, sx, sy, hn, q⟩
  cases r1
  cases r2
  obtain ⟨ia, ra, pa, _⟩ := I2.list sx
  obtain ⟨ib, rb, pb, _⟩ := I2.list sy
  have la : ia.toArray.size = ns.length := by rw [List.size_toArray, ← ra.length, List.length_map]
  have lb : ib.toArray.size = ms.length := by rw [List.size_toArray, ← rb.length, List.length_map]
  refine PyProof.Rows.args_nil ?_
  refine Vz.call_list_zip (I2.ok.hd hc) pa.isList pb.isList (by rw [la, sizeLine_eq]; omega) fun z h1 k1 _ hl => ?_
  refine PyProof.Rows.args_nil ?_
  refine hl _ fun L h2 acc c k2 _ hL hp => ?_
  refine PyProof.Rows.args_nil ?_
  obtain ⟨hp1, hp2⟩ := hp
  -- the pairs, as numbers
  have key : ∃ ks : List (Addr × List Int), acc.toList = ks.map (fun p => Value.ref p.1) ∧ (∀ p ∈ ks, IsT X.prog X.w h2 p.2 p.1) ∧ ks.map (·.2) = (ns.zip ms).map pr2 := by
    refine keys_of acc.toList (ns.zip ms) (by rw [Array.length_toList, hp1, la, lb, List.length_zip]) fun j v hj => ?_
    obtain ⟨T, x, y, e1, e2, e3, e4⟩ := hp2 j v (by rw [← Array.getElem?_toList]; exact hj)
    have e3' : ia[j]? = some x := by simpa using e3
    have e4' : ib[j]? = some y := by simpa using e4
    obtain ⟨vx, b1, b2⟩ := vals_getV ra e3'
    obtain ⟨vy, b3, b4⟩ := vals_getV rb e4'
    rw [List.getElem?_map] at b1 b3
    obtain ⟨n, c1, c2⟩ := Option.map_eq_some_iff.mp b1
    obtain ⟨m, c3, c4⟩ := Option.map_eq_some_iff.mp b3
    subst c2 c4
    refine ⟨T, (n, m), e1, by rw [List.getElem?_zip_eq_some]; exact ⟨c1, c3⟩, ?_⟩
    exact ⟨_, #[x, y], 0, e2, rfl, rfl, items_of_vals (k := pr2 (n, m)) (.cons b2 (.cons b4 .nil))⟩
  obtain ⟨ks, e1, e2, e3⟩ := key
  have hk : ks.length < 64 := by
    have := congrArg List.length e3
    rw [List.length_map, List.length_map, List.length_zip] at this
    omega
  refine call_set_tups (P := X.prog) (w := X.w) ks (I2.ok.hd hc) ⟨_, hL, rfl, _, rfl⟩ e1 e2 hk (by omega) fun h' tk L' es ep t R g k3 => ?_
  refine PyProof.Rows.args_nil ?_
  obtain ⟨o, ho, hex, hd⟩ := R.ob
  have n1 : es.size = (ddp (ns.zip ms)).length := by
    have a := congrArg List.length R.rows
    unfold rowsOf at a
    rw [Array.length_toList, List.length_map] at a
    rw [a, ← List.length_map (f := (·.2)) (as := L'), ← List.length_map (f := pr2)]
    refine nd_perm R.nd (List.Pairwise.map pr2 (fun x y hne e => hne (pr2_inj e)) (ddp_nodup _)) fun x => ?_
    have gs : ∀ p ∈ L', p ∈ ks := fun p hp => List.mem_of_mem_take (g.sub p hp)
    constructor
    · intro hx
      obtain ⟨p, hp, rfl⟩ := List.mem_map.mp hx
      have : p.2 ∈ (ns.zip ms).map pr2 := by rw [← e3]; exact List.mem_map.mpr ⟨p, gs p hp, rfl⟩
      obtain ⟨z, hz, ez⟩ := List.mem_map.mp this
      exact List.mem_map.mpr ⟨z, ddp_mem.mpr hz, ez⟩
    · intro hx
      obtain ⟨z, hz, rfl⟩ := List.mem_map.mp hx
      have : pr2 z ∈ ks.map (·.2) := by rw [e3]; exact List.mem_map.mpr ⟨z, ddp_mem.mp hz, rfl⟩
      obtain ⟨p, hp, ep⟩ := List.mem_map.mp this
      rw [← ep]
      exact g.all p (by rw [List.take_length]; exact hp)
  have few := R.few
  have n2 : es.size = L'.length := by
    have a := congrArg List.length R.rows
    unfold rowsOf at a
    rw [Array.length_toList, List.length_map] at a
    exact a
  have hf := SetTR.fits (s := { s2 with heap := h', toks := tk }) R
  have I3 : Inv X pins σ H2 { s2 with heap := h', toks := tk } := I2.kept fun b o e => k3 b o (k2 b o e)
  refine call_len_set (s := { s2 with heap := h', toks := tk }) ho hex hd hf (by omega) ⟨.int ((ddp (ns.zip ms)).length : Nat), H2, I3.tok _, ⟨_, by rw [n1]⟩, q⟩
def lszD (d e : D) : Option D := (intsD d).bind fun ns => (intsD e).bind fun ms => if ns.length < 64 then some (.int ((ddp (ns.zip ms)).length : Nat)) else none
theorem sd_LSZ {ta tb : TE} {f g : Δ → Option (P × Δ)} (hf : SX K ta f) (hg : SX K tb g) : SD K (tLSZ K ta tb) (eOp lszD f g) := fun δ d δ' e σ F H rp Q kq => by
  obtain ⟨⟨p, δ1⟩, e1, e⟩ := Option.bind_eq_some_iff.mp e
  obtain ⟨⟨q, δ2⟩, e2, e⟩ := Option.bind_eq_some_iff.mp e
  obtain ⟨dx, e3, e⟩ := Option.bind_eq_some_iff.mp e
  obtain ⟨dy, e4, e⟩ := Option.bind_eq_some_iff.mp e
  obtain ⟨z, e5, e⟩ := Option.map_eq_some_iff.mp e
  cases e
  obtain ⟨ns, e6, e⟩ := Option.bind_eq_some_iff.mp e5
  obtain ⟨ms, e7, e⟩ := Option.bind_eq_some_iff.mp e
  split at e
  case isFalse => cases e
  rename_i hn
  cases e
  refine pair_ok hf hg e1 e2 rp fun x y F' H' a px py _ _ => ?_
  obtain ⟨a1, rfl, s1⟩ := intsD_eq e6 (pr_dp a.rep px e3)
  obtain ⟨b1, rfl, s2⟩ := intsD_eq e7 (pr_dp a.rep py e4)
  exact ⟨a1, b1, ns, ms, rfl, rfl, s1, s2, hn, kq _ F' H' a (.int _)⟩
theorem d_LSZ (Z : Fits X K k) {a b : Expr} {p1 p2 p3 p4 q1 q2 q3 pos : Pos} {f g : Δ → Option (P × Δ)} (m1 : X.mg "len" = none) (m2 : X.mg "set" = none) (m3 : X.mg "list" = none) (m4 : X.mg "zip" = none) (ha : EX X K a f) (hb : EX X K b g)
    (g1 : Gl X "len" := by rfl) (g2 : Gl X "set" := by rfl) (g3 : Gl X "list" := by rfl) (g4 : Gl X "zip" := by rfl) (na : starEach [a, b] X.env = (false, eval a X.env) :: starEach [b] X.env := by rfl) (nb : starEach [b] X.env = (false, eval b X.env) :: starEach [] X.env := by rfl) :
    DX X K (.Call (.Name "len" p1) [.Call (.Name "set" p2) [.Call (.Name "list" p3) [.Call (.Name "zip" p4) [a, b] [] q1] [] q2] [] q3] [] pos) (eOp lszD f g) := by
  obtain ⟨_, p, s⟩ := ha
  obtain ⟨_, q, t⟩ := hb
  refine ⟨_, pe_LSZ Z.calm (by have := Z.can.room.un; omega) m1 m2 m3 m4 p q g1 g2 g3 g4 na nb, ?_⟩
  rw [Z.K]
  exact sd_LSZ s t
end
end Vb
end
section
set_option Elab.async false
set_option linter.all false
set_option maxRecDepth 100000
set_option maxHeartbeats 3000000
/-! Defs by name, with their values; the law's end over a head by facts. -/
namespace Vc
open PySem PySem.Spec PyProof.Rows L2 Vi Vf Vo Vp Vs Vt Vu Vv Vg Vw Vx Vy Va Vb
/-! ### == and != : texts are compared as they are -/
section
variable {X : Cx} {K : Lay} {k : Nat}
def eqX (d e : D) : Option D := match d, e with
  | .str x, .str y => some (.bool (decide (x = y)))
  | d, e => eqD d e
def neX (d e : D) : Option D := match d, e with
  | .str x, .str y => some (.bool (!decide (x = y)))
  | d, e => neD d e
theorem dec_strV {i j : Str} : decide (V.str i = V.str j) = decide (i = j) := by
  rw [Bool.eq_iff_iff]
  simp
theorem o_eqX (Z : Fits X K k) : OpS X K (compareOp .Eq) eqX := by
  obtain ⟨r, h1, h2⟩ := o_eqD Z
  refine ⟨_, OpR.or op_eq h1, fun H x y d e z hx hy hg => ?_⟩
  unfold eqX at hg
  split at hg
  · rename_i i j
    cases hg
    cases dp_str hx
    cases dp_str hy
    exact ⟨.bl (decide (i = j)), rfl, fun Q q => .inl ⟨rfl, by rw [dec_strV]; exact q⟩⟩
  · obtain ⟨w, a, b⟩ := h2 H x y d e z hx hy hg
    exact ⟨w, a, fun Q q => .inr (b Q q)⟩
theorem o_neX (Z : Fits X K k) : OpS X K (compareOp .NotEq) neX := by
  obtain ⟨r, h1, h2⟩ := o_neD Z
  refine ⟨_, OpR.or op_ne h1, fun H x y d e z hx hy hg => ?_⟩
  unfold neX at hg
  split at hg
  · rename_i i j
    cases hg
    cases dp_str hx
    cases dp_str hy
    exact ⟨.bl (!decide (i = j)), rfl, fun Q q => .inl ⟨rfl, by rw [dec_strV]; exact q⟩⟩
  · obtain ⟨w, a, b⟩ := h2 H x y d e z hx hy hg
    exact ⟨w, a, fun Q q => .inr (b Q q)⟩
end
/-! ### a, b = x, y, stored one by one -/
section
variable {X : Cx} {K : Lay} {k : Nat} {F H : Hp} {σ : L2.St} {δ : Δ}
theorem par2 {i j : Nat} {vs : List V} {H1 : Hp} {E : Ends} (h : vs.length = [i, j].length ∧ E.nx (setAll σ [i, j] vs) H1) : ∃ v w, vs = [v, w] ∧ E.nx ((σ.set i (some v)).set j (some w)) H1 := by
  obtain ⟨l, q⟩ := h
  match vs, l, q with
  | [v, w], _, q => exact ⟨v, w, rfl, q⟩
theorem par3 {i j l : Nat} {vs : List V} {H1 : Hp} {E : Ends} (h : vs.length = [i, j, l].length ∧ E.nx (setAll σ [i, j, l] vs) H1) : ∃ u v w, vs = [u, v, w] ∧ E.nx (((σ.set i (some u)).set j (some v)).set l (some w)) H1 := by
  obtain ⟨l, q⟩ := h
  match vs, l, q with
  | [u, v, w], _, q => exact ⟨u, v, w, rfl, q⟩
theorem ss_par {i j : Nat} {ta : TA} {g : Δ → Option (List P × Δ)} (hg : SXs K ta g) : SS K (tPar i j ta) (mTup [i, j] g) := fun δ out e σ F H r E kq => by
  obtain ⟨⟨ps, δ1⟩, e1, e⟩ := Option.bind_eq_some_iff.mp e
  dsimp only at e
  split at e
  case isFalse => cases e
  rename_i hz
  obtain ⟨⟨os, δ2⟩, e2, e⟩ := Option.bind_eq_some_iff.mp e
  obtain ⟨δ3, e3, e⟩ := Option.map_eq_some_iff.mp e
  cases e
  refine hg δ ps δ1 e1 σ F H r _ fun vs F1 H1 a1 p1 nd n1 => ?_
  obtain ⟨F2, a3, t3, nd3, sub3⟩ := ownPs_ok a1.rep p1 nd e2
  obtain ⟨r4, g4, l4⟩ := putAll_ok (σ0 := σ) (δ0 := δ) (F0 := F) (H0 := H) a3.rep t3 nd3 (fun a ha => n1 a (sub3 a ha)) (a1.go.trans a3.go) e3
  exact par2 ⟨l4.symm, kq _ F2 _ r4 g4⟩
theorem ss_par3 {i j l : Nat} {ta : TA} {g : Δ → Option (List P × Δ)} (hg : SXs K ta g) : SS K (tPar3 i j l ta) (mTup [i, j, l] g) := fun δ out e σ F H r E kq => by
  obtain ⟨⟨ps, δ1⟩, e1, e⟩ := Option.bind_eq_some_iff.mp e
  dsimp only at e
  split at e
  case isFalse => cases e
  rename_i hz
  obtain ⟨⟨os, δ2⟩, e2, e⟩ := Option.bind_eq_some_iff.mp e
  obtain ⟨δ3, e3, e⟩ := Option.map_eq_some_iff.mp e
  cases e
  refine hg δ ps δ1 e1 σ F H r _ fun vs F1 H1 a1 p1 nd n1 => ?_
  obtain ⟨F2, a3, t3, nd3, sub3⟩ := ownPs_ok a1.rep p1 nd e2
  obtain ⟨r4, g4, l4⟩ := putAll_ok (σ0 := σ) (δ0 := δ) (F0 := F) (H0 := H) a3.rep t3 nd3 (fun a ha => n1 a (sub3 a ha)) (a1.go.trans a3.go) e3
  exact par3 ⟨l4.symm, kq _ F2 _ r4 g4⟩
theorem b_par (Z : Fits X K k) (i j : Nat) {x y : Str} {a b : Expr} {px py pt pt2 pos : Pos} {kt k2 : Nat} {g : Δ → Option (List P × Δ)} (hN : X.N.Nodup) (ha : ASX X K [a, b] g) (hi : X.N[i]? = some x := by rfl) (hj : X.N[j]? = some y := by rfl) (hij : i ≠ j := by decide)
    (hx : X.env.scope.names.lookup x = some .local := by rfl) (hy : X.env.scope.names.lookup y = some .local := by rfl)
    (hw : swappedStores [.Tuple [.Name x px, .Name y py] kt pt] (.Tuple [a, b] k2 pt2) X.env = pure (some [x, y]) := by rfl) (hs : swapsWithSole [.Tuple [.Name x px, .Name y py] kt pt] (.Tuple [a, b] k2 pt2) pos.line X.env = pure false := by rfl) :
    BX X K (.Assign [.Tuple [.Name x px, .Name y py] kt pt] (.Tuple [a, b] k2 pt2) pos) (mTup [i, j] g) := let ⟨_, p, s⟩ := ha; ⟨_, ps_par Z.calm hN hi hj hij hx hy p hw hs, ss_par s⟩
theorem b_par3 (Z : Fits X K k) (i j l : Nat) {x y z : Str} {a b c : Expr} {px py pz pt pt2 pos : Pos} {kt k2 : Nat} {g : Δ → Option (List P × Δ)} (hN : X.N.Nodup) (ha : ASX X K [a, b, c] g) (hi : X.N[i]? = some x := by rfl) (hj : X.N[j]? = some y := by rfl) (hl : X.N[l]? = some z := by rfl) (hij : i ≠ j := by decide) (hil : i ≠ l := by decide) (hjl : j ≠ l := by decide)
    (hx : X.env.scope.names.lookup x = some .local := by rfl) (hy : X.env.scope.names.lookup y = some .local := by rfl) (hz : X.env.scope.names.lookup z = some .local := by rfl)
    (hw : swappedStores [.Tuple [.Name x px, .Name y py, .Name z pz] kt pt] (.Tuple [a, b, c] k2 pt2) X.env = pure (some [x, y, z]) := by rfl) (hs : swapsWithSole [.Tuple [.Name x px, .Name y py, .Name z pz] kt pt] (.Tuple [a, b, c] k2 pt2) pos.line X.env = pure false := by rfl) :
    BX X K (.Assign [.Tuple [.Name x px, .Name y py, .Name z pz] kt pt] (.Tuple [a, b, c] k2 pt2) pos) (mTup [i, j, l] g) := let ⟨_, p, s⟩ := ha; ⟨_, ps_par3 Z.calm hN hi hj hl hij hil hjl hx hy hz p hw hs, ss_par3 s⟩
end
/-- what is known of a def: its text, its value -/
structure DefS (Pg : Program) (w : World) (K : Lay) (mg : Str → Option Value) (base : Heap) (k : Nat) (x : Str) (st : Stmt) (ps : List Str) (fv : List O → Option (O × Δ)) : Prop where
  ex : ∃ (f : Addr) (fd : FuncData) (kV doc pm : Value) (an : Option Addr) (cdv ct : Value), FnG Pg w K.K mg base CX0 k f fd ps (SpV K fv) ∧ mg x = some (.ref f) ∧ PySem.W.keepIn K.K (.ref f) = true ∧
    fd = PySem.W.fnOf x x (defArgs st) (defBody st) (defScope st) .none kV doc pm an cdv ct ∧ Binds K.K fd ps []
section
variable {X : Cx} {K : Lay} {k : Nat}
theorem x_fn (Z : Fits X K k) {j : Nat} {x : Str} {st : Stmt} {ps : List Str} {fv : List O → Option (O × Δ)} (G : DefS X.prog X.w K X.mg X.base j x st ps fv) (hj : j ≤ k) {e : Expr} {es : List Expr} {p pos : Pos} {g : Δ → Option (List P × Δ)} (ha : ASX X K (e :: es) g) (hg : Gl X x := by rfl)
    (hdb : (x == ("__debug__" : Str)) = false := by decide) (he : starEach (e :: es) X.env = (false, eval e X.env) :: starEach es X.env := by rfl) (hpl : (backTo pos (starEach es X.env)).any (·.1) = false := by rfl) : EX X K (.Call (.Name x p) (e :: es) [] pos) (eFn fv g) := by
  obtain ⟨_, q, s⟩ := ha
  obtain ⟨f, fd, kV, doc, pm, an, cdv, ct, F, hm, hk, _, hb⟩ := G.ex
  rw [← Z.K] at F hk hb
  exact ⟨_, pe_callG (F.up hj) Z.can hg hm hk hb pass0 q hdb he hpl, sx_fn s⟩
theorem x_fnK (Z : Fits X K k) {j : Nat} {x : Str} {st : Stmt} {ps : List Str} {fv : List O → Option (O × Δ)} (G : DefS X.prog X.w K X.mg X.base j x st ps fv) (hj : j ≤ k) (ks : List Str) (ix : List Nat) {kws : List Keyword} {p pos : Pos} {g : Δ → Option (List P × Δ)} (ha : KSX X K kws g)
    (hb : ∀ (kV doc pm : Value) (an : Option Addr) (cdv ct : Value) (ws : List Value), ws.length = ks.length → bindArgs (PySem.W.fnOf x x (defArgs st) (defBody st) (defScope st) .none kV doc pm an cdv ct) ⟨[], ks.zip ws⟩ = pure (ps.zip (pmI ix ws)))
    (hg : Gl X x := by rfl) (hall : (backToKw pos (keywordEach kws X.env)).all (·.1.isSome) = true := by rfl) (hks : (backToKw pos (keywordEach kws X.env)).filterMap (·.1) = ks := by rfl)
    (hdb : (x == ("__debug__" : Str)) = false := by decide) (hpl : ((backTo pos (starEach [] X.env)).any (·.1) || (backToKw pos (keywordEach kws X.env)).any (·.1.isNone)) = false := by rfl) : EX X K (.Call (.Name x p) [] kws pos) (eFnK ks.length ix fv g) := by
  obtain ⟨_, q, s⟩ := ha
  obtain ⟨f, fd, kV, doc, pm, an, cdv, ct, F, hm, hk, efd, _⟩ := G.ex
  subst efd
  rw [← Z.K] at F hk
  exact ⟨_, pe_callGK (pm := fun l => pmI ix l) (F.up hj) Z.can hg hm hk (fun s ws _ hl => .of_eq (hb kV doc pm an cdv ct ws hl)) (fun h => vals_pm h ix) pass0 q hall hks hdb hpl, sx_fnK s⟩
end
section
variable {Pg : Program} {w : World} {K : Lay} {mg : Str → Option Value} {base : Heap}
/-- THE RULE for a def -/
theorem def_v {x : Str} {st : Stmt} {f : Addr} {fd : FuncData} {N ps : List Str} {k : Nat} {m : Δ → Option Out} (Fd : FunD K.K x x (defArgs st) (defBody st) (defScope st) [] [] f fd) (hm : mg x = some (.ref f)) (S : FnScope N ps (defScope st)) (hn : ps.length ≤ N.length)
    (hb : ∀ (kV doc pm : Value) (an : Option Addr) (cdv ct : Value) (us : List Value), us.length = ps.length → bindArgs (PySem.W.fnOf x x (defArgs st) (defBody st) (defScope st) .none kV doc pm an cdv ct) ⟨us, []⟩ = pure (ps.zip us))
    (hbody : ∀ (cdv : Value) (B : Around) (es : List Env) (s : Shared) (H : Hp) (E : XK), (∃ oc od kV doc pm an ct osl, K.K.lookup f = some ⟨oc, od, .func (PySem.W.fnOf x x (defArgs st) (defBody st) (defScope st) .none kV doc pm an cdv ct), osl⟩ ∧ PySem.W.codeIn K.K cdv x = true) →
      Fits (cxOf CX0 Pg w K.K mg base N x (defScope st) f cdv B es s H E).nox K k → BXs (cxOf CX0 Pg w K.K mg base N x (defScope st) f cdv B es s H E).nox K (defBody st) m) :
    DefS Pg w K mg base (k + 1) x st ps (runM ps.length N.length m) := by
  have hbn := FunD.bindsN Fd hb
  obtain ⟨oc, od, dV, kV, doc, pm, an, cdv, ct, osl, rfl, lk, hcd, hD, hK⟩ := Fd.ex
  have hdV : dV = .none := by
    rcases hD with ⟨_, e⟩ | ⟨e, _⟩
    · exact e
    · exact absurd rfl e
  subst hdV
  refine ⟨f, _, kV, doc, pm, an, cdv, ct, ?_, hm, Fd.kp, rfl, hbn⟩
  refine fnG_of lk hcd S (fun zs G R X h => spV_len h) fun B es t G zs R X hr hg h => ?_
  obtain ⟨T, hT, hs⟩ := hbody cdv B es t G X ⟨oc, od, kV, doc, pm, an, ct, osl, lk, hcd⟩ ⟨rfl, ⟨hr, hg⟩, rfl⟩
  refine ⟨T, hT.nox, ?_⟩
  obtain ⟨F, os, o, δ', e, r, q⟩ := h
  unfold runM at e
  split at e
  case isFalse => cases e
  rename_i hk
  have hn' : os.length ≤ N.length := by omega
  obtain ⟨r0, _⟩ := rep_start (N := N) r hn'
  split at e
  case h_1 o1 δ1 hm =>
    cases e
    refine hs _ _ hm _ F G r0 _ fun v σ' F' H' r1 g t1 n1 => ?_
    obtain ⟨b1, b2, b3⟩ := back_ok r hn' r1 g
    exact q v F' H' b1 b2 ⟨t1.ok, t1.nd, fun a ha z => t1.ap a ha (b3 a z)⟩ fun a ha => (n1 a ha).imp_left fun ⟨j, z⟩ => ⟨j, (rep_start r hn').2 j a z⟩
  case h_2 δ1 hm =>
    cases e
    refine hs _ _ hm _ F G r0 _ fun σ' F' H' r1 g => ?_
    obtain ⟨b1, b2, b3⟩ := back_ok r hn' r1 g
    exact q .non F' H' b1 b2 ⟨.non, by simp [O.fp], fun a ha => by cases ha⟩ fun a ha => by cases ha
  case h_3 => cases e
end
/-! ### the law's end -/
/-- the facts of a head, read off -/
structure Head (fa : List He.Fa) (fn : List He.DefD) (tf : List He.Defn) (w : World) (h : Heap) (K : PySem.W.Frag) : Prop where
  kin : K.In h
  x : He.SaysX fa fn [] tf (fun _ => true) w h K
theorem walk_VX {l : PySem.W.OpenLaw} {n k : Nat} {q : Program} {loose : List Str} {XP : (Str → Option Value) → Heap → Prop} {d : DefRec} {x : Str} {fa : List He.Fa} {fn : List He.DefD} {tf : List He.Defn} (hn : l.most = some n) (hn2 : n ≤ sizeLine) (hdf : d.params.defaults = []) (hr : Room k callerA)
    (F : ∀ (w : World) (mg : Str → Option Value) (ad : Addr) (h : Heap) (K : PySem.W.Frag), Head fa fn tf w h K → h.Ns mainGlobals mg → mg d.name = some (.ref ad) →
      ∃ fd sp, (∀ (s : Shared) (u : Value), BindsTo s fd ⟨[u], []⟩ [(x, u)]) ∧
        (∀ (H : Hp) (a : Addr) (ns : List Int), ns.length ≤ n → (∀ z ∈ ns, Builtin.Int.intBits z ≤ 1048576) → (∀ p ∈ tf, H (He.cT K p).2 = some (.tbl #[])) → SqL K H a (ns.map V.int) → sp [.ref a] H (fun v _ => v = .bl true) E0) ∧
        ∀ base : Heap, K.In base → base.Ns mainGlobals mg → (∀ p ∈ tf, GxR.TabB base mg (He.cT K p).1 (He.cT K p).2) → FnG l.prog w K mg base CX0 k ad fd [x] sp) :
    PySem.W.WalkO q loose XP (He.hookX 4 fa fn [] tf fun _ => true).says l.row.toRowW d [] (fun f vs => PySem.call f vs) := by
  refine Att.attach_callB hn hdf ?_
  intro w s₀ s₁ mg mb fad o pm cd doc a vs ns G Y ho hd hcd hmg hobj hin hlen hbits hg
  obtain ⟨K, kin, c⟩ := Y
  obtain ⟨fd, sp, hb, hv, hF⟩ := F w mg fad _ K ⟨kin, c⟩ G.T.g hmg
  have cs : ∀ p ∈ tf.map (He.cT K), ∃ z ∈ tf, He.cT K z = p := fun p hp => by
    obtain ⟨z, hz, e⟩ := List.mem_map.mp hp
    exact ⟨z, hz, e⟩
  exact Ve.law_callV (cs := tf.map (He.cT K)) kin G.T.g G.T.b G.T.builtins G.T.nolimit hg
    (fun p hp => by obtain ⟨z, hz, rfl⟩ := cs p hp; exact c.empty z hz) (fun p hp => by obtain ⟨z, hz, rfl⟩ := cs p hp; exact c.out z hz)
    (fun p hp => by obtain ⟨z, hz, rfl⟩ := cs p hp; exact PySem.W.codeHd_of_K kin (c.hd z hz)) G.T.bmain hobj hin (Nat.le_trans hlen hn2) hr
    (fun base hk hns hT => hF base hk hns fun p hp => hT _ (List.mem_map.mpr ⟨p, hp, rfl⟩)) hb fun H hH hS => hv H a ns hlen hbits (fun p hp => hH _ (List.mem_map.mpr ⟨p, hp, rfl⟩)) hS
end Vc
end
section
set_option Elab.async false
set_option linter.all false
set_option maxRecDepth 100000
set_option maxHeartbeats 4000000
/-! What the values come to, step by step. -/
namespace Ev
open PySem PySem.Spec PyProof.Rows L2 Vi Vf Vo Vp Vs Vt Vu Vv Vg Vw Vx Vy Va Vb Vc
def eSortSet (f : Δ → Option (P × Δ)) : Δ → Option (P × Δ) := fun δ => (f δ).bind fun r => (r.1.data r.2).bind fun d => (sortSetO d).map fun o => (.tm o, r.2)
section
variable {δ us : Δ} {d e : D} {o : O} {ds : List D} {dss : List (List D)} {is : List I} {i j : Nat} {p : P} {ps : List P} {os : List O} {a b m : Δ → Option Out} {f f' : Δ → Option (P × Δ)} {g g' : Δ → Option (D × Δ)} {t t' : Δ → Option (Bool × Δ)} {as : Δ → Option (List D × Δ)} {ap : Δ → Option (List P × Δ)} {lo hi : Δ → Option (Option Int × Δ)} {h : D → Δ → Option Δ} {hs : List D → Δ → Option Δ} {k n : Nat} {F : List O → Option (O × Δ)} {ix : List Nat} {vs : List Nat}
/-- a def's value and what it leaves of what was lent -/
def val (f : List O → Option (O × Δ)) (os : List O) : Option (O × Δ) := (f os).map fun s => (s.1, lent os s.2)
theorem lent_fz : lent (.fz d :: os) δ = none :: lent os δ.tail := by cases δ <;> rfl
theorem lent_ow : lent (.ow ds :: os) δ = none :: lent os δ.tail := by cases δ <;> rfl
theorem lent_oo : lent (.oo dss :: os) δ = none :: lent os δ.tail := by cases δ <;> rfl
theorem lent_mx : lent (.mx is :: os) δ = none :: lent os δ.tail := by cases δ <;> rfl
theorem lent_ln {u : Option O} : lent (.ln ds :: os) (u :: δ) = u :: lent os δ := rfl
theorem lent_nil : lent [] δ = [] := by cases δ <;> rfl
theorem back_nil : backΔ [] us δ = δ := by cases us <;> rfl
theorem back_tm : backΔ (.tm o :: ps) (none :: us) δ = backΔ ps us δ := rfl
theorem back_sl : backΔ (.sl i :: ps) (some (.ln ds) :: us) δ = backΔ ps us (δ.set i (match δ[i]? with | some (some (.ln _)) => some (.ln ds) | _ => some (.ow ds))) := rfl
theorem runM_at : runM k n m os = if os.length = k then (match m (startΔ n os) with | some (.rt o δ) => some (o, δ) | some (.nx δ) => some (.fz .none, δ) | _ => none) else none := rfl
theorem start_at : startΔ n os = os.map some ++ List.replicate (n - os.length) none := rfl
theorem seq_at : mSeq a b δ = (a δ).bind fun r => (match r with | .nx δ1 => b δ1 | r => some r) := rfl
theorem pass_at : mPass δ = some (.nx δ) := rfl
theorem brk_at : mBrk δ = some (.bk δ) := rfl
theorem cnt_at : mCnt δ = some (.ct δ) := rfl
theorem ret_at : mRet f δ = (f δ).bind fun r => (retP r.1 r.2).map fun s => .rt s.1 s.2 := rfl
theorem retN_at : mRetN δ = some (.rt (.fz .none) δ) := rfl
theorem asg_at : mAsg i f δ = (f δ).bind fun r => (putP i r.1 r.2).map .nx := rfl
theorem if_at : mIf t a b δ = (t δ).bind fun r => if r.1 = true then a r.2 else b r.2 := rfl
theorem drop_at : mDrop f δ = (f δ).map fun r => .nx r.2 := rfl
theorem tgt_at : mTgt g h δ = (g δ).bind fun r => (h r.1 r.2).map .nx := rfl
theorem tup_at : mTup ix ap δ = (ap δ).bind fun r => if r.1.length ≤ sizeLine ∧ r.1.length = ix.length then (ownPs r.1 r.2).bind fun s => (putAll ix s.1 s.2).map .nx else none := rfl
theorem for_at {c : Δ → Option (List D × Δ)} : mFor c h b δ = (c δ).bind fun r => turns h b r.1 r.2 := rfl
theorem P_at : eP g δ = (g δ).map fun r => (.tm (.fz r.1), r.2) := rfl
theorem F_at : eF f δ = (f δ).bind fun r => force r.1 r.2 := rfl
theorem var_at : eVar i δ = (match δ[i]? with | some (some (.fz d)) => some (.tm (.fz d), δ) | some (some _) => some (.sl i, δ) | _ => none) := rfl
theorem c_at : eC d δ = some (d, δ) := rfl
theorem op_at {G : D → D → Option D} : eOp G f f' δ = (f δ).bind fun r => (f' r.2).bind fun s => (r.1.data s.2).bind fun d => (s.1.data s.2).bind fun e => (G d e).map fun z => (z, s.2) := rfl
theorem opF_at {G : D → D → Option O} : eOpF G g g' δ = (g δ).bind fun r => (g' r.2).bind fun s => (G r.1 s.1).map fun o => (.tm o, s.2) := rfl
theorem call_at {G : List D → Option O} : eCall G as δ = (as δ).bind fun r => (G r.1).map fun o => (.tm o, r.2) := rfl
theorem call1_at {G : D → Option D} : eCall1 G f δ = (f δ).bind fun r => (r.1.data r.2).bind fun d => (G d).map fun z => (z, r.2) := rfl
theorem un_at {G : D → Option D} : eUn G g δ = (g δ).bind fun r => (G r.1).map fun z => (z, r.2) := rfl
theorem isi_at {T : String} : eIsi T f δ = (f δ).bind fun r => (r.1.data r.2).bind fun d => (isiD T d).map fun z => (z, r.2) := rfl
theorem nil_at : eNil δ = some ([], δ) := rfl
theorem cons_at : eCons g as δ = (g δ).bind fun r => (as r.2).map fun s => (r.1 :: s.1, s.2) := rfl
theorem aNil_at : aNil δ = some ([], δ) := rfl
theorem aCons_at : aCons f ap δ = (f δ).bind fun r => (ap r.2).map fun s => (r.1 :: s.1, s.2) := rfl
theorem lst_at' : eLst as δ = (as δ).bind fun r => if r.1.length ≤ sizeLine then some (.tm (.ow r.1), r.2) else none := rfl
theorem tupE_at : eTup as δ = (as δ).bind fun r => if r.1.length ≤ sizeLine then some (.tuple r.1, r.2) else none := rfl
theorem mix_at : eMix ap δ = (ap δ).bind fun r => if r.1.length ≤ sizeLine then (mixI r.1).map fun is => (.tm (.mx is), r.2) else none := rfl
theorem t_at : eT g δ = (g δ).bind fun r => (bOf r.1).map fun b => (b, r.2) := rfl
theorem tru_at : eTru f δ = (f δ).bind fun r => (r.1.data r.2).bind fun d => (truD d).map fun b => (b, r.2) := rfl
theorem and_at : eAnd t t' δ = (t δ).bind fun r => if r.1 = true then t' r.2 else some (false, r.2) := rfl
theorem or_at : eOr t t' δ = (t δ).bind fun r => if r.1 = true then some (true, r.2) else t' r.2 := rfl
theorem not_at : eNot t δ = (t δ).map fun r => (!r.1, r.2) := rfl
theorem andV_at : eAndV g g' δ = (g δ).bind fun r => (bOf r.1).bind fun c => if c = true then g' r.2 else some (.bool false, r.2) := rfl
theorem orV_at : eOrV g g' δ = (g δ).bind fun r => (bOf r.1).bind fun c => if c = true then some (.bool true, r.2) else g' r.2 := rfl
theorem notV_at : eNotV g δ = (g δ).bind fun r => (bOf r.1).map fun c => (.bool (!c), r.2) := rfl
theorem if2_at : eIf t f f' δ = (t δ).bind fun r => if r.1 = true then f r.2 else f' r.2 := rfl
theorem ix_at' : eIx f g δ = (f δ).bind fun r => (norm r.1 r.2).bind fun s => (g s.2).bind fun t => (s.1.data t.2).bind fun d => (ixD d t.1).bind fun z => if flat t.2 s.1 = true then some (z, t.2) else none := rfl
theorem no_at : eNo δ = some (none, δ) := rfl
theorem yes_at : eYes g δ = (g δ).bind fun r => (match r.1 with | .int i => some (some i, r.2) | _ => none) := rfl
theorem sl_at : eSl f lo hi δ = (f δ).bind fun r => (norm r.1 r.2).bind fun s => (lo s.2).bind fun t => (hi t.2).bind fun u => (s.1.data u.2).bind fun d => (slD d t.1 u.1).bind fun z => if flat u.2 s.1 = true then some (.tm z, u.2) else none := rfl
theorem rep_at : eRep f g δ = (f δ).bind fun r => (g r.2).bind fun s => (repP r.1 s.1).map fun o => (.tm o, s.2) := rfl
theorem fn_at : eFn F ap δ = (ap δ).bind fun r => (argOs r.2 r.1).bind fun os => if (slots r.1).Nodup then (val F os).map fun z => (.tm z.1, backΔ r.1 z.2 r.2) else none := by
  unfold eFn val
  simp only [Option.map_map]
  rfl
theorem fnK_at : eFnK n ix F ap δ = (ap δ).bind fun r => if r.1.length = n ∧ ix.Nodup then (argOs r.2 (pmI ix r.1)).bind fun os => if (slots (pmI ix r.1)).Nodup then (val F os).map fun z => (.tm z.1, backΔ (pmI ix r.1) z.2 r.2) else none else none := by
  unfold eFnK val
  simp only [Option.map_map]
  rfl
theorem seqL_at : eSeq g δ = (g δ).bind fun r => (match r.1 with | .list ds => some (ds, r.2) | _ => none) := rfl
theorem seqT_at : eSeqT g δ = (g δ).bind fun r => (match r.1 with | .tuple ds => some (ds, r.2) | _ => none) := rfl
theorem enum_at : eEnum as δ = (as δ).bind fun r => (match r.1 with | [.list ds] => some (enumD ds, r.2) | _ => none) := rfl
theorem zip_at : eZip as δ = (as δ).bind fun r => (match r.1 with | [.list ds, .list es] => some (zipD ds es, r.2) | _ => none) := rfl
theorem rng1_at : eRng1 as δ = (as δ).bind fun r => (match r.1 with | [.int j] => if rgOk j = true then some (rangeD 0 j.toNat, r.2) else none | _ => none) := rfl
theorem lr1_at : eListR1 g δ = (g δ).bind fun r => (match r.1 with | .int i => if rgS i = true then some (.tm (.ow (rangeD 0 i.toNat)), r.2) else none | _ => none) := rfl
theorem lc_at {c : Δ → Option (List D × Δ)} : eLc vs c h t g δ = (c δ).bind fun r => if r.1.length ≤ sizeLine ∧ vs.all (okv r.2) = true then (lcGo vs h t g r.1 (wipeΔ r.2 vs)).map fun z => (.tm (.ow z.1), restΔ r.2 z.2 vs) else none := rfl
theorem lcE_at {c : Δ → Option (List D × Δ)} : eLcE vs c h δ = (c δ).bind fun r => if r.1.length ≤ sizeLine ∧ vs.all (okv r.2) = true ∧ (r.1.all fun d => (h d (wipeΔ r.2 vs)).isSome) = true then some (.tm (.oo (List.replicate r.1.length [])), restΔ r.2 (wipeΔ r.2 vs) vs) else none := rfl
theorem yesT_at : eYesT δ = some (true, δ) := rfl
theorem meth_at {M : List D → List D → Option (D × List D)} : eMeth i M as δ = (ownAt δ i).bind fun _ => (as δ).bind fun r => (ownAt r.2 i).bind fun ds => (M ds r.1).map fun z => (z.1, setOwn r.2 i z.2) := rfl
theorem idx_at : eIdx f f' δ = (f δ).bind fun r => (r.1.data r.2).bind fun d0 => if isList d0 = true then (f' r.2).bind fun s => (r.1.data s.2).bind fun d => (s.1.data s.2).bind fun e => (idxD d e).map fun z => (z, s.2) else none := rfl
theorem subApp_at : eSubApp i g g' δ = (δ[i]?.bind id).bind fun _ => (g δ).bind fun r => (match r.1 with | .int n => (r.2[i]?.bind id).bind fun o1 => (rowAt n o1).bind fun _ => (g' r.2).bind fun s => (s.2[i]?.bind id).bind fun o => (rowAt n o).bind fun z => if z.2.length < sizeLine then some (.none, s.2.set i (some (setRow z.1 (z.2 ++ [s.1]) o))) else none | _ => none) := rfl
theorem sortSet_at : eSortSet f δ = (f δ).bind fun r => (r.1.data r.2).bind fun d => (sortSetO d).map fun o => (.tm o, r.2) := rfl
theorem hName_at : hName i d δ = if noLn δ i = true then some (δ.set i (some (.fz d))) else none := rfl
theorem hNil_at : hNil [] δ = some δ := rfl
theorem hCons_at : hCons h hs (d :: ds) δ = (h d δ).bind (hs ds) := rfl
theorem hTup_at : hTup n hs (.tuple ds) δ = if ds.length = n then hs ds δ else none := rfl
theorem hSub_at : hSub i g d δ = (ownAt δ i).bind fun _ => (g δ).bind fun r => (match r.1 with | .int n => (ownAt r.2 i).bind fun ds => (ixN ds.length n).map fun j => setOwn r.2 i (ds.set j d) | _ => none) := rfl
theorem turns_nil : turns h b [] δ = some (.nx δ) := rfl
theorem force_fz : force (.tm (.fz d)) δ = some (d, δ) := rfl
theorem force_ow : force (.tm (.ow ds)) δ = some (.list ds, δ) := rfl
theorem force_oo : force (.tm (.oo dss)) δ = some (.list (dss.map .list), δ) := rfl
theorem force_mx : force (.tm (.mx is)) δ = some (.list (is.map I.toD), δ) := rfl
theorem force_sl : force (.sl i) δ = (match δ[i]? with | some (some (.ln _)) => none | some (some o) => some (o.toD, δ.set i (some (.fz o.toD))) | _ => none) := rfl
theorem norm_fz : norm (.tm (.fz d)) δ = some (.tm (.fz d), δ) := rfl
theorem norm_ow : norm (.tm (.ow ds)) δ = some (.tm (.ow ds), δ) := rfl
theorem norm_sl : norm (.sl i) δ = (match δ[i]? with | some (some (.oo _)) => (force (.sl i) δ).map fun r => (.tm (.fz r.1), r.2) | some (some (.mx _)) => (force (.sl i) δ).map fun r => (.tm (.fz r.1), r.2) | _ => some (.sl i, δ)) := rfl
theorem argO_sl : argO δ (.sl i) = (match δ[i]? with | some (some (.ow ds)) => some (.ln ds) | some (some (.ln ds)) => some (.ln ds) | _ => none) := rfl
theorem own_at : ownAt δ i = (match δ[i]? with | some (some (.ow ds)) => some ds | some (some (.ln ds)) => some ds | _ => none) := rfl
theorem setOwn_at {es : List D} : setOwn δ i es = (match δ[i]? with | some (some (.ln _)) => δ.set i (some (.ln es)) | _ => δ.set i (some (.ow es))) := rfl
theorem flatF : isOO (.fz d) = false := rfl
theorem flatO : isOO (.ow ds) = false := rfl
theorem flatL : isOO (.ln ds) = false := rfl
theorem data_tm : P.data δ (.tm o) = some o.toD := rfl
theorem data_sl : P.data δ (.sl i) = (match δ[i]? with | some (some o) => some o.toD | _ => none) := rfl
theorem toD_fz : (O.fz d).toD = d := rfl
theorem toD_ow : (O.ow ds).toD = .list ds := rfl
theorem toD_ln : (O.ln ds).toD = .list ds := rfl
theorem toD_oo : (O.oo dss).toD = .list (dss.map .list) := rfl
theorem toD_mx : (O.mx is).toD = .list (is.map I.toD) := rfl
theorem flat_fz : flat δ (.tm (.fz d)) = true := rfl
theorem flat_ow : flat δ (.tm (.ow ds)) = true := rfl
theorem flat_sl : flat δ (.sl i) = (match δ[i]? with | some (some o) => !isOO o | _ => false) := rfl
theorem retP_fz : retP (.tm (.fz d)) δ = some (.fz d, δ) := rfl
theorem retP_ow : retP (.tm (.ow ds)) δ = some (.ow ds, δ) := rfl
theorem retP_oo : retP (.tm (.oo dss)) δ = some (.oo dss, δ) := rfl
theorem retP_sl : retP (.sl i) δ = (match δ[i]? with | some (some (.ln _)) => none | some (some o) => some (o, δ.set i none) | _ => none) := rfl
theorem putP_fz : putP i (.tm (.fz d)) δ = if noLn δ i = true then some (δ.set i (some (.fz d))) else none := rfl
theorem putP_ow : putP i (.tm (.ow ds)) δ = if noLn δ i = true then some (δ.set i (some (.ow ds))) else none := rfl
theorem putP_oo : putP i (.tm (.oo dss)) δ = if noLn δ i = true then some (δ.set i (some (.oo dss))) else none := rfl
theorem putP_mx : putP i (.tm (.mx is)) δ = if noLn δ i = true then some (δ.set i (some (.mx is))) else none := rfl
theorem putP_sl : putP i (.sl j) δ = (force (.sl j) δ).bind fun r => if noLn r.2 i = true then some (r.2.set i (some (.fz r.1))) else none := rfl
theorem noLn_at : noLn δ i = (match δ[i]? with | some (some (.ln _)) => false | some _ => true | none => false) := rfl
theorem argOs_nil : argOs δ [] = some [] := rfl
theorem argOs_cons : argOs δ (p :: ps) = (argO δ p).bind fun o => (argOs δ ps).map (o :: ·) := rfl
theorem argO_fz : argO δ (.tm (.fz d)) = some (.fz d) := rfl
theorem argO_ow : argO δ (.tm (.ow ds)) = some (.ow ds) := rfl
theorem slots_nil : slots [] = [] := rfl
theorem slots_tm : slots (.tm o :: ps) = slots ps := rfl
theorem slots_sl : slots (.sl i :: ps) = i :: slots ps := rfl
theorem bOf_b {b : Bool} : bOf (.bool b) = some b := rfl
theorem ownP_fz : ownP (.tm (.fz d)) δ = some (.fz d, δ) := rfl
theorem ownP_ow : ownP (.tm (.ow ds)) δ = some (.ow ds, δ) := rfl
theorem ownP_sl : ownP (.sl i) δ = (force (.sl i) δ).map fun r => (.fz r.1, r.2) := rfl
theorem ownPs_nil : ownPs [] δ = some ([], δ) := rfl
theorem ownPs_cons : ownPs (p :: ps) δ = (ownP p δ).bind fun r => (ownPs ps r.2).map fun s => (r.1 :: s.1, s.2) := rfl
theorem putAll_nil : putAll [] [] δ = some δ := rfl
theorem putAll_cons : putAll (i :: ix) (o :: os) δ = if noLn δ i = true then putAll ix os (δ.set i (some o)) else none := rfl
theorem mixI_nil : mixI [] = some [] := rfl
theorem mixI_fz : mixI (.tm (.fz d) :: ps) = (mixI ps).map (I.fz d :: ·) := rfl
theorem mixI_ow : mixI (.tm (.ow ds) :: ps) = (mixI ps).map (I.ow ds :: ·) := rfl
theorem mixI_oo : mixI (.tm (.oo dss) :: ps) = (mixI ps).map (I.oo dss :: ·) := rfl

end
section
variable {x y z : D} {l r : List D} {i j : Int}
theorem nd1 {a : Nat} : ([a] : List Nat).Nodup = True := by simp
theorem nd2 {a b : Nat} : ([a, b] : List Nat).Nodup = (a ≠ b) := by simp
theorem ixD_list : ixD (.list l) (.int i) = atI l i := rfl
theorem ixD_tup : ixD (.tuple l) (.int i) = atI l i := rfl
theorem atI_0 : atI (x :: l) 0 = some x := by simp [atI, ixN]
theorem atI_1 : atI (x :: y :: l) 1 = some y := by
  unfold atI ixN
  rw [if_pos (by decide), if_pos (by simp only [List.length_cons]; omega)]
  rfl
theorem ixN_0 {n : Nat} : ixN (n + 1) 0 = some 0 := by simp [ixN]
theorem ixN_1 {n : Nat} : ixN (n + 1 + 1) 1 = some 1 := by
  unfold ixN
  rw [if_pos (by decide), if_pos (by omega)]
  rfl
theorem ixN_nat {n k : Nat} (h : k < n) : ixN n (k : Int) = some k := by
  unfold ixN
  rw [if_pos (by omega), if_pos (by omega)]
  simp
theorem atI_nat' {k : Nat} (h : k < l.length) : atI l (k : Int) = l[k]? := by
  unfold atI
  rw [ixN_nat h]
  rfl
theorem ixN_int {n : Nat} (h0 : 0 ≤ i) (h : i < n) : ixN n i = some i.toNat := by
  unfold ixN
  rw [if_pos h0, if_pos h]
theorem atI_int (h0 : 0 ≤ i) (h : i < l.length) : atI l i = l[i.toNat]? := by
  unfold atI
  rw [ixN_int h0 h]
  rfl
theorem gt_ii : gtI (.int i) (.int j) = some (.bool (decide (j < i))) := rfl
theorem ge_ii : geI (.int i) (.int j) = some (.bool (decide (j ≤ i))) := rfl
theorem lt_ii : ltI (.int i) (.int j) = some (.bool (decide (i < j))) := rfl
theorem le_ii : leI (.int i) (.int j) = some (.bool (decide (i ≤ j))) := rfl
theorem add_ii : addO (.int i) (.int j) = some (.fz (.int (i + j))) := rfl
theorem add_ll : addO (.list l) (.list r) = if l.length + r.length ≤ sizeLine then some (.ow (l ++ r)) else none := rfl
theorem sub_ii : subI (.int i) (.int j) = some (.int (i - j)) := rfl
theorem mul_ii : mulI (.int i) (.int j) = if (in64 i || in64 j) = true then some (.int (i * j)) else none := rfl
theorem fdv_ii : fdvI (.int i) (.int j) = if j ≠ 0 ∧ j.natAbs < 1073741824 then some (.int (i.fdiv j)) else none := rfl
theorem mod_ii : modI (.int i) (.int j) = if j ≠ 0 then some (.int (i.fmod j)) else none := rfl
theorem neg_i : negD (.int i) = some (.int (-i)) := rfl
theorem int_i : Vp.intD (.int i) = some (.int i) := rfl
theorem abs_i : absD (.int i) = some (.int (if i < 0 then -i else i)) := rfl
theorem max2_ii : max2D [.int i, .int j] = some (.fz (.int (if j > i then j else i))) := rfl
theorem dvm_ii : dvmO [.int i, .int j] = if 0 < j ∧ j < 1073741824 then some (.fz (.tuple [.int (i / j), .int (i % j)])) else none := rfl
theorem len_l : lenD (.list l) = some (.int (l.length : Nat)) := rfl
theorem len_t : lenD (.tuple l) = some (.int (l.length : Nat)) := rfl
theorem listO_l : listO [.list l] = some (.ow l) := rfl
theorem tupO_l : tupO [.list l] = some (.fz (.tuple l)) := rfl
theorem ints_map {ns : List Int} : intsOf (ns.map .int) = some ns := intsOf_map ns
theorem intsD_map {ns : List Int} : intsD (.list (ns.map .int)) = some ns := intsOf_map ns
theorem lenSet_l {ns : List Int} (h : ns.length ≤ 4000) : lenSetD (.list (ns.map .int)) = some (.int ((dd ns).length : Nat)) := by
  unfold lenSetD
  rw [intsD_map]
  simp [h]
theorem max_l {ns : List Int} {m : Int} (h : maxL ns = some m) : maxD (.list (ns.map .int)) = some (.int m) := by
  unfold maxD
  rw [intsD_map]
  simp [h]
theorem sorted_l {ns : List Int} : sortedO [.list (ns.map .int)] = some (.ow ((sortI ns).map .int)) := by
  show (intsD (.list (ns.map .int))).map _ = _
  rw [intsD_map]
  rfl
theorem sl_list {lo hi : Option Int} : slD (.list l) lo hi = some (.ow (cutD l lo hi)) := rfl
end
end Ev
end
section
set_option Elab.async false
set_option linter.all false
set_option maxRecDepth 100000
set_option maxHeartbeats 4000000
namespace K30
open PySem PySem.Spec PyProof.Rows L2 Vi Vf Vo Vp Vs Vt Vu Vv Vg Vw Vx Vy Va Vb Vc Ev
def topS (i : Nat) : Stmt := PySem.Challenge.pw_webnames_k30_any_value_as_colouring.main.body.getD i (.Pass ⟨0, 0, 0, 0⟩)
structure Bl (mg : Str → Option Value) : Prop where
  len : mg "len" = none
  set : mg "set" = none
  list : mg "list" = none
  tuple : mg "tuple" = none
  zip : mg "zip" = none
  range : mg "range" = none
  enumerate : mg "enumerate" = none
  sorted : mg "sorted" = none
  max : mg "max" = none
  abs : mg "abs" = none
  int : mg "int" = none
  bool : mg "bool" = none
  repr : mg "repr" = none
  isinstance : mg "isinstance" = none
  divmod : mg "divmod" = none
  all : mg "all" = none
def blkB (N : List Str) (sc scope : Scope) (own : List (Str × Nat)) : Bool := decide (scope.kind = .function) && (scope.names.all fun y => decide (scope.names.lookup y.1 = some y.2)) && (own.all fun p => decide (N[p.2]? = some p.1)) &&
  (scope.names.all fun y => !decide (y.2 = .free) || (decide (sc.names.lookup y.1 = some .cell) || decide (sc.names.lookup y.1 = some .free))) && (scope.names.all fun y => !(decide (y.2 = .local) || decide (y.2 = .cell)) || (decide (y.1 ∈ own.map (·.1)) || !decide (y.1 ∈ N)))
theorem blk_of {N : List Str} {sc scope : Scope} {own : List (Str × Nat)} (h : blkB N sc scope own = true) : BlkOk N sc scope own := by
  unfold blkB at h
  simp only [Bool.and_eq_true, List.all_eq_true, decide_eq_true_eq, Bool.or_eq_true, Bool.not_eq_true', decide_eq_false_iff_not, Bool.or_eq_false_iff] at h
  obtain ⟨⟨⟨⟨h1, h2⟩, h3⟩, h4⟩, h5⟩ := h
  refine ⟨h1, h2, h3, fun y hy e => (h4 y hy).resolve_left fun z => z e, fun y hy e => ?_⟩
  rcases h5 y hy with z | z
  · exact e.elim (fun w => absurd w z.1) fun w => absurd w z.2
  · exact z
def gscB (scope : Scope) : Bool := decide (scope.kind = .function) && !scope.isCoroutine && (scope.names.all fun y => !decide (y.2 = .cell)) && decide (scope.names.lookup (".0" : Str) = some NameKind.local) && (scope.names.all fun y => !decide (y.2 = .free))
theorem gsc_of {X : Cx} {scope : Scope} (h : gscB scope = true) : GSc X scope := by
  unfold gscB at h
  simp only [Bool.and_eq_true, List.all_eq_true, decide_eq_true_eq, Bool.not_eq_true', decide_eq_false_iff_not] at h
  obtain ⟨⟨⟨⟨h1, h2⟩, h3⟩, h4⟩, h5⟩ := h
  exact ⟨h1, h2, h3, h4, fun y hy e => absurd e (h5 y hy)⟩
abbrev s_is_integer : Stmt := topS 1
theorem sc_is_integer : FnScope ["value"] ["value"] (defScope s_is_integer) := ⟨rfl, rfl, rfl, by decide +kernel, rfl, by decide +kernel, by decide +kernel⟩
def m_is_integer : Δ → Option Out :=
  (mSeq (mRet (eP (eAndV (eIsi "int" (eVar 0)) (eNotV (eIsi "bool" (eVar 0))))))
  mPass)
def f_is_integer : List O → Option (O × Δ) := runM 1 1 m_is_integer
theorem ok_is_integer {Pg : Program} {w : World} {K : Lay} {mg : Str → Option Value} {base : Heap} {fd : FuncData} (B : Bl mg)  (Fd : FunD K.K "is_integer" "is_integer" (defArgs s_is_integer) (defBody s_is_integer) (defScope s_is_integer) [] [] (He.fAd K.K ("is_integer", none)) fd) (hm : mg "is_integer" = some (.ref (He.fAd K.K ("is_integer", none)))) : DefS Pg w K mg base 1 "is_integer" s_is_integer ["value"] f_is_integer :=
  def_v (k := 0) Fd hm sc_is_integer (by decide) (fun _ _ _ _ _ _ us hl => match us, hl with | [_], _ => rfl) fun cdv Bk es s H E lk Z => by
    exact (bs_cons (b_ret (EX.of (d_and (d_isi (T := "int") Z (x_var 0) B.isinstance B.int) (d_one (d_not (d_isi (T := "bool") Z (x_var 0) B.isinstance B.bool))))))
  bs_nil)
abbrev s_is_count : Stmt := topS 2
theorem sc_is_count : FnScope ["value"] ["value"] (defScope s_is_count) := ⟨rfl, rfl, rfl, by decide +kernel, rfl, by decide +kernel, by decide +kernel⟩
def m_is_count : Δ → Option Out :=
  (mSeq (mRet (eP (eAndV (eF (eFn f_is_integer (aCons (eP (eF (eVar 0))) aNil))) (eOp geI (eVar 0) (eP (eC (.int 0)))))))
  mPass)
def f_is_count : List O → Option (O × Δ) := runM 1 1 m_is_count
theorem ok_is_count {Pg : Program} {w : World} {K : Lay} {mg : Str → Option Value} {base : Heap} {fd : FuncData} (B : Bl mg) (G_is_integer : DefS Pg w K mg base 1 "is_integer" s_is_integer ["value"] f_is_integer) (Fd : FunD K.K "is_count" "is_count" (defArgs s_is_count) (defBody s_is_count) (defScope s_is_count) [] [] (He.fAd K.K ("is_count", none)) fd) (hm : mg "is_count" = some (.ref (He.fAd K.K ("is_count", none)))) : DefS Pg w K mg base 2 "is_count" s_is_count ["value"] f_is_count :=
  def_v (k := 1) Fd hm sc_is_count (by decide) (fun _ _ _ _ _ _ us hl => match us, hl with | [_], _ => rfl) fun cdv Bk es s H E lk Z => by
    exact (bs_cons (b_ret (EX.of (d_and (DX.of (x_fn Z G_is_integer (by decide) (as_cons (EX.of (DX.of (x_var 0))) as_nil))) (d_one (d_cmp o_geI (x_var 0) (EX.of d_int))))))
  bs_nil)
abbrev s_back : Stmt := topS 4
theorem sc_back : FnScope ["numbering", "home", "part", "place"] ["numbering"] (defScope s_back) := ⟨rfl, rfl, rfl, by decide +kernel, rfl, by decide +kernel, by decide +kernel⟩
def m_back : Δ → Option Out :=
  (mSeq (mAsg 1 (eRep (eLst (eCons (eC (.int 0)) eNil)) (eCall1 lenD (eVar 0))))
  (mSeq (mFor (eEnum (eCons (eF (eVar 0)) eNil)) (hTup 2 (hCons (hName 2) (hCons (hName 3) hNil)))
  (mSeq (mTgt (eF (eVar 2)) (hSub 1 (eF (eVar 3))))
  mPass))
  (mSeq (mRet (eVar 1))
  mPass)))
def f_back : List O → Option (O × Δ) := runM 1 4 m_back
theorem ok_back {Pg : Program} {w : World} {K : Lay} {mg : Str → Option Value} {base : Heap} {fd : FuncData} (B : Bl mg)  (Fd : FunD K.K "back" "back" (defArgs s_back) (defBody s_back) (defScope s_back) [] [] (He.fAd K.K ("back", none)) fd) (hm : mg "back" = some (.ref (He.fAd K.K ("back", none)))) : DefS Pg w K mg base 1 "back" s_back ["numbering"] f_back :=
  def_v (k := 0) Fd hm sc_back (by decide) (fun _ _ _ _ _ _ us hl => match us, hl with | [_], _ => rfl) fun cdv Bk es s H E lk Z => by
    exact (bs_cons (b_asg 1 sc_back.nd (x_rep (x_lst (a_cons d_int a_nil)) (d_len Z (x_var 0) B.len)))
  (bs_cons (b_for Z PassesOwn.never (i_enum Z (a_cons (DX.of (x_var 0)) a_nil) B.enumerate) (g_tup Z (gs_cons (g_name 2 sc_back.nd) (gs_cons (g_name 3 sc_back.nd) gs_nil)))
  (bs_cons (b_mtgt (DX.of (x_var 2)) (m_sub 1 (DX.of (x_var 3))))
  bs_nil))
  (bs_cons (b_ret (x_var 1))
  bs_nil)))
abbrev s_is_colouring : Stmt := topS 6
theorem sc_is_colouring : FnScope ["many", "value"] ["many", "value"] (defScope s_is_colouring) := ⟨rfl, rfl, rfl, by decide +kernel, rfl, by decide +kernel, by decide +kernel⟩
def m_is_colouring : Δ → Option Out :=
  (mSeq (mIf (eOr (eNot (eT (eIsi "list" (eVar 1)))) (eOr (eT (eOp neX (eP (eCall1 lenD (eVar 1))) (eVar 0))) (eNot (eT (eWalk false 1 [] (eSeq (eF (eVar 1))) (hName 0) (eF (eFn f_is_count (aCons (eP (eF (eVar 0))) aNil))))))))
  (mSeq (mRet (eP (eC (.bool false))))
  mPass)
  mPass)
  (mSeq (mRet (eP (eOrV (eOp eqX (eVar 0) (eP (eC (.int 0)))) (eOp eqX (eP (eCall1 lenSetD (eVar 1))) (eOpF addO (eCall1 maxD (eVar 1)) (eC (.int 1)))))))
  mPass))
def f_is_colouring : List O → Option (O × Δ) := runM 2 2 m_is_colouring
theorem ok_is_colouring {Pg : Program} {w : World} {K : Lay} {mg : Str → Option Value} {base : Heap} {fd : FuncData} (B : Bl mg) (G_is_count : DefS Pg w K mg base 2 "is_count" s_is_count ["value"] f_is_count) (hTB : GxR.TabB base mg (He.cT K.K ("is_colouring", none)).1 (He.cT K.K ("is_colouring", none)).2) (hT : (He.cT K.K ("is_colouring", none)).2 ∈ K.T) (Fd : FunD K.K "is_colouring" "is_colouring" (defArgs s_is_colouring) (defBody s_is_colouring) (defScope s_is_colouring) [] [] (He.fAd K.K ("is_colouring", none)) fd) (hm : mg "is_colouring" = some (.ref (He.fAd K.K ("is_colouring", none)))) : DefS Pg w K mg base 4 "is_colouring" s_is_colouring ["many", "value"] f_is_colouring :=
  def_v (k := 3) Fd hm sc_is_colouring (by decide) (fun _ _ _ _ _ _ us hl => match us, hl with | [_, _], _ => rfl) fun cdv Bk es s H E lk Z => by
    obtain ⟨oc, od, kV, doc, pm, an, ct, osl, lk, hcd⟩ := lk
    obtain ⟨c, rfl⟩ := He.codeIn_ref hcd
    have hcode : (envOfC "is_colouring" (defScope s_is_colouring) s.heap.objs.size (He.fAd K.K ("is_colouring", none)) (.ref c)).code = .ref (He.cT K.K ("is_colouring", none)).1 := congrArg Value.ref (He.codeOf_eq lk rfl).symm
    exact (bs_cons (b_if (t_w (w_or (t_not (t_of (d_isi (T := "list") Z (x_var 1) B.isinstance B.list))) (w_or (t_cmp (o_neX Z) (EX.of (d_len Z (x_var 1) B.len)) (x_var 0)) (w_or1 (t_not (t_of (d_allG Z ["colour"] [] [] hT B.all hTB hcode (gsc_of (by kernel_rfl)) (i_list Z (DX.of (x_var 1))) (fun _ => (g_name 0 (by decide +kernel : (["colour"] : List Str).Nodup))) (fun _ => (DX.of (x_fn (fits_g Z) G_is_count (by decide) (as_cons (EX.of (DX.of (x_var 0))) as_nil)))))))))))
  (bs_cons (b_ret (EX.of d_bl))
  bs_nil)
  bs_nil)
  (bs_cons (b_ret (EX.of (d_or (d_cmp (o_eqX Z) (x_var 0) (EX.of d_int)) (d_one (d_cmp (o_eqX Z) (EX.of (d_lenSet Z (x_var 1) B.len B.set)) (x_bin (o_add Z) (d_max Z (x_var 1) B.max) d_int))))))
  bs_nil))
abbrev s_cells_of : Stmt := topS 7
theorem sc_cells_of : FnScope ["colouring", "cells", "colour", "part"] ["colouring"] (defScope s_cells_of) := ⟨rfl, rfl, rfl, by decide +kernel, rfl, by decide +kernel, by decide +kernel⟩
def m_cells_of : Δ → Option Out :=
  (mSeq (mAsg 1 (eLcE [2] (eSeq (eF (eSortSet (eVar 0)))) (hName 2)))
  (mSeq (mFor (eEnum (eCons (eF (eVar 0)) eNil)) (hTup 2 (hCons (hName 3) (hCons (hName 2) hNil)))
  (mSeq (mDrop (eP (eSubApp 1 (eF (eVar 2)) (eF (eVar 3)))))
  mPass))
  (mSeq (mRet (eVar 1))
  mPass)))
def f_cells_of : List O → Option (O × Δ) := runM 1 4 m_cells_of
theorem ok_cells_of {Pg : Program} {w : World} {K : Lay} {mg : Str → Option Value} {base : Heap} {fd : FuncData} (B : Bl mg)  (Fd : FunD K.K "cells_of" "cells_of" (defArgs s_cells_of) (defBody s_cells_of) (defScope s_cells_of) [] [] (He.fAd K.K ("cells_of", none)) fd) (hm : mg "cells_of" = some (.ref (He.fAd K.K ("cells_of", none)))) : DefS Pg w K mg base 1 "cells_of" s_cells_of ["colouring"] f_cells_of :=
  def_v (k := 0) Fd hm sc_cells_of (by decide) (fun _ _ _ _ _ _ us hl => match us, hl with | [_], _ => rfl) fun cdv Bk es s H E lk Z => by
    exact (bs_cons (by first | exact b_setLcE Z sc_cells_of.nd 1 [("colour", 2)] (blk_of (by kernel_rfl)) (i_list Z (DX.of (x_sortSet Z (x_var 0) B.sorted B.set))) (fun _ => (g_name 2 sc_cells_of.nd)) | exact b_asg 1 sc_cells_of.nd (x_lcE Z sc_cells_of.nd [("colour", 2)] (blk_of (by kernel_rfl)) (i_list Z (DX.of (x_sortSet Z (x_var 0) B.sorted B.set))) (fun _ => (g_name 2 sc_cells_of.nd))))
  (bs_cons (b_for Z PassesOwn.never (i_enum Z (a_cons (DX.of (x_var 0)) a_nil) B.enumerate) (g_tup Z (gs_cons (g_name 3 sc_cells_of.nd) (gs_cons (g_name 2 sc_cells_of.nd) gs_nil)))
  (bs_cons (b_expr (EX.of (x_subApp Z 1 (q_var 2) (q_var 3))))
  bs_nil))
  (bs_cons (b_ret (x_var 1))
  bs_nil)))
abbrev s_trace_of : Stmt := topS 8
theorem sc_trace_of : FnScope ["colouring", "cell"] ["colouring"] (defScope s_trace_of) := ⟨rfl, rfl, rfl, by decide +kernel, rfl, by decide +kernel, by decide +kernel⟩
def m_trace_of : Δ → Option Out :=
  (mSeq (mRet (eLc [1] (eSeq (eF (eFn f_cells_of (aCons (eP (eF (eVar 0))) aNil)))) (hName 1) eYesT (eCall1 lenD (eVar 1))))
  mPass)
def f_trace_of : List O → Option (O × Δ) := runM 1 2 m_trace_of
theorem ok_trace_of {Pg : Program} {w : World} {K : Lay} {mg : Str → Option Value} {base : Heap} {fd : FuncData} (B : Bl mg) (G_cells_of : DefS Pg w K mg base 1 "cells_of" s_cells_of ["colouring"] f_cells_of) (Fd : FunD K.K "trace_of" "trace_of" (defArgs s_trace_of) (defBody s_trace_of) (defScope s_trace_of) [] [] (He.fAd K.K ("trace_of", none)) fd) (hm : mg "trace_of" = some (.ref (He.fAd K.K ("trace_of", none)))) : DefS Pg w K mg base 2 "trace_of" s_trace_of ["colouring"] f_trace_of :=
  def_v (k := 1) Fd hm sc_trace_of (by decide) (fun _ _ _ _ _ _ us hl => match us, hl with | [_], _ => rfl) fun cdv Bk es s H E lk Z => by
    exact (bs_cons (b_ret (x_lc Z sc_trace_of.nd [("cell", 1)] (blk_of (by kernel_rfl)) (i_list Z (DX.of (x_fn Z G_cells_of (by decide) (as_cons (EX.of (DX.of (x_var 0))) as_nil)))) (fun _ => (g_name 1 sc_trace_of.nd)) (fun _ => c_nil) (fun _ => (d_len (fits_b Z) (x_var 1) B.len))))
  bs_nil)
abbrev s_is_discrete : Stmt := topS 9
theorem sc_is_discrete : FnScope ["colouring"] ["colouring"] (defScope s_is_discrete) := ⟨rfl, rfl, rfl, by decide +kernel, rfl, by decide +kernel, by decide +kernel⟩
def m_is_discrete : Δ → Option Out :=
  (mSeq (mRet (eP (eOp eqX (eP (eCall1 lenSetD (eVar 0))) (eP (eCall1 lenD (eVar 0))))))
  mPass)
def f_is_discrete : List O → Option (O × Δ) := runM 1 1 m_is_discrete
theorem ok_is_discrete {Pg : Program} {w : World} {K : Lay} {mg : Str → Option Value} {base : Heap} {fd : FuncData} (B : Bl mg)  (Fd : FunD K.K "is_discrete" "is_discrete" (defArgs s_is_discrete) (defBody s_is_discrete) (defScope s_is_discrete) [] [] (He.fAd K.K ("is_discrete", none)) fd) (hm : mg "is_discrete" = some (.ref (He.fAd K.K ("is_discrete", none)))) : DefS Pg w K mg base 1 "is_discrete" s_is_discrete ["colouring"] f_is_discrete :=
  def_v (k := 0) Fd hm sc_is_discrete (by decide) (fun _ _ _ _ _ _ us hl => match us, hl with | [_], _ => rfl) fun cdv Bk es s H E lk Z => by
    exact (bs_cons (b_ret (EX.of (d_cmp (o_eqX Z) (EX.of (d_lenSet Z (x_var 0) B.len B.set)) (EX.of (d_len Z (x_var 0) B.len)))))
  bs_nil)
abbrev s_is_finer : Stmt := topS 10
theorem sc_is_finer : FnScope ["colouring", "other"] ["colouring", "other"] (defScope s_is_finer) := ⟨rfl, rfl, rfl, by decide +kernel, rfl, by decide +kernel, by decide +kernel⟩
def m_is_finer : Δ → Option Out :=
  (mSeq (mRet (eP (eOp eqX (eP (eOp lszD (eVar 0) (eVar 1))) (eP (eCall1 lenSetD (eVar 0))))))
  mPass)
def f_is_finer : List O → Option (O × Δ) := runM 2 2 m_is_finer
theorem ok_is_finer {Pg : Program} {w : World} {K : Lay} {mg : Str → Option Value} {base : Heap} {fd : FuncData} (B : Bl mg)  (Fd : FunD K.K "is_finer" "is_finer" (defArgs s_is_finer) (defBody s_is_finer) (defScope s_is_finer) [] [] (He.fAd K.K ("is_finer", none)) fd) (hm : mg "is_finer" = some (.ref (He.fAd K.K ("is_finer", none)))) : DefS Pg w K mg base 1 "is_finer" s_is_finer ["colouring", "other"] f_is_finer :=
  def_v (k := 0) Fd hm sc_is_finer (by decide) (fun _ _ _ _ _ _ us hl => match us, hl with | [_, _], _ => rfl) fun cdv Bk es s H E lk Z => by
    exact (bs_cons (b_ret (EX.of (d_cmp (o_eqX Z) (EX.of (d_LSZ Z B.len B.set B.list B.zip (x_var 0) (x_var 1))) (EX.of (d_lenSet Z (x_var 0) B.len B.set)))))
  bs_nil)
abbrev s_keeps_sequence : Stmt := topS 11
theorem sc_keeps_sequence : FnScope ["colouring", "other", "a", "b"] ["colouring", "other"] (defScope s_keeps_sequence) := ⟨rfl, rfl, rfl, by decide +kernel, rfl, by decide +kernel, by decide +kernel⟩
def m_keeps_sequence : Δ → Option Out :=
  (mSeq (mFor (eRng1 (eCons (eCall1 lenD (eVar 1)) eNil)) (hName 2)
  (mSeq (mFor (eRng1 (eCons (eCall1 lenD (eVar 1)) eNil)) (hName 3)
  (mSeq (mIf (eAnd (eT (eOp ltI (eP (eIx (eVar 1) (eF (eVar 2)))) (eP (eIx (eVar 1) (eF (eVar 3)))))) (eT (eOp geI (eP (eIx (eVar 0) (eF (eVar 2)))) (eP (eIx (eVar 0) (eF (eVar 3)))))))
  (mSeq (mRet (eP (eC (.bool false))))
  mPass)
  mPass)
  mPass))
  mPass))
  (mSeq (mRet (eP (eC (.bool true))))
  mPass))
def f_keeps_sequence : List O → Option (O × Δ) := runM 2 4 m_keeps_sequence
theorem ok_keeps_sequence {Pg : Program} {w : World} {K : Lay} {mg : Str → Option Value} {base : Heap} {fd : FuncData} (B : Bl mg)  (Fd : FunD K.K "keeps_sequence" "keeps_sequence" (defArgs s_keeps_sequence) (defBody s_keeps_sequence) (defScope s_keeps_sequence) [] [] (He.fAd K.K ("keeps_sequence", none)) fd) (hm : mg "keeps_sequence" = some (.ref (He.fAd K.K ("keeps_sequence", none)))) : DefS Pg w K mg base 1 "keeps_sequence" s_keeps_sequence ["colouring", "other"] f_keeps_sequence :=
  def_v (k := 0) Fd hm sc_keeps_sequence (by decide) (fun _ _ _ _ _ _ us hl => match us, hl with | [_, _], _ => rfl) fun cdv Bk es s H E lk Z => by
    exact (bs_cons (b_for Z PassesOwn.never (i_rng1 (a_cons (d_len Z (x_var 1) B.len) a_nil) B.range) (g_name 2 sc_keeps_sequence.nd)
  (bs_cons (b_for Z PassesOwn.never (i_rng1 (a_cons (d_len Z (x_var 1) B.len) a_nil) B.range) (g_name 3 sc_keeps_sequence.nd)
  (bs_cons (b_if (t_w (w_and (t_cmp o_ltI (EX.of (d_ix Z (x_var 1) (DX.of (x_var 2)))) (EX.of (d_ix Z (x_var 1) (DX.of (x_var 3))))) (w_and1 (t_cmp o_geI (EX.of (d_ix Z (x_var 0) (DX.of (x_var 2)))) (EX.of (d_ix Z (x_var 0) (DX.of (x_var 3))))))))
  (bs_cons (b_ret (EX.of d_bl))
  bs_nil)
  bs_nil)
  bs_nil))
  bs_nil))
  (bs_cons (b_ret (EX.of d_bl))
  bs_nil))
abbrev s_colouring_led : Stmt := topS 12
theorem sc_colouring_led : FnScope ["colouring", "numbering", "part"] ["colouring", "numbering"] (defScope s_colouring_led) := ⟨rfl, rfl, rfl, by decide +kernel, rfl, by decide +kernel, by decide +kernel⟩
def m_colouring_led : Δ → Option Out :=
  (mSeq (mRet (eLc [2] (eSeq (eF (eFn f_back (aCons (eP (eF (eVar 1))) aNil)))) (hName 2) eYesT (eIx (eVar 0) (eF (eVar 2)))))
  mPass)
def f_colouring_led : List O → Option (O × Δ) := runM 2 3 m_colouring_led
theorem ok_colouring_led {Pg : Program} {w : World} {K : Lay} {mg : Str → Option Value} {base : Heap} {fd : FuncData} (B : Bl mg) (G_back : DefS Pg w K mg base 1 "back" s_back ["numbering"] f_back) (Fd : FunD K.K "colouring_led" "colouring_led" (defArgs s_colouring_led) (defBody s_colouring_led) (defScope s_colouring_led) [] [] (He.fAd K.K ("colouring_led", none)) fd) (hm : mg "colouring_led" = some (.ref (He.fAd K.K ("colouring_led", none)))) : DefS Pg w K mg base 2 "colouring_led" s_colouring_led ["colouring", "numbering"] f_colouring_led :=
  def_v (k := 1) Fd hm sc_colouring_led (by decide) (fun _ _ _ _ _ _ us hl => match us, hl with | [_, _], _ => rfl) fun cdv Bk es s H E lk Z => by
    exact (bs_cons (b_ret (x_lc Z sc_colouring_led.nd [("part", 2)] (blk_of (by kernel_rfl)) (i_list Z (DX.of (x_fn Z G_back (by decide) (as_cons (EX.of (DX.of (x_var 1))) as_nil)))) (fun _ => (g_name 2 sc_colouring_led.nd)) (fun _ => c_nil) (fun _ => (d_ix (fits_b Z) (x_var 0) (DX.of (x_var 2))))))
  bs_nil)
abbrev s__law_pot : Stmt := topS 14
theorem sc__law_pot : FnScope ["_law_script", "_law_k", "_law_cell", "_law_start"] ["_law_script", "_law_k"] (defScope s__law_pot) := ⟨rfl, rfl, rfl, by decide +kernel, rfl, by decide +kernel, by decide +kernel⟩
def m__law_pot : Δ → Option Out :=
  (mSeq (mAsg 2 (eOpF addO (eOp mulI (eP (eC (.int 613))) (eVar 1)) (eC (.int 41))))
  (mSeq (mIf (eT (eOp ltI (eVar 1) (eP (eCall1 lenD (eVar 0)))))
  (mSeq (mAsg 2 (eP (eCall1 absD (eP (eIx (eVar 0) (eF (eVar 1)))))))
  mPass)
  mPass)
  (mSeq (mAsg 3 (eOpF addO (eOp modI (eP (eCall1 intD (eOpF addO (eF (eOpF addO (eOp mulI (eP (eOp modI (eP (eCall1 intD (eVar 2))) (eP (eC (.int 2147483549))))) (eP (eC (.int 40014)))) (eOp mulI (eP (eC (.int 9221))) (eVar 1)))) (eC (.int 53))))) (eP (eC (.int 2147483563)))) (eC (.int 1))))
  (mSeq (mRet (eLst (eCons (eF (eCall max2D (eCons (eC (.int 0)) (eCons (eOp subI (eVar 2) (eP (eOp powI (eP (eC (.int 10))) (eP (eC (.int 18)))))) eNil)))) (eCons (eF (eVar 3)) eNil))))
  mPass))))
def f__law_pot : List O → Option (O × Δ) := runM 2 4 m__law_pot
theorem ok__law_pot {Pg : Program} {w : World} {K : Lay} {mg : Str → Option Value} {base : Heap} {fd : FuncData} (B : Bl mg)  (Fd : FunD K.K "_law_pot" "_law_pot" (defArgs s__law_pot) (defBody s__law_pot) (defScope s__law_pot) [] [] (He.fAd K.K ("_law_pot", none)) fd) (hm : mg "_law_pot" = some (.ref (He.fAd K.K ("_law_pot", none)))) : DefS Pg w K mg base 1 "_law_pot" s__law_pot ["_law_script", "_law_k"] f__law_pot :=
  def_v (k := 0) Fd hm sc__law_pot (by decide) (fun _ _ _ _ _ _ us hl => match us, hl with | [_, _], _ => rfl) fun cdv Bk es s H E lk Z => by
    exact (bs_cons (b_asg 2 sc__law_pot.nd (x_bin (o_add Z) (d_bin o_mulI (EX.of d_int) (x_var 1)) d_int))
  (bs_cons (b_if (t_cmp o_ltI (x_var 1) (EX.of (d_len Z (x_var 0) B.len)))
  (bs_cons (b_asg 2 sc__law_pot.nd (EX.of (d_abs (EX.of (d_ix Z (x_var 0) (DX.of (x_var 1)))) B.abs)))
  bs_nil)
  bs_nil)
  (bs_cons (b_asg 3 sc__law_pot.nd (x_bin (o_add Z) (d_bin o_modI (EX.of (d_intc (x_bin (o_add Z) (DX.of (x_bin (o_add Z) (d_bin o_mulI (EX.of (d_bin o_modI (EX.of (d_intc (x_var 2) B.int)) (EX.of d_int))) (EX.of d_int)) (d_bin o_mulI (EX.of d_int) (x_var 1)))) d_int) B.int)) (EX.of d_int)) d_int))
  (bs_cons (b_ret (x_lst (a_cons (DX.of (x_max2 Z (a_cons d_int (a_cons (d_bin o_subI (x_var 2) (EX.of (d_bin o_powI (EX.of d_int) (EX.of d_int)))) a_nil)) B.max)) (a_cons (DX.of (x_var 3)) a_nil))))
  bs_nil))))
abbrev s__law_draw : Stmt := topS 15
theorem sc__law_draw : FnScope ["_law_pot_here", "_law_sides", "_law_digit"] ["_law_pot_here", "_law_sides"] (defScope s__law_draw) := ⟨rfl, rfl, rfl, by decide +kernel, rfl, by decide +kernel, by decide +kernel⟩
def m__law_draw : Δ → Option Out :=
  (mSeq (mIf (eT (eOp gtI (eP (eIx (eVar 0) (eC (.int 0)))) (eP (eC (.int 0)))))
  (mSeq (mTgt (eF (eCall dvmO (eCons (eIx (eVar 0) (eC (.int 0))) (eCons (eF (eVar 1)) eNil)))) (hTup 2 (hCons (hSub 0 (eC (.int 0))) (hCons (hName 2) hNil))))
  (mSeq (mRet (eVar 2))
  mPass))
  mPass)
  (mSeq (mTgt (eOp modI (eP (eCall1 intD (eOpF addO (eOp mulI (eP (eIx (eVar 0) (eC (.int 1)))) (eP (eC (.int 39373)))) (eC (.int 9221))))) (eP (eC (.int 2147483587)))) (hSub 0 (eC (.int 1))))
  (mSeq (mRet (eP (eOp modI (eP (eCall1 intD (eP (eOp fdvI (eP (eOp modI (eP (eCall1 intD (eP (eOp mulI (eP (eIx (eVar 0) (eC (.int 1)))) (eP (eIx (eVar 0) (eC (.int 1)))))))) (eP (eC (.int 2147483563))))) (eP (eC (.int 17))))))) (eVar 1))))
  mPass)))
def f__law_draw : List O → Option (O × Δ) := runM 2 3 m__law_draw
theorem ok__law_draw {Pg : Program} {w : World} {K : Lay} {mg : Str → Option Value} {base : Heap} {fd : FuncData} (B : Bl mg)  (Fd : FunD K.K "_law_draw" "_law_draw" (defArgs s__law_draw) (defBody s__law_draw) (defScope s__law_draw) [] [] (He.fAd K.K ("_law_draw", none)) fd) (hm : mg "_law_draw" = some (.ref (He.fAd K.K ("_law_draw", none)))) : DefS Pg w K mg base 1 "_law_draw" s__law_draw ["_law_pot_here", "_law_sides"] f__law_draw :=
  def_v (k := 0) Fd hm sc__law_draw (by decide) (fun _ _ _ _ _ _ us hl => match us, hl with | [_, _], _ => rfl) fun cdv Bk es s H E lk Z => by
    exact (bs_cons (b_if (t_cmp o_gtI (EX.of (d_ix Z (x_var 0) d_int)) (EX.of d_int))
  (bs_cons (b_mtgt (DX.of (x_dvm (a_cons (d_ix Z (x_var 0) d_int) (a_cons (DX.of (x_var 1)) a_nil)) B.divmod)) (m_tup Z (ms_cons (m_sub 0 d_int) (ms_cons (m_of (g_name 2 sc__law_draw.nd)) ms_nil))))
  (bs_cons (b_ret (x_var 2))
  bs_nil))
  bs_nil)
  (bs_cons (b_mtgt (d_bin o_modI (EX.of (d_intc (x_bin (o_add Z) (d_bin o_mulI (EX.of (d_ix Z (x_var 0) d_int)) (EX.of d_int)) d_int) B.int)) (EX.of d_int)) (m_sub 0 d_int))
  (bs_cons (b_ret (EX.of (d_bin o_modI (EX.of (d_intc (EX.of (d_bin o_fdvI (EX.of (d_bin o_modI (EX.of (d_intc (EX.of (d_bin o_mulI (EX.of (d_ix Z (x_var 0) d_int)) (EX.of (d_ix Z (x_var 0) d_int)))) B.int)) (EX.of d_int))) (EX.of d_int))) B.int)) (x_var 1))))
  bs_nil)))
abbrev s__law_row : Stmt := topS 16
theorem sc__law_row : FnScope ["_law_pot_here", "_law_size", "_law_left", "_law_row_here", "_law_turn"] ["_law_pot_here", "_law_size"] (defScope s__law_row) := ⟨rfl, rfl, rfl, by decide +kernel, rfl, by decide +kernel, by decide +kernel⟩
def m__law_row : Δ → Option Out :=
  (mSeq (mTup [2, 3] (aCons (eListR1 (eF (eVar 1))) (aCons (eLst eNil) aNil)))
  (mSeq (mFor (eRng1 (eCons (eF (eVar 1)) eNil)) (hName 4)
  (mSeq (mDrop (eP (eMeth 3 mApp (eCons (eMeth 2 mPopI (eCons (eF (eFn f__law_draw (aCons (eVar 0) (aCons (eP (eCall1 lenD (eVar 2))) aNil)))) eNil)) eNil))))
  mPass))
  (mSeq (mRet (eVar 3))
  mPass)))
def f__law_row : List O → Option (O × Δ) := runM 2 5 m__law_row
theorem ok__law_row {Pg : Program} {w : World} {K : Lay} {mg : Str → Option Value} {base : Heap} {fd : FuncData} (B : Bl mg) (G__law_draw : DefS Pg w K mg base 1 "_law_draw" s__law_draw ["_law_pot_here", "_law_sides"] f__law_draw) (Fd : FunD K.K "_law_row" "_law_row" (defArgs s__law_row) (defBody s__law_row) (defScope s__law_row) [] [] (He.fAd K.K ("_law_row", none)) fd) (hm : mg "_law_row" = some (.ref (He.fAd K.K ("_law_row", none)))) : DefS Pg w K mg base 2 "_law_row" s__law_row ["_law_pot_here", "_law_size"] f__law_row :=
  def_v (k := 1) Fd hm sc__law_row (by decide) (fun _ _ _ _ _ _ us hl => match us, hl with | [_, _], _ => rfl) fun cdv Bk es s H E lk Z => by
    exact (bs_cons (by first | exact b_tup Z [2, 3] (as_cons (x_listR1 Z (DX.of (x_var 1)) B.list B.range) (as_cons (x_lst a_nil) as_nil)) (n_cons 2 sc__law_row.nd (n_cons 3 sc__law_row.nd n_nil)) | exact b_par Z 2 3 sc__law_row.nd (as_cons (x_listR1 Z (DX.of (x_var 1)) B.list B.range) (as_cons (x_lst a_nil) as_nil)))
  (bs_cons (b_for Z PassesOwn.never (i_rng1 (a_cons (DX.of (x_var 1)) a_nil) B.range) (g_name 4 sc__law_row.nd)
  (bs_cons (b_expr (EX.of (x_meth Z 3 PySem.F.slot_list_append PySem.F.type_list_append mt_append mu_app (a_cons (x_meth Z 2 PySem.F.slot_list_pop PySem.F.type_list_pop mt_popAt mu_popI (a_cons (DX.of (x_fn Z G__law_draw (by decide) (as_cons (x_var 0) (as_cons (EX.of (d_len Z (x_var 2) B.len)) as_nil)))) a_nil)) a_nil))))
  bs_nil))
  (bs_cons (b_ret (x_var 3))
  bs_nil)))
abbrev s__law_ranked : Stmt := topS 17
theorem sc__law_ranked : FnScope ["_law_keys", "_law_unlike", "_law_key"] ["_law_keys"] (defScope s__law_ranked) := ⟨rfl, rfl, rfl, by decide +kernel, rfl, by decide +kernel, by decide +kernel⟩
def m__law_ranked : Δ → Option Out :=
  (mSeq (mAsg 1 (eLst eNil))
  (mSeq (mFor (eSeq (eF (eCall sortedO (eCons (eF (eVar 0)) eNil)))) (hName 2)
  (mSeq (mIf (eOr (eT (eOp eqX (eVar 1) (eLst eNil))) (eT (eOp neX (eP (eIx (eVar 1) (eUn negD (eC (.int 1))))) (eVar 2))))
  (mSeq (mDrop (eP (eMeth 1 mApp (eCons (eF (eVar 2)) eNil))))
  mPass)
  mPass)
  mPass))
  (mSeq (mRet (eLc [2] (eSeq (eF (eVar 0))) (hName 2) eYesT (eIdx (eVar 1) (eVar 2))))
  mPass)))
def f__law_ranked : List O → Option (O × Δ) := runM 1 3 m__law_ranked
theorem ok__law_ranked {Pg : Program} {w : World} {K : Lay} {mg : Str → Option Value} {base : Heap} {fd : FuncData} (B : Bl mg)  (Fd : FunD K.K "_law_ranked" "_law_ranked" (defArgs s__law_ranked) (defBody s__law_ranked) (defScope s__law_ranked) [] [] (He.fAd K.K ("_law_ranked", none)) fd) (hm : mg "_law_ranked" = some (.ref (He.fAd K.K ("_law_ranked", none)))) : DefS Pg w K mg base 1 "_law_ranked" s__law_ranked ["_law_keys"] f__law_ranked :=
  def_v (k := 0) Fd hm sc__law_ranked (by decide) (fun _ _ _ _ _ _ us hl => match us, hl with | [_], _ => rfl) fun cdv Bk es s H E lk Z => by
    exact (bs_cons (b_asg 1 sc__law_ranked.nd (x_lst a_nil))
  (bs_cons (b_for Z PassesOwn.never (i_list Z (DX.of (x_sorted Z (a_cons (DX.of (x_var 0)) a_nil) B.sorted))) (g_name 2 sc__law_ranked.nd)
  (bs_cons (b_if (t_w (w_or (t_cmp (o_eqX Z) (x_var 1) (x_lst a_nil)) (w_or1 (t_cmp (o_neX Z) (EX.of (d_ix Z (x_var 1) (d_neg d_int))) (x_var 2)))))
  (bs_cons (b_expr (EX.of (x_meth Z 1 PySem.F.slot_list_append PySem.F.type_list_append mt_append mu_app (a_cons (DX.of (x_var 2)) a_nil))))
  bs_nil)
  bs_nil)
  bs_nil))
  (bs_cons (b_ret (x_lc Z sc__law_ranked.nd [("_law_key", 2)] (blk_of (by kernel_rfl)) (i_list Z (DX.of (x_var 0))) (fun _ => (g_name 2 sc__law_ranked.nd)) (fun _ => c_nil) (fun _ => (x_index (fits_b Z) (x_var 1) (x_var 2)))))
  bs_nil)))
abbrev s__law_tint : Stmt := topS 18
theorem sc__law_tint : FnScope ["_law_pot_here", "_law_size", "_law_wide", "_law_at"] ["_law_pot_here", "_law_size"] (defScope s__law_tint) := ⟨rfl, rfl, rfl, by decide +kernel, rfl, by decide +kernel, by decide +kernel⟩
def m__law_tint : Δ → Option Out :=
  (mSeq (mAsg 2 (eP (eIx (eLst (eCons (eC (.int 1)) (eCons (eC (.int 1)) (eCons (eC (.int 2)) (eCons (eC (.int 3)) (eCons (eF (eOpF addO (eF (eVar 1)) (eC (.int 1)))) eNil)))))) (eF (eFn f__law_draw (aCons (eVar 0) (aCons (eP (eC (.int 5))) aNil)))))))
  (mSeq (mRet (eFn f__law_ranked (aCons (eP (eF (eLc [3] (eRng1 (eCons (eF (eVar 1)) eNil)) (hName 3) eYesT (eF (eFn f__law_draw (aCons (eVar 0) (aCons (eP (eF (eVar 2))) aNil))))))) aNil)))
  mPass))
def f__law_tint : List O → Option (O × Δ) := runM 2 4 m__law_tint
theorem ok__law_tint {Pg : Program} {w : World} {K : Lay} {mg : Str → Option Value} {base : Heap} {fd : FuncData} (B : Bl mg) (G__law_draw : DefS Pg w K mg base 1 "_law_draw" s__law_draw ["_law_pot_here", "_law_sides"] f__law_draw) (G__law_ranked : DefS Pg w K mg base 1 "_law_ranked" s__law_ranked ["_law_keys"] f__law_ranked) (Fd : FunD K.K "_law_tint" "_law_tint" (defArgs s__law_tint) (defBody s__law_tint) (defScope s__law_tint) [] [] (He.fAd K.K ("_law_tint", none)) fd) (hm : mg "_law_tint" = some (.ref (He.fAd K.K ("_law_tint", none)))) : DefS Pg w K mg base 2 "_law_tint" s__law_tint ["_law_pot_here", "_law_size"] f__law_tint :=
  def_v (k := 1) Fd hm sc__law_tint (by decide) (fun _ _ _ _ _ _ us hl => match us, hl with | [_, _], _ => rfl) fun cdv Bk es s H E lk Z => by
    exact (bs_cons (b_asg 2 sc__law_tint.nd (EX.of (d_ix Z (x_lst (a_cons d_int (a_cons d_int (a_cons d_int (a_cons d_int (a_cons (DX.of (x_bin (o_add Z) (DX.of (x_var 1)) d_int)) a_nil)))))) (DX.of (x_fn Z G__law_draw (by decide) (as_cons (x_var 0) (as_cons (EX.of d_int) as_nil)))))))
  (bs_cons (b_ret (x_fn Z G__law_ranked (by decide) (as_cons (EX.of (DX.of (x_lc Z sc__law_tint.nd [("_law_at", 3)] (blk_of (by kernel_rfl)) (i_rng1 (a_cons (DX.of (x_var 1)) a_nil) B.range) (fun _ => (g_name 3 sc__law_tint.nd)) (fun _ => c_nil) (fun _ => (DX.of (x_fn (fits_b Z) G__law_draw (by decide) (as_cons (x_var 0) (as_cons (EX.of (DX.of (x_var 2))) as_nil)))))))) as_nil)))
  bs_nil))
abbrev s__law_cells : Stmt := topS 19
theorem sc__law_cells : FnScope ["_law_tint_here", "_law_found", "_law_colour", "_law_cell", "_law_at", "_law_one"] ["_law_tint_here"] (defScope s__law_cells) := ⟨rfl, rfl, rfl, by decide +kernel, rfl, by decide +kernel, by decide +kernel⟩
def m__law_cells : Δ → Option Out :=
  (mSeq (mAsg 1 (eLst eNil))
  (mSeq (mFor (eRng1 (eCons (eCall1 lenD (eVar 0)) eNil)) (hName 2)
  (mSeq (mAsg 3 (eLc [4, 5] (eEnum (eCons (eF (eVar 0)) eNil)) (hTup 2 (hCons (hName 4) (hCons (hName 5) hNil))) (eT (eOp eqX (eVar 5) (eVar 2))) (eF (eVar 4))))
  (mSeq (mIf (eT (eOp neX (eVar 3) (eLst eNil)))
  (mSeq (mDrop (eP (eMeth 1 mApp (eCons (eF (eVar 3)) eNil))))
  mPass)
  mPass)
  mPass)))
  (mSeq (mRet (eVar 1))
  mPass)))
def f__law_cells : List O → Option (O × Δ) := runM 1 6 m__law_cells
theorem ok__law_cells {Pg : Program} {w : World} {K : Lay} {mg : Str → Option Value} {base : Heap} {fd : FuncData} (B : Bl mg)  (Fd : FunD K.K "_law_cells" "_law_cells" (defArgs s__law_cells) (defBody s__law_cells) (defScope s__law_cells) [] [] (He.fAd K.K ("_law_cells", none)) fd) (hm : mg "_law_cells" = some (.ref (He.fAd K.K ("_law_cells", none)))) : DefS Pg w K mg base 1 "_law_cells" s__law_cells ["_law_tint_here"] f__law_cells :=
  def_v (k := 0) Fd hm sc__law_cells (by decide) (fun _ _ _ _ _ _ us hl => match us, hl with | [_], _ => rfl) fun cdv Bk es s H E lk Z => by
    exact (bs_cons (b_asg 1 sc__law_cells.nd (x_lst a_nil))
  (bs_cons (b_for Z PassesOwn.never (i_rng1 (a_cons (d_len Z (x_var 0) B.len) a_nil) B.range) (g_name 2 sc__law_cells.nd)
  (bs_cons (by first | exact b_setLc Z sc__law_cells.nd 3 [("_law_at", 4), ("_law_one", 5)] (blk_of (by kernel_rfl)) (i_enum Z (a_cons (DX.of (x_var 0)) a_nil) B.enumerate) (fun _ => (g_tup (fits_b Z) (gs_cons (g_name 4 sc__law_cells.nd) (gs_cons (g_name 5 sc__law_cells.nd) gs_nil)))) (fun _ => (c_one (t_cmp (o_eqX (fits_b Z)) (x_var 5) (x_var 2)))) (fun _ => (DX.of (x_var 4))) | exact b_asg 3 sc__law_cells.nd (x_lc Z sc__law_cells.nd [("_law_at", 4), ("_law_one", 5)] (blk_of (by kernel_rfl)) (i_enum Z (a_cons (DX.of (x_var 0)) a_nil) B.enumerate) (fun _ => (g_tup (fits_b Z) (gs_cons (g_name 4 sc__law_cells.nd) (gs_cons (g_name 5 sc__law_cells.nd) gs_nil)))) (fun _ => (c_one (t_cmp (o_eqX (fits_b Z)) (x_var 5) (x_var 2)))) (fun _ => (DX.of (x_var 4)))))
  (bs_cons (b_if (t_cmp (o_neX Z) (x_var 3) (x_lst a_nil))
  (bs_cons (b_expr (EX.of (x_meth Z 1 PySem.F.slot_list_append PySem.F.type_list_append mt_append mu_app (a_cons (DX.of (x_var 3)) a_nil))))
  bs_nil)
  bs_nil)
  bs_nil)))
  (bs_cons (b_ret (x_var 1))
  bs_nil)))
abbrev s__law_near : Stmt := topS 20
theorem sc__law_near : FnScope ["_law_pot_here", "_law_tint_here", "_law_way", "_law_row_here", "_law_size", "_law_spot", "_law_strange", "_law_one", "_law_colour"] ["_law_pot_here", "_law_tint_here"] (defScope s__law_near) := ⟨rfl, rfl, rfl, by decide +kernel, rfl, by decide +kernel, by decide +kernel⟩
def m__law_near : Δ → Option Out :=
  (mSeq (mTup [2, 3, 4] (aCons (eFn f__law_draw (aCons (eVar 0) (aCons (eP (eC (.int 12))) aNil))) (aCons (eSl (eVar 1) eNo eNo) (aCons (eP (eCall1 lenD (eVar 1))) aNil))))
  (mSeq (mAsg 5 (eFn f__law_draw (aCons (eVar 0) (aCons (eP (eF (eOpF addO (eF (eVar 4)) (eC (.int 1))))) aNil))))
  (mSeq (mAsg 6 (eLst (eCons (eUn negD (eC (.int 1))) (eCons (eF (eVar 4)) (eCons (eF (eOpF addO (eF (eVar 4)) (eC (.int 1)))) (eCons (eC (.bool true)) (eCons (eC (.bool false)) (eCons (eC .none) (eCons (eC (.str "0")) (eCons (eTup (eCons (eC (.int 0)) eNil)) (eCons (eF (eLst (eCons (eC (.int 0)) eNil))) (eCons (eOp powI (eP (eC (.int 10))) (eP (eC (.int 29)))) (eCons (eUn negD (eOp powI (eP (eC (.int 10))) (eP (eC (.int 29))))) eNil)))))))))))))
  (mSeq (mAsg 7 (eP (eIx (eVar 6) (eF (eFn f__law_draw (aCons (eVar 0) (aCons (eP (eC (.int 11))) aNil)))))))
  (mSeq (mIf (eT (eOp ltI (eVar 2) (eP (eC (.int 4)))))
  (mSeq (mRet (eVar 3))
  mPass)
  mPass)
  (mSeq (mIf (eT (eOp eqX (eVar 2) (eP (eC (.int 4)))))
  (mSeq (mRet (eCall tupO (eCons (eF (eVar 3)) eNil)))
  mPass)
  mPass)
  (mSeq (mIf (eT (eOp eqX (eVar 2) (eP (eC (.int 5)))))
  (mSeq (mRet (eOpF addO (eF (eOpF addO (eF (eSl (eVar 3) eNo (eYes (eF (eVar 5))))) (eF (eLst (eCons (eF (eVar 7)) eNil))))) (eF (eSl (eVar 3) (eYes (eF (eVar 5))) eNo))))
  mPass)
  mPass)
  (mSeq (mIf (eT (eOp eqX (eVar 2) (eP (eC (.int 6)))))
  (mSeq (mRet (eSl (eVar 3) eNo (eYes (eF (eVar 5)))))
  mPass)
  mPass)
  (mSeq (mIf (eT (eOp eqX (eVar 2) (eP (eC (.int 7)))))
  (mSeq (mRet (eLc [8] (eSeq (eF (eVar 3))) (hName 8) eYesT (eF (eOpF addO (eF (eVar 8)) (eC (.int 1))))))
  mPass)
  mPass)
  (mSeq (mIf (eT (eOp eqX (eVar 2) (eP (eC (.int 8)))))
  (mSeq (mRet (eLc [8] (eSeq (eF (eVar 3))) (hName 8) eYesT (eF (eIf (eT (eOp ltI (eVar 8) (eP (eC (.int 1))))) (eVar 8) (eOpF addO (eF (eVar 8)) (eC (.int 1)))))))
  mPass)
  mPass)
  (mSeq (mIf (eT (eOp eqX (eVar 2) (eP (eC (.int 9)))))
  (mSeq (mRet (eVar 7))
  mPass)
  mPass)
  (mSeq (mRet (eOpF addO (eF (eOpF addO (eF (eSl (eVar 3) eNo (eYes (eF (eVar 5))))) (eF (eLst (eCons (eF (eVar 7)) eNil))))) (eF (eSl (eVar 3) (eYes (eF (eOpF addO (eF (eVar 5)) (eC (.int 1))))) eNo))))
  mPass))))))))))))
def f__law_near : List O → Option (O × Δ) := runM 2 9 m__law_near
theorem ok__law_near {Pg : Program} {w : World} {K : Lay} {mg : Str → Option Value} {base : Heap} {fd : FuncData} (B : Bl mg) (G__law_draw : DefS Pg w K mg base 1 "_law_draw" s__law_draw ["_law_pot_here", "_law_sides"] f__law_draw) (Fd : FunD K.K "_law_near" "_law_near" (defArgs s__law_near) (defBody s__law_near) (defScope s__law_near) [] [] (He.fAd K.K ("_law_near", none)) fd) (hm : mg "_law_near" = some (.ref (He.fAd K.K ("_law_near", none)))) : DefS Pg w K mg base 2 "_law_near" s__law_near ["_law_pot_here", "_law_tint_here"] f__law_near :=
  def_v (k := 1) Fd hm sc__law_near (by decide) (fun _ _ _ _ _ _ us hl => match us, hl with | [_, _], _ => rfl) fun cdv Bk es s H E lk Z => by
    exact (bs_cons (by first | exact b_tup Z [2, 3, 4] (as_cons (x_fn Z G__law_draw (by decide) (as_cons (x_var 0) (as_cons (EX.of d_int) as_nil))) (as_cons (x_sl Z (x_var 1) o_no o_no) (as_cons (EX.of (d_len Z (x_var 1) B.len)) as_nil))) (n_cons 2 sc__law_near.nd (n_cons 3 sc__law_near.nd (n_cons 4 sc__law_near.nd n_nil))) | exact b_par3 Z 2 3 4 sc__law_near.nd (as_cons (x_fn Z G__law_draw (by decide) (as_cons (x_var 0) (as_cons (EX.of d_int) as_nil))) (as_cons (x_sl Z (x_var 1) o_no o_no) (as_cons (EX.of (d_len Z (x_var 1) B.len)) as_nil))))
  (bs_cons (b_asg 5 sc__law_near.nd (x_fn Z G__law_draw (by decide) (as_cons (x_var 0) (as_cons (EX.of (DX.of (x_bin (o_add Z) (DX.of (x_var 4)) d_int))) as_nil))))
  (bs_cons (b_asg 6 sc__law_near.nd (x_lst (a_cons (d_neg d_int) (a_cons (DX.of (x_var 4)) (a_cons (DX.of (x_bin (o_add Z) (DX.of (x_var 4)) d_int)) (a_cons d_bl (a_cons d_bl (a_cons d_non (a_cons d_str (a_cons (d_tup (a_cons d_int a_nil)) (a_cons (DX.of (x_lst (a_cons d_int a_nil))) (a_cons (d_bin o_powI (EX.of d_int) (EX.of d_int)) (a_cons (d_neg (d_bin o_powI (EX.of d_int) (EX.of d_int))) a_nil)))))))))))))
  (bs_cons (b_asg 7 sc__law_near.nd (EX.of (d_ix Z (x_var 6) (DX.of (x_fn Z G__law_draw (by decide) (as_cons (x_var 0) (as_cons (EX.of d_int) as_nil)))))))
  (bs_cons (b_if (t_cmp o_ltI (x_var 2) (EX.of d_int))
  (bs_cons (b_ret (x_var 3))
  bs_nil)
  bs_nil)
  (bs_cons (b_if (t_cmp (o_eqX Z) (x_var 2) (EX.of d_int))
  (bs_cons (b_ret (x_tup Z (a_cons (DX.of (x_var 3)) a_nil) B.tuple))
  bs_nil)
  bs_nil)
  (bs_cons (b_if (t_cmp (o_eqX Z) (x_var 2) (EX.of d_int))
  (bs_cons (b_ret (x_bin (o_add Z) (DX.of (x_bin (o_add Z) (DX.of (x_sl Z (x_var 3) o_no (o_yes (DX.of (x_var 5))))) (DX.of (x_lst (a_cons (DX.of (x_var 7)) a_nil))))) (DX.of (x_sl Z (x_var 3) (o_yes (DX.of (x_var 5))) o_no))))
  bs_nil)
  bs_nil)
  (bs_cons (b_if (t_cmp (o_eqX Z) (x_var 2) (EX.of d_int))
  (bs_cons (b_ret (x_sl Z (x_var 3) o_no (o_yes (DX.of (x_var 5)))))
  bs_nil)
  bs_nil)
  (bs_cons (b_if (t_cmp (o_eqX Z) (x_var 2) (EX.of d_int))
  (bs_cons (b_ret (x_lc Z sc__law_near.nd [("_law_colour", 8)] (blk_of (by kernel_rfl)) (i_list Z (DX.of (x_var 3))) (fun _ => (g_name 8 sc__law_near.nd)) (fun _ => c_nil) (fun _ => (DX.of (x_bin (o_add (fits_b Z)) (DX.of (x_var 8)) d_int)))))
  bs_nil)
  bs_nil)
  (bs_cons (b_if (t_cmp (o_eqX Z) (x_var 2) (EX.of d_int))
  (bs_cons (b_ret (x_lc Z sc__law_near.nd [("_law_colour", 8)] (blk_of (by kernel_rfl)) (i_list Z (DX.of (x_var 3))) (fun _ => (g_name 8 sc__law_near.nd)) (fun _ => c_nil) (fun _ => (DX.of (x_if (t_cmp o_ltI (x_var 8) (EX.of d_int)) (x_var 8) (x_bin (o_add (fits_b Z)) (DX.of (x_var 8)) d_int))))))
  bs_nil)
  bs_nil)
  (bs_cons (b_if (t_cmp (o_eqX Z) (x_var 2) (EX.of d_int))
  (bs_cons (b_ret (x_var 7))
  bs_nil)
  bs_nil)
  (bs_cons (b_ret (x_bin (o_add Z) (DX.of (x_bin (o_add Z) (DX.of (x_sl Z (x_var 3) o_no (o_yes (DX.of (x_var 5))))) (DX.of (x_lst (a_cons (DX.of (x_var 7)) a_nil))))) (DX.of (x_sl Z (x_var 3) (o_yes (DX.of (x_bin (o_add Z) (DX.of (x_var 5)) d_int))) o_no))))
  bs_nil))))))))))))
abbrev s__law_is_one : Stmt := topS 21
theorem sc__law_is_one : FnScope ["_law_size", "_law_thing", "_law_one", "_law_row_here", "_law_steps", "_law_at", "_law_step"] ["_law_size", "_law_thing"] (defScope s__law_is_one) := ⟨rfl, rfl, rfl, by decide +kernel, rfl, by decide +kernel, by decide +kernel⟩
def m__law_is_one : Δ → Option Out :=
  (mSeq (mIf (eOr (eNot (eT (eIsi "list" (eVar 1)))) (eT (eOp neX (eP (eCall1 lenD (eVar 1))) (eVar 0))))
  (mSeq (mRet (eP (eC (.bool false))))
  mPass)
  mPass)
  (mSeq (mFor (eSeq (eF (eVar 1))) (hName 2)
  (mSeq (mIf (eOr (eNot (eT (eIsi "int" (eVar 2)))) (eT (eIsi "bool" (eVar 2))))
  (mSeq (mRet (eP (eC (.bool false))))
  mPass)
  mPass)
  mPass))
  (mSeq (mAsg 3 (eCall sortedO (eCons (eF (eVar 1)) eNil)))
  (mSeq (mAsg 4 (eLc [5] (eRng1 (eCons (eOp subI (eP (eCall1 lenD (eVar 3))) (eP (eC (.int 1)))) eNil)) (hName 5) eYesT (eOp subI (eP (eIx (eVar 3) (eF (eOpF addO (eF (eVar 5)) (eC (.int 1)))))) (eP (eIx (eVar 3) (eF (eVar 5)))))))
  (mSeq (mRet (eP (eAndV (eOp (inD false) (eSl (eVar 3) eNo (eYes (eC (.int 1)))) (eP (eTup (eCons (eF (eLst eNil)) (eCons (eF (eLst (eCons (eC (.int 0)) eNil))) eNil))))) (eOp eqX (eP (eCall1 lenD (eLc [6] (eSeq (eF (eVar 4))) (hName 6) (eT (eOp gtI (eVar 6) (eP (eC (.int 1))))) (eF (eVar 6))))) (eP (eC (.int 0)))))))
  mPass)))))
def f__law_is_one : List O → Option (O × Δ) := runM 2 7 m__law_is_one
theorem ok__law_is_one {Pg : Program} {w : World} {K : Lay} {mg : Str → Option Value} {base : Heap} {fd : FuncData} (B : Bl mg)  (Fd : FunD K.K "_law_is_one" "_law_is_one" (defArgs s__law_is_one) (defBody s__law_is_one) (defScope s__law_is_one) [] [] (He.fAd K.K ("_law_is_one", none)) fd) (hm : mg "_law_is_one" = some (.ref (He.fAd K.K ("_law_is_one", none)))) : DefS Pg w K mg base 1 "_law_is_one" s__law_is_one ["_law_size", "_law_thing"] f__law_is_one :=
  def_v (k := 0) Fd hm sc__law_is_one (by decide) (fun _ _ _ _ _ _ us hl => match us, hl with | [_, _], _ => rfl) fun cdv Bk es s H E lk Z => by
    exact (bs_cons (b_if (t_w (w_or (t_not (t_of (d_isi (T := "list") Z (x_var 1) B.isinstance B.list))) (w_or1 (t_cmp (o_neX Z) (EX.of (d_len Z (x_var 1) B.len)) (x_var 0)))))
  (bs_cons (b_ret (EX.of d_bl))
  bs_nil)
  bs_nil)
  (bs_cons (b_for Z PassesOwn.never (i_list Z (DX.of (x_var 1))) (g_name 2 sc__law_is_one.nd)
  (bs_cons (b_if (t_w (w_or (t_not (t_of (d_isi (T := "int") Z (x_var 2) B.isinstance B.int))) (w_or1 (t_of (d_isi (T := "bool") Z (x_var 2) B.isinstance B.bool)))))
  (bs_cons (b_ret (EX.of d_bl))
  bs_nil)
  bs_nil)
  bs_nil))
  (bs_cons (b_asg 3 sc__law_is_one.nd (x_sorted Z (a_cons (DX.of (x_var 1)) a_nil) B.sorted))
  (bs_cons (by first | exact b_setLc Z sc__law_is_one.nd 4 [("_law_at", 5)] (blk_of (by kernel_rfl)) (i_rng1 (a_cons (d_bin o_subI (EX.of (d_len Z (x_var 3) B.len)) (EX.of d_int)) a_nil) B.range) (fun _ => (g_name 5 sc__law_is_one.nd)) (fun _ => c_nil) (fun _ => (d_bin o_subI (EX.of (d_ix (fits_b Z) (x_var 3) (DX.of (x_bin (o_add (fits_b Z)) (DX.of (x_var 5)) d_int)))) (EX.of (d_ix (fits_b Z) (x_var 3) (DX.of (x_var 5)))))) | exact b_asg 4 sc__law_is_one.nd (x_lc Z sc__law_is_one.nd [("_law_at", 5)] (blk_of (by kernel_rfl)) (i_rng1 (a_cons (d_bin o_subI (EX.of (d_len Z (x_var 3) B.len)) (EX.of d_int)) a_nil) B.range) (fun _ => (g_name 5 sc__law_is_one.nd)) (fun _ => c_nil) (fun _ => (d_bin o_subI (EX.of (d_ix (fits_b Z) (x_var 3) (DX.of (x_bin (o_add (fits_b Z)) (DX.of (x_var 5)) d_int)))) (EX.of (d_ix (fits_b Z) (x_var 3) (DX.of (x_var 5))))))))
  (bs_cons (b_ret (EX.of (d_and (d_cmp (o_inD Z) (x_sl Z (x_var 3) o_no (o_yes d_int)) (EX.of (d_tup (a_cons (DX.of (x_lst a_nil)) (a_cons (DX.of (x_lst (a_cons d_int a_nil))) a_nil))))) (d_one (d_cmp (o_eqX Z) (EX.of (d_len Z (x_lc Z sc__law_is_one.nd [("_law_step", 6)] (blk_of (by kernel_rfl)) (i_list Z (DX.of (x_var 4))) (fun _ => (g_name 6 sc__law_is_one.nd)) (fun _ => (c_one (t_cmp o_gtI (x_var 6) (EX.of d_int)))) (fun _ => (DX.of (x_var 6)))) B.len)) (EX.of d_int))))))
  bs_nil)))))
abbrev s__law_compared : Stmt := topS 22
theorem sc__law_compared : FnScope ["_law_tint_here", "_law_far", "_law_finer", "_law_keeps", "_law_a", "_law_one", "_law_b", "_law_other"] ["_law_tint_here", "_law_far"] (defScope s__law_compared) := ⟨rfl, rfl, rfl, by decide +kernel, rfl, by decide +kernel, by decide +kernel⟩
def m__law_compared : Δ → Option Out :=
  (mSeq (mTup [2, 3] (aCons (eP (eC (.bool true))) (aCons (eP (eC (.bool true))) aNil)))
  (mSeq (mFor (eEnum (eCons (eF (eVar 0)) eNil)) (hTup 2 (hCons (hName 4) (hCons (hName 5) hNil)))
  (mSeq (mFor (eEnum (eCons (eF (eVar 0)) eNil)) (hTup 2 (hCons (hName 6) (hCons (hName 7) hNil)))
  (mSeq (mIf (eAnd (eT (eOp eqX (eVar 5) (eVar 7))) (eT (eOp neX (eP (eIx (eVar 1) (eF (eVar 4)))) (eP (eIx (eVar 1) (eF (eVar 6)))))))
  (mSeq (mAsg 2 (eP (eC (.bool false))))
  mPass)
  mPass)
  (mSeq (mIf (eAnd (eT (eOp ltI (eP (eIx (eVar 1) (eF (eVar 4)))) (eP (eIx (eVar 1) (eF (eVar 6)))))) (eT (eOp geI (eVar 5) (eVar 7))))
  (mSeq (mAsg 3 (eP (eC (.bool false))))
  mPass)
  mPass)
  mPass)))
  mPass))
  (mSeq (mRet (eLst (eCons (eF (eVar 2)) (eCons (eF (eVar 3)) eNil))))
  mPass)))
def f__law_compared : List O → Option (O × Δ) := runM 2 8 m__law_compared
theorem ok__law_compared {Pg : Program} {w : World} {K : Lay} {mg : Str → Option Value} {base : Heap} {fd : FuncData} (B : Bl mg)  (Fd : FunD K.K "_law_compared" "_law_compared" (defArgs s__law_compared) (defBody s__law_compared) (defScope s__law_compared) [] [] (He.fAd K.K ("_law_compared", none)) fd) (hm : mg "_law_compared" = some (.ref (He.fAd K.K ("_law_compared", none)))) : DefS Pg w K mg base 1 "_law_compared" s__law_compared ["_law_tint_here", "_law_far"] f__law_compared :=
  def_v (k := 0) Fd hm sc__law_compared (by decide) (fun _ _ _ _ _ _ us hl => match us, hl with | [_, _], _ => rfl) fun cdv Bk es s H E lk Z => by
    exact (bs_cons (by first | exact b_tup Z [2, 3] (as_cons (EX.of d_bl) (as_cons (EX.of d_bl) as_nil)) (n_cons 2 sc__law_compared.nd (n_cons 3 sc__law_compared.nd n_nil)) | exact b_par Z 2 3 sc__law_compared.nd (as_cons (EX.of d_bl) (as_cons (EX.of d_bl) as_nil)))
  (bs_cons (b_for Z PassesOwn.never (i_enum Z (a_cons (DX.of (x_var 0)) a_nil) B.enumerate) (g_tup Z (gs_cons (g_name 4 sc__law_compared.nd) (gs_cons (g_name 5 sc__law_compared.nd) gs_nil)))
  (bs_cons (b_for Z PassesOwn.never (i_enum Z (a_cons (DX.of (x_var 0)) a_nil) B.enumerate) (g_tup Z (gs_cons (g_name 6 sc__law_compared.nd) (gs_cons (g_name 7 sc__law_compared.nd) gs_nil)))
  (bs_cons (b_if (t_w (w_and (t_cmp (o_eqX Z) (x_var 5) (x_var 7)) (w_and1 (t_cmp (o_neX Z) (EX.of (d_ix Z (x_var 1) (DX.of (x_var 4)))) (EX.of (d_ix Z (x_var 1) (DX.of (x_var 6))))))))
  (bs_cons (b_asg 2 sc__law_compared.nd (EX.of d_bl))
  bs_nil)
  bs_nil)
  (bs_cons (b_if (t_w (w_and (t_cmp o_ltI (EX.of (d_ix Z (x_var 1) (DX.of (x_var 4)))) (EX.of (d_ix Z (x_var 1) (DX.of (x_var 6))))) (w_and1 (t_cmp o_geI (x_var 5) (x_var 7)))))
  (bs_cons (b_asg 3 sc__law_compared.nd (EX.of d_bl))
  bs_nil)
  bs_nil)
  bs_nil)))
  bs_nil))
  (bs_cons (b_ret (x_lst (a_cons (DX.of (x_var 2)) (a_cons (DX.of (x_var 3)) a_nil))))
  bs_nil)))
abbrev s__law_coarser : Stmt := topS 23
theorem sc__law_coarser : FnScope ["_law_pot_here", "_law_tint_here", "_law_wide", "_law_colour"] ["_law_pot_here", "_law_tint_here"] (defScope s__law_coarser) := ⟨rfl, rfl, rfl, by decide +kernel, rfl, by decide +kernel, by decide +kernel⟩
def m__law_coarser : Δ → Option Out :=
  (mSeq (mAsg 2 (eOpF addO (eC (.int 1)) (eF (eFn f__law_draw (aCons (eVar 0) (aCons (eP (eC (.int 3))) aNil))))))
  (mSeq (mIf (eT (eOp eqX (eFn f__law_draw (aCons (eVar 0) (aCons (eP (eC (.int 2))) aNil))) (eP (eC (.int 0)))))
  (mSeq (mRet (eFn f__law_ranked (aCons (eP (eF (eLc [3] (eSeq (eF (eVar 1))) (hName 3) eYesT (eOp fdvI (eVar 3) (eVar 2))))) aNil)))
  mPass)
  mPass)
  (mSeq (mRet (eFn f__law_ranked (aCons (eP (eF (eLc [3] (eSeq (eF (eVar 1))) (hName 3) eYesT (eOp modI (eP (eCall1 intD (eVar 3))) (eVar 2))))) aNil)))
  mPass)))
def f__law_coarser : List O → Option (O × Δ) := runM 2 4 m__law_coarser
theorem ok__law_coarser {Pg : Program} {w : World} {K : Lay} {mg : Str → Option Value} {base : Heap} {fd : FuncData} (B : Bl mg) (G__law_draw : DefS Pg w K mg base 1 "_law_draw" s__law_draw ["_law_pot_here", "_law_sides"] f__law_draw) (G__law_ranked : DefS Pg w K mg base 1 "_law_ranked" s__law_ranked ["_law_keys"] f__law_ranked) (Fd : FunD K.K "_law_coarser" "_law_coarser" (defArgs s__law_coarser) (defBody s__law_coarser) (defScope s__law_coarser) [] [] (He.fAd K.K ("_law_coarser", none)) fd) (hm : mg "_law_coarser" = some (.ref (He.fAd K.K ("_law_coarser", none)))) : DefS Pg w K mg base 2 "_law_coarser" s__law_coarser ["_law_pot_here", "_law_tint_here"] f__law_coarser :=
  def_v (k := 1) Fd hm sc__law_coarser (by decide) (fun _ _ _ _ _ _ us hl => match us, hl with | [_, _], _ => rfl) fun cdv Bk es s H E lk Z => by
    exact (bs_cons (b_asg 2 sc__law_coarser.nd (x_bin (o_add Z) d_int (DX.of (x_fn Z G__law_draw (by decide) (as_cons (x_var 0) (as_cons (EX.of d_int) as_nil))))))
  (bs_cons (b_if (t_cmp (o_eqX Z) (x_fn Z G__law_draw (by decide) (as_cons (x_var 0) (as_cons (EX.of d_int) as_nil))) (EX.of d_int))
  (bs_cons (b_ret (x_fn Z G__law_ranked (by decide) (as_cons (EX.of (DX.of (x_lc Z sc__law_coarser.nd [("_law_colour", 3)] (blk_of (by kernel_rfl)) (i_list Z (DX.of (x_var 1))) (fun _ => (g_name 3 sc__law_coarser.nd)) (fun _ => c_nil) (fun _ => (d_bin o_fdvI (x_var 3) (x_var 2)))))) as_nil)))
  bs_nil)
  bs_nil)
  (bs_cons (b_ret (x_fn Z G__law_ranked (by decide) (as_cons (EX.of (DX.of (x_lc Z sc__law_coarser.nd [("_law_colour", 3)] (blk_of (by kernel_rfl)) (i_list Z (DX.of (x_var 1))) (fun _ => (g_name 3 sc__law_coarser.nd)) (fun _ => c_nil) (fun _ => (d_bin o_modI (EX.of (d_intc (x_var 3) B.int)) (x_var 2)))))) as_nil)))
  bs_nil)))
abbrev s__law_right : Stmt := topS 24
theorem sc__law_right : FnScope ["_law_pot_here", "_law_more", "_law_size", "_law_wide", "_law_at", "_law_told", "_law_tint_here", "_law_far", "_law_lead", "_law_asked", "_law_thing", "_law_shown", "_law_near_here", "_law_other", "_law_due", "_law_sizes", "_law_cell", "_law_led", "_law_colour"] ["_law_pot_here", "_law_more"] (defScope s__law_right) := ⟨rfl, rfl, rfl, by decide +kernel, rfl, by decide +kernel, by decide +kernel⟩
def m__law_right : Δ → Option Out :=
  (mSeq (mAsg 2 (eP (eIx (eLst (eCons (eC (.int 0)) (eCons (eC (.int 1)) (eCons (eC (.int 2)) (eCons (eC (.int 3)) (eCons (eC (.int 4)) (eCons (eC (.int 5)) (eCons (eC (.int 6)) (eCons (eC (.int 24)) eNil))))))))) (eF (eFn f__law_draw (aCons (eVar 1) (aCons (eP (eC (.int 8))) aNil)))))))
  (mSeq (mAsg 3 (eLc [4] (eRng1 (eCons (eF (eOpF addO (eC (.int 25)) (eF (eFn f__law_draw (aCons (eVar 1) (aCons (eP (eC (.int 9))) aNil)))))) eNil)) (hName 4) eYesT (eC (.int 0))))
  (mSeq (mAsg 5 (eLst (eCons (eF (eFn f_is_colouring (aCons (eP (eCall1 lenD (eVar 3))) (aCons (eP (eF (eVar 3))) aNil)))) (eCons (eF (eFn f_is_colouring (aCons (eP (eF (eOpF addO (eCall1 lenD (eVar 3)) (eC (.int 1))))) (aCons (eP (eF (eVar 3))) aNil)))) eNil))))
  (mSeq (mIf (eT (eOp neX (eP (eCall1 reprD (eVar 5))) (eP (eCall1 reprD (eLst (eCons (eC (.bool true)) (eCons (eC (.bool false)) eNil)))))))
  (mSeq (mRet (eP (eC (.bool false))))
  mPass)
  mPass)
  (mSeq (mAsg 6 (eFn f__law_tint (aCons (eVar 0) (aCons (eP (eF (eVar 2))) aNil))))
  (mSeq (mAsg 7 (eIf (eT (eOp eqX (eFn f__law_draw (aCons (eVar 1) (aCons (eP (eC (.int 2))) aNil))) (eP (eC (.int 0))))) (eFn f__law_tint (aCons (eVar 1) (aCons (eP (eF (eVar 2))) aNil))) (eFn f__law_coarser (aCons (eVar 1) (aCons (eP (eF (eVar 6))) aNil)))))
  (mSeq (mTup [8, 9] (aCons (eFn f__law_row (aCons (eVar 1) (aCons (eP (eF (eVar 2))) aNil))) (aCons (eOpF addO (eF (eVar 2)) (eOp fdvI (eFn f__law_draw (aCons (eVar 1) (aCons (eP (eC (.int 5))) aNil))) (eP (eC (.int 4))))) aNil)))
  (mSeq (mFor (eSeqT (eTup (eCons (eF (eVar 6)) (eCons (eF (eFn f__law_near (aCons (eVar 0) (aCons (eP (eF (eVar 6))) aNil)))) (eCons (eF (eFn f__law_near (aCons (eVar 1) (aCons (eP (eF (eVar 7))) aNil)))) eNil))))) (hName 10)
  (mSeq (mAsg 11 (eP (eCall1 reprD (eVar 10))))
  (mSeq (mAsg 5 (eLst (eCons (eF (eFn f_is_colouring (aCons (eP (eF (eVar 2))) (aCons (eP (eF (eVar 10))) aNil)))) (eCons (eF (eFnK 2 [1, 0] f_is_colouring (aCons (eP (eF (eVar 10))) (aCons (eP (eF (eVar 9))) aNil)))) eNil))))
  (mSeq (mIf (eT (eOp neX (eP (eCall1 reprD (eVar 5))) (eP (eCall1 reprD (eLst (eCons (eF (eFn f__law_is_one (aCons (eP (eF (eVar 2))) (aCons (eP (eF (eVar 10))) aNil)))) (eCons (eF (eFn f__law_is_one (aCons (eP (eF (eVar 9))) (aCons (eP (eF (eVar 10))) aNil)))) eNil)))))))
  (mSeq (mRet (eP (eC (.bool false))))
  mPass)
  mPass)
  (mSeq (mIf (eT (eOp neX (eP (eCall1 reprD (eVar 10))) (eVar 11)))
  (mSeq (mRet (eP (eC (.bool false))))
  mPass)
  mPass)
  mPass)))))
  (mSeq (mFor (eSeqT (eTup (eCons (eTup (eCons (eF (eVar 6)) (eCons (eF (eVar 7)) eNil))) (eCons (eTup (eCons (eF (eVar 7)) (eCons (eF (eVar 6)) eNil))) (eCons (eTup (eCons (eF (eVar 6)) (eCons (eF (eVar 6)) eNil))) eNil))))) (hTup 2 (hCons (hName 12) (hCons (hName 13) hNil)))
  (mSeq (mAsg 5 (eLst (eCons (eF (eFn f_is_finer (aCons (eP (eF (eSl (eVar 12) eNo eNo))) (aCons (eP (eF (eSl (eVar 13) eNo eNo))) aNil)))) (eCons (eF (eFn f_keeps_sequence (aCons (eP (eF (eSl (eVar 12) eNo eNo))) (aCons (eP (eF (eSl (eVar 13) eNo eNo))) aNil)))) eNil))))
  (mSeq (mIf (eT (eOp neX (eP (eCall1 reprD (eVar 5))) (eP (eCall1 reprD (eFn f__law_compared (aCons (eP (eF (eVar 12))) (aCons (eP (eF (eVar 13))) aNil)))))))
  (mSeq (mRet (eP (eC (.bool false))))
  mPass)
  mPass)
  mPass)))
  (mSeq (mAsg 5 (eLst (eCons (eF (eFnK 2 [1, 0] f_is_finer (aCons (eP (eF (eVar 7))) (aCons (eP (eF (eVar 6))) aNil)))) (eCons (eF (eFnK 2 [1, 0] f_keeps_sequence (aCons (eP (eF (eVar 7))) (aCons (eP (eF (eVar 6))) aNil)))) eNil))))
  (mSeq (mIf (eT (eOp neX (eP (eCall1 reprD (eVar 5))) (eP (eCall1 reprD (eFn f__law_compared (aCons (eP (eF (eVar 6))) (aCons (eP (eF (eVar 7))) aNil)))))))
  (mSeq (mRet (eP (eC (.bool false))))
  mPass)
  mPass)
  (mSeq (mAsg 14 (eFn f__law_cells (aCons (eP (eF (eVar 6))) aNil)))
  (mSeq (mAsg 15 (eLc [16] (eSeq (eF (eVar 14))) (hName 16) eYesT (eCall1 lenD (eVar 16))))
  (mSeq (mAsg 5 (eMix (aCons (eFn f_cells_of (aCons (eP (eF (eVar 6))) aNil)) (aCons (eFnK 1 [0] f_trace_of (aCons (eP (eF (eVar 6))) aNil)) (aCons (eFnK 1 [0] f_is_discrete (aCons (eP (eF (eVar 6))) aNil)) aNil)))))
  (mSeq (mIf (eT (eOp neX (eP (eCall1 reprD (eVar 5))) (eP (eCall1 reprD (eLst (eCons (eF (eVar 14)) (eCons (eF (eVar 15)) (eCons (eOp eqX (eP (eCall1 lenD (eVar 14))) (eVar 2)) eNil))))))))
  (mSeq (mRet (eP (eC (.bool false))))
  mPass)
  mPass)
  (mSeq (mSpoil 5 16 0 .none)
  (mSeq (mTup [17, 11] (aCons (eLc [4] (eSeq (eF (eVar 6))) (hName 4) eYesT (eC (.int 0))) (aCons (eP (eCall1 reprD (eLst (eCons (eF (eVar 6)) (eCons (eF (eVar 8)) eNil))))) aNil)))
  (mSeq (mFor (eEnum (eCons (eF (eVar 6)) eNil)) (hTup 2 (hCons (hName 4) (hCons (hName 18) hNil)))
  (mSeq (mTgt (eF (eVar 18)) (hSub 17 (eIx (eVar 8) (eF (eVar 4)))))
  mPass))
  (mSeq (mIf (eT (eOp neX (eP (eCall1 reprD (eLst (eCons (eF (eFnK 1 [0] f_cells_of (aCons (eP (eF (eVar 6))) aNil))) (eCons (eF (eFn f_colouring_led (aCons (eP (eF (eVar 6))) (aCons (eP (eF (eVar 8))) aNil)))) eNil))))) (eP (eCall1 reprD (eLst (eCons (eF (eVar 14)) (eCons (eF (eVar 17)) eNil)))))))
  (mSeq (mRet (eP (eC (.bool false))))
  mPass)
  mPass)
  (mSeq (mAsg 5 (eMix (aCons (eFn f_colouring_led (aCons (eP (eF (eVar 6))) (aCons (eP (eF (eListR1 (eF (eVar 2))))) aNil))) (aCons (eFn f_colouring_led (aCons (eP (eF (eVar 6))) (aCons (eP (eF (eVar 8))) aNil))) aNil))))
  (mSeq (mIf (eT (eOp neX (eP (eCall1 reprD (eVar 5))) (eP (eCall1 reprD (eLst (eCons (eF (eVar 6)) (eCons (eF (eVar 17)) eNil)))))))
  (mSeq (mRet (eP (eC (.bool false))))
  mPass)
  mPass)
  (mSeq (mDrop (eP (eSubApp 5 (eC (.int 0)) (eC .none))))
  (mSeq (mRet (eP (eAndV (eOp eqX (eFnK 2 [1, 0] f_colouring_led (aCons (eP (eF (eVar 8))) (aCons (eP (eF (eVar 6))) aNil))) (eVar 17)) (eOp eqX (eP (eCall1 reprD (eLst (eCons (eF (eVar 6)) (eCons (eF (eVar 8)) eNil))))) (eVar 11)))))
  mPass)))))))))))))))))))))))
def f__law_right : List O → Option (O × Δ) := runM 2 19 m__law_right
theorem ok__law_right {Pg : Program} {w : World} {K : Lay} {mg : Str → Option Value} {base : Heap} {fd : FuncData} (B : Bl mg) (G_is_colouring : DefS Pg w K mg base 4 "is_colouring" s_is_colouring ["many", "value"] f_is_colouring) (G_cells_of : DefS Pg w K mg base 1 "cells_of" s_cells_of ["colouring"] f_cells_of) (G_trace_of : DefS Pg w K mg base 2 "trace_of" s_trace_of ["colouring"] f_trace_of) (G_is_discrete : DefS Pg w K mg base 1 "is_discrete" s_is_discrete ["colouring"] f_is_discrete) (G_is_finer : DefS Pg w K mg base 1 "is_finer" s_is_finer ["colouring", "other"] f_is_finer) (G_keeps_sequence : DefS Pg w K mg base 1 "keeps_sequence" s_keeps_sequence ["colouring", "other"] f_keeps_sequence) (G_colouring_led : DefS Pg w K mg base 2 "colouring_led" s_colouring_led ["colouring", "numbering"] f_colouring_led) (G__law_draw : DefS Pg w K mg base 1 "_law_draw" s__law_draw ["_law_pot_here", "_law_sides"] f__law_draw) (G__law_row : DefS Pg w K mg base 2 "_law_row" s__law_row ["_law_pot_here", "_law_size"] f__law_row) (G__law_tint : DefS Pg w K mg base 2 "_law_tint" s__law_tint ["_law_pot_here", "_law_size"] f__law_tint) (G__law_cells : DefS Pg w K mg base 1 "_law_cells" s__law_cells ["_law_tint_here"] f__law_cells) (G__law_near : DefS Pg w K mg base 2 "_law_near" s__law_near ["_law_pot_here", "_law_tint_here"] f__law_near) (G__law_is_one : DefS Pg w K mg base 1 "_law_is_one" s__law_is_one ["_law_size", "_law_thing"] f__law_is_one) (G__law_compared : DefS Pg w K mg base 1 "_law_compared" s__law_compared ["_law_tint_here", "_law_far"] f__law_compared) (G__law_coarser : DefS Pg w K mg base 2 "_law_coarser" s__law_coarser ["_law_pot_here", "_law_tint_here"] f__law_coarser) (Fd : FunD K.K "_law_right" "_law_right" (defArgs s__law_right) (defBody s__law_right) (defScope s__law_right) [] [] (He.fAd K.K ("_law_right", none)) fd) (hm : mg "_law_right" = some (.ref (He.fAd K.K ("_law_right", none)))) : DefS Pg w K mg base 5 "_law_right" s__law_right ["_law_pot_here", "_law_more"] f__law_right :=
  def_v (k := 4) Fd hm sc__law_right (by decide) (fun _ _ _ _ _ _ us hl => match us, hl with | [_, _], _ => rfl) fun cdv Bk es s H E lk Z => by
    exact (bs_cons (b_asg 2 sc__law_right.nd (EX.of (d_ix Z (x_lst (a_cons d_int (a_cons d_int (a_cons d_int (a_cons d_int (a_cons d_int (a_cons d_int (a_cons d_int (a_cons d_int a_nil))))))))) (DX.of (x_fn Z G__law_draw (by decide) (as_cons (x_var 1) (as_cons (EX.of d_int) as_nil)))))))
  (bs_cons (by first | exact b_setLc Z sc__law_right.nd 3 [("_law_at", 4)] (blk_of (by kernel_rfl)) (i_rng1 (a_cons (DX.of (x_bin (o_add Z) d_int (DX.of (x_fn Z G__law_draw (by decide) (as_cons (x_var 1) (as_cons (EX.of d_int) as_nil)))))) a_nil) B.range) (fun _ => (g_name 4 sc__law_right.nd)) (fun _ => c_nil) (fun _ => d_int) | exact b_asg 3 sc__law_right.nd (x_lc Z sc__law_right.nd [("_law_at", 4)] (blk_of (by kernel_rfl)) (i_rng1 (a_cons (DX.of (x_bin (o_add Z) d_int (DX.of (x_fn Z G__law_draw (by decide) (as_cons (x_var 1) (as_cons (EX.of d_int) as_nil)))))) a_nil) B.range) (fun _ => (g_name 4 sc__law_right.nd)) (fun _ => c_nil) (fun _ => d_int)))
  (bs_cons (b_asg 5 sc__law_right.nd (x_lst (a_cons (DX.of (x_fn Z G_is_colouring (by decide) (as_cons (EX.of (d_len Z (x_var 3) B.len)) (as_cons (EX.of (DX.of (x_var 3))) as_nil)))) (a_cons (DX.of (x_fn Z G_is_colouring (by decide) (as_cons (EX.of (DX.of (x_bin (o_add Z) (d_len Z (x_var 3) B.len) d_int))) (as_cons (EX.of (DX.of (x_var 3))) as_nil)))) a_nil))))
  (bs_cons (b_if (t_cmp (o_neX Z) (EX.of (d_repr Z (x_var 5) B.repr)) (EX.of (d_repr Z (x_lst (a_cons d_bl (a_cons d_bl a_nil))) B.repr)))
  (bs_cons (b_ret (EX.of d_bl))
  bs_nil)
  bs_nil)
  (bs_cons (b_asg 6 sc__law_right.nd (x_fn Z G__law_tint (by decide) (as_cons (x_var 0) (as_cons (EX.of (DX.of (x_var 2))) as_nil))))
  (bs_cons (b_asg 7 sc__law_right.nd (x_if (t_cmp (o_eqX Z) (x_fn Z G__law_draw (by decide) (as_cons (x_var 1) (as_cons (EX.of d_int) as_nil))) (EX.of d_int)) (x_fn Z G__law_tint (by decide) (as_cons (x_var 1) (as_cons (EX.of (DX.of (x_var 2))) as_nil))) (x_fn Z G__law_coarser (by decide) (as_cons (x_var 1) (as_cons (EX.of (DX.of (x_var 6))) as_nil)))))
  (bs_cons (by first | exact b_tup Z [8, 9] (as_cons (x_fn Z G__law_row (by decide) (as_cons (x_var 1) (as_cons (EX.of (DX.of (x_var 2))) as_nil))) (as_cons (x_bin (o_add Z) (DX.of (x_var 2)) (d_bin o_fdvI (x_fn Z G__law_draw (by decide) (as_cons (x_var 1) (as_cons (EX.of d_int) as_nil))) (EX.of d_int))) as_nil)) (n_cons 8 sc__law_right.nd (n_cons 9 sc__law_right.nd n_nil)) | exact b_par Z 8 9 sc__law_right.nd (as_cons (x_fn Z G__law_row (by decide) (as_cons (x_var 1) (as_cons (EX.of (DX.of (x_var 2))) as_nil))) (as_cons (x_bin (o_add Z) (DX.of (x_var 2)) (d_bin o_fdvI (x_fn Z G__law_draw (by decide) (as_cons (x_var 1) (as_cons (EX.of d_int) as_nil))) (EX.of d_int))) as_nil)))
  (bs_cons (b_for Z PassesOwn.never (i_tup Z (d_tup (a_cons (DX.of (x_var 6)) (a_cons (DX.of (x_fn Z G__law_near (by decide) (as_cons (x_var 0) (as_cons (EX.of (DX.of (x_var 6))) as_nil)))) (a_cons (DX.of (x_fn Z G__law_near (by decide) (as_cons (x_var 1) (as_cons (EX.of (DX.of (x_var 7))) as_nil)))) a_nil))))) (g_name 10 sc__law_right.nd)
  (bs_cons (b_asg 11 sc__law_right.nd (EX.of (d_repr Z (x_var 10) B.repr)))
  (bs_cons (b_asg 5 sc__law_right.nd (x_lst (a_cons (DX.of (x_fn Z G_is_colouring (by decide) (as_cons (EX.of (DX.of (x_var 2))) (as_cons (EX.of (DX.of (x_var 10))) as_nil)))) (a_cons (DX.of (x_fnK Z G_is_colouring (by decide) ["value", "many"] [1, 0] (ks_cons (EX.of (DX.of (x_var 10))) (ks_cons (EX.of (DX.of (x_var 9))) ks_nil)) (fun _ _ _ _ _ _ ws hl => match ws, hl with | [_, _], _ => rfl))) a_nil))))
  (bs_cons (b_if (t_cmp (o_neX Z) (EX.of (d_repr Z (x_var 5) B.repr)) (EX.of (d_repr Z (x_lst (a_cons (DX.of (x_fn Z G__law_is_one (by decide) (as_cons (EX.of (DX.of (x_var 2))) (as_cons (EX.of (DX.of (x_var 10))) as_nil)))) (a_cons (DX.of (x_fn Z G__law_is_one (by decide) (as_cons (EX.of (DX.of (x_var 9))) (as_cons (EX.of (DX.of (x_var 10))) as_nil)))) a_nil))) B.repr)))
  (bs_cons (b_ret (EX.of d_bl))
  bs_nil)
  bs_nil)
  (bs_cons (b_if (t_cmp (o_neX Z) (EX.of (d_repr Z (x_var 10) B.repr)) (x_var 11))
  (bs_cons (b_ret (EX.of d_bl))
  bs_nil)
  bs_nil)
  bs_nil)))))
  (bs_cons (b_for Z PassesOwn.never (i_tup Z (d_tup (a_cons (d_tup (a_cons (DX.of (x_var 6)) (a_cons (DX.of (x_var 7)) a_nil))) (a_cons (d_tup (a_cons (DX.of (x_var 7)) (a_cons (DX.of (x_var 6)) a_nil))) (a_cons (d_tup (a_cons (DX.of (x_var 6)) (a_cons (DX.of (x_var 6)) a_nil))) a_nil))))) (g_tup Z (gs_cons (g_name 12 sc__law_right.nd) (gs_cons (g_name 13 sc__law_right.nd) gs_nil)))
  (bs_cons (b_asg 5 sc__law_right.nd (x_lst (a_cons (DX.of (x_fn Z G_is_finer (by decide) (as_cons (EX.of (DX.of (x_sl Z (x_var 12) o_no o_no))) (as_cons (EX.of (DX.of (x_sl Z (x_var 13) o_no o_no))) as_nil)))) (a_cons (DX.of (x_fn Z G_keeps_sequence (by decide) (as_cons (EX.of (DX.of (x_sl Z (x_var 12) o_no o_no))) (as_cons (EX.of (DX.of (x_sl Z (x_var 13) o_no o_no))) as_nil)))) a_nil))))
  (bs_cons (b_if (t_cmp (o_neX Z) (EX.of (d_repr Z (x_var 5) B.repr)) (EX.of (d_repr Z (x_fn Z G__law_compared (by decide) (as_cons (EX.of (DX.of (x_var 12))) (as_cons (EX.of (DX.of (x_var 13))) as_nil))) B.repr)))
  (bs_cons (b_ret (EX.of d_bl))
  bs_nil)
  bs_nil)
  bs_nil)))
  (bs_cons (b_asg 5 sc__law_right.nd (x_lst (a_cons (DX.of (x_fnK Z G_is_finer (by decide) ["other", "colouring"] [1, 0] (ks_cons (EX.of (DX.of (x_var 7))) (ks_cons (EX.of (DX.of (x_var 6))) ks_nil)) (fun _ _ _ _ _ _ ws hl => match ws, hl with | [_, _], _ => rfl))) (a_cons (DX.of (x_fnK Z G_keeps_sequence (by decide) ["other", "colouring"] [1, 0] (ks_cons (EX.of (DX.of (x_var 7))) (ks_cons (EX.of (DX.of (x_var 6))) ks_nil)) (fun _ _ _ _ _ _ ws hl => match ws, hl with | [_, _], _ => rfl))) a_nil))))
  (bs_cons (b_if (t_cmp (o_neX Z) (EX.of (d_repr Z (x_var 5) B.repr)) (EX.of (d_repr Z (x_fn Z G__law_compared (by decide) (as_cons (EX.of (DX.of (x_var 6))) (as_cons (EX.of (DX.of (x_var 7))) as_nil))) B.repr)))
  (bs_cons (b_ret (EX.of d_bl))
  bs_nil)
  bs_nil)
  (bs_cons (b_asg 14 sc__law_right.nd (x_fn Z G__law_cells (by decide) (as_cons (EX.of (DX.of (x_var 6))) as_nil)))
  (bs_cons (by first | exact b_setLc Z sc__law_right.nd 15 [("_law_cell", 16)] (blk_of (by kernel_rfl)) (i_list Z (DX.of (x_var 14))) (fun _ => (g_name 16 sc__law_right.nd)) (fun _ => c_nil) (fun _ => (d_len (fits_b Z) (x_var 16) B.len)) | exact b_asg 15 sc__law_right.nd (x_lc Z sc__law_right.nd [("_law_cell", 16)] (blk_of (by kernel_rfl)) (i_list Z (DX.of (x_var 14))) (fun _ => (g_name 16 sc__law_right.nd)) (fun _ => c_nil) (fun _ => (d_len (fits_b Z) (x_var 16) B.len))))
  (bs_cons (b_asg 5 sc__law_right.nd (x_mix (as_cons (x_fn Z G_cells_of (by decide) (as_cons (EX.of (DX.of (x_var 6))) as_nil)) (as_cons (x_fnK Z G_trace_of (by decide) ["colouring"] [0] (ks_cons (EX.of (DX.of (x_var 6))) ks_nil) (fun _ _ _ _ _ _ ws hl => match ws, hl with | [_], _ => rfl)) (as_cons (x_fnK Z G_is_discrete (by decide) ["colouring"] [0] (ks_cons (EX.of (DX.of (x_var 6))) ks_nil) (fun _ _ _ _ _ _ ws hl => match ws, hl with | [_], _ => rfl)) as_nil)))))
  (bs_cons (b_if (t_cmp (o_neX Z) (EX.of (d_repr Z (x_var 5) B.repr)) (EX.of (d_repr Z (x_lst (a_cons (DX.of (x_var 14)) (a_cons (DX.of (x_var 15)) (a_cons (d_cmp (o_eqX Z) (EX.of (d_len Z (x_var 14) B.len)) (x_var 2)) a_nil)))) B.repr)))
  (bs_cons (b_ret (EX.of d_bl))
  bs_nil)
  bs_nil)
  (bs_cons (b_spoil Z PassesOwn.never 5 16 sc__law_right.nd)
  (bs_cons (by first | exact b_tup Z [17, 11] (as_cons (x_lc Z sc__law_right.nd [("_law_at", 4)] (blk_of (by kernel_rfl)) (i_list Z (DX.of (x_var 6))) (fun _ => (g_name 4 sc__law_right.nd)) (fun _ => c_nil) (fun _ => d_int)) (as_cons (EX.of (d_repr Z (x_lst (a_cons (DX.of (x_var 6)) (a_cons (DX.of (x_var 8)) a_nil))) B.repr)) as_nil)) (n_cons 17 sc__law_right.nd (n_cons 11 sc__law_right.nd n_nil)) | exact b_par Z 17 11 sc__law_right.nd (as_cons (x_lc Z sc__law_right.nd [("_law_at", 4)] (blk_of (by kernel_rfl)) (i_list Z (DX.of (x_var 6))) (fun _ => (g_name 4 sc__law_right.nd)) (fun _ => c_nil) (fun _ => d_int)) (as_cons (EX.of (d_repr Z (x_lst (a_cons (DX.of (x_var 6)) (a_cons (DX.of (x_var 8)) a_nil))) B.repr)) as_nil)))
  (bs_cons (b_for Z PassesOwn.never (i_enum Z (a_cons (DX.of (x_var 6)) a_nil) B.enumerate) (g_tup Z (gs_cons (g_name 4 sc__law_right.nd) (gs_cons (g_name 18 sc__law_right.nd) gs_nil)))
  (bs_cons (b_mtgt (DX.of (x_var 18)) (m_sub 17 (d_ix Z (x_var 8) (DX.of (x_var 4)))))
  bs_nil))
  (bs_cons (b_if (t_cmp (o_neX Z) (EX.of (d_repr Z (x_lst (a_cons (DX.of (x_fnK Z G_cells_of (by decide) ["colouring"] [0] (ks_cons (EX.of (DX.of (x_var 6))) ks_nil) (fun _ _ _ _ _ _ ws hl => match ws, hl with | [_], _ => rfl))) (a_cons (DX.of (x_fn Z G_colouring_led (by decide) (as_cons (EX.of (DX.of (x_var 6))) (as_cons (EX.of (DX.of (x_var 8))) as_nil)))) a_nil))) B.repr)) (EX.of (d_repr Z (x_lst (a_cons (DX.of (x_var 14)) (a_cons (DX.of (x_var 17)) a_nil))) B.repr)))
  (bs_cons (b_ret (EX.of d_bl))
  bs_nil)
  bs_nil)
  (bs_cons (b_asg 5 sc__law_right.nd (x_mix (as_cons (x_fn Z G_colouring_led (by decide) (as_cons (EX.of (DX.of (x_var 6))) (as_cons (EX.of (DX.of (x_listR1 Z (DX.of (x_var 2)) B.list B.range))) as_nil))) (as_cons (x_fn Z G_colouring_led (by decide) (as_cons (EX.of (DX.of (x_var 6))) (as_cons (EX.of (DX.of (x_var 8))) as_nil))) as_nil))))
  (bs_cons (b_if (t_cmp (o_neX Z) (EX.of (d_repr Z (x_var 5) B.repr)) (EX.of (d_repr Z (x_lst (a_cons (DX.of (x_var 6)) (a_cons (DX.of (x_var 17)) a_nil))) B.repr)))
  (bs_cons (b_ret (EX.of d_bl))
  bs_nil)
  bs_nil)
  (bs_cons (b_expr (EX.of (x_subApp Z 5 q_int q_non)))
  (bs_cons (b_ret (EX.of (d_and (d_cmp (o_eqX Z) (x_fnK Z G_colouring_led (by decide) ["numbering", "colouring"] [1, 0] (ks_cons (EX.of (DX.of (x_var 8))) (ks_cons (EX.of (DX.of (x_var 6))) ks_nil)) (fun _ _ _ _ _ _ ws hl => match ws, hl with | [_, _], _ => rfl)) (x_var 17)) (d_one (d_cmp (o_eqX Z) (EX.of (d_repr Z (x_lst (a_cons (DX.of (x_var 6)) (a_cons (DX.of (x_var 8)) a_nil))) B.repr)) (x_var 11))))))
  bs_nil)))))))))))))))))))))))
abbrev s_law : Stmt := topS 25
theorem sc_law : FnScope ["_law_script"] ["_law_script"] (defScope s_law) := ⟨rfl, rfl, rfl, by decide +kernel, rfl, by decide +kernel, by decide +kernel⟩
def m_law : Δ → Option Out :=
  (mSeq (mRet (eFn f__law_right (aCons (eFn f__law_pot (aCons (eP (eF (eVar 0))) (aCons (eP (eC (.int 0))) aNil))) (aCons (eFn f__law_pot (aCons (eP (eF (eVar 0))) (aCons (eP (eC (.int 1))) aNil))) aNil))))
  mPass)
def f_law : List O → Option (O × Δ) := runM 1 1 m_law
theorem ok_law {Pg : Program} {w : World} {K : Lay} {mg : Str → Option Value} {base : Heap} {fd : FuncData} (B : Bl mg) (G__law_pot : DefS Pg w K mg base 1 "_law_pot" s__law_pot ["_law_script", "_law_k"] f__law_pot) (G__law_right : DefS Pg w K mg base 5 "_law_right" s__law_right ["_law_pot_here", "_law_more"] f__law_right) (Fd : FunD K.K "law" "law" (defArgs s_law) (defBody s_law) (defScope s_law) [] [] (He.fAd K.K ("law", none)) fd) (hm : mg "law" = some (.ref (He.fAd K.K ("law", none)))) : DefS Pg w K mg base 6 "law" s_law ["_law_script"] f_law :=
  def_v (k := 5) Fd hm sc_law (by decide) (fun _ _ _ _ _ _ us hl => match us, hl with | [_], _ => rfl) fun cdv Bk es s H E lk Z => by
    exact (bs_cons (b_ret (x_fn Z G__law_right (by decide) (as_cons (x_fn Z G__law_pot (by decide) (as_cons (EX.of (DX.of (x_var 0))) (as_cons (EX.of d_int) as_nil))) (as_cons (x_fn Z G__law_pot (by decide) (as_cons (EX.of (DX.of (x_var 0))) (as_cons (EX.of d_int) as_nil))) as_nil))))
  bs_nil)end K30
end
section
set_option Elab.async false
set_option linter.all false
set_option maxRecDepth 100000
set_option maxHeartbeats 4000000
namespace K30
open PySem PySem.Spec PyProof.Rows L2 Vi Vf Vo Vp Vs Vt Vu Vv Vg Vw Vx Vy Va Vb Vc Ev
def rngD : List D → Option (List D)
  | [.int j] => if rgOk j = true then some (rangeD 0 j.toNat) else none
  | _ => none
theorem rng1_D {as : Δ → Option (List D × Δ)} {δ : Δ} : eRng1 as δ = (as δ).bind fun r => (rngD r.1).map fun z => (z, r.2) := by
  unfold eRng1
  congr 1
  funext r
  obtain ⟨ds, δ1⟩ := r
  dsimp only
  split
  · rename_i j
    unfold rngD
    dsimp only
    split <;> rfl
  · rename_i h
    unfold rngD
    split
    · rename_i j
      exact absurd rfl (h j)
    · rfl
def lrD : D → Option O
  | .int i => if rgS i = true then some (.ow (rangeD 0 i.toNat)) else none
  | _ => none
theorem lr1_D {g : Δ → Option (D × Δ)} {δ : Δ} : eListR1 g δ = (g δ).bind fun r => (lrD r.1).map fun o => (.tm o, r.2) := by
  unfold eListR1
  congr 1
  funext r
  obtain ⟨ds, δ1⟩ := r
  dsimp only
  split
  · rename_i j
    unfold lrD
    dsimp only
    split <;> rfl
  · rename_i h
    unfold lrD
    split
    · rename_i j
      exact absurd rfl (h j)
    · rfl
theorem rngD_of {j : Int} (h : rgOk j = true) : rngD [.int j] = some (rangeD 0 j.toNat) := by
  unfold rngD
  dsimp only
  rw [if_pos h]
theorem lrD_of {j : Int} (h : rgS j = true) : lrD (.int j) = some (.ow (rangeD 0 j.toNat)) := by
  unfold lrD
  dsimp only
  rw [if_pos h]
def isInt : D → Bool
  | .int _ => true
  | _ => false
def isBool : D → Bool
  | .bool _ => true
  | _ => false
theorem kit_int {d : D} (h : d.hasDict = false) : isiD "int" d = some (.bool (isInt d || isBool d)) := by
  cases d <;> first | (simp [PyData.hasDict] at h; done) | (unfold isiD tyName; rw [show kitB _ "int" = some _ by kernel_rfl]; rfl)
theorem kit_bool {d : D} (h : d.hasDict = false) : isiD "bool" d = some (.bool (isBool d)) := by
  cases d <;> first | (simp [PyData.hasDict] at h; done) | (unfold isiD tyName; rw [show kitB _ "bool" = some _ by kernel_rfl]; rfl)
theorem kit_list {d : D} (h : d.hasDict = false) : isiD "list" d = some (.bool (isList d)) := by
  cases d <;> first | (simp [PyData.hasDict] at h; done) | (unfold isiD tyName; rw [show kitB _ "list" = some _ by kernel_rfl]; rfl)
theorem v_is_integer {d : D} (h : d.hasDict = false) : val f_is_integer [.fz d] = some (.fz (.bool (isInt d)), [none]) := by
  unfold val f_is_integer m_is_integer
  simp -implicitDefEqProofs only [Ev.nd1, Ev.nd2, Ev.lent_fz, Ev.lent_ow, Ev.lent_oo, Ev.lent_mx, Ev.lent_ln, Ev.lent_nil, Ev.back_nil, Ev.back_tm, Ev.back_sl, Ev.runM_at, Ev.start_at, Ev.seq_at, Ev.pass_at, Ev.brk_at, Ev.cnt_at, Ev.ret_at, Ev.retN_at, Ev.asg_at, Ev.if_at, Ev.drop_at, Ev.tgt_at, Ev.tup_at, Ev.for_at, Ev.P_at, Ev.F_at, Ev.var_at, Ev.c_at, Ev.op_at, Ev.opF_at, Ev.call_at, Ev.call1_at, Ev.un_at, Ev.isi_at, Ev.nil_at, Ev.cons_at, Ev.aNil_at, Ev.aCons_at, Ev.lst_at', Ev.tupE_at, Ev.mix_at, Ev.t_at, Ev.tru_at, Ev.and_at, Ev.or_at, Ev.not_at, Ev.andV_at, Ev.orV_at, Ev.notV_at, Ev.if2_at, Ev.ix_at', Ev.no_at, Ev.yes_at, Ev.sl_at, Ev.rep_at, Ev.fn_at, Ev.fnK_at, Ev.seqL_at, Ev.seqT_at, Ev.enum_at, Ev.zip_at, K30.rng1_D, K30.lr1_D, Ev.lc_at, Ev.lcE_at, Ev.yesT_at, Ev.meth_at, Ev.idx_at, Ev.subApp_at, Ev.sortSet_at, Ev.hName_at, Ev.hNil_at, Ev.hCons_at, Ev.hTup_at, Ev.hSub_at, Ev.turns_nil, Ev.force_fz, Ev.force_ow, Ev.force_oo, Ev.force_mx, Ev.force_sl, Ev.norm_fz, Ev.norm_ow, Ev.norm_sl, Ev.argO_sl, Ev.own_at, Ev.setOwn_at, Ev.flatF, Ev.flatO, Ev.flatL, Ev.data_tm, Ev.data_sl, Ev.toD_fz, Ev.toD_ow, Ev.toD_ln, Ev.toD_oo, Ev.toD_mx, Ev.flat_fz, Ev.flat_ow, Ev.flat_sl, Ev.retP_fz, Ev.retP_ow, Ev.retP_oo, Ev.retP_sl, Ev.putP_fz, Ev.putP_ow, Ev.putP_oo, Ev.putP_mx, Ev.putP_sl, Ev.noLn_at, Ev.argOs_nil, Ev.argOs_cons, Ev.argO_fz, Ev.argO_ow, Ev.slots_nil, Ev.slots_tm, Ev.slots_sl, Ev.bOf_b, Ev.ownP_fz, Ev.ownP_ow, Ev.ownP_sl, Ev.ownPs_nil, Ev.ownPs_cons, Ev.putAll_nil, Ev.putAll_cons, Ev.mixI_nil, Ev.mixI_fz, Ev.mixI_ow, Ev.mixI_oo, Ev.ixD_list, Ev.ixD_tup, Ev.atI_0, Ev.atI_1, Ev.ixN_0, Ev.ixN_1, Ev.gt_ii, Ev.ge_ii, Ev.lt_ii, Ev.le_ii, Ev.add_ii, Ev.add_ll, Ev.sub_ii, Ev.mul_ii, Ev.fdv_ii, Ev.mod_ii, Ev.neg_i, Ev.int_i, Ev.abs_i, Ev.max2_ii, Ev.dvm_ii, Ev.len_l, Ev.len_t, Ev.listO_l, Ev.tupO_l, Ev.ints_map, Ev.intsD_map, Ev.sorted_l, Ev.sl_list, List.map_cons, List.map_nil, List.length_cons, List.length_nil, List.replicate_succ, List.replicate_zero, List.append_nil, List.nil_append, List.cons_append, List.getElem?_cons_zero, List.getElem?_cons_succ, List.getElem?_nil, List.set_cons_zero, List.set_cons_succ, List.set_nil, Option.bind_some, Option.bind_none, Option.map_some, Option.map_none, Nat.reduceAdd, Nat.reduceSub, Nat.reduceEqDiff, Nat.reduceLeDiff, if_true, if_false, reduceCtorEq, List.nodup_nil, Bool.false_eq_true, Bool.not_true, Bool.not_false, Bool.true_and, Bool.false_and, Bool.and_true, Bool.and_false, ↓reduceIte, id_eq, List.tail_cons, Nat.zero_add, List.all_cons, List.all_nil, ne_eq, not_false_eq_true, and_self, and_true, true_and, kit_int h, kit_bool h]
  cases d <;> rfl
def isCnt : D → Bool
  | .int i => decide (0 ≤ i)
  | _ => false
theorem v_is_count {d : D} (h : d.hasDict = false) : val f_is_count [.fz d] = some (.fz (.bool (isCnt d)), [none]) := by
  unfold val f_is_count m_is_count
  simp -implicitDefEqProofs only [Ev.nd1, Ev.nd2, Ev.lent_fz, Ev.lent_ow, Ev.lent_oo, Ev.lent_mx, Ev.lent_ln, Ev.lent_nil, Ev.back_nil, Ev.back_tm, Ev.back_sl, Ev.runM_at, Ev.start_at, Ev.seq_at, Ev.pass_at, Ev.brk_at, Ev.cnt_at, Ev.ret_at, Ev.retN_at, Ev.asg_at, Ev.if_at, Ev.drop_at, Ev.tgt_at, Ev.tup_at, Ev.for_at, Ev.P_at, Ev.F_at, Ev.var_at, Ev.c_at, Ev.op_at, Ev.opF_at, Ev.call_at, Ev.call1_at, Ev.un_at, Ev.isi_at, Ev.nil_at, Ev.cons_at, Ev.aNil_at, Ev.aCons_at, Ev.lst_at', Ev.tupE_at, Ev.mix_at, Ev.t_at, Ev.tru_at, Ev.and_at, Ev.or_at, Ev.not_at, Ev.andV_at, Ev.orV_at, Ev.notV_at, Ev.if2_at, Ev.ix_at', Ev.no_at, Ev.yes_at, Ev.sl_at, Ev.rep_at, Ev.fn_at, Ev.fnK_at, Ev.seqL_at, Ev.seqT_at, Ev.enum_at, Ev.zip_at, K30.rng1_D, K30.lr1_D, Ev.lc_at, Ev.lcE_at, Ev.yesT_at, Ev.meth_at, Ev.idx_at, Ev.subApp_at, Ev.sortSet_at, Ev.hName_at, Ev.hNil_at, Ev.hCons_at, Ev.hTup_at, Ev.hSub_at, Ev.turns_nil, Ev.force_fz, Ev.force_ow, Ev.force_oo, Ev.force_mx, Ev.force_sl, Ev.norm_fz, Ev.norm_ow, Ev.norm_sl, Ev.argO_sl, Ev.own_at, Ev.setOwn_at, Ev.flatF, Ev.flatO, Ev.flatL, Ev.data_tm, Ev.data_sl, Ev.toD_fz, Ev.toD_ow, Ev.toD_ln, Ev.toD_oo, Ev.toD_mx, Ev.flat_fz, Ev.flat_ow, Ev.flat_sl, Ev.retP_fz, Ev.retP_ow, Ev.retP_oo, Ev.retP_sl, Ev.putP_fz, Ev.putP_ow, Ev.putP_oo, Ev.putP_mx, Ev.putP_sl, Ev.noLn_at, Ev.argOs_nil, Ev.argOs_cons, Ev.argO_fz, Ev.argO_ow, Ev.slots_nil, Ev.slots_tm, Ev.slots_sl, Ev.bOf_b, Ev.ownP_fz, Ev.ownP_ow, Ev.ownP_sl, Ev.ownPs_nil, Ev.ownPs_cons, Ev.putAll_nil, Ev.putAll_cons, Ev.mixI_nil, Ev.mixI_fz, Ev.mixI_ow, Ev.mixI_oo, Ev.ixD_list, Ev.ixD_tup, Ev.atI_0, Ev.atI_1, Ev.ixN_0, Ev.ixN_1, Ev.gt_ii, Ev.ge_ii, Ev.lt_ii, Ev.le_ii, Ev.add_ii, Ev.add_ll, Ev.sub_ii, Ev.mul_ii, Ev.fdv_ii, Ev.mod_ii, Ev.neg_i, Ev.int_i, Ev.abs_i, Ev.max2_ii, Ev.dvm_ii, Ev.len_l, Ev.len_t, Ev.listO_l, Ev.tupO_l, Ev.ints_map, Ev.intsD_map, Ev.sorted_l, Ev.sl_list, List.map_cons, List.map_nil, List.length_cons, List.length_nil, List.replicate_succ, List.replicate_zero, List.append_nil, List.nil_append, List.cons_append, List.getElem?_cons_zero, List.getElem?_cons_succ, List.getElem?_nil, List.set_cons_zero, List.set_cons_succ, List.set_nil, Option.bind_some, Option.bind_none, Option.map_some, Option.map_none, Nat.reduceAdd, Nat.reduceSub, Nat.reduceEqDiff, Nat.reduceLeDiff, if_true, if_false, reduceCtorEq, List.nodup_nil, Bool.false_eq_true, Bool.not_true, Bool.not_false, Bool.true_and, Bool.false_and, Bool.and_true, Bool.and_false, ↓reduceIte, id_eq, List.tail_cons, Nat.zero_add, List.all_cons, List.all_nil, ne_eq, not_false_eq_true, and_self, and_true, true_and, v_is_integer h]
  cases d <;> rfl
theorem in64_small {i : Int} (h1 : -(2 ^ 64) < i) (h2 : i < 2 ^ 64) : in64 i = true := by
  unfold in64
  simp only [Bool.and_eq_true, decide_eq_true_eq]
  exact ⟨h1, h2⟩
theorem fmod_range {a n : Int} (h : 0 < n) : 0 ≤ a.fmod n ∧ a.fmod n < n := by
  rw [Int.fmod_eq_emod_of_nonneg _ (by omega)]
  exact ⟨Int.emod_nonneg _ (by omega), Int.emod_lt_of_pos _ h⟩
theorem v_draw (a b n : Int) (h : 0 < n) (h2 : n < 1073741824) : ∃ r a' b' : Int, 0 ≤ r ∧ r < n ∧ val f__law_draw [.ln [.int a, .int b], .fz (.int n)] = some (.fz (.int r), [some (.ln [.int a', .int b']), none]) := by
  unfold val f__law_draw m__law_draw
  by_cases ha : 0 < a
  · refine ⟨a % n, a / n, b, Int.emod_nonneg _ (by omega), Int.emod_lt_of_pos _ h, ?_⟩
    simp -implicitDefEqProofs only [Ev.nd1, Ev.nd2, Ev.lent_fz, Ev.lent_ow, Ev.lent_oo, Ev.lent_mx, Ev.lent_ln, Ev.lent_nil, Ev.back_nil, Ev.back_tm, Ev.back_sl, Ev.runM_at, Ev.start_at, Ev.seq_at, Ev.pass_at, Ev.brk_at, Ev.cnt_at, Ev.ret_at, Ev.retN_at, Ev.asg_at, Ev.if_at, Ev.drop_at, Ev.tgt_at, Ev.tup_at, Ev.for_at, Ev.P_at, Ev.F_at, Ev.var_at, Ev.c_at, Ev.op_at, Ev.opF_at, Ev.call_at, Ev.call1_at, Ev.un_at, Ev.isi_at, Ev.nil_at, Ev.cons_at, Ev.aNil_at, Ev.aCons_at, Ev.lst_at', Ev.tupE_at, Ev.mix_at, Ev.t_at, Ev.tru_at, Ev.and_at, Ev.or_at, Ev.not_at, Ev.andV_at, Ev.orV_at, Ev.notV_at, Ev.if2_at, Ev.ix_at', Ev.no_at, Ev.yes_at, Ev.sl_at, Ev.rep_at, Ev.fn_at, Ev.fnK_at, Ev.seqL_at, Ev.seqT_at, Ev.enum_at, Ev.zip_at, K30.rng1_D, K30.lr1_D, Ev.lc_at, Ev.lcE_at, Ev.yesT_at, Ev.meth_at, Ev.idx_at, Ev.subApp_at, Ev.sortSet_at, Ev.hName_at, Ev.hNil_at, Ev.hCons_at, Ev.hTup_at, Ev.hSub_at, Ev.turns_nil, Ev.force_fz, Ev.force_ow, Ev.force_oo, Ev.force_mx, Ev.force_sl, Ev.norm_fz, Ev.norm_ow, Ev.norm_sl, Ev.argO_sl, Ev.own_at, Ev.setOwn_at, Ev.flatF, Ev.flatO, Ev.flatL, Ev.data_tm, Ev.data_sl, Ev.toD_fz, Ev.toD_ow, Ev.toD_ln, Ev.toD_oo, Ev.toD_mx, Ev.flat_fz, Ev.flat_ow, Ev.flat_sl, Ev.retP_fz, Ev.retP_ow, Ev.retP_oo, Ev.retP_sl, Ev.putP_fz, Ev.putP_ow, Ev.putP_oo, Ev.putP_mx, Ev.putP_sl, Ev.noLn_at, Ev.argOs_nil, Ev.argOs_cons, Ev.argO_fz, Ev.argO_ow, Ev.slots_nil, Ev.slots_tm, Ev.slots_sl, Ev.bOf_b, Ev.ownP_fz, Ev.ownP_ow, Ev.ownP_sl, Ev.ownPs_nil, Ev.ownPs_cons, Ev.putAll_nil, Ev.putAll_cons, Ev.mixI_nil, Ev.mixI_fz, Ev.mixI_ow, Ev.mixI_oo, Ev.ixD_list, Ev.ixD_tup, Ev.atI_0, Ev.atI_1, Ev.ixN_0, Ev.ixN_1, Ev.gt_ii, Ev.ge_ii, Ev.lt_ii, Ev.le_ii, Ev.add_ii, Ev.add_ll, Ev.sub_ii, Ev.mul_ii, Ev.fdv_ii, Ev.mod_ii, Ev.neg_i, Ev.int_i, Ev.abs_i, Ev.max2_ii, Ev.dvm_ii, Ev.len_l, Ev.len_t, Ev.listO_l, Ev.tupO_l, Ev.ints_map, Ev.intsD_map, Ev.sorted_l, Ev.sl_list, List.map_cons, List.map_nil, List.length_cons, List.length_nil, List.replicate_succ, List.replicate_zero, List.append_nil, List.nil_append, List.cons_append, List.getElem?_cons_zero, List.getElem?_cons_succ, List.getElem?_nil, List.set_cons_zero, List.set_cons_succ, List.set_nil, Option.bind_some, Option.bind_none, Option.map_some, Option.map_none, Nat.reduceAdd, Nat.reduceSub, Nat.reduceEqDiff, Nat.reduceLeDiff, if_true, if_false, reduceCtorEq, List.nodup_nil, Bool.false_eq_true, Bool.not_true, Bool.not_false, Bool.true_and, Bool.false_and, Bool.and_true, Bool.and_false, ↓reduceIte, id_eq, List.tail_cons, Nat.zero_add, List.all_cons, List.all_nil, ne_eq, not_false_eq_true, and_self, and_true, true_and, ha, decide_true, h, h2]
  · have hb := fmod_range (a := b * 39373 + 9221) (n := 2147483587) (by decide)
    have e1 : in64 ((b * 39373 + 9221).fmod 2147483587) = true := in64_small (by omega) (by omega)
    have hr := fmod_range (a := (((((b * 39373 + 9221).fmod 2147483587) * ((b * 39373 + 9221).fmod 2147483587)).fmod 2147483563).fdiv 17)) h
    refine ⟨_, a, (b * 39373 + 9221).fmod 2147483587, hr.1, hr.2, ?_⟩
    simp -implicitDefEqProofs only [Ev.nd1, Ev.nd2, Ev.lent_fz, Ev.lent_ow, Ev.lent_oo, Ev.lent_mx, Ev.lent_ln, Ev.lent_nil, Ev.back_nil, Ev.back_tm, Ev.back_sl, Ev.runM_at, Ev.start_at, Ev.seq_at, Ev.pass_at, Ev.brk_at, Ev.cnt_at, Ev.ret_at, Ev.retN_at, Ev.asg_at, Ev.if_at, Ev.drop_at, Ev.tgt_at, Ev.tup_at, Ev.for_at, Ev.P_at, Ev.F_at, Ev.var_at, Ev.c_at, Ev.op_at, Ev.opF_at, Ev.call_at, Ev.call1_at, Ev.un_at, Ev.isi_at, Ev.nil_at, Ev.cons_at, Ev.aNil_at, Ev.aCons_at, Ev.lst_at', Ev.tupE_at, Ev.mix_at, Ev.t_at, Ev.tru_at, Ev.and_at, Ev.or_at, Ev.not_at, Ev.andV_at, Ev.orV_at, Ev.notV_at, Ev.if2_at, Ev.ix_at', Ev.no_at, Ev.yes_at, Ev.sl_at, Ev.rep_at, Ev.fn_at, Ev.fnK_at, Ev.seqL_at, Ev.seqT_at, Ev.enum_at, Ev.zip_at, K30.rng1_D, K30.lr1_D, Ev.lc_at, Ev.lcE_at, Ev.yesT_at, Ev.meth_at, Ev.idx_at, Ev.subApp_at, Ev.sortSet_at, Ev.hName_at, Ev.hNil_at, Ev.hCons_at, Ev.hTup_at, Ev.hSub_at, Ev.turns_nil, Ev.force_fz, Ev.force_ow, Ev.force_oo, Ev.force_mx, Ev.force_sl, Ev.norm_fz, Ev.norm_ow, Ev.norm_sl, Ev.argO_sl, Ev.own_at, Ev.setOwn_at, Ev.flatF, Ev.flatO, Ev.flatL, Ev.data_tm, Ev.data_sl, Ev.toD_fz, Ev.toD_ow, Ev.toD_ln, Ev.toD_oo, Ev.toD_mx, Ev.flat_fz, Ev.flat_ow, Ev.flat_sl, Ev.retP_fz, Ev.retP_ow, Ev.retP_oo, Ev.retP_sl, Ev.putP_fz, Ev.putP_ow, Ev.putP_oo, Ev.putP_mx, Ev.putP_sl, Ev.noLn_at, Ev.argOs_nil, Ev.argOs_cons, Ev.argO_fz, Ev.argO_ow, Ev.slots_nil, Ev.slots_tm, Ev.slots_sl, Ev.bOf_b, Ev.ownP_fz, Ev.ownP_ow, Ev.ownP_sl, Ev.ownPs_nil, Ev.ownPs_cons, Ev.putAll_nil, Ev.putAll_cons, Ev.mixI_nil, Ev.mixI_fz, Ev.mixI_ow, Ev.mixI_oo, Ev.ixD_list, Ev.ixD_tup, Ev.atI_0, Ev.atI_1, Ev.ixN_0, Ev.ixN_1, Ev.gt_ii, Ev.ge_ii, Ev.lt_ii, Ev.le_ii, Ev.add_ii, Ev.add_ll, Ev.sub_ii, Ev.mul_ii, Ev.fdv_ii, Ev.mod_ii, Ev.neg_i, Ev.int_i, Ev.abs_i, Ev.max2_ii, Ev.dvm_ii, Ev.len_l, Ev.len_t, Ev.listO_l, Ev.tupO_l, Ev.ints_map, Ev.intsD_map, Ev.sorted_l, Ev.sl_list, List.map_cons, List.map_nil, List.length_cons, List.length_nil, List.replicate_succ, List.replicate_zero, List.append_nil, List.nil_append, List.cons_append, List.getElem?_cons_zero, List.getElem?_cons_succ, List.getElem?_nil, List.set_cons_zero, List.set_cons_succ, List.set_nil, Option.bind_some, Option.bind_none, Option.map_some, Option.map_none, Nat.reduceAdd, Nat.reduceSub, Nat.reduceEqDiff, Nat.reduceLeDiff, if_true, if_false, reduceCtorEq, List.nodup_nil, Bool.false_eq_true, Bool.not_true, Bool.not_false, Bool.true_and, Bool.false_and, Bool.and_true, Bool.and_false, ↓reduceIte, id_eq, List.tail_cons, Nat.zero_add, List.all_cons, List.all_nil, ne_eq, not_false_eq_true, and_self, and_true, true_and, ha, decide_false, e1, (by decide : in64 39373 = true), Bool.or_true, Bool.or_self, (by decide : (2147483587 : Int) ≠ 0), (by decide : (2147483563 : Int) ≠ 0), (by decide : (17 : Int) ≠ 0 ∧ (17 : Int).natAbs < 1073741824), (show n ≠ 0 by omega)]
theorem abs_eq (z : Int) : (if z < 0 then -z else z) = (z.natAbs : Int) := by
  split <;> omega
theorem v_pot (ns : List Int) (k : Int) (hk : 0 ≤ k) : ∃ a b : Int, val f__law_pot [.fz (.list (ns.map .int)), .fz (.int k)] = some (.ow [.int a, .int b], [none, none]) := by
  unfold val f__law_pot m__law_pot
  by_cases h : k < ((ns.map PyData.int).length : Int)
  · have hg : ∃ c : Int, atI (ns.map PyData.int) k = some (.int c) := by
      rw [Ev.atI_int hk h]
      have : k.toNat < ns.length := by rw [List.length_map] at h; omega
      exact ⟨ns[k.toNat], by simp [this]⟩
    obtain ⟨c, hc⟩ := hg
    simp -implicitDefEqProofs only [Ev.nd1, Ev.nd2, Ev.lent_fz, Ev.lent_ow, Ev.lent_oo, Ev.lent_mx, Ev.lent_ln, Ev.lent_nil, Ev.back_nil, Ev.back_tm, Ev.back_sl, Ev.runM_at, Ev.start_at, Ev.seq_at, Ev.pass_at, Ev.brk_at, Ev.cnt_at, Ev.ret_at, Ev.retN_at, Ev.asg_at, Ev.if_at, Ev.drop_at, Ev.tgt_at, Ev.tup_at, Ev.for_at, Ev.P_at, Ev.F_at, Ev.var_at, Ev.c_at, Ev.op_at, Ev.opF_at, Ev.call_at, Ev.call1_at, Ev.un_at, Ev.isi_at, Ev.nil_at, Ev.cons_at, Ev.aNil_at, Ev.aCons_at, Ev.lst_at', Ev.tupE_at, Ev.mix_at, Ev.t_at, Ev.tru_at, Ev.and_at, Ev.or_at, Ev.not_at, Ev.andV_at, Ev.orV_at, Ev.notV_at, Ev.if2_at, Ev.ix_at', Ev.no_at, Ev.yes_at, Ev.sl_at, Ev.rep_at, Ev.fn_at, Ev.fnK_at, Ev.seqL_at, Ev.seqT_at, Ev.enum_at, Ev.zip_at, K30.rng1_D, K30.lr1_D, Ev.lc_at, Ev.lcE_at, Ev.yesT_at, Ev.meth_at, Ev.idx_at, Ev.subApp_at, Ev.sortSet_at, Ev.hName_at, Ev.hNil_at, Ev.hCons_at, Ev.hTup_at, Ev.hSub_at, Ev.turns_nil, Ev.force_fz, Ev.force_ow, Ev.force_oo, Ev.force_mx, Ev.force_sl, Ev.norm_fz, Ev.norm_ow, Ev.norm_sl, Ev.argO_sl, Ev.own_at, Ev.setOwn_at, Ev.flatF, Ev.flatO, Ev.flatL, Ev.data_tm, Ev.data_sl, Ev.toD_fz, Ev.toD_ow, Ev.toD_ln, Ev.toD_oo, Ev.toD_mx, Ev.flat_fz, Ev.flat_ow, Ev.flat_sl, Ev.retP_fz, Ev.retP_ow, Ev.retP_oo, Ev.retP_sl, Ev.putP_fz, Ev.putP_ow, Ev.putP_oo, Ev.putP_mx, Ev.putP_sl, Ev.noLn_at, Ev.argOs_nil, Ev.argOs_cons, Ev.argO_fz, Ev.argO_ow, Ev.slots_nil, Ev.slots_tm, Ev.slots_sl, Ev.bOf_b, Ev.ownP_fz, Ev.ownP_ow, Ev.ownP_sl, Ev.ownPs_nil, Ev.ownPs_cons, Ev.putAll_nil, Ev.putAll_cons, Ev.mixI_nil, Ev.mixI_fz, Ev.mixI_ow, Ev.mixI_oo, Ev.ixD_list, Ev.ixD_tup, Ev.atI_0, Ev.atI_1, Ev.ixN_0, Ev.ixN_1, Ev.gt_ii, Ev.ge_ii, Ev.lt_ii, Ev.le_ii, Ev.add_ii, Ev.add_ll, Ev.sub_ii, Ev.mul_ii, Ev.fdv_ii, Ev.mod_ii, Ev.neg_i, Ev.int_i, Ev.abs_i, Ev.max2_ii, Ev.dvm_ii, Ev.len_l, Ev.len_t, Ev.listO_l, Ev.tupO_l, Ev.ints_map, Ev.intsD_map, Ev.sorted_l, Ev.sl_list, List.map_cons, List.map_nil, List.length_cons, List.length_nil, List.replicate_succ, List.replicate_zero, List.append_nil, List.nil_append, List.cons_append, List.getElem?_cons_zero, List.getElem?_cons_succ, List.getElem?_nil, List.set_cons_zero, List.set_cons_succ, List.set_nil, Option.bind_some, Option.bind_none, Option.map_some, Option.map_none, Nat.reduceAdd, Nat.reduceSub, Nat.reduceEqDiff, Nat.reduceLeDiff, if_true, if_false, reduceCtorEq, List.nodup_nil, Bool.false_eq_true, Bool.not_true, Bool.not_false, Bool.true_and, Bool.false_and, Bool.and_true, Bool.and_false, ↓reduceIte, id_eq, List.tail_cons, Nat.zero_add, List.all_cons, List.all_nil, ne_eq, not_false_eq_true, and_self, and_true, true_and, h, hc, decide_true, (by decide : in64 613 = true), (by decide : in64 40014 = true), (by decide : in64 9221 = true), Bool.or_true, Bool.true_or, (by decide : (2147483549 : Int) ≠ 0), (by decide : (2147483563 : Int) ≠ 0), (show powI (.int 10) (.int 18) = some (.int (10 ^ 18)) from rfl), (by decide : 2 ≤ sizeLine)]
    exact ⟨_, _, rfl⟩
  · simp -implicitDefEqProofs only [Ev.nd1, Ev.nd2, Ev.lent_fz, Ev.lent_ow, Ev.lent_oo, Ev.lent_mx, Ev.lent_ln, Ev.lent_nil, Ev.back_nil, Ev.back_tm, Ev.back_sl, Ev.runM_at, Ev.start_at, Ev.seq_at, Ev.pass_at, Ev.brk_at, Ev.cnt_at, Ev.ret_at, Ev.retN_at, Ev.asg_at, Ev.if_at, Ev.drop_at, Ev.tgt_at, Ev.tup_at, Ev.for_at, Ev.P_at, Ev.F_at, Ev.var_at, Ev.c_at, Ev.op_at, Ev.opF_at, Ev.call_at, Ev.call1_at, Ev.un_at, Ev.isi_at, Ev.nil_at, Ev.cons_at, Ev.aNil_at, Ev.aCons_at, Ev.lst_at', Ev.tupE_at, Ev.mix_at, Ev.t_at, Ev.tru_at, Ev.and_at, Ev.or_at, Ev.not_at, Ev.andV_at, Ev.orV_at, Ev.notV_at, Ev.if2_at, Ev.ix_at', Ev.no_at, Ev.yes_at, Ev.sl_at, Ev.rep_at, Ev.fn_at, Ev.fnK_at, Ev.seqL_at, Ev.seqT_at, Ev.enum_at, Ev.zip_at, K30.rng1_D, K30.lr1_D, Ev.lc_at, Ev.lcE_at, Ev.yesT_at, Ev.meth_at, Ev.idx_at, Ev.subApp_at, Ev.sortSet_at, Ev.hName_at, Ev.hNil_at, Ev.hCons_at, Ev.hTup_at, Ev.hSub_at, Ev.turns_nil, Ev.force_fz, Ev.force_ow, Ev.force_oo, Ev.force_mx, Ev.force_sl, Ev.norm_fz, Ev.norm_ow, Ev.norm_sl, Ev.argO_sl, Ev.own_at, Ev.setOwn_at, Ev.flatF, Ev.flatO, Ev.flatL, Ev.data_tm, Ev.data_sl, Ev.toD_fz, Ev.toD_ow, Ev.toD_ln, Ev.toD_oo, Ev.toD_mx, Ev.flat_fz, Ev.flat_ow, Ev.flat_sl, Ev.retP_fz, Ev.retP_ow, Ev.retP_oo, Ev.retP_sl, Ev.putP_fz, Ev.putP_ow, Ev.putP_oo, Ev.putP_mx, Ev.putP_sl, Ev.noLn_at, Ev.argOs_nil, Ev.argOs_cons, Ev.argO_fz, Ev.argO_ow, Ev.slots_nil, Ev.slots_tm, Ev.slots_sl, Ev.bOf_b, Ev.ownP_fz, Ev.ownP_ow, Ev.ownP_sl, Ev.ownPs_nil, Ev.ownPs_cons, Ev.putAll_nil, Ev.putAll_cons, Ev.mixI_nil, Ev.mixI_fz, Ev.mixI_ow, Ev.mixI_oo, Ev.ixD_list, Ev.ixD_tup, Ev.atI_0, Ev.atI_1, Ev.ixN_0, Ev.ixN_1, Ev.gt_ii, Ev.ge_ii, Ev.lt_ii, Ev.le_ii, Ev.add_ii, Ev.add_ll, Ev.sub_ii, Ev.mul_ii, Ev.fdv_ii, Ev.mod_ii, Ev.neg_i, Ev.int_i, Ev.abs_i, Ev.max2_ii, Ev.dvm_ii, Ev.len_l, Ev.len_t, Ev.listO_l, Ev.tupO_l, Ev.ints_map, Ev.intsD_map, Ev.sorted_l, Ev.sl_list, List.map_cons, List.map_nil, List.length_cons, List.length_nil, List.replicate_succ, List.replicate_zero, List.append_nil, List.nil_append, List.cons_append, List.getElem?_cons_zero, List.getElem?_cons_succ, List.getElem?_nil, List.set_cons_zero, List.set_cons_succ, List.set_nil, Option.bind_some, Option.bind_none, Option.map_some, Option.map_none, Nat.reduceAdd, Nat.reduceSub, Nat.reduceEqDiff, Nat.reduceLeDiff, if_true, if_false, reduceCtorEq, List.nodup_nil, Bool.false_eq_true, Bool.not_true, Bool.not_false, Bool.true_and, Bool.false_and, Bool.and_true, Bool.and_false, ↓reduceIte, id_eq, List.tail_cons, Nat.zero_add, List.all_cons, List.all_nil, ne_eq, not_false_eq_true, and_self, and_true, true_and, h, decide_false, (by decide : in64 613 = true), (by decide : in64 40014 = true), (by decide : in64 9221 = true), Bool.or_true, Bool.true_or, (by decide : (2147483549 : Int) ≠ 0), (by decide : (2147483563 : Int) ≠ 0), (show powI (.int 10) (.int 18) = some (.int (10 ^ 18)) from rfl), (by decide : 2 ≤ sizeLine)]
    exact ⟨_, _, rfl⟩
/-! ### draws -/
theorem rgOk_of {i : Int} (h1 : -(2 ^ 62) ≤ i) (h2 : i < 2 ^ 62) : rgOk i = true := by
  unfold rgOk
  simp only [Bool.and_eq_true, decide_eq_true_eq]
  exact ⟨h1, h2⟩
theorem rgS_of {i : Int} (h1 : -(2 ^ 23) ≤ i) (h2 : i ≤ 2 ^ 23) : rgS i = true := by
  unfold rgS
  simp only [Bool.and_eq_true, decide_eq_true_eq]
  exact ⟨h1, h2⟩
theorem erase_perm {α : Type} : ∀ (l : List α) (i : Nat) (h : i < l.length), (l[i] :: l.eraseIdx i).Perm l
  | [], _, h => by simp at h
  | x :: l, 0, _ => .refl _
  | x :: l, i + 1, h => by
    have h' : i < l.length := by simpa using h
    exact (List.Perm.swap x l[i] (l.eraseIdx i)).trans (.cons x (erase_perm l i h'))
theorem map_erase {α β : Type} (f : α → β) : ∀ (l : List α) (i : Nat), (l.map f).eraseIdx i = (l.eraseIdx i).map f
  | [], _ => by simp
  | x :: l, 0 => rfl
  | x :: l, i + 1 => by simp [map_erase f l i]
theorem rangeD_succ (lo : Int) (k : Nat) : rangeD lo (k + 1) = .int lo :: rangeD (lo + 1) k := by
  unfold rangeD
  rw [List.range_succ_eq_map, List.map_cons, List.map_map]
  congr 1
  · simp
  · refine List.map_congr_left fun i _ => ?_
    show PyData.int (lo + ((i + 1 : Nat) : Int)) = .int (lo + 1 + (i : Int))
    congr 1
    omega
theorem seqIx {r : Int} {n : Nat} (h0 : 0 ≤ r) (h1 : r < n) : seqIndex? r n = some r.toNat := by
  unfold seqIndex?
  simp only [if_neg (show ¬ r < 0 by omega)]
  rw [if_pos (by simp [h0, h1])]
/-- what is drawn from those that are left, one by one: left, taken -/
theorem row_turns (n m : Int) : ∀ (k : Nat) (lo : Int) (left taken : List Int) (a b : Int) (u : Option O), noLn [none, none, none, none, u] 4 = true → left.length = k → taken.length + k ≤ 24 → ∃ rest a' b' u', rest.Perm left ∧
    turns (hName 4) (mSeq (mDrop (eP (eMeth 3 mApp (eCons (eMeth 2 mPopI (eCons (eF (eFn f__law_draw (aCons (eVar 0) (aCons (eP (eCall1 lenD (eVar 2))) aNil)))) eNil)) eNil)))) mPass) (rangeD lo k) [some (.ln [.int a, .int b]), some (.fz (.int n)), some (.ow (left.map .int)), some (.ow (taken.map .int)), u] =
      some (.nx [some (.ln [.int a', .int b']), some (.fz (.int n)), some (.ow []), some (.ow ((taken ++ rest).map .int)), u']) := by
  intro k
  induction k with
  | zero =>
    intro lo left taken a b u hu hl ht
    have : left = [] := List.length_eq_zero_iff.mp hl
    subst this
    exact ⟨[], a, b, u, .refl _, by simp [rangeD, turns]⟩
  | succ k ih =>
    intro lo left taken a b u hu hl ht
    have hk : (left.length : Int) = ((k + 1 : Nat) : Int) := by rw [hl]
    obtain ⟨r, a', b', h0, h1, e⟩ := v_draw a b (left.length : Int) (by omega) (by omega)
    have hr : r.toNat < left.length := by omega
    have hseq : seqIndex? r (left.map PyData.int).length = some r.toNat := seqIx h0 (by rw [List.length_map]; exact h1)
    have hget : (left.map PyData.int)[r.toNat]? = some (.int left[r.toNat]) := by simp [hr]
    obtain ⟨rest, a2, b2, u2, hp, e2⟩ := ih (lo + 1) (left.eraseIdx r.toNat) (taken ++ [left[r.toNat]]) a' b' (some (.fz (.int lo))) rfl (by rw [List.length_eraseIdx]; simp [hr]; omega) (by simp; omega)
    refine ⟨left[r.toNat] :: rest, a2, b2, u2, ?_, ?_⟩
    · exact (List.Perm.cons _ hp).trans (erase_perm left _ hr)
    · rw [rangeD_succ]
      have hle : (left.map PyData.int).length = left.length := List.length_map ..
      have e' : val f__law_draw [.ln [.int a, .int b], .fz (.int ((left.map PyData.int).length : Int))] = some (.fz (.int r), [some (.ln [.int a', .int b']), none]) := by rw [hle]; exact e
      have hz : (taken.map PyData.int).length < sizeLine := by rw [List.length_map, sizeLine_eq]; omega
      have e3 : ((left.map PyData.int).eraseIdx r.toNat) = (left.eraseIdx r.toNat).map .int := map_erase _ _ _
      have e4 : (taken.map PyData.int ++ [PyData.int left[r.toNat]]) = (taken ++ [left[r.toNat]]).map .int := by simp
      have hn : noLn [some (.ln [.int a, .int b]), some (.fz (.int n)), some (.ow (left.map .int)), some (.ow (taken.map .int)), u] 4 = true := hu
      rw [turns, Ev.hName_at, if_pos hn]
      simp -implicitDefEqProofs only [Ev.nd1, Ev.nd2, Ev.lent_fz, Ev.lent_ow, Ev.lent_oo, Ev.lent_mx, Ev.lent_ln, Ev.lent_nil, Ev.back_nil, Ev.back_tm, Ev.back_sl, Ev.runM_at, Ev.start_at, Ev.seq_at, Ev.pass_at, Ev.brk_at, Ev.cnt_at, Ev.ret_at, Ev.retN_at, Ev.asg_at, Ev.if_at, Ev.drop_at, Ev.tgt_at, Ev.tup_at, Ev.for_at, Ev.P_at, Ev.F_at, Ev.var_at, Ev.c_at, Ev.op_at, Ev.opF_at, Ev.call_at, Ev.call1_at, Ev.un_at, Ev.isi_at, Ev.nil_at, Ev.cons_at, Ev.aNil_at, Ev.aCons_at, Ev.lst_at', Ev.tupE_at, Ev.mix_at, Ev.t_at, Ev.tru_at, Ev.and_at, Ev.or_at, Ev.not_at, Ev.andV_at, Ev.orV_at, Ev.notV_at, Ev.if2_at, Ev.ix_at', Ev.no_at, Ev.yes_at, Ev.sl_at, Ev.rep_at, Ev.fn_at, Ev.fnK_at, Ev.seqL_at, Ev.seqT_at, Ev.enum_at, Ev.zip_at, K30.rng1_D, K30.lr1_D, Ev.lc_at, Ev.lcE_at, Ev.yesT_at, Ev.meth_at, Ev.idx_at, Ev.subApp_at, Ev.sortSet_at, Ev.hName_at, Ev.hNil_at, Ev.hCons_at, Ev.hTup_at, Ev.hSub_at, Ev.turns_nil, Ev.force_fz, Ev.force_ow, Ev.force_oo, Ev.force_mx, Ev.force_sl, Ev.norm_fz, Ev.norm_ow, Ev.norm_sl, Ev.argO_sl, Ev.own_at, Ev.setOwn_at, Ev.flatF, Ev.flatO, Ev.flatL, Ev.data_tm, Ev.data_sl, Ev.toD_fz, Ev.toD_ow, Ev.toD_ln, Ev.toD_oo, Ev.toD_mx, Ev.flat_fz, Ev.flat_ow, Ev.flat_sl, Ev.retP_fz, Ev.retP_ow, Ev.retP_oo, Ev.retP_sl, Ev.putP_fz, Ev.putP_ow, Ev.putP_oo, Ev.putP_mx, Ev.putP_sl, Ev.noLn_at, Ev.argOs_nil, Ev.argOs_cons, Ev.argO_fz, Ev.argO_ow, Ev.slots_nil, Ev.slots_tm, Ev.slots_sl, Ev.bOf_b, Ev.ownP_fz, Ev.ownP_ow, Ev.ownP_sl, Ev.ownPs_nil, Ev.ownPs_cons, Ev.putAll_nil, Ev.putAll_cons, Ev.mixI_nil, Ev.mixI_fz, Ev.mixI_ow, Ev.mixI_oo, Ev.ixD_list, Ev.ixD_tup, Ev.atI_0, Ev.atI_1, Ev.ixN_0, Ev.ixN_1, Ev.gt_ii, Ev.ge_ii, Ev.lt_ii, Ev.le_ii, Ev.add_ii, Ev.add_ll, Ev.sub_ii, Ev.mul_ii, Ev.fdv_ii, Ev.mod_ii, Ev.neg_i, Ev.int_i, Ev.abs_i, Ev.max2_ii, Ev.dvm_ii, Ev.len_l, Ev.len_t, Ev.listO_l, Ev.tupO_l, Ev.ints_map, Ev.intsD_map, Ev.sorted_l, Ev.sl_list, List.map_cons, List.map_nil, List.length_cons, List.length_nil, List.replicate_succ, List.replicate_zero, List.append_nil, List.nil_append, List.cons_append, List.getElem?_cons_zero, List.getElem?_cons_succ, List.getElem?_nil, List.set_cons_zero, List.set_cons_succ, List.set_nil, Option.bind_some, Option.bind_none, Option.map_some, Option.map_none, Nat.reduceAdd, Nat.reduceSub, Nat.reduceEqDiff, Nat.reduceLeDiff, if_true, if_false, reduceCtorEq, List.nodup_nil, Bool.false_eq_true, Bool.not_true, Bool.not_false, Bool.true_and, Bool.false_and, Bool.and_true, Bool.and_false, ↓reduceIte, id_eq, List.tail_cons, Nat.zero_add, List.all_cons, List.all_nil, ne_eq, not_false_eq_true, and_self, and_true, true_and, e', mPopI, mApp, hseq, hget, (show -(2 ^ 63) ≤ r ∧ r < 2 ^ 63 by omega), hz, e3, e4]
      rw [e2]
      simp
end K30
end
section
set_option Elab.async false
set_option linter.all false
set_option maxRecDepth 100000
set_option maxHeartbeats 4000000
namespace K30
open PySem PySem.Spec PyProof.Rows L2 Vi Vf Vo Vp Vs Vt Vu Vv Vg Vw Vx Vy Va Vb Vc Ev
theorem le_size {n : Nat} (h : n ≤ 1000) : n ≤ sizeLine := by rw [sizeLine_eq]; omega
theorem size_pos : 0 < sizeLine := by rw [sizeLine_eq]; omega
abbrev L (ns : List Int) : D := .list (ns.map .int)
/-- 0, 1, .. -/
def upto (n : Nat) : List Int := (List.range n).map fun (i : Nat) => (i : Int)
theorem upto_len (n : Nat) : (upto n).length = n := by simp [upto]
theorem rangeD_upto (n : Nat) : rangeD 0 n = (upto n).map .int := by simp [rangeD, upto]
theorem rng_n {n : Nat} (hn : n ≤ 100) : rngD [.int (n : Int)] = some ((upto n).map .int) := by
  rw [rngD_of (rgOk_of (by omega) (by omega)), Int.toNat_natCast, rangeD_upto]
theorem lr_n {n : Nat} (hn : n ≤ 100) : lrD (.int (n : Int)) = some (.ow ((upto n).map .int)) := by
  rw [lrD_of (rgS_of (by omega) (by omega)), Int.toNat_natCast, rangeD_upto]
theorem v_row (n : Nat) (hn : n ≤ 24) (a b : Int) : ∃ (ns : List Int) (a' b' : Int), ns.Perm (upto n) ∧ val f__law_row [.ln [.int a, .int b], .fz (.int n)] = some (.ow (ns.map .int), [some (.ln [.int a', .int b']), none]) := by
  obtain ⟨rest, a', b', u', hp, e⟩ := row_turns n 0 n 0 (upto n) [] a b none rfl (upto_len n) (by simpa using hn)
  refine ⟨rest, a', b', hp, ?_⟩
  rw [rangeD_upto, List.map_nil] at e
  unfold val f__law_row m__law_row
  simp -implicitDefEqProofs only [Ev.nd1, Ev.nd2, Ev.lent_fz, Ev.lent_ow, Ev.lent_oo, Ev.lent_mx, Ev.lent_ln, Ev.lent_nil, Ev.back_nil, Ev.back_tm, Ev.back_sl, Ev.runM_at, Ev.start_at, Ev.seq_at, Ev.pass_at, Ev.brk_at, Ev.cnt_at, Ev.ret_at, Ev.retN_at, Ev.asg_at, Ev.if_at, Ev.drop_at, Ev.tgt_at, Ev.tup_at, Ev.for_at, Ev.P_at, Ev.F_at, Ev.var_at, Ev.c_at, Ev.op_at, Ev.opF_at, Ev.call_at, Ev.call1_at, Ev.un_at, Ev.isi_at, Ev.nil_at, Ev.cons_at, Ev.aNil_at, Ev.aCons_at, Ev.lst_at', Ev.tupE_at, Ev.mix_at, Ev.t_at, Ev.tru_at, Ev.and_at, Ev.or_at, Ev.not_at, Ev.andV_at, Ev.orV_at, Ev.notV_at, Ev.if2_at, Ev.ix_at', Ev.no_at, Ev.yes_at, Ev.sl_at, Ev.rep_at, Ev.fn_at, Ev.fnK_at, Ev.seqL_at, Ev.seqT_at, Ev.enum_at, Ev.zip_at, K30.rng1_D, K30.lr1_D, Ev.lc_at, Ev.lcE_at, Ev.yesT_at, Ev.meth_at, Ev.idx_at, Ev.subApp_at, Ev.sortSet_at, Ev.hName_at, Ev.hNil_at, Ev.hCons_at, Ev.hTup_at, Ev.hSub_at, Ev.turns_nil, Ev.force_fz, Ev.force_ow, Ev.force_oo, Ev.force_mx, Ev.force_sl, Ev.norm_fz, Ev.norm_ow, Ev.norm_sl, Ev.argO_sl, Ev.own_at, Ev.setOwn_at, Ev.flatF, Ev.flatO, Ev.flatL, Ev.data_tm, Ev.data_sl, Ev.toD_fz, Ev.toD_ow, Ev.toD_ln, Ev.toD_oo, Ev.toD_mx, Ev.flat_fz, Ev.flat_ow, Ev.flat_sl, Ev.retP_fz, Ev.retP_ow, Ev.retP_oo, Ev.retP_sl, Ev.putP_fz, Ev.putP_ow, Ev.putP_oo, Ev.putP_mx, Ev.putP_sl, Ev.noLn_at, Ev.argOs_nil, Ev.argOs_cons, Ev.argO_fz, Ev.argO_ow, Ev.slots_nil, Ev.slots_tm, Ev.slots_sl, Ev.bOf_b, Ev.ownP_fz, Ev.ownP_ow, Ev.ownP_sl, Ev.ownPs_nil, Ev.ownPs_cons, Ev.putAll_nil, Ev.putAll_cons, Ev.mixI_nil, Ev.mixI_fz, Ev.mixI_ow, Ev.mixI_oo, Ev.ixD_list, Ev.ixD_tup, Ev.atI_0, Ev.atI_1, Ev.ixN_0, Ev.ixN_1, Ev.gt_ii, Ev.ge_ii, Ev.lt_ii, Ev.le_ii, Ev.add_ii, Ev.add_ll, Ev.sub_ii, Ev.mul_ii, Ev.fdv_ii, Ev.mod_ii, Ev.neg_i, Ev.int_i, Ev.abs_i, Ev.max2_ii, Ev.dvm_ii, Ev.len_l, Ev.len_t, Ev.listO_l, Ev.tupO_l, Ev.ints_map, Ev.intsD_map, Ev.sorted_l, Ev.sl_list, List.map_cons, List.map_nil, List.length_cons, List.length_nil, List.replicate_succ, List.replicate_zero, List.append_nil, List.nil_append, List.cons_append, List.getElem?_cons_zero, List.getElem?_cons_succ, List.getElem?_nil, List.set_cons_zero, List.set_cons_succ, List.set_nil, Option.bind_some, Option.bind_none, Option.map_some, Option.map_none, Nat.reduceAdd, Nat.reduceSub, Nat.reduceEqDiff, Nat.reduceLeDiff, if_true, if_false, reduceCtorEq, List.nodup_nil, Bool.false_eq_true, Bool.not_true, Bool.not_false, Bool.true_and, Bool.false_and, Bool.and_true, Bool.and_false, ↓reduceIte, id_eq, List.tail_cons, Nat.zero_add, List.all_cons, List.all_nil, ne_eq, not_false_eq_true, and_self, and_true, true_and, rng_n (show n ≤ 100 by omega), lr_n (show n ≤ 100 by omega), Nat.zero_le, (le_size (by decide : 2 ≤ 1000)), e]
/-! ### comparisons of plain data -/
theorem shaped_i {i : Int} : SeqAt.shaped (.int i) = true := rfl
theorem shaped_b {i : Bool} : SeqAt.shaped (.bool i) = true := rfl
theorem canAll : ∀ ns : List Int, PyData.canLayAll0 (ns.map .int) = true
  | [] => rfl
  | n :: r => by simp only [List.map_cons, PyData.canLayAll0, PyData.canLay0, canAll r, Bool.and_self]
theorem depAll : ∀ ns : List Int, PyData.depthAll (ns.map .int) = 0
  | [] => rfl
  | n :: r => by simp only [List.map_cons, PyData.depthAll, PyData.depth, depAll r, Nat.max_self]
theorem shaped_L (ns : List Int) : SeqAt.shaped (L ns) = true := by
  simp [SeqAt.shaped, PyData.canLay0, PyData.depth, canAll, depAll]
theorem eqvAll_L : ∀ a b : List Int, PyData.eqvAll (a.map .int) (b.map .int) = decide (a = b)
  | [], [] => rfl
  | [], _ :: _ => rfl
  | _ :: _, [] => rfl
  | x :: a, y :: b => by
    simp only [List.map_cons, PyData.eqvAll, PyData.eqv, eqvAll_L a b, List.cons.injEq]
    by_cases h : x = y <;> by_cases g : a = b <;> simp [h, g]
theorem eq_LL (a b : List Int) : eqX (L a) (L b) = some (.bool (decide (a = b))) := by
  show eqD (L a) (L b) = _
  unfold eqD
  rw [if_pos ⟨shaped_L a, shaped_L b⟩]
  simp [PyData.eqv, eqvAll_L]
theorem eq_Lnil (a : List Int) : eqX (.list (a.map .int)) (.list []) = some (.bool (decide (a = []))) := eq_LL a []
theorem eq_nn : eqX (.list []) (.list []) = some (.bool true) := eq_LL [] []
theorem eq_ii (a b : Int) : eqX (.int a) (.int b) = some (.bool (decide (a = b))) := by
  show eqD _ _ = _
  unfold eqD
  rw [if_pos ⟨shaped_i, shaped_i⟩]
  have : PyData.eqv (.int a) (.int b) = decide (a = b) := by
    rw [Bool.eq_iff_iff]
    simp [PyData.eqv]
  rw [this]
theorem ne_ii (a b : Int) : neX (.int a) (.int b) = some (.bool (!decide (a = b))) := by
  show neD _ _ = _
  unfold neD
  rw [if_pos ⟨shaped_i, shaped_i⟩]
  have : PyData.eqv (.int a) (.int b) = decide (a = b) := by
    rw [Bool.eq_iff_iff]
    simp [PyData.eqv]
  rw [this]
theorem ne_ss (a b : Str) : neX (.str a) (.str b) = some (.bool (!decide (a = b))) := rfl
theorem eq_ss (a b : Str) : eqX (.str a) (.str b) = some (.bool (decide (a = b))) := rfl
/-! ### ranks -/
/-- a colouring: with each colour all lesser ones -/
def Full (ns : List Int) : Prop := (∀ x ∈ ns, 0 ≤ x) ∧ ∀ x ∈ ns, ∀ j, 0 ≤ j → j ≤ x → j ∈ ns
theorem sortI_perm (ns : List Int) : (sortI ns).Perm ns := List.mergeSort_perm ..
theorem sortI_len (ns : List Int) : (sortI ns).length = ns.length := (sortI_perm ns).length_eq
theorem sortI_mem {ns : List Int} {x : Int} : x ∈ sortI ns ↔ x ∈ ns := (sortI_perm ns).mem_iff
theorem sortI_sorted (ns : List Int) : (sortI ns).Pairwise (· ≤ ·) := by
  have := List.pairwise_mergeSort (le := fun a b : Int => decide (a ≤ b)) (by simp; omega) (by simp; omega) ns
  simpa [sortI] using this
def dstep (acc : List Int) (x : Int) : List Int := if acc = [] ∨ acc.getLast? ≠ some x then acc ++ [x] else acc
/-- behind rising items: unlike ones, the same -/
theorem dfold : ∀ (xs acc : List Int), xs.Pairwise (· ≤ ·) → acc.Pairwise (· < ·) → (∀ a ∈ acc, ∀ x ∈ xs, a ≤ x) → (xs.foldl dstep acc).Pairwise (· < ·) ∧ (∀ z, z ∈ xs.foldl dstep acc ↔ z ∈ acc ∨ z ∈ xs) ∧ (xs.foldl dstep acc).length ≤ acc.length + xs.length
  | [], acc, _, h, _ => ⟨h, fun z => by simp, by simp⟩
  | x :: xs, acc, hx, ha, hl => by
    obtain ⟨h1, h2⟩ := List.pairwise_cons.mp hx
    have last : ∀ z, acc.getLast? = some z → ∀ a ∈ acc, a ≤ z := fun z hz a hm => by
      obtain ⟨ys, rfl⟩ := List.getLast?_eq_some_iff.mp hz
      rcases List.mem_append.mp hm with q | q
      · exact Int.le_of_lt ((List.pairwise_append.mp ha).2.2 a q z (by simp))
      · have : a = z := by simpa using q
        omega
    by_cases hc : acc = [] ∨ acc.getLast? ≠ some x
    · have e : dstep acc x = acc ++ [x] := if_pos hc
      have lt : ∀ a ∈ acc, a < x := fun a hm => by
        have hle := hl a hm x (by simp)
        rcases hc with q | q
        · subst q; cases hm
        · cases hg : acc.getLast? with
          | none => rw [List.getLast?_eq_none_iff] at hg; subst hg; cases hm
          | some z =>
            have z1 := last z hg a hm
            have z2 := hl z (List.mem_of_getLast? hg) x (by simp)
            have : z ≠ x := fun w => q (by rw [hg, w])
            omega
      obtain ⟨a1, a2, a3⟩ := dfold xs (acc ++ [x]) h2 (List.pairwise_append.mpr ⟨ha, by simp, fun a hm b hb => by
        have : b = x := by simpa using hb
        subst this; exact lt a hm⟩) (fun a hm y hy => by
          rcases List.mem_append.mp hm with q | q
          · exact hl a q y (List.mem_cons_of_mem _ hy)
          · have : a = x := by simpa using q
            subst this; exact h1 y hy)
      rw [List.foldl_cons, e]
      refine ⟨a1, fun z => ?_, ?_⟩
      · rw [a2]; simp [or_assoc]
      · simp at a3 ⊢; omega
    · have e : dstep acc x = acc := if_neg hc
      have hg : acc.getLast? = some x := by
        have := (not_or.mp hc).2
        exact Classical.not_not.mp this
      obtain ⟨a1, a2, a3⟩ := dfold xs acc h2 ha fun a hm y hy => hl a hm y (List.mem_cons_of_mem _ hy)
      rw [List.foldl_cons, e]
      refine ⟨a1, fun z => ?_, ?_⟩
      · rw [a2, List.mem_cons]
        refine ⟨fun q => q.elim .inl fun w => .inr (.inr w), fun q => q.elim .inl fun w => w.elim (fun w => .inl ?_) .inr⟩
        rw [w]; exact List.mem_of_getLast? hg
      · simp at a3 ⊢; omega
def unl (ks : List Int) : List Int := (sortI ks).foldl dstep []
theorem unl_lt (ks : List Int) : (unl ks).Pairwise (· < ·) := (dfold _ [] (sortI_sorted ks) .nil (fun a h => by cases h)).1
theorem unl_mem {ks : List Int} {x : Int} : x ∈ unl ks ↔ x ∈ ks := by
  rw [unl, (dfold _ [] (sortI_sorted ks) .nil (fun a h => by cases h)).2.1, sortI_mem]
  simp
theorem unl_len (ks : List Int) : (unl ks).length ≤ ks.length := by
  have := (dfold _ [] (sortI_sorted ks) .nil (fun a h => by cases h)).2.2
  rw [sortI_len] at this
  simpa [unl] using this
def rnk (ks : List Int) : List Int := ks.map fun k => (((unl ks).idxOf k : Nat) : Int)
theorem rnk_len (ks : List Int) : (rnk ks).length = ks.length := by simp [rnk]
theorem rnk_full (ks : List Int) : Full (rnk ks) := by
  have nd : (unl ks).Nodup := (unl_lt ks).imp fun h => by omega
  refine ⟨fun x hx => ?_, fun x hx j h0 hj => ?_⟩
  · obtain ⟨k, _, rfl⟩ := List.mem_map.mp hx
    omega
  · obtain ⟨k, hk, rfl⟩ := List.mem_map.mp hx
    have hlt : (unl ks).idxOf k < (unl ks).length := List.idxOf_lt_length_of_mem (unl_mem.mpr hk)
    have hj2 : j.toNat < (unl ks).length := by omega
    refine List.mem_map.mpr ⟨(unl ks)[j.toNat], unl_mem.mp (List.getElem_mem hj2), ?_⟩
    have : (unl ks).idxOf (unl ks)[j.toNat] = j.toNat := by
      exact nd.idxOf_getElem _ hj2
    rw [this]
    omega
theorem noLn_fz {δ : Δ} {j : Nat} {u : Option O} (h : δ[j]? = some u) (hu : isFz u = true) : noLn δ j = true := by
  unfold noLn
  rw [h]
  cases u with
  | none => rfl
  | some o => cases o <;> first | rfl | cases hu
theorem okv_fz {δ : Δ} {j : Nat} {u : Option O} (h : δ[j]? = some u) (hu : isFz u = true) : okv δ j = true := by
  unfold okv
  rw [h]
  cases u with
  | none => rfl
  | some o => cases o <;> first | rfl | cases hu
theorem rest_nil {δ η : Δ} : restΔ δ η [] = η := rfl
theorem rest_cons {δ η : Δ} {v : Nat} {vs : List Nat} : restΔ δ η (v :: vs) = (restΔ δ η vs).set v (δ[v]?.getD none) := rfl
theorem wipe_nil {δ : Δ} : wipeΔ δ [] = δ := rfl
theorem wipe_cons {δ : Δ} {v : Nat} {vs : List Nat} : wipeΔ δ (v :: vs) = (wipeΔ δ vs).set v none := rfl
theorem rk_turns (kd : O) : ∀ (xs acc : List Int) (u : Option O), isFz u = true → acc.length + xs.length ≤ 64 → ∃ u', isFz u' = true ∧
    turns (hName 2) (mSeq (mIf (eOr (eT (eOp eqX (eVar 1) (eLst eNil))) (eT (eOp neX (eP (eIx (eVar 1) (eUn negD (eC (.int 1))))) (eVar 2)))) (mSeq (mDrop (eP (eMeth 1 mApp (eCons (eF (eVar 2)) eNil)))) mPass) mPass) mPass) (xs.map .int) [some kd, some (.ow (acc.map .int)), u] =
      some (.nx [some kd, some (.ow ((xs.foldl dstep acc).map .int)), u']) := by
  intro xs
  induction xs with
  | nil => intro acc u hu hl; exact ⟨u, hu, rfl⟩
  | cons x xs ih =>
    intro acc u hu hl
    have hn : noLn [some kd, some (.ow (acc.map .int)), u] 2 = true := noLn_fz (j := 2) rfl hu
    have hz : (acc.map PyData.int).length < sizeLine := by rw [List.length_map, sizeLine_eq]; simp at hl; omega
    obtain ⟨u', hu', e⟩ := ih (dstep acc x) (some (.fz (.int x))) rfl (by
      have : (dstep acc x).length ≤ acc.length + 1 := by
        unfold dstep
        split
        · simp
        · omega
      simp at hl
      omega)
    refine ⟨u', hu', ?_⟩
    rw [List.map_cons, turns, Ev.hName_at, if_pos hn, List.foldl_cons, ← e]
    by_cases h1 : acc = []
    · subst h1
      simp -implicitDefEqProofs only [Ev.nd1, Ev.nd2, Ev.lent_fz, Ev.lent_ow, Ev.lent_oo, Ev.lent_mx, Ev.lent_ln, Ev.lent_nil, Ev.back_nil, Ev.back_tm, Ev.back_sl, Ev.runM_at, Ev.start_at, Ev.seq_at, Ev.pass_at, Ev.brk_at, Ev.cnt_at, Ev.ret_at, Ev.retN_at, Ev.asg_at, Ev.if_at, Ev.drop_at, Ev.tgt_at, Ev.tup_at, Ev.for_at, Ev.P_at, Ev.F_at, Ev.var_at, Ev.c_at, Ev.op_at, Ev.opF_at, Ev.call_at, Ev.call1_at, Ev.un_at, Ev.isi_at, Ev.nil_at, Ev.cons_at, Ev.aNil_at, Ev.aCons_at, Ev.lst_at', Ev.tupE_at, Ev.mix_at, Ev.t_at, Ev.tru_at, Ev.and_at, Ev.or_at, Ev.not_at, Ev.andV_at, Ev.orV_at, Ev.notV_at, Ev.if2_at, Ev.ix_at', Ev.no_at, Ev.yes_at, Ev.sl_at, Ev.rep_at, Ev.fn_at, Ev.fnK_at, Ev.seqL_at, Ev.seqT_at, Ev.enum_at, Ev.zip_at, K30.rng1_D, K30.lr1_D, Ev.lc_at, Ev.lcE_at, Ev.yesT_at, Ev.meth_at, Ev.idx_at, Ev.subApp_at, Ev.sortSet_at, Ev.hName_at, Ev.hNil_at, Ev.hCons_at, Ev.hTup_at, Ev.hSub_at, Ev.turns_nil, Ev.force_fz, Ev.force_ow, Ev.force_oo, Ev.force_mx, Ev.force_sl, Ev.norm_fz, Ev.norm_ow, Ev.norm_sl, Ev.argO_sl, Ev.own_at, Ev.setOwn_at, Ev.flatF, Ev.flatO, Ev.flatL, Ev.data_tm, Ev.data_sl, Ev.toD_fz, Ev.toD_ow, Ev.toD_ln, Ev.toD_oo, Ev.toD_mx, Ev.flat_fz, Ev.flat_ow, Ev.flat_sl, Ev.retP_fz, Ev.retP_ow, Ev.retP_oo, Ev.retP_sl, Ev.putP_fz, Ev.putP_ow, Ev.putP_oo, Ev.putP_mx, Ev.putP_sl, Ev.noLn_at, Ev.argOs_nil, Ev.argOs_cons, Ev.argO_fz, Ev.argO_ow, Ev.slots_nil, Ev.slots_tm, Ev.slots_sl, Ev.bOf_b, Ev.ownP_fz, Ev.ownP_ow, Ev.ownP_sl, Ev.ownPs_nil, Ev.ownPs_cons, Ev.putAll_nil, Ev.putAll_cons, Ev.mixI_nil, Ev.mixI_fz, Ev.mixI_ow, Ev.mixI_oo, Ev.ixD_list, Ev.ixD_tup, Ev.atI_0, Ev.atI_1, Ev.ixN_0, Ev.ixN_1, Ev.gt_ii, Ev.ge_ii, Ev.lt_ii, Ev.le_ii, Ev.add_ii, Ev.add_ll, Ev.sub_ii, Ev.mul_ii, Ev.fdv_ii, Ev.mod_ii, Ev.neg_i, Ev.int_i, Ev.abs_i, Ev.max2_ii, Ev.dvm_ii, Ev.len_l, Ev.len_t, Ev.listO_l, Ev.tupO_l, Ev.ints_map, Ev.intsD_map, Ev.sorted_l, Ev.sl_list, List.map_cons, List.map_nil, List.length_cons, List.length_nil, List.replicate_succ, List.replicate_zero, List.append_nil, List.nil_append, List.cons_append, List.getElem?_cons_zero, List.getElem?_cons_succ, List.getElem?_nil, List.set_cons_zero, List.set_cons_succ, List.set_nil, Option.bind_some, Option.bind_none, Option.map_some, Option.map_none, Nat.reduceAdd, Nat.reduceSub, Nat.reduceEqDiff, Nat.reduceLeDiff, if_true, if_false, reduceCtorEq, List.nodup_nil, Bool.false_eq_true, Bool.not_true, Bool.not_false, Bool.true_and, Bool.false_and, Bool.and_true, Bool.and_false, ↓reduceIte, id_eq, List.tail_cons, Nat.zero_add, List.all_cons, List.all_nil, ne_eq, not_false_eq_true, and_self, and_true, true_and, eq_nn, decide_true, mApp, size_pos, Nat.zero_le, dstep, true_or, List.nil_append]
    · have hq : atI (acc.map PyData.int) (-1) = acc.getLast?.map .int := by
        obtain ⟨ys, z, rfl⟩ : ∃ ys z, acc = ys ++ [z] := ⟨acc.dropLast, acc.getLast h1, (List.dropLast_concat_getLast h1).symm⟩
        have h2 : ixN ((ys ++ [z]).map PyData.int).length (-1) = some ys.length := by
          unfold ixN
          rw [if_neg (by omega), if_pos (by simp; omega)]
          simp
          omega
        unfold atI
        rw [h2]
        simp
      cases hg : acc.getLast? with
      | none => exact absurd (List.getLast?_eq_none_iff.mp hg) h1
      | some z =>
        rw [hg, Option.map_some] at hq
        by_cases h2 : z = x
        · subst h2
          have ed : dstep acc z = acc := if_neg (by simp [h1, hg])
          simp -implicitDefEqProofs only [Ev.nd1, Ev.nd2, Ev.lent_fz, Ev.lent_ow, Ev.lent_oo, Ev.lent_mx, Ev.lent_ln, Ev.lent_nil, Ev.back_nil, Ev.back_tm, Ev.back_sl, Ev.runM_at, Ev.start_at, Ev.seq_at, Ev.pass_at, Ev.brk_at, Ev.cnt_at, Ev.ret_at, Ev.retN_at, Ev.asg_at, Ev.if_at, Ev.drop_at, Ev.tgt_at, Ev.tup_at, Ev.for_at, Ev.P_at, Ev.F_at, Ev.var_at, Ev.c_at, Ev.op_at, Ev.opF_at, Ev.call_at, Ev.call1_at, Ev.un_at, Ev.isi_at, Ev.nil_at, Ev.cons_at, Ev.aNil_at, Ev.aCons_at, Ev.lst_at', Ev.tupE_at, Ev.mix_at, Ev.t_at, Ev.tru_at, Ev.and_at, Ev.or_at, Ev.not_at, Ev.andV_at, Ev.orV_at, Ev.notV_at, Ev.if2_at, Ev.ix_at', Ev.no_at, Ev.yes_at, Ev.sl_at, Ev.rep_at, Ev.fn_at, Ev.fnK_at, Ev.seqL_at, Ev.seqT_at, Ev.enum_at, Ev.zip_at, K30.rng1_D, K30.lr1_D, Ev.lc_at, Ev.lcE_at, Ev.yesT_at, Ev.meth_at, Ev.idx_at, Ev.subApp_at, Ev.sortSet_at, Ev.hName_at, Ev.hNil_at, Ev.hCons_at, Ev.hTup_at, Ev.hSub_at, Ev.turns_nil, Ev.force_fz, Ev.force_ow, Ev.force_oo, Ev.force_mx, Ev.force_sl, Ev.norm_fz, Ev.norm_ow, Ev.norm_sl, Ev.argO_sl, Ev.own_at, Ev.setOwn_at, Ev.flatF, Ev.flatO, Ev.flatL, Ev.data_tm, Ev.data_sl, Ev.toD_fz, Ev.toD_ow, Ev.toD_ln, Ev.toD_oo, Ev.toD_mx, Ev.flat_fz, Ev.flat_ow, Ev.flat_sl, Ev.retP_fz, Ev.retP_ow, Ev.retP_oo, Ev.retP_sl, Ev.putP_fz, Ev.putP_ow, Ev.putP_oo, Ev.putP_mx, Ev.putP_sl, Ev.noLn_at, Ev.argOs_nil, Ev.argOs_cons, Ev.argO_fz, Ev.argO_ow, Ev.slots_nil, Ev.slots_tm, Ev.slots_sl, Ev.bOf_b, Ev.ownP_fz, Ev.ownP_ow, Ev.ownP_sl, Ev.ownPs_nil, Ev.ownPs_cons, Ev.putAll_nil, Ev.putAll_cons, Ev.mixI_nil, Ev.mixI_fz, Ev.mixI_ow, Ev.mixI_oo, Ev.ixD_list, Ev.ixD_tup, Ev.atI_0, Ev.atI_1, Ev.ixN_0, Ev.ixN_1, Ev.gt_ii, Ev.ge_ii, Ev.lt_ii, Ev.le_ii, Ev.add_ii, Ev.add_ll, Ev.sub_ii, Ev.mul_ii, Ev.fdv_ii, Ev.mod_ii, Ev.neg_i, Ev.int_i, Ev.abs_i, Ev.max2_ii, Ev.dvm_ii, Ev.len_l, Ev.len_t, Ev.listO_l, Ev.tupO_l, Ev.ints_map, Ev.intsD_map, Ev.sorted_l, Ev.sl_list, List.map_cons, List.map_nil, List.length_cons, List.length_nil, List.replicate_succ, List.replicate_zero, List.append_nil, List.nil_append, List.cons_append, List.getElem?_cons_zero, List.getElem?_cons_succ, List.getElem?_nil, List.set_cons_zero, List.set_cons_succ, List.set_nil, Option.bind_some, Option.bind_none, Option.map_some, Option.map_none, Nat.reduceAdd, Nat.reduceSub, Nat.reduceEqDiff, Nat.reduceLeDiff, if_true, if_false, reduceCtorEq, List.nodup_nil, Bool.false_eq_true, Bool.not_true, Bool.not_false, Bool.true_and, Bool.false_and, Bool.and_true, Bool.and_false, ↓reduceIte, id_eq, List.tail_cons, Nat.zero_add, List.all_cons, List.all_nil, ne_eq, not_false_eq_true, and_self, and_true, true_and, eq_Lnil, List.map_nil, h1, decide_false, hq, ne_ii, decide_true, ed, Nat.zero_le]
        · have ed : dstep acc x = acc ++ [x] := if_pos (.inr (by rw [hg]; simpa using h2))
          simp -implicitDefEqProofs only [Ev.nd1, Ev.nd2, Ev.lent_fz, Ev.lent_ow, Ev.lent_oo, Ev.lent_mx, Ev.lent_ln, Ev.lent_nil, Ev.back_nil, Ev.back_tm, Ev.back_sl, Ev.runM_at, Ev.start_at, Ev.seq_at, Ev.pass_at, Ev.brk_at, Ev.cnt_at, Ev.ret_at, Ev.retN_at, Ev.asg_at, Ev.if_at, Ev.drop_at, Ev.tgt_at, Ev.tup_at, Ev.for_at, Ev.P_at, Ev.F_at, Ev.var_at, Ev.c_at, Ev.op_at, Ev.opF_at, Ev.call_at, Ev.call1_at, Ev.un_at, Ev.isi_at, Ev.nil_at, Ev.cons_at, Ev.aNil_at, Ev.aCons_at, Ev.lst_at', Ev.tupE_at, Ev.mix_at, Ev.t_at, Ev.tru_at, Ev.and_at, Ev.or_at, Ev.not_at, Ev.andV_at, Ev.orV_at, Ev.notV_at, Ev.if2_at, Ev.ix_at', Ev.no_at, Ev.yes_at, Ev.sl_at, Ev.rep_at, Ev.fn_at, Ev.fnK_at, Ev.seqL_at, Ev.seqT_at, Ev.enum_at, Ev.zip_at, K30.rng1_D, K30.lr1_D, Ev.lc_at, Ev.lcE_at, Ev.yesT_at, Ev.meth_at, Ev.idx_at, Ev.subApp_at, Ev.sortSet_at, Ev.hName_at, Ev.hNil_at, Ev.hCons_at, Ev.hTup_at, Ev.hSub_at, Ev.turns_nil, Ev.force_fz, Ev.force_ow, Ev.force_oo, Ev.force_mx, Ev.force_sl, Ev.norm_fz, Ev.norm_ow, Ev.norm_sl, Ev.argO_sl, Ev.own_at, Ev.setOwn_at, Ev.flatF, Ev.flatO, Ev.flatL, Ev.data_tm, Ev.data_sl, Ev.toD_fz, Ev.toD_ow, Ev.toD_ln, Ev.toD_oo, Ev.toD_mx, Ev.flat_fz, Ev.flat_ow, Ev.flat_sl, Ev.retP_fz, Ev.retP_ow, Ev.retP_oo, Ev.retP_sl, Ev.putP_fz, Ev.putP_ow, Ev.putP_oo, Ev.putP_mx, Ev.putP_sl, Ev.noLn_at, Ev.argOs_nil, Ev.argOs_cons, Ev.argO_fz, Ev.argO_ow, Ev.slots_nil, Ev.slots_tm, Ev.slots_sl, Ev.bOf_b, Ev.ownP_fz, Ev.ownP_ow, Ev.ownP_sl, Ev.ownPs_nil, Ev.ownPs_cons, Ev.putAll_nil, Ev.putAll_cons, Ev.mixI_nil, Ev.mixI_fz, Ev.mixI_ow, Ev.mixI_oo, Ev.ixD_list, Ev.ixD_tup, Ev.atI_0, Ev.atI_1, Ev.ixN_0, Ev.ixN_1, Ev.gt_ii, Ev.ge_ii, Ev.lt_ii, Ev.le_ii, Ev.add_ii, Ev.add_ll, Ev.sub_ii, Ev.mul_ii, Ev.fdv_ii, Ev.mod_ii, Ev.neg_i, Ev.int_i, Ev.abs_i, Ev.max2_ii, Ev.dvm_ii, Ev.len_l, Ev.len_t, Ev.listO_l, Ev.tupO_l, Ev.ints_map, Ev.intsD_map, Ev.sorted_l, Ev.sl_list, List.map_cons, List.map_nil, List.length_cons, List.length_nil, List.replicate_succ, List.replicate_zero, List.append_nil, List.nil_append, List.cons_append, List.getElem?_cons_zero, List.getElem?_cons_succ, List.getElem?_nil, List.set_cons_zero, List.set_cons_succ, List.set_nil, Option.bind_some, Option.bind_none, Option.map_some, Option.map_none, Nat.reduceAdd, Nat.reduceSub, Nat.reduceEqDiff, Nat.reduceLeDiff, if_true, if_false, reduceCtorEq, List.nodup_nil, Bool.false_eq_true, Bool.not_true, Bool.not_false, Bool.true_and, Bool.false_and, Bool.and_true, Bool.and_false, ↓reduceIte, id_eq, List.tail_cons, Nat.zero_add, List.all_cons, List.all_nil, ne_eq, not_false_eq_true, and_self, and_true, true_and, eq_Lnil, List.map_nil, h1, h2, decide_false, hq, ne_ii, decide_true, ed, mApp, hz, Nat.zero_le, List.map_append]
end K30
end
section
set_option Elab.async false
set_option linter.all false
set_option maxRecDepth 100000
set_option maxHeartbeats 4000000
namespace K30
open PySem PySem.Spec PyProof.Rows L2 Vi Vf Vo Vp Vs Vt Vu Vv Vg Vw Vx Vy Va Vb Vc Ev
theorem idx_L (us : List Int) (x : Int) (h : x ∈ us) : idxD (L us) (.int x) = some (.int (us.idxOf x : Nat)) := by
  unfold idxD
  dsimp only
  rw [if_pos ⟨shaped_L us, shaped_i⟩]
  have : (us.map PyData.int).findIdx? (fun z => PyData.eqv z (.int x)) = some (us.idxOf x) := by
    rw [List.findIdx?_map]
    have e : ((fun z => PyData.eqv z (.int x)) ∘ PyData.int) = fun z => z == x := by
      funext z
      simp [PyData.eqv]
    rw [e]
    have hl := List.idxOf_lt_length_of_mem h
    rw [List.findIdx?_eq_some_iff_getElem]
    refine ⟨hl, by simp, fun j hj => ?_⟩
    unfold List.idxOf at hj
    have := List.not_of_lt_findIdx hj
    simpa using this
  rw [this]
  rfl
theorem ix_go (K1 O1 : Option O) (us : List Int) : ∀ (ks zs : List Int) (h : ∀ x ∈ ks, x ∈ us), lcGo [2] (hName 2) eYesT (eIdx (eVar 1) (eVar 2)) (ks.map .int) [K1, some (.ow (us.map .int)), none] = some ((ks.map fun k => (((us.idxOf k : Nat)) : Int)).map .int, [K1, some (.ow (us.map .int)), none])
  | [], _, _ => rfl
  | k :: ks, zs, h => by
    have ih := ix_go K1 O1 us ks zs fun x hx => h x (List.mem_cons_of_mem _ hx)
    rw [List.map_cons, lcGo]
    simp -implicitDefEqProofs only [Ev.nd1, Ev.nd2, Ev.lent_fz, Ev.lent_ow, Ev.lent_oo, Ev.lent_mx, Ev.lent_ln, Ev.lent_nil, Ev.back_nil, Ev.back_tm, Ev.back_sl, Ev.runM_at, Ev.start_at, Ev.seq_at, Ev.pass_at, Ev.brk_at, Ev.cnt_at, Ev.ret_at, Ev.retN_at, Ev.asg_at, Ev.if_at, Ev.drop_at, Ev.tgt_at, Ev.tup_at, Ev.for_at, Ev.P_at, Ev.F_at, Ev.var_at, Ev.c_at, Ev.op_at, Ev.opF_at, Ev.call_at, Ev.call1_at, Ev.un_at, Ev.isi_at, Ev.nil_at, Ev.cons_at, Ev.aNil_at, Ev.aCons_at, Ev.lst_at', Ev.tupE_at, Ev.mix_at, Ev.t_at, Ev.tru_at, Ev.and_at, Ev.or_at, Ev.not_at, Ev.andV_at, Ev.orV_at, Ev.notV_at, Ev.if2_at, Ev.ix_at', Ev.no_at, Ev.yes_at, Ev.sl_at, Ev.rep_at, Ev.fn_at, Ev.fnK_at, Ev.seqL_at, Ev.seqT_at, Ev.enum_at, Ev.zip_at, K30.rng1_D, K30.lr1_D, Ev.lc_at, Ev.lcE_at, Ev.yesT_at, Ev.meth_at, Ev.idx_at, Ev.subApp_at, Ev.sortSet_at, Ev.hName_at, Ev.hNil_at, Ev.hCons_at, Ev.hTup_at, Ev.hSub_at, Ev.turns_nil, Ev.force_fz, Ev.force_ow, Ev.force_oo, Ev.force_mx, Ev.force_sl, Ev.norm_fz, Ev.norm_ow, Ev.norm_sl, Ev.argO_sl, Ev.own_at, Ev.setOwn_at, Ev.flatF, Ev.flatO, Ev.flatL, Ev.data_tm, Ev.data_sl, Ev.toD_fz, Ev.toD_ow, Ev.toD_ln, Ev.toD_oo, Ev.toD_mx, Ev.flat_fz, Ev.flat_ow, Ev.flat_sl, Ev.retP_fz, Ev.retP_ow, Ev.retP_oo, Ev.retP_sl, Ev.putP_fz, Ev.putP_ow, Ev.putP_oo, Ev.putP_mx, Ev.putP_sl, Ev.noLn_at, Ev.argOs_nil, Ev.argOs_cons, Ev.argO_fz, Ev.argO_ow, Ev.slots_nil, Ev.slots_tm, Ev.slots_sl, Ev.bOf_b, Ev.ownP_fz, Ev.ownP_ow, Ev.ownP_sl, Ev.ownPs_nil, Ev.ownPs_cons, Ev.putAll_nil, Ev.putAll_cons, Ev.mixI_nil, Ev.mixI_fz, Ev.mixI_ow, Ev.mixI_oo, Ev.ixD_list, Ev.ixD_tup, Ev.atI_0, Ev.atI_1, Ev.ixN_0, Ev.ixN_1, Ev.gt_ii, Ev.ge_ii, Ev.lt_ii, Ev.le_ii, Ev.add_ii, Ev.add_ll, Ev.sub_ii, Ev.mul_ii, Ev.fdv_ii, Ev.mod_ii, Ev.neg_i, Ev.int_i, Ev.abs_i, Ev.max2_ii, Ev.dvm_ii, Ev.len_l, Ev.len_t, Ev.listO_l, Ev.tupO_l, Ev.ints_map, Ev.intsD_map, Ev.sorted_l, Ev.sl_list, List.map_cons, List.map_nil, List.length_cons, List.length_nil, List.replicate_succ, List.replicate_zero, List.append_nil, List.nil_append, List.cons_append, List.getElem?_cons_zero, List.getElem?_cons_succ, List.getElem?_nil, List.set_cons_zero, List.set_cons_succ, List.set_nil, Option.bind_some, Option.bind_none, Option.map_some, Option.map_none, Nat.reduceAdd, Nat.reduceSub, Nat.reduceEqDiff, Nat.reduceLeDiff, if_true, if_false, reduceCtorEq, List.nodup_nil, Bool.false_eq_true, Bool.not_true, Bool.not_false, Bool.true_and, Bool.false_and, Bool.and_true, Bool.and_false, ↓reduceIte, id_eq, List.tail_cons, Nat.zero_add, List.all_cons, List.all_nil, ne_eq, not_false_eq_true, and_self, and_true, true_and, isList, idx_L us k (h k List.mem_cons_self), wipeΔ, ih]
theorem v_ranked (ks : List Int) (hl : ks.length ≤ 40) : val f__law_ranked [.fz (.list (ks.map .int))] = some (.ow ((rnk ks).map .int), [none]) := by
  obtain ⟨u, hu, e⟩ := rk_turns (.fz (L ks)) (sortI ks) [] none rfl (by rw [sortI_len]; simp; omega)
  have hz : (ks.map PyData.int).length ≤ sizeLine := by rw [List.length_map, sizeLine_eq]; omega
  have ho : okv [some (.fz (L ks)), some (.ow ((unl ks).map .int)), u] 2 = true := okv_fz (j := 2) rfl hu
  have hg := ix_go (some (.fz (L ks))) none (unl ks) ks [] fun x hx => unl_mem.mpr hx
  unfold val f__law_ranked m__law_ranked
  simp -implicitDefEqProofs only [Ev.nd1, Ev.nd2, Ev.lent_fz, Ev.lent_ow, Ev.lent_oo, Ev.lent_mx, Ev.lent_ln, Ev.lent_nil, Ev.back_nil, Ev.back_tm, Ev.back_sl, Ev.runM_at, Ev.start_at, Ev.seq_at, Ev.pass_at, Ev.brk_at, Ev.cnt_at, Ev.ret_at, Ev.retN_at, Ev.asg_at, Ev.if_at, Ev.drop_at, Ev.tgt_at, Ev.tup_at, Ev.for_at, Ev.P_at, Ev.F_at, Ev.var_at, Ev.c_at, Ev.op_at, Ev.opF_at, Ev.call_at, Ev.call1_at, Ev.un_at, Ev.isi_at, Ev.nil_at, Ev.cons_at, Ev.aNil_at, Ev.aCons_at, Ev.lst_at', Ev.tupE_at, Ev.mix_at, Ev.t_at, Ev.tru_at, Ev.and_at, Ev.or_at, Ev.not_at, Ev.andV_at, Ev.orV_at, Ev.notV_at, Ev.if2_at, Ev.ix_at', Ev.no_at, Ev.yes_at, Ev.sl_at, Ev.rep_at, Ev.fn_at, Ev.fnK_at, Ev.seqL_at, Ev.seqT_at, Ev.enum_at, Ev.zip_at, K30.rng1_D, K30.lr1_D, Ev.lc_at, Ev.lcE_at, Ev.yesT_at, Ev.meth_at, Ev.idx_at, Ev.subApp_at, Ev.sortSet_at, Ev.hName_at, Ev.hNil_at, Ev.hCons_at, Ev.hTup_at, Ev.hSub_at, Ev.turns_nil, Ev.force_fz, Ev.force_ow, Ev.force_oo, Ev.force_mx, Ev.force_sl, Ev.norm_fz, Ev.norm_ow, Ev.norm_sl, Ev.argO_sl, Ev.own_at, Ev.setOwn_at, Ev.flatF, Ev.flatO, Ev.flatL, Ev.data_tm, Ev.data_sl, Ev.toD_fz, Ev.toD_ow, Ev.toD_ln, Ev.toD_oo, Ev.toD_mx, Ev.flat_fz, Ev.flat_ow, Ev.flat_sl, Ev.retP_fz, Ev.retP_ow, Ev.retP_oo, Ev.retP_sl, Ev.putP_fz, Ev.putP_ow, Ev.putP_oo, Ev.putP_mx, Ev.putP_sl, Ev.noLn_at, Ev.argOs_nil, Ev.argOs_cons, Ev.argO_fz, Ev.argO_ow, Ev.slots_nil, Ev.slots_tm, Ev.slots_sl, Ev.bOf_b, Ev.ownP_fz, Ev.ownP_ow, Ev.ownP_sl, Ev.ownPs_nil, Ev.ownPs_cons, Ev.putAll_nil, Ev.putAll_cons, Ev.mixI_nil, Ev.mixI_fz, Ev.mixI_ow, Ev.mixI_oo, Ev.ixD_list, Ev.ixD_tup, Ev.atI_0, Ev.atI_1, Ev.ixN_0, Ev.ixN_1, Ev.gt_ii, Ev.ge_ii, Ev.lt_ii, Ev.le_ii, Ev.add_ii, Ev.add_ll, Ev.sub_ii, Ev.mul_ii, Ev.fdv_ii, Ev.mod_ii, Ev.neg_i, Ev.int_i, Ev.abs_i, Ev.max2_ii, Ev.dvm_ii, Ev.len_l, Ev.len_t, Ev.listO_l, Ev.tupO_l, Ev.ints_map, Ev.intsD_map, Ev.sorted_l, Ev.sl_list, List.map_cons, List.map_nil, List.length_cons, List.length_nil, List.replicate_succ, List.replicate_zero, List.append_nil, List.nil_append, List.cons_append, List.getElem?_cons_zero, List.getElem?_cons_succ, List.getElem?_nil, List.set_cons_zero, List.set_cons_succ, List.set_nil, Option.bind_some, Option.bind_none, Option.map_some, Option.map_none, Nat.reduceAdd, Nat.reduceSub, Nat.reduceEqDiff, Nat.reduceLeDiff, if_true, if_false, reduceCtorEq, List.nodup_nil, Bool.false_eq_true, Bool.not_true, Bool.not_false, Bool.true_and, Bool.false_and, Bool.and_true, Bool.and_false, ↓reduceIte, id_eq, List.tail_cons, Nat.zero_add, List.all_cons, List.all_nil, ne_eq, not_false_eq_true, and_self, and_true, true_and, Nat.zero_le]
  rw [List.map_nil] at e
  rw [e]
  show Option.map _ _ = _
  rw [← show unl ks = (sortI ks).foldl dstep [] from rfl]
  simp -implicitDefEqProofs only [Ev.nd1, Ev.nd2, Ev.lent_fz, Ev.lent_ow, Ev.lent_oo, Ev.lent_mx, Ev.lent_ln, Ev.lent_nil, Ev.back_nil, Ev.back_tm, Ev.back_sl, Ev.runM_at, Ev.start_at, Ev.seq_at, Ev.pass_at, Ev.brk_at, Ev.cnt_at, Ev.ret_at, Ev.retN_at, Ev.asg_at, Ev.if_at, Ev.drop_at, Ev.tgt_at, Ev.tup_at, Ev.for_at, Ev.P_at, Ev.F_at, Ev.var_at, Ev.c_at, Ev.op_at, Ev.opF_at, Ev.call_at, Ev.call1_at, Ev.un_at, Ev.isi_at, Ev.nil_at, Ev.cons_at, Ev.aNil_at, Ev.aCons_at, Ev.lst_at', Ev.tupE_at, Ev.mix_at, Ev.t_at, Ev.tru_at, Ev.and_at, Ev.or_at, Ev.not_at, Ev.andV_at, Ev.orV_at, Ev.notV_at, Ev.if2_at, Ev.ix_at', Ev.no_at, Ev.yes_at, Ev.sl_at, Ev.rep_at, Ev.fn_at, Ev.fnK_at, Ev.seqL_at, Ev.seqT_at, Ev.enum_at, Ev.zip_at, K30.rng1_D, K30.lr1_D, Ev.lc_at, Ev.lcE_at, Ev.yesT_at, Ev.meth_at, Ev.idx_at, Ev.subApp_at, Ev.sortSet_at, Ev.hName_at, Ev.hNil_at, Ev.hCons_at, Ev.hTup_at, Ev.hSub_at, Ev.turns_nil, Ev.force_fz, Ev.force_ow, Ev.force_oo, Ev.force_mx, Ev.force_sl, Ev.norm_fz, Ev.norm_ow, Ev.norm_sl, Ev.argO_sl, Ev.own_at, Ev.setOwn_at, Ev.flatF, Ev.flatO, Ev.flatL, Ev.data_tm, Ev.data_sl, Ev.toD_fz, Ev.toD_ow, Ev.toD_ln, Ev.toD_oo, Ev.toD_mx, Ev.flat_fz, Ev.flat_ow, Ev.flat_sl, Ev.retP_fz, Ev.retP_ow, Ev.retP_oo, Ev.retP_sl, Ev.putP_fz, Ev.putP_ow, Ev.putP_oo, Ev.putP_mx, Ev.putP_sl, Ev.noLn_at, Ev.argOs_nil, Ev.argOs_cons, Ev.argO_fz, Ev.argO_ow, Ev.slots_nil, Ev.slots_tm, Ev.slots_sl, Ev.bOf_b, Ev.ownP_fz, Ev.ownP_ow, Ev.ownP_sl, Ev.ownPs_nil, Ev.ownPs_cons, Ev.putAll_nil, Ev.putAll_cons, Ev.mixI_nil, Ev.mixI_fz, Ev.mixI_ow, Ev.mixI_oo, Ev.ixD_list, Ev.ixD_tup, Ev.atI_0, Ev.atI_1, Ev.ixN_0, Ev.ixN_1, Ev.gt_ii, Ev.ge_ii, Ev.lt_ii, Ev.le_ii, Ev.add_ii, Ev.add_ll, Ev.sub_ii, Ev.mul_ii, Ev.fdv_ii, Ev.mod_ii, Ev.neg_i, Ev.int_i, Ev.abs_i, Ev.max2_ii, Ev.dvm_ii, Ev.len_l, Ev.len_t, Ev.listO_l, Ev.tupO_l, Ev.ints_map, Ev.intsD_map, Ev.sorted_l, Ev.sl_list, List.map_cons, List.map_nil, List.length_cons, List.length_nil, List.replicate_succ, List.replicate_zero, List.append_nil, List.nil_append, List.cons_append, List.getElem?_cons_zero, List.getElem?_cons_succ, List.getElem?_nil, List.set_cons_zero, List.set_cons_succ, List.set_nil, Option.bind_some, Option.bind_none, Option.map_some, Option.map_none, Nat.reduceAdd, Nat.reduceSub, Nat.reduceEqDiff, Nat.reduceLeDiff, if_true, if_false, reduceCtorEq, List.nodup_nil, Bool.false_eq_true, Bool.not_true, Bool.not_false, Bool.true_and, Bool.false_and, Bool.and_true, Bool.and_false, ↓reduceIte, id_eq, List.tail_cons, Nat.zero_add, List.all_cons, List.all_nil, ne_eq, not_false_eq_true, and_self, and_true, true_and, wipe_nil, wipe_cons, hz, ho, hg, rest_nil, rest_cons]
  rfl
theorem draw_go (A B C : Option O) (n : Int) (h : 0 < n) (h2 : n < 1073741824) : ∀ (ds : List D) (a b : Int), ∃ (rs : List Int) (a' b' : Int), rs.length = ds.length ∧ (∀ r ∈ rs, 0 ≤ r ∧ r < n) ∧
    lcGo [3] (hName 3) eYesT (eF (eFn f__law_draw (aCons (eVar 0) (aCons (eP (eF (eVar 2))) aNil)))) ds [some (.ln [.int a, .int b]), B, some (.fz (.int n)), none] = some (rs.map .int, [some (.ln [.int a', .int b']), B, some (.fz (.int n)), none])
  | [], a, b => ⟨[], a, b, rfl, by simp, rfl⟩
  | d :: ds, a, b => by
    obtain ⟨r, a1, b1, h0, h1, e⟩ := v_draw a b n h h2
    obtain ⟨rs, a', b', l, hr, ih⟩ := draw_go A B C n h h2 ds a1 b1
    refine ⟨r :: rs, a', b', by simp [l], fun z hz => (List.mem_cons.mp hz).elim (fun q => by rw [q]; exact ⟨h0, h1⟩) (hr z), ?_⟩
    rw [lcGo]
    simp -implicitDefEqProofs only [Ev.nd1, Ev.nd2, Ev.lent_fz, Ev.lent_ow, Ev.lent_oo, Ev.lent_mx, Ev.lent_ln, Ev.lent_nil, Ev.back_nil, Ev.back_tm, Ev.back_sl, Ev.runM_at, Ev.start_at, Ev.seq_at, Ev.pass_at, Ev.brk_at, Ev.cnt_at, Ev.ret_at, Ev.retN_at, Ev.asg_at, Ev.if_at, Ev.drop_at, Ev.tgt_at, Ev.tup_at, Ev.for_at, Ev.P_at, Ev.F_at, Ev.var_at, Ev.c_at, Ev.op_at, Ev.opF_at, Ev.call_at, Ev.call1_at, Ev.un_at, Ev.isi_at, Ev.nil_at, Ev.cons_at, Ev.aNil_at, Ev.aCons_at, Ev.lst_at', Ev.tupE_at, Ev.mix_at, Ev.t_at, Ev.tru_at, Ev.and_at, Ev.or_at, Ev.not_at, Ev.andV_at, Ev.orV_at, Ev.notV_at, Ev.if2_at, Ev.ix_at', Ev.no_at, Ev.yes_at, Ev.sl_at, Ev.rep_at, Ev.fn_at, Ev.fnK_at, Ev.seqL_at, Ev.seqT_at, Ev.enum_at, Ev.zip_at, K30.rng1_D, K30.lr1_D, Ev.lc_at, Ev.lcE_at, Ev.yesT_at, Ev.meth_at, Ev.idx_at, Ev.subApp_at, Ev.sortSet_at, Ev.hName_at, Ev.hNil_at, Ev.hCons_at, Ev.hTup_at, Ev.hSub_at, Ev.turns_nil, Ev.force_fz, Ev.force_ow, Ev.force_oo, Ev.force_mx, Ev.force_sl, Ev.norm_fz, Ev.norm_ow, Ev.norm_sl, Ev.argO_sl, Ev.own_at, Ev.setOwn_at, Ev.flatF, Ev.flatO, Ev.flatL, Ev.data_tm, Ev.data_sl, Ev.toD_fz, Ev.toD_ow, Ev.toD_ln, Ev.toD_oo, Ev.toD_mx, Ev.flat_fz, Ev.flat_ow, Ev.flat_sl, Ev.retP_fz, Ev.retP_ow, Ev.retP_oo, Ev.retP_sl, Ev.putP_fz, Ev.putP_ow, Ev.putP_oo, Ev.putP_mx, Ev.putP_sl, Ev.noLn_at, Ev.argOs_nil, Ev.argOs_cons, Ev.argO_fz, Ev.argO_ow, Ev.slots_nil, Ev.slots_tm, Ev.slots_sl, Ev.bOf_b, Ev.ownP_fz, Ev.ownP_ow, Ev.ownP_sl, Ev.ownPs_nil, Ev.ownPs_cons, Ev.putAll_nil, Ev.putAll_cons, Ev.mixI_nil, Ev.mixI_fz, Ev.mixI_ow, Ev.mixI_oo, Ev.ixD_list, Ev.ixD_tup, Ev.atI_0, Ev.atI_1, Ev.ixN_0, Ev.ixN_1, Ev.gt_ii, Ev.ge_ii, Ev.lt_ii, Ev.le_ii, Ev.add_ii, Ev.add_ll, Ev.sub_ii, Ev.mul_ii, Ev.fdv_ii, Ev.mod_ii, Ev.neg_i, Ev.int_i, Ev.abs_i, Ev.max2_ii, Ev.dvm_ii, Ev.len_l, Ev.len_t, Ev.listO_l, Ev.tupO_l, Ev.ints_map, Ev.intsD_map, Ev.sorted_l, Ev.sl_list, List.map_cons, List.map_nil, List.length_cons, List.length_nil, List.replicate_succ, List.replicate_zero, List.append_nil, List.nil_append, List.cons_append, List.getElem?_cons_zero, List.getElem?_cons_succ, List.getElem?_nil, List.set_cons_zero, List.set_cons_succ, List.set_nil, Option.bind_some, Option.bind_none, Option.map_some, Option.map_none, Nat.reduceAdd, Nat.reduceSub, Nat.reduceEqDiff, Nat.reduceLeDiff, if_true, if_false, reduceCtorEq, List.nodup_nil, Bool.false_eq_true, Bool.not_true, Bool.not_false, Bool.true_and, Bool.false_and, Bool.and_true, Bool.and_false, ↓reduceIte, id_eq, List.tail_cons, Nat.zero_add, List.all_cons, List.all_nil, ne_eq, not_false_eq_true, and_self, and_true, true_and, e, wipe_nil, wipe_cons, ih]
theorem full_nil : Full [] := ⟨by simp, by simp⟩
theorem v_tint (n : Nat) (hn : n ≤ 24) (a b : Int) : ∃ (ns : List Int) (a' b' : Int), ns.length = n ∧ Full ns ∧ val f__law_tint [.ln [.int a, .int b], .fz (.int n)] = some (.ow (ns.map .int), [some (.ln [.int a', .int b']), none]) := by
  obtain ⟨r, a1, b1, h0, h1, e⟩ := v_draw a b 5 (by decide) (by decide)
  have hw : ∃ w : Int, 0 < w ∧ w < 1073741824 ∧ atI [PyData.int 1, .int 1, .int 2, .int 3, .int ((n : Int) + 1)] r = some (.int w) := by
    rw [Ev.atI_int h0 (by simpa using h1)]
    have : r.toNat = 0 ∨ r.toNat = 1 ∨ r.toNat = 2 ∨ r.toNat = 3 ∨ r.toNat = 4 := by omega
    rcases this with q | q | q | q | q <;> rw [q]
    · exact ⟨1, by decide, by decide, rfl⟩
    · exact ⟨1, by decide, by decide, rfl⟩
    · exact ⟨2, by decide, by decide, rfl⟩
    · exact ⟨3, by decide, by decide, rfl⟩
    · exact ⟨(n : Int) + 1, by omega, by omega, rfl⟩
  obtain ⟨w, w0, w1, ew⟩ := hw
  obtain ⟨rs, a', b', l, hr, eg⟩ := draw_go none (some (.fz (.int n))) none w w0 w1 ((upto n).map .int) a1 b1
  have lr : rs.length = n := by rw [l, List.length_map, upto_len]
  refine ⟨rnk rs, a', b', by rw [rnk_len, lr], rnk_full rs, ?_⟩
  have hz : ((upto n).map PyData.int).length ≤ sizeLine := by rw [List.length_map, upto_len, sizeLine_eq]; omega
  unfold val f__law_tint m__law_tint
  simp -implicitDefEqProofs only [Ev.nd1, Ev.nd2, Ev.lent_fz, Ev.lent_ow, Ev.lent_oo, Ev.lent_mx, Ev.lent_ln, Ev.lent_nil, Ev.back_nil, Ev.back_tm, Ev.back_sl, Ev.runM_at, Ev.start_at, Ev.seq_at, Ev.pass_at, Ev.brk_at, Ev.cnt_at, Ev.ret_at, Ev.retN_at, Ev.asg_at, Ev.if_at, Ev.drop_at, Ev.tgt_at, Ev.tup_at, Ev.for_at, Ev.P_at, Ev.F_at, Ev.var_at, Ev.c_at, Ev.op_at, Ev.opF_at, Ev.call_at, Ev.call1_at, Ev.un_at, Ev.isi_at, Ev.nil_at, Ev.cons_at, Ev.aNil_at, Ev.aCons_at, Ev.lst_at', Ev.tupE_at, Ev.mix_at, Ev.t_at, Ev.tru_at, Ev.and_at, Ev.or_at, Ev.not_at, Ev.andV_at, Ev.orV_at, Ev.notV_at, Ev.if2_at, Ev.ix_at', Ev.no_at, Ev.yes_at, Ev.sl_at, Ev.rep_at, Ev.fn_at, Ev.fnK_at, Ev.seqL_at, Ev.seqT_at, Ev.enum_at, Ev.zip_at, K30.rng1_D, K30.lr1_D, Ev.lc_at, Ev.lcE_at, Ev.yesT_at, Ev.meth_at, Ev.idx_at, Ev.subApp_at, Ev.sortSet_at, Ev.hName_at, Ev.hNil_at, Ev.hCons_at, Ev.hTup_at, Ev.hSub_at, Ev.turns_nil, Ev.force_fz, Ev.force_ow, Ev.force_oo, Ev.force_mx, Ev.force_sl, Ev.norm_fz, Ev.norm_ow, Ev.norm_sl, Ev.argO_sl, Ev.own_at, Ev.setOwn_at, Ev.flatF, Ev.flatO, Ev.flatL, Ev.data_tm, Ev.data_sl, Ev.toD_fz, Ev.toD_ow, Ev.toD_ln, Ev.toD_oo, Ev.toD_mx, Ev.flat_fz, Ev.flat_ow, Ev.flat_sl, Ev.retP_fz, Ev.retP_ow, Ev.retP_oo, Ev.retP_sl, Ev.putP_fz, Ev.putP_ow, Ev.putP_oo, Ev.putP_mx, Ev.putP_sl, Ev.noLn_at, Ev.argOs_nil, Ev.argOs_cons, Ev.argO_fz, Ev.argO_ow, Ev.slots_nil, Ev.slots_tm, Ev.slots_sl, Ev.bOf_b, Ev.ownP_fz, Ev.ownP_ow, Ev.ownP_sl, Ev.ownPs_nil, Ev.ownPs_cons, Ev.putAll_nil, Ev.putAll_cons, Ev.mixI_nil, Ev.mixI_fz, Ev.mixI_ow, Ev.mixI_oo, Ev.ixD_list, Ev.ixD_tup, Ev.atI_0, Ev.atI_1, Ev.ixN_0, Ev.ixN_1, Ev.gt_ii, Ev.ge_ii, Ev.lt_ii, Ev.le_ii, Ev.add_ii, Ev.add_ll, Ev.sub_ii, Ev.mul_ii, Ev.fdv_ii, Ev.mod_ii, Ev.neg_i, Ev.int_i, Ev.abs_i, Ev.max2_ii, Ev.dvm_ii, Ev.len_l, Ev.len_t, Ev.listO_l, Ev.tupO_l, Ev.ints_map, Ev.intsD_map, Ev.sorted_l, Ev.sl_list, List.map_cons, List.map_nil, List.length_cons, List.length_nil, List.replicate_succ, List.replicate_zero, List.append_nil, List.nil_append, List.cons_append, List.getElem?_cons_zero, List.getElem?_cons_succ, List.getElem?_nil, List.set_cons_zero, List.set_cons_succ, List.set_nil, Option.bind_some, Option.bind_none, Option.map_some, Option.map_none, Nat.reduceAdd, Nat.reduceSub, Nat.reduceEqDiff, Nat.reduceLeDiff, if_true, if_false, reduceCtorEq, List.nodup_nil, Bool.false_eq_true, Bool.not_true, Bool.not_false, Bool.true_and, Bool.false_and, Bool.and_true, Bool.and_false, ↓reduceIte, id_eq, List.tail_cons, Nat.zero_add, List.all_cons, List.all_nil, ne_eq, not_false_eq_true, and_self, and_true, true_and, e, ew, rng_n (show n ≤ 100 by omega), hz, wipe_nil, wipe_cons, okv, eg, rest_nil, rest_cons, Option.getD_some, v_ranked rs (by omega), (le_size (by decide : 5 ≤ 1000))]
end K30
end
section
set_option Elab.async false
set_option linter.all false
set_option maxRecDepth 100000
set_option maxHeartbeats 4000000
namespace K30
open PySem PySem.Spec PyProof.Rows L2 Vi Vf Vo Vp Vs Vt Vu Vv Vg Vw Vx Vy Va Vb Vc Ev
/-! ### what can be shown -/
structure Sm (k : Nat) (d : D) : Prop where
  nd : d.hasDict = false
  sh : d.showable = true
  dp : d.depth ≤ k
  lv : d.leavesShort 40 = true
  bk : d.bulk ≤ 64 ^ k
theorem sm_int {i : Int} (h : i.natAbs < 10 ^ 39) : Sm 0 (.int i) := by
  refine ⟨rfl, ?_, Nat.zero_le _, ?_, Nat.zero_le _⟩
  · simp only [PyData.showable, decide_eq_true_eq]
    exact PySem.Spec.log2_small (Nat.lt_of_lt_of_le h (by decide +kernel))
  · simp only [PyData.leavesShort, decide_eq_true_eq]
    have e := int_text_length_le10 (k := 39) (by decide) h
    show (Str.ofString (toString i)).length ≤ 40
    rw [PySem.ofString_length]
    exact e
theorem sm_bool (b : Bool) : Sm 0 (.bool b) := ⟨rfl, rfl, Nat.zero_le _, rfl, Nat.zero_le _⟩
theorem sm_none : Sm 0 .none := ⟨rfl, rfl, Nat.zero_le _, rfl, Nat.zero_le _⟩
theorem Sm.up {k : Nat} {d : D} (h : Sm k d) : Sm (k + 1) d := ⟨h.nd, h.sh, Nat.le_succ_of_le h.dp, h.lv, Nat.le_trans h.bk (Nat.pow_le_pow_right (by decide) (Nat.le_succ k))⟩
theorem smAll {k : Nat} : ∀ {ds : List D}, (∀ x ∈ ds, Sm k x) → PyData.hasDictAll ds = false ∧ PyData.showableAll ds = true ∧ PyData.depthAll ds ≤ k ∧ PyData.leavesShortAll 40 ds = true ∧ PyData.bulkAll ds ≤ ds.length * (64 ^ k + 1)
  | [], _ => ⟨rfl, rfl, Nat.zero_le _, rfl, Nat.zero_le _⟩
  | d :: ds, h => by
    obtain ⟨a1, a2, a3, a4, a5⟩ := smAll (ds := ds) fun x hx => h x (List.mem_cons_of_mem _ hx)
    have b := h d List.mem_cons_self
    refine ⟨by simp [PyData.hasDictAll, b.nd, a1], by simp [PyData.showableAll, b.sh, a2], ?_, by simp [PyData.leavesShortAll, b.lv, a4], ?_⟩
    · simp only [PyData.depthAll]
      exact Nat.max_le.mpr ⟨b.dp, a3⟩
    · simp only [PyData.bulkAll, List.length_cons]
      have := b.bk
      rw [Nat.add_mul, Nat.one_mul]
      omega
theorem sm_list {k : Nat} {ds : List D} (h : ∀ x ∈ ds, Sm k x) (hl : ds.length ≤ 32) : Sm (k + 1) (.list ds) := by
  obtain ⟨a1, a2, a3, a4, a5⟩ := smAll h
  have hp : 0 < 64 ^ k := Nat.pow_pos (by decide)
  refine ⟨a1, a2, Nat.succ_le_succ a3, a4, ?_⟩
  have e : (64 : Nat) ^ (k + 1) = 64 ^ k * 64 := Nat.pow_succ ..
  have h1 : ds.length * (64 ^ k + 1) ≤ 32 * (64 ^ k + 1) := Nat.mul_le_mul_right _ hl
  show PyData.bulkAll ds ≤ _
  omega
theorem sm_tup {k : Nat} {ds : List D} (h : ∀ x ∈ ds, Sm k x) (hl : ds.length ≤ 32) : Sm (k + 1) (.tuple ds) := by
  have := sm_list h hl
  exact ⟨this.nd, this.sh, this.dp, this.lv, this.bk⟩
theorem sm_L {ns : List Int} (h : ∀ n ∈ ns, n.natAbs < 10 ^ 39) (hl : ns.length ≤ 32) : Sm 1 (L ns) := sm_list (fun x hx => by
  obtain ⟨n, hn, rfl⟩ := List.mem_map.mp hx
  exact sm_int (h n hn)) (by simpa using hl)
theorem repr_sm {k : Nat} {d : D} (h : Sm k d) (hk : k ≤ 3) : reprD d = some (.str d.shown) := by
  have hs : d.shown.length ≤ sizeLine := by
    have h1 := PyData.shown_le_bulk 40 (by decide) d h.lv
    have h2 : d.bulk ≤ 64 ^ 3 := Nat.le_trans h.bk (Nat.pow_le_pow_right (by decide) hk)
    have e : (64 : Nat) ^ 3 = 262144 := by decide
    have h3 : (40 + 2) * d.bulk ≤ 42 * 262144 := Nat.mul_le_mul (by omega) (by omega)
    rw [sizeLine_eq]
    omega
  exact if_pos ⟨h.sh, h.nd, Nat.le_trans h.dp (by omega), hs⟩
/-! ### coarser -/
theorem nd_len {α : Type} [DecidableEq α] : ∀ {l m : List α}, l.Nodup → (∀ x ∈ l, x ∈ m) → l.length ≤ m.length
  | [], _, _, _ => Nat.zero_le _
  | x :: l, m, h, s => by
    obtain ⟨h1, h2⟩ := List.nodup_cons.mp h
    have hx := s x List.mem_cons_self
    have ih := nd_len (l := l) (m := m.erase x) h2 fun y hy => (List.mem_erase_of_ne (fun e => h1 (by rw [← e]; exact hy))).mpr (s y (List.mem_cons_of_mem _ hy))
    rw [List.length_erase_of_mem hx] at ih
    have := List.length_pos_of_mem hx
    simp only [List.length_cons]
    omega
theorem full_lt {ns : List Int} (h : Full ns) : ∀ x ∈ ns, x < ns.length := by
  intro x hx
  have h0 := h.1 x hx
  have sub : ∀ j ∈ (List.range (x.toNat + 1)).map (fun i : Nat => (i : Int)), j ∈ ns := fun j hj => by
    obtain ⟨i, hi, rfl⟩ := List.mem_map.mp hj
    have := List.mem_range.mp hi
    exact h.2 x hx i (by omega) (by omega)
  have nd : ((List.range (x.toNat + 1)).map (fun i : Nat => (i : Int))).Nodup := by
    refine List.Pairwise.map _ (fun a b hne e => hne ?_) List.nodup_range
    omega
  have := nd_len nd sub
  simp at this
  omega
theorem co_go1 (A B : Option O) (w : Int) (hw : 0 < w) (hw2 : w < 1073741824) : ∀ (ks : List Int), lcGo [3] (hName 3) eYesT (eOp fdvI (eVar 3) (eVar 2)) (ks.map .int) [A, B, some (.fz (.int w)), none] = some ((ks.map fun k => k.fdiv w).map .int, [A, B, some (.fz (.int w)), none])
  | [] => rfl
  | k :: ks => by
    have ih := co_go1 A B w hw hw2 ks
    rw [List.map_cons, lcGo]
    simp -implicitDefEqProofs only [Ev.nd1, Ev.nd2, Ev.lent_fz, Ev.lent_ow, Ev.lent_oo, Ev.lent_mx, Ev.lent_ln, Ev.lent_nil, Ev.back_nil, Ev.back_tm, Ev.back_sl, Ev.runM_at, Ev.start_at, Ev.seq_at, Ev.pass_at, Ev.brk_at, Ev.cnt_at, Ev.ret_at, Ev.retN_at, Ev.asg_at, Ev.if_at, Ev.drop_at, Ev.tgt_at, Ev.tup_at, Ev.for_at, Ev.P_at, Ev.F_at, Ev.var_at, Ev.c_at, Ev.op_at, Ev.opF_at, Ev.call_at, Ev.call1_at, Ev.un_at, Ev.isi_at, Ev.nil_at, Ev.cons_at, Ev.aNil_at, Ev.aCons_at, Ev.lst_at', Ev.tupE_at, Ev.mix_at, Ev.t_at, Ev.tru_at, Ev.and_at, Ev.or_at, Ev.not_at, Ev.andV_at, Ev.orV_at, Ev.notV_at, Ev.if2_at, Ev.ix_at', Ev.no_at, Ev.yes_at, Ev.sl_at, Ev.rep_at, Ev.fn_at, Ev.fnK_at, Ev.seqL_at, Ev.seqT_at, Ev.enum_at, Ev.zip_at, K30.rng1_D, K30.lr1_D, Ev.lc_at, Ev.lcE_at, Ev.yesT_at, Ev.meth_at, Ev.idx_at, Ev.subApp_at, Ev.sortSet_at, Ev.hName_at, Ev.hNil_at, Ev.hCons_at, Ev.hTup_at, Ev.hSub_at, Ev.turns_nil, Ev.force_fz, Ev.force_ow, Ev.force_oo, Ev.force_mx, Ev.force_sl, Ev.norm_fz, Ev.norm_ow, Ev.norm_sl, Ev.argO_sl, Ev.own_at, Ev.setOwn_at, Ev.flatF, Ev.flatO, Ev.flatL, Ev.data_tm, Ev.data_sl, Ev.toD_fz, Ev.toD_ow, Ev.toD_ln, Ev.toD_oo, Ev.toD_mx, Ev.flat_fz, Ev.flat_ow, Ev.flat_sl, Ev.retP_fz, Ev.retP_ow, Ev.retP_oo, Ev.retP_sl, Ev.putP_fz, Ev.putP_ow, Ev.putP_oo, Ev.putP_mx, Ev.putP_sl, Ev.noLn_at, Ev.argOs_nil, Ev.argOs_cons, Ev.argO_fz, Ev.argO_ow, Ev.slots_nil, Ev.slots_tm, Ev.slots_sl, Ev.bOf_b, Ev.ownP_fz, Ev.ownP_ow, Ev.ownP_sl, Ev.ownPs_nil, Ev.ownPs_cons, Ev.putAll_nil, Ev.putAll_cons, Ev.mixI_nil, Ev.mixI_fz, Ev.mixI_ow, Ev.mixI_oo, Ev.ixD_list, Ev.ixD_tup, Ev.atI_0, Ev.atI_1, Ev.ixN_0, Ev.ixN_1, Ev.gt_ii, Ev.ge_ii, Ev.lt_ii, Ev.le_ii, Ev.add_ii, Ev.add_ll, Ev.sub_ii, Ev.mul_ii, Ev.fdv_ii, Ev.mod_ii, Ev.neg_i, Ev.int_i, Ev.abs_i, Ev.max2_ii, Ev.dvm_ii, Ev.len_l, Ev.len_t, Ev.listO_l, Ev.tupO_l, Ev.ints_map, Ev.intsD_map, Ev.sorted_l, Ev.sl_list, List.map_cons, List.map_nil, List.length_cons, List.length_nil, List.replicate_succ, List.replicate_zero, List.append_nil, List.nil_append, List.cons_append, List.getElem?_cons_zero, List.getElem?_cons_succ, List.getElem?_nil, List.set_cons_zero, List.set_cons_succ, List.set_nil, Option.bind_some, Option.bind_none, Option.map_some, Option.map_none, Nat.reduceAdd, Nat.reduceSub, Nat.reduceEqDiff, Nat.reduceLeDiff, if_true, if_false, reduceCtorEq, List.nodup_nil, Bool.false_eq_true, Bool.not_true, Bool.not_false, Bool.true_and, Bool.false_and, Bool.and_true, Bool.and_false, ↓reduceIte, id_eq, List.tail_cons, Nat.zero_add, List.all_cons, List.all_nil, ne_eq, not_false_eq_true, and_self, and_true, true_and, (show w ≠ 0 ∧ w.natAbs < 1073741824 by omega), (show w ≠ 0 by omega), wipe_nil, wipe_cons, ih, (show w.natAbs < 1073741824 by omega)]
theorem co_go2 (A B : Option O) (w : Int) (hw : 0 < w) : ∀ (ks : List Int), lcGo [3] (hName 3) eYesT (eOp modI (eP (eCall1 Vp.intD (eVar 3))) (eVar 2)) (ks.map .int) [A, B, some (.fz (.int w)), none] = some ((ks.map fun k => k.fmod w).map .int, [A, B, some (.fz (.int w)), none])
  | [] => rfl
  | k :: ks => by
    have ih := co_go2 A B w hw ks
    rw [List.map_cons, lcGo]
    simp -implicitDefEqProofs only [Ev.nd1, Ev.nd2, Ev.lent_fz, Ev.lent_ow, Ev.lent_oo, Ev.lent_mx, Ev.lent_ln, Ev.lent_nil, Ev.back_nil, Ev.back_tm, Ev.back_sl, Ev.runM_at, Ev.start_at, Ev.seq_at, Ev.pass_at, Ev.brk_at, Ev.cnt_at, Ev.ret_at, Ev.retN_at, Ev.asg_at, Ev.if_at, Ev.drop_at, Ev.tgt_at, Ev.tup_at, Ev.for_at, Ev.P_at, Ev.F_at, Ev.var_at, Ev.c_at, Ev.op_at, Ev.opF_at, Ev.call_at, Ev.call1_at, Ev.un_at, Ev.isi_at, Ev.nil_at, Ev.cons_at, Ev.aNil_at, Ev.aCons_at, Ev.lst_at', Ev.tupE_at, Ev.mix_at, Ev.t_at, Ev.tru_at, Ev.and_at, Ev.or_at, Ev.not_at, Ev.andV_at, Ev.orV_at, Ev.notV_at, Ev.if2_at, Ev.ix_at', Ev.no_at, Ev.yes_at, Ev.sl_at, Ev.rep_at, Ev.fn_at, Ev.fnK_at, Ev.seqL_at, Ev.seqT_at, Ev.enum_at, Ev.zip_at, K30.rng1_D, K30.lr1_D, Ev.lc_at, Ev.lcE_at, Ev.yesT_at, Ev.meth_at, Ev.idx_at, Ev.subApp_at, Ev.sortSet_at, Ev.hName_at, Ev.hNil_at, Ev.hCons_at, Ev.hTup_at, Ev.hSub_at, Ev.turns_nil, Ev.force_fz, Ev.force_ow, Ev.force_oo, Ev.force_mx, Ev.force_sl, Ev.norm_fz, Ev.norm_ow, Ev.norm_sl, Ev.argO_sl, Ev.own_at, Ev.setOwn_at, Ev.flatF, Ev.flatO, Ev.flatL, Ev.data_tm, Ev.data_sl, Ev.toD_fz, Ev.toD_ow, Ev.toD_ln, Ev.toD_oo, Ev.toD_mx, Ev.flat_fz, Ev.flat_ow, Ev.flat_sl, Ev.retP_fz, Ev.retP_ow, Ev.retP_oo, Ev.retP_sl, Ev.putP_fz, Ev.putP_ow, Ev.putP_oo, Ev.putP_mx, Ev.putP_sl, Ev.noLn_at, Ev.argOs_nil, Ev.argOs_cons, Ev.argO_fz, Ev.argO_ow, Ev.slots_nil, Ev.slots_tm, Ev.slots_sl, Ev.bOf_b, Ev.ownP_fz, Ev.ownP_ow, Ev.ownP_sl, Ev.ownPs_nil, Ev.ownPs_cons, Ev.putAll_nil, Ev.putAll_cons, Ev.mixI_nil, Ev.mixI_fz, Ev.mixI_ow, Ev.mixI_oo, Ev.ixD_list, Ev.ixD_tup, Ev.atI_0, Ev.atI_1, Ev.ixN_0, Ev.ixN_1, Ev.gt_ii, Ev.ge_ii, Ev.lt_ii, Ev.le_ii, Ev.add_ii, Ev.add_ll, Ev.sub_ii, Ev.mul_ii, Ev.fdv_ii, Ev.mod_ii, Ev.neg_i, Ev.int_i, Ev.abs_i, Ev.max2_ii, Ev.dvm_ii, Ev.len_l, Ev.len_t, Ev.listO_l, Ev.tupO_l, Ev.ints_map, Ev.intsD_map, Ev.sorted_l, Ev.sl_list, List.map_cons, List.map_nil, List.length_cons, List.length_nil, List.replicate_succ, List.replicate_zero, List.append_nil, List.nil_append, List.cons_append, List.getElem?_cons_zero, List.getElem?_cons_succ, List.getElem?_nil, List.set_cons_zero, List.set_cons_succ, List.set_nil, Option.bind_some, Option.bind_none, Option.map_some, Option.map_none, Nat.reduceAdd, Nat.reduceSub, Nat.reduceEqDiff, Nat.reduceLeDiff, if_true, if_false, reduceCtorEq, List.nodup_nil, Bool.false_eq_true, Bool.not_true, Bool.not_false, Bool.true_and, Bool.false_and, Bool.and_true, Bool.and_false, ↓reduceIte, id_eq, List.tail_cons, Nat.zero_add, List.all_cons, List.all_nil, ne_eq, not_false_eq_true, and_self, and_true, true_and, (show w ≠ 0 by omega), wipe_nil, wipe_cons, ih]
theorem v_coarser (t : List Int) (hn : t.length ≤ 24) (a b : Int) : ∃ (ns : List Int) (a' b' : Int), ns.length = t.length ∧ Full ns ∧ val f__law_coarser [.ln [.int a, .int b], .fz (.list (t.map .int))] = some (.ow (ns.map .int), [some (.ln [.int a', .int b']), none]) := by
  obtain ⟨r, a1, b1, h0, h1, e⟩ := v_draw a b 3 (by decide) (by decide)
  obtain ⟨r2, a2, b2, h3, h4, e2⟩ := v_draw a1 b1 2 (by decide) (by decide)
  have hz : (t.map PyData.int).length ≤ sizeLine := by rw [List.length_map, sizeLine_eq]; omega
  by_cases hr : r2 = 0
  · refine ⟨rnk (t.map fun k => k.fdiv (1 + r)), a2, b2, by rw [rnk_len, List.length_map], rnk_full _, ?_⟩
    unfold val f__law_coarser m__law_coarser
    simp -implicitDefEqProofs only [Ev.nd1, Ev.nd2, Ev.lent_fz, Ev.lent_ow, Ev.lent_oo, Ev.lent_mx, Ev.lent_ln, Ev.lent_nil, Ev.back_nil, Ev.back_tm, Ev.back_sl, Ev.runM_at, Ev.start_at, Ev.seq_at, Ev.pass_at, Ev.brk_at, Ev.cnt_at, Ev.ret_at, Ev.retN_at, Ev.asg_at, Ev.if_at, Ev.drop_at, Ev.tgt_at, Ev.tup_at, Ev.for_at, Ev.P_at, Ev.F_at, Ev.var_at, Ev.c_at, Ev.op_at, Ev.opF_at, Ev.call_at, Ev.call1_at, Ev.un_at, Ev.isi_at, Ev.nil_at, Ev.cons_at, Ev.aNil_at, Ev.aCons_at, Ev.lst_at', Ev.tupE_at, Ev.mix_at, Ev.t_at, Ev.tru_at, Ev.and_at, Ev.or_at, Ev.not_at, Ev.andV_at, Ev.orV_at, Ev.notV_at, Ev.if2_at, Ev.ix_at', Ev.no_at, Ev.yes_at, Ev.sl_at, Ev.rep_at, Ev.fn_at, Ev.fnK_at, Ev.seqL_at, Ev.seqT_at, Ev.enum_at, Ev.zip_at, K30.rng1_D, K30.lr1_D, Ev.lc_at, Ev.lcE_at, Ev.yesT_at, Ev.meth_at, Ev.idx_at, Ev.subApp_at, Ev.sortSet_at, Ev.hName_at, Ev.hNil_at, Ev.hCons_at, Ev.hTup_at, Ev.hSub_at, Ev.turns_nil, Ev.force_fz, Ev.force_ow, Ev.force_oo, Ev.force_mx, Ev.force_sl, Ev.norm_fz, Ev.norm_ow, Ev.norm_sl, Ev.argO_sl, Ev.own_at, Ev.setOwn_at, Ev.flatF, Ev.flatO, Ev.flatL, Ev.data_tm, Ev.data_sl, Ev.toD_fz, Ev.toD_ow, Ev.toD_ln, Ev.toD_oo, Ev.toD_mx, Ev.flat_fz, Ev.flat_ow, Ev.flat_sl, Ev.retP_fz, Ev.retP_ow, Ev.retP_oo, Ev.retP_sl, Ev.putP_fz, Ev.putP_ow, Ev.putP_oo, Ev.putP_mx, Ev.putP_sl, Ev.noLn_at, Ev.argOs_nil, Ev.argOs_cons, Ev.argO_fz, Ev.argO_ow, Ev.slots_nil, Ev.slots_tm, Ev.slots_sl, Ev.bOf_b, Ev.ownP_fz, Ev.ownP_ow, Ev.ownP_sl, Ev.ownPs_nil, Ev.ownPs_cons, Ev.putAll_nil, Ev.putAll_cons, Ev.mixI_nil, Ev.mixI_fz, Ev.mixI_ow, Ev.mixI_oo, Ev.ixD_list, Ev.ixD_tup, Ev.atI_0, Ev.atI_1, Ev.ixN_0, Ev.ixN_1, Ev.gt_ii, Ev.ge_ii, Ev.lt_ii, Ev.le_ii, Ev.add_ii, Ev.add_ll, Ev.sub_ii, Ev.mul_ii, Ev.fdv_ii, Ev.mod_ii, Ev.neg_i, Ev.int_i, Ev.abs_i, Ev.max2_ii, Ev.dvm_ii, Ev.len_l, Ev.len_t, Ev.listO_l, Ev.tupO_l, Ev.ints_map, Ev.intsD_map, Ev.sorted_l, Ev.sl_list, List.map_cons, List.map_nil, List.length_cons, List.length_nil, List.replicate_succ, List.replicate_zero, List.append_nil, List.nil_append, List.cons_append, List.getElem?_cons_zero, List.getElem?_cons_succ, List.getElem?_nil, List.set_cons_zero, List.set_cons_succ, List.set_nil, Option.bind_some, Option.bind_none, Option.map_some, Option.map_none, Nat.reduceAdd, Nat.reduceSub, Nat.reduceEqDiff, Nat.reduceLeDiff, if_true, if_false, reduceCtorEq, List.nodup_nil, Bool.false_eq_true, Bool.not_true, Bool.not_false, Bool.true_and, Bool.false_and, Bool.and_true, Bool.and_false, ↓reduceIte, id_eq, List.tail_cons, Nat.zero_add, List.all_cons, List.all_nil, ne_eq, not_false_eq_true, and_self, and_true, true_and, e, e2, eq_ii, hr, decide_true, hz, okv, wipe_nil, wipe_cons, co_go1 _ _ (1 + r) (by omega) (by omega) t, rest_nil, rest_cons, Option.getD_some, v_ranked (t.map fun k => k.fdiv (1 + r)) (by simp; omega)]
  · refine ⟨rnk (t.map fun k => k.fmod (1 + r)), a2, b2, by rw [rnk_len, List.length_map], rnk_full _, ?_⟩
    unfold val f__law_coarser m__law_coarser
    simp -implicitDefEqProofs only [Ev.nd1, Ev.nd2, Ev.lent_fz, Ev.lent_ow, Ev.lent_oo, Ev.lent_mx, Ev.lent_ln, Ev.lent_nil, Ev.back_nil, Ev.back_tm, Ev.back_sl, Ev.runM_at, Ev.start_at, Ev.seq_at, Ev.pass_at, Ev.brk_at, Ev.cnt_at, Ev.ret_at, Ev.retN_at, Ev.asg_at, Ev.if_at, Ev.drop_at, Ev.tgt_at, Ev.tup_at, Ev.for_at, Ev.P_at, Ev.F_at, Ev.var_at, Ev.c_at, Ev.op_at, Ev.opF_at, Ev.call_at, Ev.call1_at, Ev.un_at, Ev.isi_at, Ev.nil_at, Ev.cons_at, Ev.aNil_at, Ev.aCons_at, Ev.lst_at', Ev.tupE_at, Ev.mix_at, Ev.t_at, Ev.tru_at, Ev.and_at, Ev.or_at, Ev.not_at, Ev.andV_at, Ev.orV_at, Ev.notV_at, Ev.if2_at, Ev.ix_at', Ev.no_at, Ev.yes_at, Ev.sl_at, Ev.rep_at, Ev.fn_at, Ev.fnK_at, Ev.seqL_at, Ev.seqT_at, Ev.enum_at, Ev.zip_at, K30.rng1_D, K30.lr1_D, Ev.lc_at, Ev.lcE_at, Ev.yesT_at, Ev.meth_at, Ev.idx_at, Ev.subApp_at, Ev.sortSet_at, Ev.hName_at, Ev.hNil_at, Ev.hCons_at, Ev.hTup_at, Ev.hSub_at, Ev.turns_nil, Ev.force_fz, Ev.force_ow, Ev.force_oo, Ev.force_mx, Ev.force_sl, Ev.norm_fz, Ev.norm_ow, Ev.norm_sl, Ev.argO_sl, Ev.own_at, Ev.setOwn_at, Ev.flatF, Ev.flatO, Ev.flatL, Ev.data_tm, Ev.data_sl, Ev.toD_fz, Ev.toD_ow, Ev.toD_ln, Ev.toD_oo, Ev.toD_mx, Ev.flat_fz, Ev.flat_ow, Ev.flat_sl, Ev.retP_fz, Ev.retP_ow, Ev.retP_oo, Ev.retP_sl, Ev.putP_fz, Ev.putP_ow, Ev.putP_oo, Ev.putP_mx, Ev.putP_sl, Ev.noLn_at, Ev.argOs_nil, Ev.argOs_cons, Ev.argO_fz, Ev.argO_ow, Ev.slots_nil, Ev.slots_tm, Ev.slots_sl, Ev.bOf_b, Ev.ownP_fz, Ev.ownP_ow, Ev.ownP_sl, Ev.ownPs_nil, Ev.ownPs_cons, Ev.putAll_nil, Ev.putAll_cons, Ev.mixI_nil, Ev.mixI_fz, Ev.mixI_ow, Ev.mixI_oo, Ev.ixD_list, Ev.ixD_tup, Ev.atI_0, Ev.atI_1, Ev.ixN_0, Ev.ixN_1, Ev.gt_ii, Ev.ge_ii, Ev.lt_ii, Ev.le_ii, Ev.add_ii, Ev.add_ll, Ev.sub_ii, Ev.mul_ii, Ev.fdv_ii, Ev.mod_ii, Ev.neg_i, Ev.int_i, Ev.abs_i, Ev.max2_ii, Ev.dvm_ii, Ev.len_l, Ev.len_t, Ev.listO_l, Ev.tupO_l, Ev.ints_map, Ev.intsD_map, Ev.sorted_l, Ev.sl_list, List.map_cons, List.map_nil, List.length_cons, List.length_nil, List.replicate_succ, List.replicate_zero, List.append_nil, List.nil_append, List.cons_append, List.getElem?_cons_zero, List.getElem?_cons_succ, List.getElem?_nil, List.set_cons_zero, List.set_cons_succ, List.set_nil, Option.bind_some, Option.bind_none, Option.map_some, Option.map_none, Nat.reduceAdd, Nat.reduceSub, Nat.reduceEqDiff, Nat.reduceLeDiff, if_true, if_false, reduceCtorEq, List.nodup_nil, Bool.false_eq_true, Bool.not_true, Bool.not_false, Bool.true_and, Bool.false_and, Bool.and_true, Bool.and_false, ↓reduceIte, id_eq, List.tail_cons, Nat.zero_add, List.all_cons, List.all_nil, ne_eq, not_false_eq_true, and_self, and_true, true_and, e, e2, eq_ii, hr, decide_false, hz, okv, wipe_nil, wipe_cons, co_go2 _ _ (1 + r) (by omega) t, rest_nil, rest_cons, Option.getD_some, v_ranked (t.map fun k => k.fmod (1 + r)) (by simp; omega)]
end K30
end
section
set_option Elab.async false
set_option linter.all false
set_option maxRecDepth 100000
set_option maxHeartbeats 8000000
namespace K30
open PySem PySem.Spec PyProof.Rows L2 Vi Vf Vo Vp Vs Vt Vu Vv Vg Vw Vx Vy Va Vb Vc Ev
theorem cut_mem {α : Type} {x : D} {l : List D} {lo hi : Option Int} (h : x ∈ Vi.cutD l lo hi) : x ∈ l := List.mem_of_mem_drop (List.mem_of_mem_take h)
theorem cut_len {l : List D} {lo hi : Option Int} : (Vi.cutD l lo hi).length ≤ l.length := by
  unfold Vi.cutD
  rw [List.length_take, List.length_drop]
  omega
theorem cut_all (l : List D) : Vi.cutD l none none = l := by
  unfold Vi.cutD
  show (l.drop 0).take (l.length - 0) = l
  simp
theorem cut_two (l : List D) (s s' : Int) (h : 0 ≤ s) (h2 : s ≤ s') : (Vi.cutD l none (some s)).length + (Vi.cutD l (some s') none).length ≤ l.length := by
  unfold Vi.cutD
  rw [List.length_take, List.length_drop, List.length_take, List.length_drop]
  have e1 : HT.sIx l.length 0 none = 0 := rfl
  have e2 : HT.sIx l.length l.length none = l.length := rfl
  rw [e1, e2]
  have a1 : HT.sIx l.length l.length (some s) = min s.toNat l.length := by
    unfold HT.sIx
    split <;> simp_all <;> omega
  have a2 : HT.sIx l.length 0 (some s') = min s'.toNat l.length := by
    unfold HT.sIx
    split <;> simp_all <;> omega
  rw [a1, a2]
  omega
/-- what near tells -/
def Thing (d : D) : Prop := Sm 2 d ∧ ∀ ds, d = .list ds → ds.length ≤ 32
def ThingO (o : O) : Prop := (∃ d, o = .fz d ∧ Thing d) ∨ ∃ ds, o = .ow ds ∧ Thing (.list ds)
theorem thing_list {ds : List D} (h : ∀ x ∈ ds, Sm 1 x) (hl : ds.length ≤ 32) : Thing (.list ds) := ⟨sm_list h hl, fun es e => by cases e; exact hl⟩
theorem near_one (n : Int) (hn : n.natAbs ≤ 30) : ∀ x ∈ [PyData.int (-1), .int n, .int (n + 1), .bool true, .bool false, .none, .str "0", .tuple [.int 0], .list [.int 0], .int (10 ^ 29), .int (-10 ^ 29)], Sm 1 x ∧ ∀ ds, x = .list ds → ds.length ≤ 32 := by
  intro x hx
  simp only [List.mem_cons, List.not_mem_nil, or_false] at hx
  rcases hx with rfl | rfl | rfl | rfl | rfl | rfl | rfl | rfl | rfl | rfl | rfl
  · exact ⟨(sm_int (by decide)).up, fun ds e => by cases e⟩
  · exact ⟨(sm_int (Nat.lt_of_le_of_lt hn (by decide))).up, fun ds e => by cases e⟩
  · exact ⟨(sm_int (Nat.lt_of_le_of_lt (show (n + 1).natAbs ≤ 31 by omega) (by decide))).up, fun ds e => by cases e⟩
  · exact ⟨(sm_bool _).up, fun ds e => by cases e⟩
  · exact ⟨(sm_bool _).up, fun ds e => by cases e⟩
  · exact ⟨sm_none.up, fun ds e => by cases e⟩
  · exact ⟨⟨rfl, rfl, by decide, by decide +kernel, by decide +kernel⟩, fun ds e => by cases e⟩
  · exact ⟨sm_tup (k := 0) (fun x hx => by rw [List.mem_singleton.mp hx]; exact sm_int (by decide)) (by decide), fun ds e => by cases e⟩
  · exact ⟨sm_list (k := 0) (fun x hx => by rw [List.mem_singleton.mp hx]; exact sm_int (by decide)) (by decide), fun ds e => by cases e; decide⟩
  · exact ⟨(sm_int (by decide +kernel)).up, fun ds e => by cases e⟩
  · exact ⟨(sm_int (by decide +kernel)).up, fun ds e => by cases e⟩
theorem ne_go1 (A B C E F G J M : Option O) : ∀ (ks : List Int), lcGo [8] (hName 8) eYesT (eF (eOpF addO (eF (eVar 8)) (eC (.int 1)))) (ks.map .int) [A, B, C, E, F, G, J, M, none] = some ((ks.map fun k => k + 1).map .int, [A, B, C, E, F, G, J, M, none])
  | [] => rfl
  | k :: ks => by
    have ih := ne_go1 A B C E F G J M ks
    rw [List.map_cons, lcGo]
    simp -implicitDefEqProofs only [Ev.nd1, Ev.nd2, Ev.lent_fz, Ev.lent_ow, Ev.lent_oo, Ev.lent_mx, Ev.lent_ln, Ev.lent_nil, Ev.back_nil, Ev.back_tm, Ev.back_sl, Ev.runM_at, Ev.start_at, Ev.seq_at, Ev.pass_at, Ev.brk_at, Ev.cnt_at, Ev.ret_at, Ev.retN_at, Ev.asg_at, Ev.if_at, Ev.drop_at, Ev.tgt_at, Ev.tup_at, Ev.for_at, Ev.P_at, Ev.F_at, Ev.var_at, Ev.c_at, Ev.op_at, Ev.opF_at, Ev.call_at, Ev.call1_at, Ev.un_at, Ev.isi_at, Ev.nil_at, Ev.cons_at, Ev.aNil_at, Ev.aCons_at, Ev.lst_at', Ev.tupE_at, Ev.mix_at, Ev.t_at, Ev.tru_at, Ev.and_at, Ev.or_at, Ev.not_at, Ev.andV_at, Ev.orV_at, Ev.notV_at, Ev.if2_at, Ev.ix_at', Ev.no_at, Ev.yes_at, Ev.sl_at, Ev.rep_at, Ev.fn_at, Ev.fnK_at, Ev.seqL_at, Ev.seqT_at, Ev.enum_at, Ev.zip_at, K30.rng1_D, K30.lr1_D, Ev.lc_at, Ev.lcE_at, Ev.yesT_at, Ev.meth_at, Ev.idx_at, Ev.subApp_at, Ev.sortSet_at, Ev.hName_at, Ev.hNil_at, Ev.hCons_at, Ev.hTup_at, Ev.hSub_at, Ev.turns_nil, Ev.force_fz, Ev.force_ow, Ev.force_oo, Ev.force_mx, Ev.force_sl, Ev.norm_fz, Ev.norm_ow, Ev.norm_sl, Ev.argO_sl, Ev.own_at, Ev.setOwn_at, Ev.flatF, Ev.flatO, Ev.flatL, Ev.data_tm, Ev.data_sl, Ev.toD_fz, Ev.toD_ow, Ev.toD_ln, Ev.toD_oo, Ev.toD_mx, Ev.flat_fz, Ev.flat_ow, Ev.flat_sl, Ev.retP_fz, Ev.retP_ow, Ev.retP_oo, Ev.retP_sl, Ev.putP_fz, Ev.putP_ow, Ev.putP_oo, Ev.putP_mx, Ev.putP_sl, Ev.noLn_at, Ev.argOs_nil, Ev.argOs_cons, Ev.argO_fz, Ev.argO_ow, Ev.slots_nil, Ev.slots_tm, Ev.slots_sl, Ev.bOf_b, Ev.ownP_fz, Ev.ownP_ow, Ev.ownP_sl, Ev.ownPs_nil, Ev.ownPs_cons, Ev.putAll_nil, Ev.putAll_cons, Ev.mixI_nil, Ev.mixI_fz, Ev.mixI_ow, Ev.mixI_oo, Ev.ixD_list, Ev.ixD_tup, Ev.atI_0, Ev.atI_1, Ev.ixN_0, Ev.ixN_1, Ev.gt_ii, Ev.ge_ii, Ev.lt_ii, Ev.le_ii, Ev.add_ii, Ev.add_ll, Ev.sub_ii, Ev.mul_ii, Ev.fdv_ii, Ev.mod_ii, Ev.neg_i, Ev.int_i, Ev.abs_i, Ev.max2_ii, Ev.dvm_ii, Ev.len_l, Ev.len_t, Ev.listO_l, Ev.tupO_l, Ev.ints_map, Ev.intsD_map, Ev.sorted_l, Ev.sl_list, List.map_cons, List.map_nil, List.length_cons, List.length_nil, List.replicate_succ, List.replicate_zero, List.append_nil, List.nil_append, List.cons_append, List.getElem?_cons_zero, List.getElem?_cons_succ, List.getElem?_nil, List.set_cons_zero, List.set_cons_succ, List.set_nil, Option.bind_some, Option.bind_none, Option.map_some, Option.map_none, Nat.reduceAdd, Nat.reduceSub, Nat.reduceEqDiff, Nat.reduceLeDiff, if_true, if_false, reduceCtorEq, List.nodup_nil, Bool.false_eq_true, Bool.not_true, Bool.not_false, Bool.true_and, Bool.false_and, Bool.and_true, Bool.and_false, ↓reduceIte, id_eq, List.tail_cons, Nat.zero_add, List.all_cons, List.all_nil, ne_eq, not_false_eq_true, and_self, and_true, true_and, wipe_nil, wipe_cons, ih]
theorem ne_go2 (A B C E F G J M : Option O) : ∀ (ks : List Int), lcGo [8] (hName 8) eYesT (eF (eIf (eT (eOp ltI (eVar 8) (eP (eC (.int 1))))) (eVar 8) (eOpF addO (eF (eVar 8)) (eC (.int 1))))) (ks.map .int) [A, B, C, E, F, G, J, M, none] = some ((ks.map fun k => if k < 1 then k else k + 1).map .int, [A, B, C, E, F, G, J, M, none])
  | [] => rfl
  | k :: ks => by
    have ih := ne_go2 A B C E F G J M ks
    rw [List.map_cons, lcGo]
    by_cases h : k < 1
    · simp -implicitDefEqProofs only [Ev.nd1, Ev.nd2, Ev.lent_fz, Ev.lent_ow, Ev.lent_oo, Ev.lent_mx, Ev.lent_ln, Ev.lent_nil, Ev.back_nil, Ev.back_tm, Ev.back_sl, Ev.runM_at, Ev.start_at, Ev.seq_at, Ev.pass_at, Ev.brk_at, Ev.cnt_at, Ev.ret_at, Ev.retN_at, Ev.asg_at, Ev.if_at, Ev.drop_at, Ev.tgt_at, Ev.tup_at, Ev.for_at, Ev.P_at, Ev.F_at, Ev.var_at, Ev.c_at, Ev.op_at, Ev.opF_at, Ev.call_at, Ev.call1_at, Ev.un_at, Ev.isi_at, Ev.nil_at, Ev.cons_at, Ev.aNil_at, Ev.aCons_at, Ev.lst_at', Ev.tupE_at, Ev.mix_at, Ev.t_at, Ev.tru_at, Ev.and_at, Ev.or_at, Ev.not_at, Ev.andV_at, Ev.orV_at, Ev.notV_at, Ev.if2_at, Ev.ix_at', Ev.no_at, Ev.yes_at, Ev.sl_at, Ev.rep_at, Ev.fn_at, Ev.fnK_at, Ev.seqL_at, Ev.seqT_at, Ev.enum_at, Ev.zip_at, K30.rng1_D, K30.lr1_D, Ev.lc_at, Ev.lcE_at, Ev.yesT_at, Ev.meth_at, Ev.idx_at, Ev.subApp_at, Ev.sortSet_at, Ev.hName_at, Ev.hNil_at, Ev.hCons_at, Ev.hTup_at, Ev.hSub_at, Ev.turns_nil, Ev.force_fz, Ev.force_ow, Ev.force_oo, Ev.force_mx, Ev.force_sl, Ev.norm_fz, Ev.norm_ow, Ev.norm_sl, Ev.argO_sl, Ev.own_at, Ev.setOwn_at, Ev.flatF, Ev.flatO, Ev.flatL, Ev.data_tm, Ev.data_sl, Ev.toD_fz, Ev.toD_ow, Ev.toD_ln, Ev.toD_oo, Ev.toD_mx, Ev.flat_fz, Ev.flat_ow, Ev.flat_sl, Ev.retP_fz, Ev.retP_ow, Ev.retP_oo, Ev.retP_sl, Ev.putP_fz, Ev.putP_ow, Ev.putP_oo, Ev.putP_mx, Ev.putP_sl, Ev.noLn_at, Ev.argOs_nil, Ev.argOs_cons, Ev.argO_fz, Ev.argO_ow, Ev.slots_nil, Ev.slots_tm, Ev.slots_sl, Ev.bOf_b, Ev.ownP_fz, Ev.ownP_ow, Ev.ownP_sl, Ev.ownPs_nil, Ev.ownPs_cons, Ev.putAll_nil, Ev.putAll_cons, Ev.mixI_nil, Ev.mixI_fz, Ev.mixI_ow, Ev.mixI_oo, Ev.ixD_list, Ev.ixD_tup, Ev.atI_0, Ev.atI_1, Ev.ixN_0, Ev.ixN_1, Ev.gt_ii, Ev.ge_ii, Ev.lt_ii, Ev.le_ii, Ev.add_ii, Ev.add_ll, Ev.sub_ii, Ev.mul_ii, Ev.fdv_ii, Ev.mod_ii, Ev.neg_i, Ev.int_i, Ev.abs_i, Ev.max2_ii, Ev.dvm_ii, Ev.len_l, Ev.len_t, Ev.listO_l, Ev.tupO_l, Ev.ints_map, Ev.intsD_map, Ev.sorted_l, Ev.sl_list, List.map_cons, List.map_nil, List.length_cons, List.length_nil, List.replicate_succ, List.replicate_zero, List.append_nil, List.nil_append, List.cons_append, List.getElem?_cons_zero, List.getElem?_cons_succ, List.getElem?_nil, List.set_cons_zero, List.set_cons_succ, List.set_nil, Option.bind_some, Option.bind_none, Option.map_some, Option.map_none, Nat.reduceAdd, Nat.reduceSub, Nat.reduceEqDiff, Nat.reduceLeDiff, if_true, if_false, reduceCtorEq, List.nodup_nil, Bool.false_eq_true, Bool.not_true, Bool.not_false, Bool.true_and, Bool.false_and, Bool.and_true, Bool.and_false, ↓reduceIte, id_eq, List.tail_cons, Nat.zero_add, List.all_cons, List.all_nil, ne_eq, not_false_eq_true, and_self, and_true, true_and, h, decide_true, wipe_nil, wipe_cons, ih]
    · simp -implicitDefEqProofs only [Ev.nd1, Ev.nd2, Ev.lent_fz, Ev.lent_ow, Ev.lent_oo, Ev.lent_mx, Ev.lent_ln, Ev.lent_nil, Ev.back_nil, Ev.back_tm, Ev.back_sl, Ev.runM_at, Ev.start_at, Ev.seq_at, Ev.pass_at, Ev.brk_at, Ev.cnt_at, Ev.ret_at, Ev.retN_at, Ev.asg_at, Ev.if_at, Ev.drop_at, Ev.tgt_at, Ev.tup_at, Ev.for_at, Ev.P_at, Ev.F_at, Ev.var_at, Ev.c_at, Ev.op_at, Ev.opF_at, Ev.call_at, Ev.call1_at, Ev.un_at, Ev.isi_at, Ev.nil_at, Ev.cons_at, Ev.aNil_at, Ev.aCons_at, Ev.lst_at', Ev.tupE_at, Ev.mix_at, Ev.t_at, Ev.tru_at, Ev.and_at, Ev.or_at, Ev.not_at, Ev.andV_at, Ev.orV_at, Ev.notV_at, Ev.if2_at, Ev.ix_at', Ev.no_at, Ev.yes_at, Ev.sl_at, Ev.rep_at, Ev.fn_at, Ev.fnK_at, Ev.seqL_at, Ev.seqT_at, Ev.enum_at, Ev.zip_at, K30.rng1_D, K30.lr1_D, Ev.lc_at, Ev.lcE_at, Ev.yesT_at, Ev.meth_at, Ev.idx_at, Ev.subApp_at, Ev.sortSet_at, Ev.hName_at, Ev.hNil_at, Ev.hCons_at, Ev.hTup_at, Ev.hSub_at, Ev.turns_nil, Ev.force_fz, Ev.force_ow, Ev.force_oo, Ev.force_mx, Ev.force_sl, Ev.norm_fz, Ev.norm_ow, Ev.norm_sl, Ev.argO_sl, Ev.own_at, Ev.setOwn_at, Ev.flatF, Ev.flatO, Ev.flatL, Ev.data_tm, Ev.data_sl, Ev.toD_fz, Ev.toD_ow, Ev.toD_ln, Ev.toD_oo, Ev.toD_mx, Ev.flat_fz, Ev.flat_ow, Ev.flat_sl, Ev.retP_fz, Ev.retP_ow, Ev.retP_oo, Ev.retP_sl, Ev.putP_fz, Ev.putP_ow, Ev.putP_oo, Ev.putP_mx, Ev.putP_sl, Ev.noLn_at, Ev.argOs_nil, Ev.argOs_cons, Ev.argO_fz, Ev.argO_ow, Ev.slots_nil, Ev.slots_tm, Ev.slots_sl, Ev.bOf_b, Ev.ownP_fz, Ev.ownP_ow, Ev.ownP_sl, Ev.ownPs_nil, Ev.ownPs_cons, Ev.putAll_nil, Ev.putAll_cons, Ev.mixI_nil, Ev.mixI_fz, Ev.mixI_ow, Ev.mixI_oo, Ev.ixD_list, Ev.ixD_tup, Ev.atI_0, Ev.atI_1, Ev.ixN_0, Ev.ixN_1, Ev.gt_ii, Ev.ge_ii, Ev.lt_ii, Ev.le_ii, Ev.add_ii, Ev.add_ll, Ev.sub_ii, Ev.mul_ii, Ev.fdv_ii, Ev.mod_ii, Ev.neg_i, Ev.int_i, Ev.abs_i, Ev.max2_ii, Ev.dvm_ii, Ev.len_l, Ev.len_t, Ev.listO_l, Ev.tupO_l, Ev.ints_map, Ev.intsD_map, Ev.sorted_l, Ev.sl_list, List.map_cons, List.map_nil, List.length_cons, List.length_nil, List.replicate_succ, List.replicate_zero, List.append_nil, List.nil_append, List.cons_append, List.getElem?_cons_zero, List.getElem?_cons_succ, List.getElem?_nil, List.set_cons_zero, List.set_cons_succ, List.set_nil, Option.bind_some, Option.bind_none, Option.map_some, Option.map_none, Nat.reduceAdd, Nat.reduceSub, Nat.reduceEqDiff, Nat.reduceLeDiff, if_true, if_false, reduceCtorEq, List.nodup_nil, Bool.false_eq_true, Bool.not_true, Bool.not_false, Bool.true_and, Bool.false_and, Bool.and_true, Bool.and_false, ↓reduceIte, id_eq, List.tail_cons, Nat.zero_add, List.all_cons, List.all_nil, ne_eq, not_false_eq_true, and_self, and_true, true_and, h, decide_false, wipe_nil, wipe_cons, ih]
theorem v_near (t : List Int) (hn : t.length ≤ 24) (ht : ∀ x ∈ t, x.natAbs ≤ 30) (a b : Int) : ∃ (o : O) (a' b' : Int), ThingO o ∧ val f__law_near [.ln [.int a, .int b], .fz (.list (t.map .int))] = some (o, [some (.ln [.int a', .int b']), none]) := by
  obtain ⟨r, a1, b1, h0, h1, e1⟩ := v_draw a b 12 (by decide) (by decide)
  obtain ⟨s, a2, b2, g0, g1, e2⟩ := v_draw a1 b1 ((t.map PyData.int).length + 1 : Int) (by omega) (by rw [List.length_map]; omega)
  obtain ⟨q, a3, b3, q0, q1, e3⟩ := v_draw a2 b2 11 (by decide) (by decide)
  obtain ⟨one, ho, hm⟩ : ∃ x, atI [PyData.int (-1), .int ((t.map PyData.int).length : Int), .int ((t.map PyData.int).length + 1 : Int), .bool true, .bool false, .none, .str "0", .tuple [.int 0], .list [.int 0], .int (10 ^ 29), .int (-10 ^ 29)] q = some x ∧ (Sm 1 x ∧ ∀ ds, x = .list ds → ds.length ≤ 32) := by
    rw [Ev.atI_int q0 (by simpa using q1)]
    have : q.toNat < 11 := by omega
    exact ⟨_, List.getElem?_eq_getElem (by simpa using this), near_one ((t.map PyData.int).length : Int) (by rw [List.length_map]; omega) _ (List.getElem_mem _)⟩
  have sm_t : ∀ x ∈ t.map PyData.int, Sm 1 x := fun x hx => by
    obtain ⟨n, hn', rfl⟩ := List.mem_map.mp hx
    exact (sm_int (Nat.lt_of_le_of_lt (ht n hn') (by decide))).up
  have hl : (t.map PyData.int).length ≤ 24 := by rw [List.length_map]; exact hn
  have lt : ∀ lo hi, (Vi.cutD (t.map PyData.int) lo hi).length ≤ 24 := fun lo hi => Nat.le_trans cut_len hl
  have z3 : 3 ≤ sizeLine := le_size (by decide)
  have z11 : 11 ≤ sizeLine := le_size (by decide)
  have z1 : 1 ≤ sizeLine := le_size (by decide)
  have hz : (t.map PyData.int).length ≤ sizeLine := by rw [sizeLine_eq]; omega
  have p29 : powI (.int 10) (.int 29) = some (.int (10 ^ 29)) := rfl
  have two : ∀ s', s ≤ s' → (Vi.cutD (t.map PyData.int) none (some s)).length + (Vi.cutD (t.map PyData.int) (some s') none).length ≤ 24 := fun s' h => Nat.le_trans (cut_two _ s s' g0 h) hl
  have ins : ∀ s', s ≤ s' → Thing (.list (Vi.cutD (t.map PyData.int) none (some s) ++ [one] ++ Vi.cutD (t.map PyData.int) (some s') none)) := fun s' h => thing_list (fun x hx => by
    rcases List.mem_append.mp hx with w | w
    · rcases List.mem_append.mp w with w | w
      · exact sm_t x (cut_mem (α := Nat) w)
      · rw [List.mem_singleton.mp w]; exact hm.1
    · exact sm_t x (cut_mem (α := Nat) w)) (by
      have x1 := two s' h
      simp only [List.length_append, List.length_singleton]
      omega)
  have le1 : (Vi.cutD (t.map PyData.int) none (some s)).length + 1 ≤ sizeLine := by have := two s (Int.le_refl s); rw [sizeLine_eq]; omega
  have le2 : ∀ s', s ≤ s' → (Vi.cutD (t.map PyData.int) none (some s)).length + 1 + (Vi.cutD (t.map PyData.int) (some s') none).length ≤ sizeLine := fun s' h => by have := two s' h; rw [sizeLine_eq]; omega
  have le2a := le2 s (Int.le_refl s)
  have le2b := le2 (s + 1) (by omega)
  unfold val f__law_near m__law_near
  by_cases c4 : r < 4
  · refine ⟨.ow (t.map .int), a3, b3, .inr ⟨_, rfl, thing_list sm_t (by omega)⟩, ?_⟩
    simp -implicitDefEqProofs only [Ev.nd1, Ev.nd2, Ev.lent_fz, Ev.lent_ow, Ev.lent_oo, Ev.lent_mx, Ev.lent_ln, Ev.lent_nil, Ev.back_nil, Ev.back_tm, Ev.back_sl, Ev.runM_at, Ev.start_at, Ev.seq_at, Ev.pass_at, Ev.brk_at, Ev.cnt_at, Ev.ret_at, Ev.retN_at, Ev.asg_at, Ev.if_at, Ev.drop_at, Ev.tgt_at, Ev.tup_at, Ev.for_at, Ev.P_at, Ev.F_at, Ev.var_at, Ev.c_at, Ev.op_at, Ev.opF_at, Ev.call_at, Ev.call1_at, Ev.un_at, Ev.isi_at, Ev.nil_at, Ev.cons_at, Ev.aNil_at, Ev.aCons_at, Ev.lst_at', Ev.tupE_at, Ev.mix_at, Ev.t_at, Ev.tru_at, Ev.and_at, Ev.or_at, Ev.not_at, Ev.andV_at, Ev.orV_at, Ev.notV_at, Ev.if2_at, Ev.ix_at', Ev.no_at, Ev.yes_at, Ev.sl_at, Ev.rep_at, Ev.fn_at, Ev.fnK_at, Ev.seqL_at, Ev.seqT_at, Ev.enum_at, Ev.zip_at, K30.rng1_D, K30.lr1_D, Ev.lc_at, Ev.lcE_at, Ev.yesT_at, Ev.meth_at, Ev.idx_at, Ev.subApp_at, Ev.sortSet_at, Ev.hName_at, Ev.hNil_at, Ev.hCons_at, Ev.hTup_at, Ev.hSub_at, Ev.turns_nil, Ev.force_fz, Ev.force_ow, Ev.force_oo, Ev.force_mx, Ev.force_sl, Ev.norm_fz, Ev.norm_ow, Ev.norm_sl, Ev.argO_sl, Ev.own_at, Ev.setOwn_at, Ev.flatF, Ev.flatO, Ev.flatL, Ev.data_tm, Ev.data_sl, Ev.toD_fz, Ev.toD_ow, Ev.toD_ln, Ev.toD_oo, Ev.toD_mx, Ev.flat_fz, Ev.flat_ow, Ev.flat_sl, Ev.retP_fz, Ev.retP_ow, Ev.retP_oo, Ev.retP_sl, Ev.putP_fz, Ev.putP_ow, Ev.putP_oo, Ev.putP_mx, Ev.putP_sl, Ev.noLn_at, Ev.argOs_nil, Ev.argOs_cons, Ev.argO_fz, Ev.argO_ow, Ev.slots_nil, Ev.slots_tm, Ev.slots_sl, Ev.bOf_b, Ev.ownP_fz, Ev.ownP_ow, Ev.ownP_sl, Ev.ownPs_nil, Ev.ownPs_cons, Ev.putAll_nil, Ev.putAll_cons, Ev.mixI_nil, Ev.mixI_fz, Ev.mixI_ow, Ev.mixI_oo, Ev.ixD_list, Ev.ixD_tup, Ev.atI_0, Ev.atI_1, Ev.ixN_0, Ev.ixN_1, Ev.gt_ii, Ev.ge_ii, Ev.lt_ii, Ev.le_ii, Ev.add_ii, Ev.add_ll, Ev.sub_ii, Ev.mul_ii, Ev.fdv_ii, Ev.mod_ii, Ev.neg_i, Ev.int_i, Ev.abs_i, Ev.max2_ii, Ev.dvm_ii, Ev.len_l, Ev.len_t, Ev.listO_l, Ev.tupO_l, Ev.ints_map, Ev.intsD_map, Ev.sorted_l, Ev.sl_list, List.map_cons, List.map_nil, List.length_cons, List.length_nil, List.replicate_succ, List.replicate_zero, List.append_nil, List.nil_append, List.cons_append, List.getElem?_cons_zero, List.getElem?_cons_succ, List.getElem?_nil, List.set_cons_zero, List.set_cons_succ, List.set_nil, Option.bind_some, Option.bind_none, Option.map_some, Option.map_none, Nat.reduceAdd, Nat.reduceSub, Nat.reduceEqDiff, Nat.reduceLeDiff, if_true, if_false, reduceCtorEq, List.nodup_nil, Bool.false_eq_true, Bool.not_true, Bool.not_false, Bool.true_and, Bool.false_and, Bool.and_true, Bool.and_false, ↓reduceIte, id_eq, List.tail_cons, Nat.zero_add, List.all_cons, List.all_nil, ne_eq, not_false_eq_true, and_self, and_true, true_and, e1, e2, e3, ho, p29, cut_all, z3, z11, z1, hz, (decide_eq_true c4), Nat.zero_le]
  by_cases d4 : r = 4
  · refine ⟨.fz (.tuple (t.map .int)), a3, b3, .inl ⟨_, rfl, sm_tup sm_t (by omega), fun ds e => by cases e⟩, ?_⟩
    simp -implicitDefEqProofs only [Ev.nd1, Ev.nd2, Ev.lent_fz, Ev.lent_ow, Ev.lent_oo, Ev.lent_mx, Ev.lent_ln, Ev.lent_nil, Ev.back_nil, Ev.back_tm, Ev.back_sl, Ev.runM_at, Ev.start_at, Ev.seq_at, Ev.pass_at, Ev.brk_at, Ev.cnt_at, Ev.ret_at, Ev.retN_at, Ev.asg_at, Ev.if_at, Ev.drop_at, Ev.tgt_at, Ev.tup_at, Ev.for_at, Ev.P_at, Ev.F_at, Ev.var_at, Ev.c_at, Ev.op_at, Ev.opF_at, Ev.call_at, Ev.call1_at, Ev.un_at, Ev.isi_at, Ev.nil_at, Ev.cons_at, Ev.aNil_at, Ev.aCons_at, Ev.lst_at', Ev.tupE_at, Ev.mix_at, Ev.t_at, Ev.tru_at, Ev.and_at, Ev.or_at, Ev.not_at, Ev.andV_at, Ev.orV_at, Ev.notV_at, Ev.if2_at, Ev.ix_at', Ev.no_at, Ev.yes_at, Ev.sl_at, Ev.rep_at, Ev.fn_at, Ev.fnK_at, Ev.seqL_at, Ev.seqT_at, Ev.enum_at, Ev.zip_at, K30.rng1_D, K30.lr1_D, Ev.lc_at, Ev.lcE_at, Ev.yesT_at, Ev.meth_at, Ev.idx_at, Ev.subApp_at, Ev.sortSet_at, Ev.hName_at, Ev.hNil_at, Ev.hCons_at, Ev.hTup_at, Ev.hSub_at, Ev.turns_nil, Ev.force_fz, Ev.force_ow, Ev.force_oo, Ev.force_mx, Ev.force_sl, Ev.norm_fz, Ev.norm_ow, Ev.norm_sl, Ev.argO_sl, Ev.own_at, Ev.setOwn_at, Ev.flatF, Ev.flatO, Ev.flatL, Ev.data_tm, Ev.data_sl, Ev.toD_fz, Ev.toD_ow, Ev.toD_ln, Ev.toD_oo, Ev.toD_mx, Ev.flat_fz, Ev.flat_ow, Ev.flat_sl, Ev.retP_fz, Ev.retP_ow, Ev.retP_oo, Ev.retP_sl, Ev.putP_fz, Ev.putP_ow, Ev.putP_oo, Ev.putP_mx, Ev.putP_sl, Ev.noLn_at, Ev.argOs_nil, Ev.argOs_cons, Ev.argO_fz, Ev.argO_ow, Ev.slots_nil, Ev.slots_tm, Ev.slots_sl, Ev.bOf_b, Ev.ownP_fz, Ev.ownP_ow, Ev.ownP_sl, Ev.ownPs_nil, Ev.ownPs_cons, Ev.putAll_nil, Ev.putAll_cons, Ev.mixI_nil, Ev.mixI_fz, Ev.mixI_ow, Ev.mixI_oo, Ev.ixD_list, Ev.ixD_tup, Ev.atI_0, Ev.atI_1, Ev.ixN_0, Ev.ixN_1, Ev.gt_ii, Ev.ge_ii, Ev.lt_ii, Ev.le_ii, Ev.add_ii, Ev.add_ll, Ev.sub_ii, Ev.mul_ii, Ev.fdv_ii, Ev.mod_ii, Ev.neg_i, Ev.int_i, Ev.abs_i, Ev.max2_ii, Ev.dvm_ii, Ev.len_l, Ev.len_t, Ev.listO_l, Ev.tupO_l, Ev.ints_map, Ev.intsD_map, Ev.sorted_l, Ev.sl_list, List.map_cons, List.map_nil, List.length_cons, List.length_nil, List.replicate_succ, List.replicate_zero, List.append_nil, List.nil_append, List.cons_append, List.getElem?_cons_zero, List.getElem?_cons_succ, List.getElem?_nil, List.set_cons_zero, List.set_cons_succ, List.set_nil, Option.bind_some, Option.bind_none, Option.map_some, Option.map_none, Nat.reduceAdd, Nat.reduceSub, Nat.reduceEqDiff, Nat.reduceLeDiff, if_true, if_false, reduceCtorEq, List.nodup_nil, Bool.false_eq_true, Bool.not_true, Bool.not_false, Bool.true_and, Bool.false_and, Bool.and_true, Bool.and_false, ↓reduceIte, id_eq, List.tail_cons, Nat.zero_add, List.all_cons, List.all_nil, ne_eq, not_false_eq_true, and_self, and_true, true_and, e1, e2, e3, ho, p29, cut_all, z3, z11, z1, hz, (decide_eq_false c4), (decide_eq_true d4), eq_ii, Nat.zero_le]
  by_cases d5 : r = 5
  · refine ⟨.ow (Vi.cutD (t.map PyData.int) none (some s) ++ [one] ++ Vi.cutD (t.map PyData.int) (some s) none), a3, b3, .inr ⟨_, rfl, ins s (Int.le_refl s)⟩, ?_⟩
    simp -implicitDefEqProofs only [Ev.nd1, Ev.nd2, Ev.lent_fz, Ev.lent_ow, Ev.lent_oo, Ev.lent_mx, Ev.lent_ln, Ev.lent_nil, Ev.back_nil, Ev.back_tm, Ev.back_sl, Ev.runM_at, Ev.start_at, Ev.seq_at, Ev.pass_at, Ev.brk_at, Ev.cnt_at, Ev.ret_at, Ev.retN_at, Ev.asg_at, Ev.if_at, Ev.drop_at, Ev.tgt_at, Ev.tup_at, Ev.for_at, Ev.P_at, Ev.F_at, Ev.var_at, Ev.c_at, Ev.op_at, Ev.opF_at, Ev.call_at, Ev.call1_at, Ev.un_at, Ev.isi_at, Ev.nil_at, Ev.cons_at, Ev.aNil_at, Ev.aCons_at, Ev.lst_at', Ev.tupE_at, Ev.mix_at, Ev.t_at, Ev.tru_at, Ev.and_at, Ev.or_at, Ev.not_at, Ev.andV_at, Ev.orV_at, Ev.notV_at, Ev.if2_at, Ev.ix_at', Ev.no_at, Ev.yes_at, Ev.sl_at, Ev.rep_at, Ev.fn_at, Ev.fnK_at, Ev.seqL_at, Ev.seqT_at, Ev.enum_at, Ev.zip_at, K30.rng1_D, K30.lr1_D, Ev.lc_at, Ev.lcE_at, Ev.yesT_at, Ev.meth_at, Ev.idx_at, Ev.subApp_at, Ev.sortSet_at, Ev.hName_at, Ev.hNil_at, Ev.hCons_at, Ev.hTup_at, Ev.hSub_at, Ev.turns_nil, Ev.force_fz, Ev.force_ow, Ev.force_oo, Ev.force_mx, Ev.force_sl, Ev.norm_fz, Ev.norm_ow, Ev.norm_sl, Ev.argO_sl, Ev.own_at, Ev.setOwn_at, Ev.flatF, Ev.flatO, Ev.flatL, Ev.data_tm, Ev.data_sl, Ev.toD_fz, Ev.toD_ow, Ev.toD_ln, Ev.toD_oo, Ev.toD_mx, Ev.flat_fz, Ev.flat_ow, Ev.flat_sl, Ev.retP_fz, Ev.retP_ow, Ev.retP_oo, Ev.retP_sl, Ev.putP_fz, Ev.putP_ow, Ev.putP_oo, Ev.putP_mx, Ev.putP_sl, Ev.noLn_at, Ev.argOs_nil, Ev.argOs_cons, Ev.argO_fz, Ev.argO_ow, Ev.slots_nil, Ev.slots_tm, Ev.slots_sl, Ev.bOf_b, Ev.ownP_fz, Ev.ownP_ow, Ev.ownP_sl, Ev.ownPs_nil, Ev.ownPs_cons, Ev.putAll_nil, Ev.putAll_cons, Ev.mixI_nil, Ev.mixI_fz, Ev.mixI_ow, Ev.mixI_oo, Ev.ixD_list, Ev.ixD_tup, Ev.atI_0, Ev.atI_1, Ev.ixN_0, Ev.ixN_1, Ev.gt_ii, Ev.ge_ii, Ev.lt_ii, Ev.le_ii, Ev.add_ii, Ev.add_ll, Ev.sub_ii, Ev.mul_ii, Ev.fdv_ii, Ev.mod_ii, Ev.neg_i, Ev.int_i, Ev.abs_i, Ev.max2_ii, Ev.dvm_ii, Ev.len_l, Ev.len_t, Ev.listO_l, Ev.tupO_l, Ev.ints_map, Ev.intsD_map, Ev.sorted_l, Ev.sl_list, List.map_cons, List.map_nil, List.length_cons, List.length_nil, List.replicate_succ, List.replicate_zero, List.append_nil, List.nil_append, List.cons_append, List.getElem?_cons_zero, List.getElem?_cons_succ, List.getElem?_nil, List.set_cons_zero, List.set_cons_succ, List.set_nil, Option.bind_some, Option.bind_none, Option.map_some, Option.map_none, Nat.reduceAdd, Nat.reduceSub, Nat.reduceEqDiff, Nat.reduceLeDiff, if_true, if_false, reduceCtorEq, List.nodup_nil, Bool.false_eq_true, Bool.not_true, Bool.not_false, Bool.true_and, Bool.false_and, Bool.and_true, Bool.and_false, ↓reduceIte, id_eq, List.tail_cons, Nat.zero_add, List.all_cons, List.all_nil, ne_eq, not_false_eq_true, and_self, and_true, true_and, e1, e2, e3, ho, p29, cut_all, z3, z11, z1, hz, (decide_eq_false c4), (decide_eq_false d4), (decide_eq_true d5), eq_ii, Nat.zero_le, List.length_append, le1, le2a]
  by_cases d6 : r = 6
  · refine ⟨.ow (Vi.cutD (t.map PyData.int) none (some s)), a3, b3, .inr ⟨_, rfl, thing_list (fun x hx => sm_t x (cut_mem (α := Nat) hx)) (by have := lt none (some s); omega)⟩, ?_⟩
    simp -implicitDefEqProofs only [Ev.nd1, Ev.nd2, Ev.lent_fz, Ev.lent_ow, Ev.lent_oo, Ev.lent_mx, Ev.lent_ln, Ev.lent_nil, Ev.back_nil, Ev.back_tm, Ev.back_sl, Ev.runM_at, Ev.start_at, Ev.seq_at, Ev.pass_at, Ev.brk_at, Ev.cnt_at, Ev.ret_at, Ev.retN_at, Ev.asg_at, Ev.if_at, Ev.drop_at, Ev.tgt_at, Ev.tup_at, Ev.for_at, Ev.P_at, Ev.F_at, Ev.var_at, Ev.c_at, Ev.op_at, Ev.opF_at, Ev.call_at, Ev.call1_at, Ev.un_at, Ev.isi_at, Ev.nil_at, Ev.cons_at, Ev.aNil_at, Ev.aCons_at, Ev.lst_at', Ev.tupE_at, Ev.mix_at, Ev.t_at, Ev.tru_at, Ev.and_at, Ev.or_at, Ev.not_at, Ev.andV_at, Ev.orV_at, Ev.notV_at, Ev.if2_at, Ev.ix_at', Ev.no_at, Ev.yes_at, Ev.sl_at, Ev.rep_at, Ev.fn_at, Ev.fnK_at, Ev.seqL_at, Ev.seqT_at, Ev.enum_at, Ev.zip_at, K30.rng1_D, K30.lr1_D, Ev.lc_at, Ev.lcE_at, Ev.yesT_at, Ev.meth_at, Ev.idx_at, Ev.subApp_at, Ev.sortSet_at, Ev.hName_at, Ev.hNil_at, Ev.hCons_at, Ev.hTup_at, Ev.hSub_at, Ev.turns_nil, Ev.force_fz, Ev.force_ow, Ev.force_oo, Ev.force_mx, Ev.force_sl, Ev.norm_fz, Ev.norm_ow, Ev.norm_sl, Ev.argO_sl, Ev.own_at, Ev.setOwn_at, Ev.flatF, Ev.flatO, Ev.flatL, Ev.data_tm, Ev.data_sl, Ev.toD_fz, Ev.toD_ow, Ev.toD_ln, Ev.toD_oo, Ev.toD_mx, Ev.flat_fz, Ev.flat_ow, Ev.flat_sl, Ev.retP_fz, Ev.retP_ow, Ev.retP_oo, Ev.retP_sl, Ev.putP_fz, Ev.putP_ow, Ev.putP_oo, Ev.putP_mx, Ev.putP_sl, Ev.noLn_at, Ev.argOs_nil, Ev.argOs_cons, Ev.argO_fz, Ev.argO_ow, Ev.slots_nil, Ev.slots_tm, Ev.slots_sl, Ev.bOf_b, Ev.ownP_fz, Ev.ownP_ow, Ev.ownP_sl, Ev.ownPs_nil, Ev.ownPs_cons, Ev.putAll_nil, Ev.putAll_cons, Ev.mixI_nil, Ev.mixI_fz, Ev.mixI_ow, Ev.mixI_oo, Ev.ixD_list, Ev.ixD_tup, Ev.atI_0, Ev.atI_1, Ev.ixN_0, Ev.ixN_1, Ev.gt_ii, Ev.ge_ii, Ev.lt_ii, Ev.le_ii, Ev.add_ii, Ev.add_ll, Ev.sub_ii, Ev.mul_ii, Ev.fdv_ii, Ev.mod_ii, Ev.neg_i, Ev.int_i, Ev.abs_i, Ev.max2_ii, Ev.dvm_ii, Ev.len_l, Ev.len_t, Ev.listO_l, Ev.tupO_l, Ev.ints_map, Ev.intsD_map, Ev.sorted_l, Ev.sl_list, List.map_cons, List.map_nil, List.length_cons, List.length_nil, List.replicate_succ, List.replicate_zero, List.append_nil, List.nil_append, List.cons_append, List.getElem?_cons_zero, List.getElem?_cons_succ, List.getElem?_nil, List.set_cons_zero, List.set_cons_succ, List.set_nil, Option.bind_some, Option.bind_none, Option.map_some, Option.map_none, Nat.reduceAdd, Nat.reduceSub, Nat.reduceEqDiff, Nat.reduceLeDiff, if_true, if_false, reduceCtorEq, List.nodup_nil, Bool.false_eq_true, Bool.not_true, Bool.not_false, Bool.true_and, Bool.false_and, Bool.and_true, Bool.and_false, ↓reduceIte, id_eq, List.tail_cons, Nat.zero_add, List.all_cons, List.all_nil, ne_eq, not_false_eq_true, and_self, and_true, true_and, e1, e2, e3, ho, p29, cut_all, z3, z11, z1, hz, (decide_eq_false c4), (decide_eq_false d4), (decide_eq_false d5), (decide_eq_true d6), eq_ii, Nat.zero_le]
  by_cases d7 : r = 7
  · refine ⟨.ow ((t.map fun k => k + 1).map .int), a3, b3, .inr ⟨_, rfl, thing_list (fun x hx => ?_) (by simp; omega)⟩, ?_⟩
    · obtain ⟨n, hn', rfl⟩ := List.mem_map.mp hx
      obtain ⟨m, hm', rfl⟩ := List.mem_map.mp hn'
      exact (sm_int (Nat.lt_of_le_of_lt (show (m + 1).natAbs ≤ 31 by have := ht m hm'; omega) (by decide))).up
    · simp -implicitDefEqProofs only [Ev.nd1, Ev.nd2, Ev.lent_fz, Ev.lent_ow, Ev.lent_oo, Ev.lent_mx, Ev.lent_ln, Ev.lent_nil, Ev.back_nil, Ev.back_tm, Ev.back_sl, Ev.runM_at, Ev.start_at, Ev.seq_at, Ev.pass_at, Ev.brk_at, Ev.cnt_at, Ev.ret_at, Ev.retN_at, Ev.asg_at, Ev.if_at, Ev.drop_at, Ev.tgt_at, Ev.tup_at, Ev.for_at, Ev.P_at, Ev.F_at, Ev.var_at, Ev.c_at, Ev.op_at, Ev.opF_at, Ev.call_at, Ev.call1_at, Ev.un_at, Ev.isi_at, Ev.nil_at, Ev.cons_at, Ev.aNil_at, Ev.aCons_at, Ev.lst_at', Ev.tupE_at, Ev.mix_at, Ev.t_at, Ev.tru_at, Ev.and_at, Ev.or_at, Ev.not_at, Ev.andV_at, Ev.orV_at, Ev.notV_at, Ev.if2_at, Ev.ix_at', Ev.no_at, Ev.yes_at, Ev.sl_at, Ev.rep_at, Ev.fn_at, Ev.fnK_at, Ev.seqL_at, Ev.seqT_at, Ev.enum_at, Ev.zip_at, K30.rng1_D, K30.lr1_D, Ev.lc_at, Ev.lcE_at, Ev.yesT_at, Ev.meth_at, Ev.idx_at, Ev.subApp_at, Ev.sortSet_at, Ev.hName_at, Ev.hNil_at, Ev.hCons_at, Ev.hTup_at, Ev.hSub_at, Ev.turns_nil, Ev.force_fz, Ev.force_ow, Ev.force_oo, Ev.force_mx, Ev.force_sl, Ev.norm_fz, Ev.norm_ow, Ev.norm_sl, Ev.argO_sl, Ev.own_at, Ev.setOwn_at, Ev.flatF, Ev.flatO, Ev.flatL, Ev.data_tm, Ev.data_sl, Ev.toD_fz, Ev.toD_ow, Ev.toD_ln, Ev.toD_oo, Ev.toD_mx, Ev.flat_fz, Ev.flat_ow, Ev.flat_sl, Ev.retP_fz, Ev.retP_ow, Ev.retP_oo, Ev.retP_sl, Ev.putP_fz, Ev.putP_ow, Ev.putP_oo, Ev.putP_mx, Ev.putP_sl, Ev.noLn_at, Ev.argOs_nil, Ev.argOs_cons, Ev.argO_fz, Ev.argO_ow, Ev.slots_nil, Ev.slots_tm, Ev.slots_sl, Ev.bOf_b, Ev.ownP_fz, Ev.ownP_ow, Ev.ownP_sl, Ev.ownPs_nil, Ev.ownPs_cons, Ev.putAll_nil, Ev.putAll_cons, Ev.mixI_nil, Ev.mixI_fz, Ev.mixI_ow, Ev.mixI_oo, Ev.ixD_list, Ev.ixD_tup, Ev.atI_0, Ev.atI_1, Ev.ixN_0, Ev.ixN_1, Ev.gt_ii, Ev.ge_ii, Ev.lt_ii, Ev.le_ii, Ev.add_ii, Ev.add_ll, Ev.sub_ii, Ev.mul_ii, Ev.fdv_ii, Ev.mod_ii, Ev.neg_i, Ev.int_i, Ev.abs_i, Ev.max2_ii, Ev.dvm_ii, Ev.len_l, Ev.len_t, Ev.listO_l, Ev.tupO_l, Ev.ints_map, Ev.intsD_map, Ev.sorted_l, Ev.sl_list, List.map_cons, List.map_nil, List.length_cons, List.length_nil, List.replicate_succ, List.replicate_zero, List.append_nil, List.nil_append, List.cons_append, List.getElem?_cons_zero, List.getElem?_cons_succ, List.getElem?_nil, List.set_cons_zero, List.set_cons_succ, List.set_nil, Option.bind_some, Option.bind_none, Option.map_some, Option.map_none, Nat.reduceAdd, Nat.reduceSub, Nat.reduceEqDiff, Nat.reduceLeDiff, if_true, if_false, reduceCtorEq, List.nodup_nil, Bool.false_eq_true, Bool.not_true, Bool.not_false, Bool.true_and, Bool.false_and, Bool.and_true, Bool.and_false, ↓reduceIte, id_eq, List.tail_cons, Nat.zero_add, List.all_cons, List.all_nil, ne_eq, not_false_eq_true, and_self, and_true, true_and, e1, e2, e3, ho, p29, cut_all, z3, z11, z1, hz, (decide_eq_false c4), (decide_eq_false d4), (decide_eq_false d5), (decide_eq_false d6), (decide_eq_true d7), eq_ii, Nat.zero_le, okv, wipe_nil, wipe_cons, ne_go1, rest_nil, rest_cons, Option.getD_some]
  by_cases d8 : r = 8
  · refine ⟨.ow ((t.map fun k => if k < 1 then k else k + 1).map .int), a3, b3, .inr ⟨_, rfl, thing_list (fun x hx => ?_) (by simp; omega)⟩, ?_⟩
    · obtain ⟨n, hn', rfl⟩ := List.mem_map.mp hx
      obtain ⟨m, hm', rfl⟩ := List.mem_map.mp hn'
      have := ht m hm'
      exact (sm_int (Nat.lt_of_le_of_lt (show (if m < 1 then m else m + 1).natAbs ≤ 31 by split <;> omega) (by decide))).up
    · simp -implicitDefEqProofs only [Ev.nd1, Ev.nd2, Ev.lent_fz, Ev.lent_ow, Ev.lent_oo, Ev.lent_mx, Ev.lent_ln, Ev.lent_nil, Ev.back_nil, Ev.back_tm, Ev.back_sl, Ev.runM_at, Ev.start_at, Ev.seq_at, Ev.pass_at, Ev.brk_at, Ev.cnt_at, Ev.ret_at, Ev.retN_at, Ev.asg_at, Ev.if_at, Ev.drop_at, Ev.tgt_at, Ev.tup_at, Ev.for_at, Ev.P_at, Ev.F_at, Ev.var_at, Ev.c_at, Ev.op_at, Ev.opF_at, Ev.call_at, Ev.call1_at, Ev.un_at, Ev.isi_at, Ev.nil_at, Ev.cons_at, Ev.aNil_at, Ev.aCons_at, Ev.lst_at', Ev.tupE_at, Ev.mix_at, Ev.t_at, Ev.tru_at, Ev.and_at, Ev.or_at, Ev.not_at, Ev.andV_at, Ev.orV_at, Ev.notV_at, Ev.if2_at, Ev.ix_at', Ev.no_at, Ev.yes_at, Ev.sl_at, Ev.rep_at, Ev.fn_at, Ev.fnK_at, Ev.seqL_at, Ev.seqT_at, Ev.enum_at, Ev.zip_at, K30.rng1_D, K30.lr1_D, Ev.lc_at, Ev.lcE_at, Ev.yesT_at, Ev.meth_at, Ev.idx_at, Ev.subApp_at, Ev.sortSet_at, Ev.hName_at, Ev.hNil_at, Ev.hCons_at, Ev.hTup_at, Ev.hSub_at, Ev.turns_nil, Ev.force_fz, Ev.force_ow, Ev.force_oo, Ev.force_mx, Ev.force_sl, Ev.norm_fz, Ev.norm_ow, Ev.norm_sl, Ev.argO_sl, Ev.own_at, Ev.setOwn_at, Ev.flatF, Ev.flatO, Ev.flatL, Ev.data_tm, Ev.data_sl, Ev.toD_fz, Ev.toD_ow, Ev.toD_ln, Ev.toD_oo, Ev.toD_mx, Ev.flat_fz, Ev.flat_ow, Ev.flat_sl, Ev.retP_fz, Ev.retP_ow, Ev.retP_oo, Ev.retP_sl, Ev.putP_fz, Ev.putP_ow, Ev.putP_oo, Ev.putP_mx, Ev.putP_sl, Ev.noLn_at, Ev.argOs_nil, Ev.argOs_cons, Ev.argO_fz, Ev.argO_ow, Ev.slots_nil, Ev.slots_tm, Ev.slots_sl, Ev.bOf_b, Ev.ownP_fz, Ev.ownP_ow, Ev.ownP_sl, Ev.ownPs_nil, Ev.ownPs_cons, Ev.putAll_nil, Ev.putAll_cons, Ev.mixI_nil, Ev.mixI_fz, Ev.mixI_ow, Ev.mixI_oo, Ev.ixD_list, Ev.ixD_tup, Ev.atI_0, Ev.atI_1, Ev.ixN_0, Ev.ixN_1, Ev.gt_ii, Ev.ge_ii, Ev.lt_ii, Ev.le_ii, Ev.add_ii, Ev.add_ll, Ev.sub_ii, Ev.mul_ii, Ev.fdv_ii, Ev.mod_ii, Ev.neg_i, Ev.int_i, Ev.abs_i, Ev.max2_ii, Ev.dvm_ii, Ev.len_l, Ev.len_t, Ev.listO_l, Ev.tupO_l, Ev.ints_map, Ev.intsD_map, Ev.sorted_l, Ev.sl_list, List.map_cons, List.map_nil, List.length_cons, List.length_nil, List.replicate_succ, List.replicate_zero, List.append_nil, List.nil_append, List.cons_append, List.getElem?_cons_zero, List.getElem?_cons_succ, List.getElem?_nil, List.set_cons_zero, List.set_cons_succ, List.set_nil, Option.bind_some, Option.bind_none, Option.map_some, Option.map_none, Nat.reduceAdd, Nat.reduceSub, Nat.reduceEqDiff, Nat.reduceLeDiff, if_true, if_false, reduceCtorEq, List.nodup_nil, Bool.false_eq_true, Bool.not_true, Bool.not_false, Bool.true_and, Bool.false_and, Bool.and_true, Bool.and_false, ↓reduceIte, id_eq, List.tail_cons, Nat.zero_add, List.all_cons, List.all_nil, ne_eq, not_false_eq_true, and_self, and_true, true_and, e1, e2, e3, ho, p29, cut_all, z3, z11, z1, hz, (decide_eq_false c4), (decide_eq_false d4), (decide_eq_false d5), (decide_eq_false d6), (decide_eq_false d7), (decide_eq_true d8), eq_ii, Nat.zero_le, okv, wipe_nil, wipe_cons, ne_go2, rest_nil, rest_cons, Option.getD_some]
  by_cases d9 : r = 9
  · refine ⟨.fz one, a3, b3, .inl ⟨_, rfl, hm.1.up, hm.2⟩, ?_⟩
    simp -implicitDefEqProofs only [Ev.nd1, Ev.nd2, Ev.lent_fz, Ev.lent_ow, Ev.lent_oo, Ev.lent_mx, Ev.lent_ln, Ev.lent_nil, Ev.back_nil, Ev.back_tm, Ev.back_sl, Ev.runM_at, Ev.start_at, Ev.seq_at, Ev.pass_at, Ev.brk_at, Ev.cnt_at, Ev.ret_at, Ev.retN_at, Ev.asg_at, Ev.if_at, Ev.drop_at, Ev.tgt_at, Ev.tup_at, Ev.for_at, Ev.P_at, Ev.F_at, Ev.var_at, Ev.c_at, Ev.op_at, Ev.opF_at, Ev.call_at, Ev.call1_at, Ev.un_at, Ev.isi_at, Ev.nil_at, Ev.cons_at, Ev.aNil_at, Ev.aCons_at, Ev.lst_at', Ev.tupE_at, Ev.mix_at, Ev.t_at, Ev.tru_at, Ev.and_at, Ev.or_at, Ev.not_at, Ev.andV_at, Ev.orV_at, Ev.notV_at, Ev.if2_at, Ev.ix_at', Ev.no_at, Ev.yes_at, Ev.sl_at, Ev.rep_at, Ev.fn_at, Ev.fnK_at, Ev.seqL_at, Ev.seqT_at, Ev.enum_at, Ev.zip_at, K30.rng1_D, K30.lr1_D, Ev.lc_at, Ev.lcE_at, Ev.yesT_at, Ev.meth_at, Ev.idx_at, Ev.subApp_at, Ev.sortSet_at, Ev.hName_at, Ev.hNil_at, Ev.hCons_at, Ev.hTup_at, Ev.hSub_at, Ev.turns_nil, Ev.force_fz, Ev.force_ow, Ev.force_oo, Ev.force_mx, Ev.force_sl, Ev.norm_fz, Ev.norm_ow, Ev.norm_sl, Ev.argO_sl, Ev.own_at, Ev.setOwn_at, Ev.flatF, Ev.flatO, Ev.flatL, Ev.data_tm, Ev.data_sl, Ev.toD_fz, Ev.toD_ow, Ev.toD_ln, Ev.toD_oo, Ev.toD_mx, Ev.flat_fz, Ev.flat_ow, Ev.flat_sl, Ev.retP_fz, Ev.retP_ow, Ev.retP_oo, Ev.retP_sl, Ev.putP_fz, Ev.putP_ow, Ev.putP_oo, Ev.putP_mx, Ev.putP_sl, Ev.noLn_at, Ev.argOs_nil, Ev.argOs_cons, Ev.argO_fz, Ev.argO_ow, Ev.slots_nil, Ev.slots_tm, Ev.slots_sl, Ev.bOf_b, Ev.ownP_fz, Ev.ownP_ow, Ev.ownP_sl, Ev.ownPs_nil, Ev.ownPs_cons, Ev.putAll_nil, Ev.putAll_cons, Ev.mixI_nil, Ev.mixI_fz, Ev.mixI_ow, Ev.mixI_oo, Ev.ixD_list, Ev.ixD_tup, Ev.atI_0, Ev.atI_1, Ev.ixN_0, Ev.ixN_1, Ev.gt_ii, Ev.ge_ii, Ev.lt_ii, Ev.le_ii, Ev.add_ii, Ev.add_ll, Ev.sub_ii, Ev.mul_ii, Ev.fdv_ii, Ev.mod_ii, Ev.neg_i, Ev.int_i, Ev.abs_i, Ev.max2_ii, Ev.dvm_ii, Ev.len_l, Ev.len_t, Ev.listO_l, Ev.tupO_l, Ev.ints_map, Ev.intsD_map, Ev.sorted_l, Ev.sl_list, List.map_cons, List.map_nil, List.length_cons, List.length_nil, List.replicate_succ, List.replicate_zero, List.append_nil, List.nil_append, List.cons_append, List.getElem?_cons_zero, List.getElem?_cons_succ, List.getElem?_nil, List.set_cons_zero, List.set_cons_succ, List.set_nil, Option.bind_some, Option.bind_none, Option.map_some, Option.map_none, Nat.reduceAdd, Nat.reduceSub, Nat.reduceEqDiff, Nat.reduceLeDiff, if_true, if_false, reduceCtorEq, List.nodup_nil, Bool.false_eq_true, Bool.not_true, Bool.not_false, Bool.true_and, Bool.false_and, Bool.and_true, Bool.and_false, ↓reduceIte, id_eq, List.tail_cons, Nat.zero_add, List.all_cons, List.all_nil, ne_eq, not_false_eq_true, and_self, and_true, true_and, e1, e2, e3, ho, p29, cut_all, z3, z11, z1, hz, (decide_eq_false c4), (decide_eq_false d4), (decide_eq_false d5), (decide_eq_false d6), (decide_eq_false d7), (decide_eq_false d8), (decide_eq_true d9), eq_ii, Nat.zero_le]
  · refine ⟨.ow (Vi.cutD (t.map PyData.int) none (some s) ++ [one] ++ Vi.cutD (t.map PyData.int) (some (s + 1)) none), a3, b3, .inr ⟨_, rfl, ins (s + 1) (by omega)⟩, ?_⟩
    simp -implicitDefEqProofs only [Ev.nd1, Ev.nd2, Ev.lent_fz, Ev.lent_ow, Ev.lent_oo, Ev.lent_mx, Ev.lent_ln, Ev.lent_nil, Ev.back_nil, Ev.back_tm, Ev.back_sl, Ev.runM_at, Ev.start_at, Ev.seq_at, Ev.pass_at, Ev.brk_at, Ev.cnt_at, Ev.ret_at, Ev.retN_at, Ev.asg_at, Ev.if_at, Ev.drop_at, Ev.tgt_at, Ev.tup_at, Ev.for_at, Ev.P_at, Ev.F_at, Ev.var_at, Ev.c_at, Ev.op_at, Ev.opF_at, Ev.call_at, Ev.call1_at, Ev.un_at, Ev.isi_at, Ev.nil_at, Ev.cons_at, Ev.aNil_at, Ev.aCons_at, Ev.lst_at', Ev.tupE_at, Ev.mix_at, Ev.t_at, Ev.tru_at, Ev.and_at, Ev.or_at, Ev.not_at, Ev.andV_at, Ev.orV_at, Ev.notV_at, Ev.if2_at, Ev.ix_at', Ev.no_at, Ev.yes_at, Ev.sl_at, Ev.rep_at, Ev.fn_at, Ev.fnK_at, Ev.seqL_at, Ev.seqT_at, Ev.enum_at, Ev.zip_at, K30.rng1_D, K30.lr1_D, Ev.lc_at, Ev.lcE_at, Ev.yesT_at, Ev.meth_at, Ev.idx_at, Ev.subApp_at, Ev.sortSet_at, Ev.hName_at, Ev.hNil_at, Ev.hCons_at, Ev.hTup_at, Ev.hSub_at, Ev.turns_nil, Ev.force_fz, Ev.force_ow, Ev.force_oo, Ev.force_mx, Ev.force_sl, Ev.norm_fz, Ev.norm_ow, Ev.norm_sl, Ev.argO_sl, Ev.own_at, Ev.setOwn_at, Ev.flatF, Ev.flatO, Ev.flatL, Ev.data_tm, Ev.data_sl, Ev.toD_fz, Ev.toD_ow, Ev.toD_ln, Ev.toD_oo, Ev.toD_mx, Ev.flat_fz, Ev.flat_ow, Ev.flat_sl, Ev.retP_fz, Ev.retP_ow, Ev.retP_oo, Ev.retP_sl, Ev.putP_fz, Ev.putP_ow, Ev.putP_oo, Ev.putP_mx, Ev.putP_sl, Ev.noLn_at, Ev.argOs_nil, Ev.argOs_cons, Ev.argO_fz, Ev.argO_ow, Ev.slots_nil, Ev.slots_tm, Ev.slots_sl, Ev.bOf_b, Ev.ownP_fz, Ev.ownP_ow, Ev.ownP_sl, Ev.ownPs_nil, Ev.ownPs_cons, Ev.putAll_nil, Ev.putAll_cons, Ev.mixI_nil, Ev.mixI_fz, Ev.mixI_ow, Ev.mixI_oo, Ev.ixD_list, Ev.ixD_tup, Ev.atI_0, Ev.atI_1, Ev.ixN_0, Ev.ixN_1, Ev.gt_ii, Ev.ge_ii, Ev.lt_ii, Ev.le_ii, Ev.add_ii, Ev.add_ll, Ev.sub_ii, Ev.mul_ii, Ev.fdv_ii, Ev.mod_ii, Ev.neg_i, Ev.int_i, Ev.abs_i, Ev.max2_ii, Ev.dvm_ii, Ev.len_l, Ev.len_t, Ev.listO_l, Ev.tupO_l, Ev.ints_map, Ev.intsD_map, Ev.sorted_l, Ev.sl_list, List.map_cons, List.map_nil, List.length_cons, List.length_nil, List.replicate_succ, List.replicate_zero, List.append_nil, List.nil_append, List.cons_append, List.getElem?_cons_zero, List.getElem?_cons_succ, List.getElem?_nil, List.set_cons_zero, List.set_cons_succ, List.set_nil, Option.bind_some, Option.bind_none, Option.map_some, Option.map_none, Nat.reduceAdd, Nat.reduceSub, Nat.reduceEqDiff, Nat.reduceLeDiff, if_true, if_false, reduceCtorEq, List.nodup_nil, Bool.false_eq_true, Bool.not_true, Bool.not_false, Bool.true_and, Bool.false_and, Bool.and_true, Bool.and_false, ↓reduceIte, id_eq, List.tail_cons, Nat.zero_add, List.all_cons, List.all_nil, ne_eq, not_false_eq_true, and_self, and_true, true_and, e1, e2, e3, ho, p29, cut_all, z3, z11, z1, hz, (decide_eq_false c4), (decide_eq_false d4), (decide_eq_false d5), (decide_eq_false d6), (decide_eq_false d7), (decide_eq_false d8), (decide_eq_false d9), eq_ii, Nat.zero_le, List.length_append, le1, le2b]
end K30
end
section
set_option Elab.async false
set_option linter.all false
set_option maxRecDepth 100000
set_option maxHeartbeats 8000000
namespace K30
open PySem PySem.Spec PyProof.Rows L2 Vi Vf Vo Vp Vs Vt Vu Vv Vg Vw Vx Vy Va Vb Vc Ev
/-- a colouring of m parts -/
def ColP (m : Int) (d : D) : Prop := ∃ ns : List Int, d = L ns ∧ (ns.length : Int) = m ∧ Full ns
theorem hd_mem : ∀ {ds : List D}, PyData.hasDictAll ds = false → ∀ x ∈ ds, x.hasDict = false
  | [], _, x, h => by cases h
  | d :: ds, e, x, h => by
    simp only [PyData.hasDictAll, Bool.or_eq_false_iff] at e
    rcases List.mem_cons.mp h with q | q
    · rw [q]; exact e.1
    · exact hd_mem e.2 x q
theorem walk_cnt : ∀ (ds : List D) (u : Option O), isFz u = true → (∀ x ∈ ds, x.hasDict = false) → walkG false (hName 0) (eF (eFn f_is_count (aCons (eP (eF (eVar 0))) aNil))) ds [u] = some (ds.all isCnt)
  | [], u, _, _ => rfl
  | d :: ds, u, hu, h => by
    have ih := walk_cnt ds (some (.fz d)) rfl fun x hx => h x (List.mem_cons_of_mem _ hx)
    have hn : noLn [u] 0 = true := noLn_fz (j := 0) rfl hu
    rw [walkG, Ev.hName_at, if_pos hn]
    simp -implicitDefEqProofs only [Ev.nd1, Ev.nd2, Ev.lent_fz, Ev.lent_ow, Ev.lent_oo, Ev.lent_mx, Ev.lent_ln, Ev.lent_nil, Ev.back_nil, Ev.back_tm, Ev.back_sl, Ev.runM_at, Ev.start_at, Ev.seq_at, Ev.pass_at, Ev.brk_at, Ev.cnt_at, Ev.ret_at, Ev.retN_at, Ev.asg_at, Ev.if_at, Ev.drop_at, Ev.tgt_at, Ev.tup_at, Ev.for_at, Ev.P_at, Ev.F_at, Ev.var_at, Ev.c_at, Ev.op_at, Ev.opF_at, Ev.call_at, Ev.call1_at, Ev.un_at, Ev.isi_at, Ev.nil_at, Ev.cons_at, Ev.aNil_at, Ev.aCons_at, Ev.lst_at', Ev.tupE_at, Ev.mix_at, Ev.t_at, Ev.tru_at, Ev.and_at, Ev.or_at, Ev.not_at, Ev.andV_at, Ev.orV_at, Ev.notV_at, Ev.if2_at, Ev.ix_at', Ev.no_at, Ev.yes_at, Ev.sl_at, Ev.rep_at, Ev.fn_at, Ev.fnK_at, Ev.seqL_at, Ev.seqT_at, Ev.enum_at, Ev.zip_at, K30.rng1_D, K30.lr1_D, Ev.lc_at, Ev.lcE_at, Ev.yesT_at, Ev.meth_at, Ev.idx_at, Ev.subApp_at, Ev.sortSet_at, Ev.hName_at, Ev.hNil_at, Ev.hCons_at, Ev.hTup_at, Ev.hSub_at, Ev.turns_nil, Ev.force_fz, Ev.force_ow, Ev.force_oo, Ev.force_mx, Ev.force_sl, Ev.norm_fz, Ev.norm_ow, Ev.norm_sl, Ev.argO_sl, Ev.own_at, Ev.setOwn_at, Ev.flatF, Ev.flatO, Ev.flatL, Ev.data_tm, Ev.data_sl, Ev.toD_fz, Ev.toD_ow, Ev.toD_ln, Ev.toD_oo, Ev.toD_mx, Ev.flat_fz, Ev.flat_ow, Ev.flat_sl, Ev.retP_fz, Ev.retP_ow, Ev.retP_oo, Ev.retP_sl, Ev.putP_fz, Ev.putP_ow, Ev.putP_oo, Ev.putP_mx, Ev.putP_sl, Ev.noLn_at, Ev.argOs_nil, Ev.argOs_cons, Ev.argO_fz, Ev.argO_ow, Ev.slots_nil, Ev.slots_tm, Ev.slots_sl, Ev.bOf_b, Ev.ownP_fz, Ev.ownP_ow, Ev.ownP_sl, Ev.ownPs_nil, Ev.ownPs_cons, Ev.putAll_nil, Ev.putAll_cons, Ev.mixI_nil, Ev.mixI_fz, Ev.mixI_ow, Ev.mixI_oo, Ev.ixD_list, Ev.ixD_tup, Ev.atI_0, Ev.atI_1, Ev.ixN_0, Ev.ixN_1, Ev.gt_ii, Ev.ge_ii, Ev.lt_ii, Ev.le_ii, Ev.add_ii, Ev.add_ll, Ev.sub_ii, Ev.mul_ii, Ev.fdv_ii, Ev.mod_ii, Ev.neg_i, Ev.int_i, Ev.abs_i, Ev.max2_ii, Ev.dvm_ii, Ev.len_l, Ev.len_t, Ev.listO_l, Ev.tupO_l, Ev.ints_map, Ev.intsD_map, Ev.sorted_l, Ev.sl_list, List.map_cons, List.map_nil, List.length_cons, List.length_nil, List.replicate_succ, List.replicate_zero, List.append_nil, List.nil_append, List.cons_append, List.getElem?_cons_zero, List.getElem?_cons_succ, List.getElem?_nil, List.set_cons_zero, List.set_cons_succ, List.set_nil, Option.bind_some, Option.bind_none, Option.map_some, Option.map_none, Nat.reduceAdd, Nat.reduceSub, Nat.reduceEqDiff, Nat.reduceLeDiff, if_true, if_false, reduceCtorEq, List.nodup_nil, Bool.false_eq_true, Bool.not_true, Bool.not_false, Bool.true_and, Bool.false_and, Bool.and_true, Bool.and_false, ↓reduceIte, id_eq, List.tail_cons, Nat.zero_add, List.all_cons, List.all_nil, ne_eq, not_false_eq_true, and_self, and_true, true_and, v_is_count (h d List.mem_cons_self)]
    cases hc : isCnt d with
    | false => rfl
    | true =>
      rw [if_neg (by decide), ih]
      rfl
theorem cnt_ints : ∀ {ds : List D}, ds.all isCnt = true → ∃ ns : List Int, ds = ns.map .int ∧ ∀ x ∈ ns, 0 ≤ x
  | [], _ => ⟨[], rfl, by simp⟩
  | d :: ds, h => by
    simp only [List.all_cons, Bool.and_eq_true] at h
    obtain ⟨ns, e, g⟩ := cnt_ints h.2
    cases d with
    | int i =>
      have : 0 ≤ i := by simpa [isCnt] using h.1
      exact ⟨i :: ns, by rw [e]; rfl, fun x hx => (List.mem_cons.mp hx).elim (fun q => by rw [q]; exact this) (g x)⟩
    | _ => simp [isCnt] at h
theorem int_cnt {ns : List Int} (h : ∀ x ∈ ns, 0 ≤ x) : (ns.map PyData.int).all isCnt = true := by
  simp only [List.all_map, List.all_eq_true]
  intro x hx
  simpa [isCnt] using h x hx
theorem upto_mem {n : Nat} {x : Int} : x ∈ upto n ↔ 0 ≤ x ∧ x < n := by
  unfold upto
  rw [List.mem_map]
  constructor
  · rintro ⟨i, hi, rfl⟩
    have := List.mem_range.mp hi
    omega
  · intro h
    exact ⟨x.toNat, List.mem_range.mpr (by omega), by omega⟩
theorem upto_nodup (n : Nat) : (upto n).Nodup := List.Pairwise.map _ (fun a b hne e => hne (by omega)) List.nodup_range
theorem full_iff {ns : List Int} (h : ∀ x ∈ ns, 0 ≤ x) {m : Int} (hm : maxL ns = some m) : ((dd ns).length : Int) = m + 1 ↔ Full ns := by
  obtain ⟨m1, m2⟩ := maxL_ok hm
  have m0 := h m m1
  have sub : ∀ x ∈ dd ns, x ∈ upto (m + 1).toNat := fun x hx => by
    have hx' := dd_mem.mp hx
    rw [upto_mem]
    have := m2 x hx'
    have := h x hx'
    omega
  constructor
  · intro e
    refine ⟨h, fun x hx j j0 jx => ?_⟩
    by_cases hj : j ∈ ns
    · exact hj
    · have nd : (j :: dd ns).Nodup := List.nodup_cons.mpr ⟨fun z => hj (dd_mem.mp z), dd_nodup ns⟩
      have := nd_len nd (m := upto (m + 1).toNat) fun y hy => (List.mem_cons.mp hy).elim (fun q => by rw [q, upto_mem]; have := m2 x hx; omega) (sub y)
      rw [upto_len] at this
      simp only [List.length_cons] at this
      omega
  · intro f
    have a := nd_len (dd_nodup ns) sub
    have b := nd_len (upto_nodup (m + 1).toNat) (m := dd ns) fun y hy => dd_mem.mpr (by
      rw [upto_mem] at hy
      exact f.2 m m1 y hy.1 (by omega))
    rw [upto_len] at a b
    omega
theorem v_is_colouring (m : Int) (d : D) (nd : d.hasDict = false) (hl : ∀ ds, d = .list ds → ds.length ≤ 100) : ∃ b : Bool, (b = true ↔ ColP m d) ∧ val f_is_colouring [.fz (.int m), .fz d] = some (.fz (.bool b), [none, none]) := by
  unfold val f_is_colouring m_is_colouring
  by_cases h1 : isList d = true
  · cases d with
    | list ds =>
      have hlen := hl ds rfl
      have hds := hd_mem (ds := ds) nd
      by_cases h2 : (ds.length : Int) = m
      · have hw := walk_cnt ds none rfl hds
        cases h3 : ds.all isCnt with
        | false =>
          rw [h3] at hw
          refine ⟨false, ⟨(fun z => by cases z), fun ⟨ns, e1, e2, e3⟩ => ?_⟩, ?_⟩
          · cases e1
            rw [int_cnt e3.1] at h3; cases h3
          · simp -implicitDefEqProofs only [Ev.nd1, Ev.nd2, Ev.lent_fz, Ev.lent_ow, Ev.lent_oo, Ev.lent_mx, Ev.lent_ln, Ev.lent_nil, Ev.back_nil, Ev.back_tm, Ev.back_sl, Ev.runM_at, Ev.start_at, Ev.seq_at, Ev.pass_at, Ev.brk_at, Ev.cnt_at, Ev.ret_at, Ev.retN_at, Ev.asg_at, Ev.if_at, Ev.drop_at, Ev.tgt_at, Ev.tup_at, Ev.for_at, Ev.P_at, Ev.F_at, Ev.var_at, Ev.c_at, Ev.op_at, Ev.opF_at, Ev.call_at, Ev.call1_at, Ev.un_at, Ev.isi_at, Ev.nil_at, Ev.cons_at, Ev.aNil_at, Ev.aCons_at, Ev.lst_at', Ev.tupE_at, Ev.mix_at, Ev.t_at, Ev.tru_at, Ev.and_at, Ev.or_at, Ev.not_at, Ev.andV_at, Ev.orV_at, Ev.notV_at, Ev.if2_at, Ev.ix_at', Ev.no_at, Ev.yes_at, Ev.sl_at, Ev.rep_at, Ev.fn_at, Ev.fnK_at, Ev.seqL_at, Ev.seqT_at, Ev.enum_at, Ev.zip_at, K30.rng1_D, K30.lr1_D, Ev.lc_at, Ev.lcE_at, Ev.yesT_at, Ev.meth_at, Ev.idx_at, Ev.subApp_at, Ev.sortSet_at, Ev.hName_at, Ev.hNil_at, Ev.hCons_at, Ev.hTup_at, Ev.hSub_at, Ev.turns_nil, Ev.force_fz, Ev.force_ow, Ev.force_oo, Ev.force_mx, Ev.force_sl, Ev.norm_fz, Ev.norm_ow, Ev.norm_sl, Ev.argO_sl, Ev.own_at, Ev.setOwn_at, Ev.flatF, Ev.flatO, Ev.flatL, Ev.data_tm, Ev.data_sl, Ev.toD_fz, Ev.toD_ow, Ev.toD_ln, Ev.toD_oo, Ev.toD_mx, Ev.flat_fz, Ev.flat_ow, Ev.flat_sl, Ev.retP_fz, Ev.retP_ow, Ev.retP_oo, Ev.retP_sl, Ev.putP_fz, Ev.putP_ow, Ev.putP_oo, Ev.putP_mx, Ev.putP_sl, Ev.noLn_at, Ev.argOs_nil, Ev.argOs_cons, Ev.argO_fz, Ev.argO_ow, Ev.slots_nil, Ev.slots_tm, Ev.slots_sl, Ev.bOf_b, Ev.ownP_fz, Ev.ownP_ow, Ev.ownP_sl, Ev.ownPs_nil, Ev.ownPs_cons, Ev.putAll_nil, Ev.putAll_cons, Ev.mixI_nil, Ev.mixI_fz, Ev.mixI_ow, Ev.mixI_oo, Ev.ixD_list, Ev.ixD_tup, Ev.atI_0, Ev.atI_1, Ev.ixN_0, Ev.ixN_1, Ev.gt_ii, Ev.ge_ii, Ev.lt_ii, Ev.le_ii, Ev.add_ii, Ev.add_ll, Ev.sub_ii, Ev.mul_ii, Ev.fdv_ii, Ev.mod_ii, Ev.neg_i, Ev.int_i, Ev.abs_i, Ev.max2_ii, Ev.dvm_ii, Ev.len_l, Ev.len_t, Ev.listO_l, Ev.tupO_l, Ev.ints_map, Ev.intsD_map, Ev.sorted_l, Ev.sl_list, List.map_cons, List.map_nil, List.length_cons, List.length_nil, List.replicate_succ, List.replicate_zero, List.append_nil, List.nil_append, List.cons_append, List.getElem?_cons_zero, List.getElem?_cons_succ, List.getElem?_nil, List.set_cons_zero, List.set_cons_succ, List.set_nil, Option.bind_some, Option.bind_none, Option.map_some, Option.map_none, Nat.reduceAdd, Nat.reduceSub, Nat.reduceEqDiff, Nat.reduceLeDiff, if_true, if_false, reduceCtorEq, List.nodup_nil, Bool.false_eq_true, Bool.not_true, Bool.not_false, Bool.true_and, Bool.false_and, Bool.and_true, Bool.and_false, ↓reduceIte, id_eq, List.tail_cons, Nat.zero_add, List.all_cons, List.all_nil, ne_eq, not_false_eq_true, and_self, and_true, true_and, kit_list nd, isList, ne_ii, (decide_eq_true h2), eWalk, gΔ, frzAll, List.foldl_nil, hw]
        | true =>
          rw [h3] at hw
          obtain ⟨ns, rfl, hge⟩ := cnt_ints h3
          by_cases h4 : m = 0
          · refine ⟨true, ⟨fun _ => ⟨ns, rfl, by simpa using h2, ?_⟩, fun _ => rfl⟩, ?_⟩
            · have : ns = [] := List.length_eq_zero_iff.mp (by simp at h2; omega)
              rw [this]; exact full_nil
            · simp -implicitDefEqProofs only [Ev.nd1, Ev.nd2, Ev.lent_fz, Ev.lent_ow, Ev.lent_oo, Ev.lent_mx, Ev.lent_ln, Ev.lent_nil, Ev.back_nil, Ev.back_tm, Ev.back_sl, Ev.runM_at, Ev.start_at, Ev.seq_at, Ev.pass_at, Ev.brk_at, Ev.cnt_at, Ev.ret_at, Ev.retN_at, Ev.asg_at, Ev.if_at, Ev.drop_at, Ev.tgt_at, Ev.tup_at, Ev.for_at, Ev.P_at, Ev.F_at, Ev.var_at, Ev.c_at, Ev.op_at, Ev.opF_at, Ev.call_at, Ev.call1_at, Ev.un_at, Ev.isi_at, Ev.nil_at, Ev.cons_at, Ev.aNil_at, Ev.aCons_at, Ev.lst_at', Ev.tupE_at, Ev.mix_at, Ev.t_at, Ev.tru_at, Ev.and_at, Ev.or_at, Ev.not_at, Ev.andV_at, Ev.orV_at, Ev.notV_at, Ev.if2_at, Ev.ix_at', Ev.no_at, Ev.yes_at, Ev.sl_at, Ev.rep_at, Ev.fn_at, Ev.fnK_at, Ev.seqL_at, Ev.seqT_at, Ev.enum_at, Ev.zip_at, K30.rng1_D, K30.lr1_D, Ev.lc_at, Ev.lcE_at, Ev.yesT_at, Ev.meth_at, Ev.idx_at, Ev.subApp_at, Ev.sortSet_at, Ev.hName_at, Ev.hNil_at, Ev.hCons_at, Ev.hTup_at, Ev.hSub_at, Ev.turns_nil, Ev.force_fz, Ev.force_ow, Ev.force_oo, Ev.force_mx, Ev.force_sl, Ev.norm_fz, Ev.norm_ow, Ev.norm_sl, Ev.argO_sl, Ev.own_at, Ev.setOwn_at, Ev.flatF, Ev.flatO, Ev.flatL, Ev.data_tm, Ev.data_sl, Ev.toD_fz, Ev.toD_ow, Ev.toD_ln, Ev.toD_oo, Ev.toD_mx, Ev.flat_fz, Ev.flat_ow, Ev.flat_sl, Ev.retP_fz, Ev.retP_ow, Ev.retP_oo, Ev.retP_sl, Ev.putP_fz, Ev.putP_ow, Ev.putP_oo, Ev.putP_mx, Ev.putP_sl, Ev.noLn_at, Ev.argOs_nil, Ev.argOs_cons, Ev.argO_fz, Ev.argO_ow, Ev.slots_nil, Ev.slots_tm, Ev.slots_sl, Ev.bOf_b, Ev.ownP_fz, Ev.ownP_ow, Ev.ownP_sl, Ev.ownPs_nil, Ev.ownPs_cons, Ev.putAll_nil, Ev.putAll_cons, Ev.mixI_nil, Ev.mixI_fz, Ev.mixI_ow, Ev.mixI_oo, Ev.ixD_list, Ev.ixD_tup, Ev.atI_0, Ev.atI_1, Ev.ixN_0, Ev.ixN_1, Ev.gt_ii, Ev.ge_ii, Ev.lt_ii, Ev.le_ii, Ev.add_ii, Ev.add_ll, Ev.sub_ii, Ev.mul_ii, Ev.fdv_ii, Ev.mod_ii, Ev.neg_i, Ev.int_i, Ev.abs_i, Ev.max2_ii, Ev.dvm_ii, Ev.len_l, Ev.len_t, Ev.listO_l, Ev.tupO_l, Ev.ints_map, Ev.intsD_map, Ev.sorted_l, Ev.sl_list, List.map_cons, List.map_nil, List.length_cons, List.length_nil, List.replicate_succ, List.replicate_zero, List.append_nil, List.nil_append, List.cons_append, List.getElem?_cons_zero, List.getElem?_cons_succ, List.getElem?_nil, List.set_cons_zero, List.set_cons_succ, List.set_nil, Option.bind_some, Option.bind_none, Option.map_some, Option.map_none, Nat.reduceAdd, Nat.reduceSub, Nat.reduceEqDiff, Nat.reduceLeDiff, if_true, if_false, reduceCtorEq, List.nodup_nil, Bool.false_eq_true, Bool.not_true, Bool.not_false, Bool.true_and, Bool.false_and, Bool.and_true, Bool.and_false, ↓reduceIte, id_eq, List.tail_cons, Nat.zero_add, List.all_cons, List.all_nil, ne_eq, not_false_eq_true, and_self, and_true, true_and, kit_list nd, isList, ne_ii, (decide_eq_true h2), eWalk, gΔ, frzAll, List.foldl_nil, hw, eq_ii, (decide_eq_true h4)]
          · obtain ⟨mx, hmx⟩ : ∃ mx, maxL ns = some mx := by
              cases ns with
              | nil => simp at h2; omega
              | cons x r => exact ⟨_, rfl⟩
            have fi := full_iff hge hmx
            have hlm := Ev.lenSet_l (ns := ns) (by simp at hlen; omega)
            have hmm := Ev.max_l hmx
            refine ⟨decide (((dd ns).length : Int) = mx + 1), ?_, ?_⟩
            · rw [decide_eq_true_eq, fi]
              refine ⟨fun f => ⟨ns, rfl, by simpa using h2, f⟩, fun ⟨ns', e1, e2, e3⟩ => ?_⟩
              have : ns = ns' := by
                have := PyData.list.inj e1
                have h5 : intsOf (ns.map .int) = intsOf (ns'.map .int) := by rw [this]
                rw [intsOf_map, intsOf_map] at h5
                exact Option.some.inj h5
              rw [this]; exact e3
            · simp -implicitDefEqProofs only [Ev.nd1, Ev.nd2, Ev.lent_fz, Ev.lent_ow, Ev.lent_oo, Ev.lent_mx, Ev.lent_ln, Ev.lent_nil, Ev.back_nil, Ev.back_tm, Ev.back_sl, Ev.runM_at, Ev.start_at, Ev.seq_at, Ev.pass_at, Ev.brk_at, Ev.cnt_at, Ev.ret_at, Ev.retN_at, Ev.asg_at, Ev.if_at, Ev.drop_at, Ev.tgt_at, Ev.tup_at, Ev.for_at, Ev.P_at, Ev.F_at, Ev.var_at, Ev.c_at, Ev.op_at, Ev.opF_at, Ev.call_at, Ev.call1_at, Ev.un_at, Ev.isi_at, Ev.nil_at, Ev.cons_at, Ev.aNil_at, Ev.aCons_at, Ev.lst_at', Ev.tupE_at, Ev.mix_at, Ev.t_at, Ev.tru_at, Ev.and_at, Ev.or_at, Ev.not_at, Ev.andV_at, Ev.orV_at, Ev.notV_at, Ev.if2_at, Ev.ix_at', Ev.no_at, Ev.yes_at, Ev.sl_at, Ev.rep_at, Ev.fn_at, Ev.fnK_at, Ev.seqL_at, Ev.seqT_at, Ev.enum_at, Ev.zip_at, K30.rng1_D, K30.lr1_D, Ev.lc_at, Ev.lcE_at, Ev.yesT_at, Ev.meth_at, Ev.idx_at, Ev.subApp_at, Ev.sortSet_at, Ev.hName_at, Ev.hNil_at, Ev.hCons_at, Ev.hTup_at, Ev.hSub_at, Ev.turns_nil, Ev.force_fz, Ev.force_ow, Ev.force_oo, Ev.force_mx, Ev.force_sl, Ev.norm_fz, Ev.norm_ow, Ev.norm_sl, Ev.argO_sl, Ev.own_at, Ev.setOwn_at, Ev.flatF, Ev.flatO, Ev.flatL, Ev.data_tm, Ev.data_sl, Ev.toD_fz, Ev.toD_ow, Ev.toD_ln, Ev.toD_oo, Ev.toD_mx, Ev.flat_fz, Ev.flat_ow, Ev.flat_sl, Ev.retP_fz, Ev.retP_ow, Ev.retP_oo, Ev.retP_sl, Ev.putP_fz, Ev.putP_ow, Ev.putP_oo, Ev.putP_mx, Ev.putP_sl, Ev.noLn_at, Ev.argOs_nil, Ev.argOs_cons, Ev.argO_fz, Ev.argO_ow, Ev.slots_nil, Ev.slots_tm, Ev.slots_sl, Ev.bOf_b, Ev.ownP_fz, Ev.ownP_ow, Ev.ownP_sl, Ev.ownPs_nil, Ev.ownPs_cons, Ev.putAll_nil, Ev.putAll_cons, Ev.mixI_nil, Ev.mixI_fz, Ev.mixI_ow, Ev.mixI_oo, Ev.ixD_list, Ev.ixD_tup, Ev.atI_0, Ev.atI_1, Ev.ixN_0, Ev.ixN_1, Ev.gt_ii, Ev.ge_ii, Ev.lt_ii, Ev.le_ii, Ev.add_ii, Ev.add_ll, Ev.sub_ii, Ev.mul_ii, Ev.fdv_ii, Ev.mod_ii, Ev.neg_i, Ev.int_i, Ev.abs_i, Ev.max2_ii, Ev.dvm_ii, Ev.len_l, Ev.len_t, Ev.listO_l, Ev.tupO_l, Ev.ints_map, Ev.intsD_map, Ev.sorted_l, Ev.sl_list, List.map_cons, List.map_nil, List.length_cons, List.length_nil, List.replicate_succ, List.replicate_zero, List.append_nil, List.nil_append, List.cons_append, List.getElem?_cons_zero, List.getElem?_cons_succ, List.getElem?_nil, List.set_cons_zero, List.set_cons_succ, List.set_nil, Option.bind_some, Option.bind_none, Option.map_some, Option.map_none, Nat.reduceAdd, Nat.reduceSub, Nat.reduceEqDiff, Nat.reduceLeDiff, if_true, if_false, reduceCtorEq, List.nodup_nil, Bool.false_eq_true, Bool.not_true, Bool.not_false, Bool.true_and, Bool.false_and, Bool.and_true, Bool.and_false, ↓reduceIte, id_eq, List.tail_cons, Nat.zero_add, List.all_cons, List.all_nil, ne_eq, not_false_eq_true, and_self, and_true, true_and, kit_list nd, isList, ne_ii, (decide_eq_true h2), eWalk, gΔ, frzAll, List.foldl_nil, hw, eq_ii, (decide_eq_false h4), hlm, hmm]
      · refine ⟨false, ⟨(fun z => by cases z), fun ⟨ns, e1, e2, e3⟩ => ?_⟩, ?_⟩
        · cases e1
          simp at h2; omega
        · simp -implicitDefEqProofs only [Ev.nd1, Ev.nd2, Ev.lent_fz, Ev.lent_ow, Ev.lent_oo, Ev.lent_mx, Ev.lent_ln, Ev.lent_nil, Ev.back_nil, Ev.back_tm, Ev.back_sl, Ev.runM_at, Ev.start_at, Ev.seq_at, Ev.pass_at, Ev.brk_at, Ev.cnt_at, Ev.ret_at, Ev.retN_at, Ev.asg_at, Ev.if_at, Ev.drop_at, Ev.tgt_at, Ev.tup_at, Ev.for_at, Ev.P_at, Ev.F_at, Ev.var_at, Ev.c_at, Ev.op_at, Ev.opF_at, Ev.call_at, Ev.call1_at, Ev.un_at, Ev.isi_at, Ev.nil_at, Ev.cons_at, Ev.aNil_at, Ev.aCons_at, Ev.lst_at', Ev.tupE_at, Ev.mix_at, Ev.t_at, Ev.tru_at, Ev.and_at, Ev.or_at, Ev.not_at, Ev.andV_at, Ev.orV_at, Ev.notV_at, Ev.if2_at, Ev.ix_at', Ev.no_at, Ev.yes_at, Ev.sl_at, Ev.rep_at, Ev.fn_at, Ev.fnK_at, Ev.seqL_at, Ev.seqT_at, Ev.enum_at, Ev.zip_at, K30.rng1_D, K30.lr1_D, Ev.lc_at, Ev.lcE_at, Ev.yesT_at, Ev.meth_at, Ev.idx_at, Ev.subApp_at, Ev.sortSet_at, Ev.hName_at, Ev.hNil_at, Ev.hCons_at, Ev.hTup_at, Ev.hSub_at, Ev.turns_nil, Ev.force_fz, Ev.force_ow, Ev.force_oo, Ev.force_mx, Ev.force_sl, Ev.norm_fz, Ev.norm_ow, Ev.norm_sl, Ev.argO_sl, Ev.own_at, Ev.setOwn_at, Ev.flatF, Ev.flatO, Ev.flatL, Ev.data_tm, Ev.data_sl, Ev.toD_fz, Ev.toD_ow, Ev.toD_ln, Ev.toD_oo, Ev.toD_mx, Ev.flat_fz, Ev.flat_ow, Ev.flat_sl, Ev.retP_fz, Ev.retP_ow, Ev.retP_oo, Ev.retP_sl, Ev.putP_fz, Ev.putP_ow, Ev.putP_oo, Ev.putP_mx, Ev.putP_sl, Ev.noLn_at, Ev.argOs_nil, Ev.argOs_cons, Ev.argO_fz, Ev.argO_ow, Ev.slots_nil, Ev.slots_tm, Ev.slots_sl, Ev.bOf_b, Ev.ownP_fz, Ev.ownP_ow, Ev.ownP_sl, Ev.ownPs_nil, Ev.ownPs_cons, Ev.putAll_nil, Ev.putAll_cons, Ev.mixI_nil, Ev.mixI_fz, Ev.mixI_ow, Ev.mixI_oo, Ev.ixD_list, Ev.ixD_tup, Ev.atI_0, Ev.atI_1, Ev.ixN_0, Ev.ixN_1, Ev.gt_ii, Ev.ge_ii, Ev.lt_ii, Ev.le_ii, Ev.add_ii, Ev.add_ll, Ev.sub_ii, Ev.mul_ii, Ev.fdv_ii, Ev.mod_ii, Ev.neg_i, Ev.int_i, Ev.abs_i, Ev.max2_ii, Ev.dvm_ii, Ev.len_l, Ev.len_t, Ev.listO_l, Ev.tupO_l, Ev.ints_map, Ev.intsD_map, Ev.sorted_l, Ev.sl_list, List.map_cons, List.map_nil, List.length_cons, List.length_nil, List.replicate_succ, List.replicate_zero, List.append_nil, List.nil_append, List.cons_append, List.getElem?_cons_zero, List.getElem?_cons_succ, List.getElem?_nil, List.set_cons_zero, List.set_cons_succ, List.set_nil, Option.bind_some, Option.bind_none, Option.map_some, Option.map_none, Nat.reduceAdd, Nat.reduceSub, Nat.reduceEqDiff, Nat.reduceLeDiff, if_true, if_false, reduceCtorEq, List.nodup_nil, Bool.false_eq_true, Bool.not_true, Bool.not_false, Bool.true_and, Bool.false_and, Bool.and_true, Bool.and_false, ↓reduceIte, id_eq, List.tail_cons, Nat.zero_add, List.all_cons, List.all_nil, ne_eq, not_false_eq_true, and_self, and_true, true_and, kit_list nd, isList, ne_ii, (decide_eq_false h2)]
    | _ => cases h1
  · have h1 : isList d = false := by simpa using h1
    refine ⟨false, ⟨(fun z => by cases z), fun ⟨ns, e1, e2, e3⟩ => ?_⟩, ?_⟩
    · rw [e1] at h1; cases h1
    · simp -implicitDefEqProofs only [Ev.nd1, Ev.nd2, Ev.lent_fz, Ev.lent_ow, Ev.lent_oo, Ev.lent_mx, Ev.lent_ln, Ev.lent_nil, Ev.back_nil, Ev.back_tm, Ev.back_sl, Ev.runM_at, Ev.start_at, Ev.seq_at, Ev.pass_at, Ev.brk_at, Ev.cnt_at, Ev.ret_at, Ev.retN_at, Ev.asg_at, Ev.if_at, Ev.drop_at, Ev.tgt_at, Ev.tup_at, Ev.for_at, Ev.P_at, Ev.F_at, Ev.var_at, Ev.c_at, Ev.op_at, Ev.opF_at, Ev.call_at, Ev.call1_at, Ev.un_at, Ev.isi_at, Ev.nil_at, Ev.cons_at, Ev.aNil_at, Ev.aCons_at, Ev.lst_at', Ev.tupE_at, Ev.mix_at, Ev.t_at, Ev.tru_at, Ev.and_at, Ev.or_at, Ev.not_at, Ev.andV_at, Ev.orV_at, Ev.notV_at, Ev.if2_at, Ev.ix_at', Ev.no_at, Ev.yes_at, Ev.sl_at, Ev.rep_at, Ev.fn_at, Ev.fnK_at, Ev.seqL_at, Ev.seqT_at, Ev.enum_at, Ev.zip_at, K30.rng1_D, K30.lr1_D, Ev.lc_at, Ev.lcE_at, Ev.yesT_at, Ev.meth_at, Ev.idx_at, Ev.subApp_at, Ev.sortSet_at, Ev.hName_at, Ev.hNil_at, Ev.hCons_at, Ev.hTup_at, Ev.hSub_at, Ev.turns_nil, Ev.force_fz, Ev.force_ow, Ev.force_oo, Ev.force_mx, Ev.force_sl, Ev.norm_fz, Ev.norm_ow, Ev.norm_sl, Ev.argO_sl, Ev.own_at, Ev.setOwn_at, Ev.flatF, Ev.flatO, Ev.flatL, Ev.data_tm, Ev.data_sl, Ev.toD_fz, Ev.toD_ow, Ev.toD_ln, Ev.toD_oo, Ev.toD_mx, Ev.flat_fz, Ev.flat_ow, Ev.flat_sl, Ev.retP_fz, Ev.retP_ow, Ev.retP_oo, Ev.retP_sl, Ev.putP_fz, Ev.putP_ow, Ev.putP_oo, Ev.putP_mx, Ev.putP_sl, Ev.noLn_at, Ev.argOs_nil, Ev.argOs_cons, Ev.argO_fz, Ev.argO_ow, Ev.slots_nil, Ev.slots_tm, Ev.slots_sl, Ev.bOf_b, Ev.ownP_fz, Ev.ownP_ow, Ev.ownP_sl, Ev.ownPs_nil, Ev.ownPs_cons, Ev.putAll_nil, Ev.putAll_cons, Ev.mixI_nil, Ev.mixI_fz, Ev.mixI_ow, Ev.mixI_oo, Ev.ixD_list, Ev.ixD_tup, Ev.atI_0, Ev.atI_1, Ev.ixN_0, Ev.ixN_1, Ev.gt_ii, Ev.ge_ii, Ev.lt_ii, Ev.le_ii, Ev.add_ii, Ev.add_ll, Ev.sub_ii, Ev.mul_ii, Ev.fdv_ii, Ev.mod_ii, Ev.neg_i, Ev.int_i, Ev.abs_i, Ev.max2_ii, Ev.dvm_ii, Ev.len_l, Ev.len_t, Ev.listO_l, Ev.tupO_l, Ev.ints_map, Ev.intsD_map, Ev.sorted_l, Ev.sl_list, List.map_cons, List.map_nil, List.length_cons, List.length_nil, List.replicate_succ, List.replicate_zero, List.append_nil, List.nil_append, List.cons_append, List.getElem?_cons_zero, List.getElem?_cons_succ, List.getElem?_nil, List.set_cons_zero, List.set_cons_succ, List.set_nil, Option.bind_some, Option.bind_none, Option.map_some, Option.map_none, Nat.reduceAdd, Nat.reduceSub, Nat.reduceEqDiff, Nat.reduceLeDiff, if_true, if_false, reduceCtorEq, List.nodup_nil, Bool.false_eq_true, Bool.not_true, Bool.not_false, Bool.true_and, Bool.false_and, Bool.and_true, Bool.and_false, ↓reduceIte, id_eq, List.tail_cons, Nat.zero_add, List.all_cons, List.all_nil, ne_eq, not_false_eq_true, and_self, and_true, true_and, kit_list nd, h1]
end K30
end
section
set_option Elab.async false
set_option linter.all false
set_option maxRecDepth 100000
set_option maxHeartbeats 8000000
namespace K30
open PySem PySem.Spec PyProof.Rows L2 Vi Vf Vo Vp Vs Vt Vu Vv Vg Vw Vx Vy Va Vb Vc Ev
theorem walk_int (A B : D) : ∀ (ds : List D) (u : Option O), isFz u = true → (∀ x ∈ ds, x.hasDict = false) → ∃ u', isFz u' = true ∧ turns (hName 2) (mSeq (mIf (eOr (eNot (eT (eIsi "int" (eVar 2)))) (eT (eIsi "bool" (eVar 2)))) (mSeq (mRet (eP (eC (.bool false)))) mPass) mPass) mPass) ds [some (.fz A), some (.fz B), u, none, none, none, none] =
    some (if ds.all isInt = true then .nx [some (.fz A), some (.fz B), u', none, none, none, none] else .rt (.fz (.bool false)) [some (.fz A), some (.fz B), u', none, none, none, none])
  | [], u, hu, _ => ⟨u, hu, rfl⟩
  | d :: ds, u, hu, h => by
    obtain ⟨u', hu', ih⟩ := walk_int A B ds (some (.fz d)) rfl fun x hx => h x (List.mem_cons_of_mem _ hx)
    have hn : noLn [some (.fz A), some (.fz B), u, none, none, none, none] 2 = true := noLn_fz (j := 2) rfl hu
    have hd := h d List.mem_cons_self
    cases hc : isInt d with
    | false =>
      refine ⟨some (.fz d), rfl, ?_⟩
      rw [turns, Ev.hName_at, if_pos hn]
      simp -implicitDefEqProofs only [Ev.nd1, Ev.nd2, Ev.lent_fz, Ev.lent_ow, Ev.lent_oo, Ev.lent_mx, Ev.lent_ln, Ev.lent_nil, Ev.back_nil, Ev.back_tm, Ev.back_sl, Ev.runM_at, Ev.start_at, Ev.seq_at, Ev.pass_at, Ev.brk_at, Ev.cnt_at, Ev.ret_at, Ev.retN_at, Ev.asg_at, Ev.if_at, Ev.drop_at, Ev.tgt_at, Ev.tup_at, Ev.for_at, Ev.P_at, Ev.F_at, Ev.var_at, Ev.c_at, Ev.op_at, Ev.opF_at, Ev.call_at, Ev.call1_at, Ev.un_at, Ev.isi_at, Ev.nil_at, Ev.cons_at, Ev.aNil_at, Ev.aCons_at, Ev.lst_at', Ev.tupE_at, Ev.mix_at, Ev.t_at, Ev.tru_at, Ev.and_at, Ev.or_at, Ev.not_at, Ev.andV_at, Ev.orV_at, Ev.notV_at, Ev.if2_at, Ev.ix_at', Ev.no_at, Ev.yes_at, Ev.sl_at, Ev.rep_at, Ev.fn_at, Ev.fnK_at, Ev.seqL_at, Ev.seqT_at, Ev.enum_at, Ev.zip_at, K30.rng1_D, K30.lr1_D, Ev.lc_at, Ev.lcE_at, Ev.yesT_at, Ev.meth_at, Ev.idx_at, Ev.subApp_at, Ev.sortSet_at, Ev.hName_at, Ev.hNil_at, Ev.hCons_at, Ev.hTup_at, Ev.hSub_at, Ev.turns_nil, Ev.force_fz, Ev.force_ow, Ev.force_oo, Ev.force_mx, Ev.force_sl, Ev.norm_fz, Ev.norm_ow, Ev.norm_sl, Ev.argO_sl, Ev.own_at, Ev.setOwn_at, Ev.flatF, Ev.flatO, Ev.flatL, Ev.data_tm, Ev.data_sl, Ev.toD_fz, Ev.toD_ow, Ev.toD_ln, Ev.toD_oo, Ev.toD_mx, Ev.flat_fz, Ev.flat_ow, Ev.flat_sl, Ev.retP_fz, Ev.retP_ow, Ev.retP_oo, Ev.retP_sl, Ev.putP_fz, Ev.putP_ow, Ev.putP_oo, Ev.putP_mx, Ev.putP_sl, Ev.noLn_at, Ev.argOs_nil, Ev.argOs_cons, Ev.argO_fz, Ev.argO_ow, Ev.slots_nil, Ev.slots_tm, Ev.slots_sl, Ev.bOf_b, Ev.ownP_fz, Ev.ownP_ow, Ev.ownP_sl, Ev.ownPs_nil, Ev.ownPs_cons, Ev.putAll_nil, Ev.putAll_cons, Ev.mixI_nil, Ev.mixI_fz, Ev.mixI_ow, Ev.mixI_oo, Ev.ixD_list, Ev.ixD_tup, Ev.atI_0, Ev.atI_1, Ev.ixN_0, Ev.ixN_1, Ev.gt_ii, Ev.ge_ii, Ev.lt_ii, Ev.le_ii, Ev.add_ii, Ev.add_ll, Ev.sub_ii, Ev.mul_ii, Ev.fdv_ii, Ev.mod_ii, Ev.neg_i, Ev.int_i, Ev.abs_i, Ev.max2_ii, Ev.dvm_ii, Ev.len_l, Ev.len_t, Ev.listO_l, Ev.tupO_l, Ev.ints_map, Ev.intsD_map, Ev.sorted_l, Ev.sl_list, List.map_cons, List.map_nil, List.length_cons, List.length_nil, List.replicate_succ, List.replicate_zero, List.append_nil, List.nil_append, List.cons_append, List.getElem?_cons_zero, List.getElem?_cons_succ, List.getElem?_nil, List.set_cons_zero, List.set_cons_succ, List.set_nil, Option.bind_some, Option.bind_none, Option.map_some, Option.map_none, Nat.reduceAdd, Nat.reduceSub, Nat.reduceEqDiff, Nat.reduceLeDiff, if_true, if_false, reduceCtorEq, List.nodup_nil, Bool.false_eq_true, Bool.not_true, Bool.not_false, Bool.true_and, Bool.false_and, Bool.and_true, Bool.and_false, ↓reduceIte, id_eq, List.tail_cons, Nat.zero_add, List.all_cons, List.all_nil, ne_eq, not_false_eq_true, and_self, and_true, true_and, kit_int hd, kit_bool hd, hc]
      cases isBool d <;> rfl
    | true =>
      have hb : isBool d = false := by cases d <;> first | rfl | cases hc
      refine ⟨u', hu', ?_⟩
      rw [turns, Ev.hName_at, if_pos hn]
      simp -implicitDefEqProofs only [Ev.nd1, Ev.nd2, Ev.lent_fz, Ev.lent_ow, Ev.lent_oo, Ev.lent_mx, Ev.lent_ln, Ev.lent_nil, Ev.back_nil, Ev.back_tm, Ev.back_sl, Ev.runM_at, Ev.start_at, Ev.seq_at, Ev.pass_at, Ev.brk_at, Ev.cnt_at, Ev.ret_at, Ev.retN_at, Ev.asg_at, Ev.if_at, Ev.drop_at, Ev.tgt_at, Ev.tup_at, Ev.for_at, Ev.P_at, Ev.F_at, Ev.var_at, Ev.c_at, Ev.op_at, Ev.opF_at, Ev.call_at, Ev.call1_at, Ev.un_at, Ev.isi_at, Ev.nil_at, Ev.cons_at, Ev.aNil_at, Ev.aCons_at, Ev.lst_at', Ev.tupE_at, Ev.mix_at, Ev.t_at, Ev.tru_at, Ev.and_at, Ev.or_at, Ev.not_at, Ev.andV_at, Ev.orV_at, Ev.notV_at, Ev.if2_at, Ev.ix_at', Ev.no_at, Ev.yes_at, Ev.sl_at, Ev.rep_at, Ev.fn_at, Ev.fnK_at, Ev.seqL_at, Ev.seqT_at, Ev.enum_at, Ev.zip_at, K30.rng1_D, K30.lr1_D, Ev.lc_at, Ev.lcE_at, Ev.yesT_at, Ev.meth_at, Ev.idx_at, Ev.subApp_at, Ev.sortSet_at, Ev.hName_at, Ev.hNil_at, Ev.hCons_at, Ev.hTup_at, Ev.hSub_at, Ev.turns_nil, Ev.force_fz, Ev.force_ow, Ev.force_oo, Ev.force_mx, Ev.force_sl, Ev.norm_fz, Ev.norm_ow, Ev.norm_sl, Ev.argO_sl, Ev.own_at, Ev.setOwn_at, Ev.flatF, Ev.flatO, Ev.flatL, Ev.data_tm, Ev.data_sl, Ev.toD_fz, Ev.toD_ow, Ev.toD_ln, Ev.toD_oo, Ev.toD_mx, Ev.flat_fz, Ev.flat_ow, Ev.flat_sl, Ev.retP_fz, Ev.retP_ow, Ev.retP_oo, Ev.retP_sl, Ev.putP_fz, Ev.putP_ow, Ev.putP_oo, Ev.putP_mx, Ev.putP_sl, Ev.noLn_at, Ev.argOs_nil, Ev.argOs_cons, Ev.argO_fz, Ev.argO_ow, Ev.slots_nil, Ev.slots_tm, Ev.slots_sl, Ev.bOf_b, Ev.ownP_fz, Ev.ownP_ow, Ev.ownP_sl, Ev.ownPs_nil, Ev.ownPs_cons, Ev.putAll_nil, Ev.putAll_cons, Ev.mixI_nil, Ev.mixI_fz, Ev.mixI_ow, Ev.mixI_oo, Ev.ixD_list, Ev.ixD_tup, Ev.atI_0, Ev.atI_1, Ev.ixN_0, Ev.ixN_1, Ev.gt_ii, Ev.ge_ii, Ev.lt_ii, Ev.le_ii, Ev.add_ii, Ev.add_ll, Ev.sub_ii, Ev.mul_ii, Ev.fdv_ii, Ev.mod_ii, Ev.neg_i, Ev.int_i, Ev.abs_i, Ev.max2_ii, Ev.dvm_ii, Ev.len_l, Ev.len_t, Ev.listO_l, Ev.tupO_l, Ev.ints_map, Ev.intsD_map, Ev.sorted_l, Ev.sl_list, List.map_cons, List.map_nil, List.length_cons, List.length_nil, List.replicate_succ, List.replicate_zero, List.append_nil, List.nil_append, List.cons_append, List.getElem?_cons_zero, List.getElem?_cons_succ, List.getElem?_nil, List.set_cons_zero, List.set_cons_succ, List.set_nil, Option.bind_some, Option.bind_none, Option.map_some, Option.map_none, Nat.reduceAdd, Nat.reduceSub, Nat.reduceEqDiff, Nat.reduceLeDiff, if_true, if_false, reduceCtorEq, List.nodup_nil, Bool.false_eq_true, Bool.not_true, Bool.not_false, Bool.true_and, Bool.false_and, Bool.and_true, Bool.and_false, ↓reduceIte, id_eq, List.tail_cons, Nat.zero_add, List.all_cons, List.all_nil, ne_eq, not_false_eq_true, and_self, and_true, true_and, kit_int hd, kit_bool hd, hc, hb, Bool.true_or, ih]
theorem int_ints : ∀ {ds : List D}, ds.all isInt = true → ∃ ns : List Int, ds = ns.map .int
  | [], _ => ⟨[], rfl⟩
  | d :: ds, h => by
    simp only [List.all_cons, Bool.and_eq_true] at h
    obtain ⟨ns, e⟩ := int_ints h.2
    cases d with
    | int i => exact ⟨i :: ns, by rw [e]; rfl⟩
    | _ => exact absurd h.1 (by simp [isInt])
theorem ints_int (ns : List Int) : (ns.map PyData.int).all isInt = true := by simp [isInt]
def dif (s : List Int) : Nat → Nat → List Int
  | _, 0 => []
  | lo, k + 1 => (s.getD (lo + 1) 0 - s.getD lo 0) :: dif s (lo + 1) k
theorem dif_len (s : List Int) : ∀ k lo, (dif s lo k).length = k
  | 0, _ => rfl
  | k + 1, lo => by simp [dif, dif_len s k]
theorem dif_mem (s : List Int) : ∀ k lo x, x ∈ dif s lo k ↔ ∃ i, lo ≤ i ∧ i < lo + k ∧ x = s.getD (i + 1) 0 - s.getD i 0
  | 0, lo, x => by
    simp only [dif, List.not_mem_nil, false_iff]
    rintro ⟨i, h1, h2, _⟩
    omega
  | k + 1, lo, x => by
    simp only [dif, List.mem_cons, dif_mem s k (lo + 1)]
    constructor
    · rintro (e | ⟨i, h1, h2, e⟩)
      · exact ⟨lo, Nat.le_refl _, by omega, e⟩
      · exact ⟨i, by omega, by omega, e⟩
    · rintro ⟨i, h1, h2, e⟩
      by_cases q : i = lo
      · subst q; exact .inl e
      · exact .inr ⟨i, by omega, by omega, e⟩
theorem at_L {s : List Int} {i : Nat} (h : i < s.length) : atI (s.map PyData.int) (i : Int) = some (.int (s.getD i 0)) := by
  rw [Ev.atI_nat' (by simpa using h)]
  simp [h]
theorem dif_go (A B C : Option O) (s : List Int) : ∀ (k lo : Nat), lo + k + 1 ≤ s.length → lcGo [5] (hName 5) eYesT (eOp subI (eP (eIx (eVar 3) (eF (eOpF addO (eF (eVar 5)) (eC (.int 1)))))) (eP (eIx (eVar 3) (eF (eVar 5))))) (rangeD lo k) [A, B, C, some (.ow (s.map .int)), none, none, none] = some ((dif s lo k).map .int, [A, B, C, some (.ow (s.map .int)), none, none, none])
  | 0, lo, _ => rfl
  | k + 1, lo, h => by
    have ih := dif_go A B C s k (lo + 1) (by omega)
    rw [Int.natCast_add, Int.natCast_one] at ih
    have a1 := at_L (s := s) (i := lo) (by omega)
    have a2 := at_L (s := s) (i := lo + 1) (by omega)
    rw [Int.natCast_add, Int.natCast_one] at a2
    rw [rangeD_succ, lcGo]
    simp -implicitDefEqProofs only [Ev.nd1, Ev.nd2, Ev.lent_fz, Ev.lent_ow, Ev.lent_oo, Ev.lent_mx, Ev.lent_ln, Ev.lent_nil, Ev.back_nil, Ev.back_tm, Ev.back_sl, Ev.runM_at, Ev.start_at, Ev.seq_at, Ev.pass_at, Ev.brk_at, Ev.cnt_at, Ev.ret_at, Ev.retN_at, Ev.asg_at, Ev.if_at, Ev.drop_at, Ev.tgt_at, Ev.tup_at, Ev.for_at, Ev.P_at, Ev.F_at, Ev.var_at, Ev.c_at, Ev.op_at, Ev.opF_at, Ev.call_at, Ev.call1_at, Ev.un_at, Ev.isi_at, Ev.nil_at, Ev.cons_at, Ev.aNil_at, Ev.aCons_at, Ev.lst_at', Ev.tupE_at, Ev.mix_at, Ev.t_at, Ev.tru_at, Ev.and_at, Ev.or_at, Ev.not_at, Ev.andV_at, Ev.orV_at, Ev.notV_at, Ev.if2_at, Ev.ix_at', Ev.no_at, Ev.yes_at, Ev.sl_at, Ev.rep_at, Ev.fn_at, Ev.fnK_at, Ev.seqL_at, Ev.seqT_at, Ev.enum_at, Ev.zip_at, K30.rng1_D, K30.lr1_D, Ev.lc_at, Ev.lcE_at, Ev.yesT_at, Ev.meth_at, Ev.idx_at, Ev.subApp_at, Ev.sortSet_at, Ev.hName_at, Ev.hNil_at, Ev.hCons_at, Ev.hTup_at, Ev.hSub_at, Ev.turns_nil, Ev.force_fz, Ev.force_ow, Ev.force_oo, Ev.force_mx, Ev.force_sl, Ev.norm_fz, Ev.norm_ow, Ev.norm_sl, Ev.argO_sl, Ev.own_at, Ev.setOwn_at, Ev.flatF, Ev.flatO, Ev.flatL, Ev.data_tm, Ev.data_sl, Ev.toD_fz, Ev.toD_ow, Ev.toD_ln, Ev.toD_oo, Ev.toD_mx, Ev.flat_fz, Ev.flat_ow, Ev.flat_sl, Ev.retP_fz, Ev.retP_ow, Ev.retP_oo, Ev.retP_sl, Ev.putP_fz, Ev.putP_ow, Ev.putP_oo, Ev.putP_mx, Ev.putP_sl, Ev.noLn_at, Ev.argOs_nil, Ev.argOs_cons, Ev.argO_fz, Ev.argO_ow, Ev.slots_nil, Ev.slots_tm, Ev.slots_sl, Ev.bOf_b, Ev.ownP_fz, Ev.ownP_ow, Ev.ownP_sl, Ev.ownPs_nil, Ev.ownPs_cons, Ev.putAll_nil, Ev.putAll_cons, Ev.mixI_nil, Ev.mixI_fz, Ev.mixI_ow, Ev.mixI_oo, Ev.ixD_list, Ev.ixD_tup, Ev.atI_0, Ev.atI_1, Ev.ixN_0, Ev.ixN_1, Ev.gt_ii, Ev.ge_ii, Ev.lt_ii, Ev.le_ii, Ev.add_ii, Ev.add_ll, Ev.sub_ii, Ev.mul_ii, Ev.fdv_ii, Ev.mod_ii, Ev.neg_i, Ev.int_i, Ev.abs_i, Ev.max2_ii, Ev.dvm_ii, Ev.len_l, Ev.len_t, Ev.listO_l, Ev.tupO_l, Ev.ints_map, Ev.intsD_map, Ev.sorted_l, Ev.sl_list, List.map_cons, List.map_nil, List.length_cons, List.length_nil, List.replicate_succ, List.replicate_zero, List.append_nil, List.nil_append, List.cons_append, List.getElem?_cons_zero, List.getElem?_cons_succ, List.getElem?_nil, List.set_cons_zero, List.set_cons_succ, List.set_nil, Option.bind_some, Option.bind_none, Option.map_some, Option.map_none, Nat.reduceAdd, Nat.reduceSub, Nat.reduceEqDiff, Nat.reduceLeDiff, if_true, if_false, reduceCtorEq, List.nodup_nil, Bool.false_eq_true, Bool.not_true, Bool.not_false, Bool.true_and, Bool.false_and, Bool.and_true, Bool.and_false, ↓reduceIte, id_eq, List.tail_cons, Nat.zero_add, List.all_cons, List.all_nil, ne_eq, not_false_eq_true, and_self, and_true, true_and, a1, a2, wipe_nil, wipe_cons, ih, dif]
theorem big_go (A B C E F G : Option O) : ∀ (ks : List Int), lcGo [6] (hName 6) (eT (eOp gtI (eVar 6) (eP (eC (.int 1))))) (eF (eVar 6)) (ks.map .int) [A, B, C, E, F, G, none] = some ((ks.filter fun k => decide (1 < k)).map .int, [A, B, C, E, F, G, none])
  | [] => rfl
  | k :: ks => by
    have ih := big_go A B C E F G ks
    rw [List.map_cons, lcGo]
    by_cases h : 1 < k
    · simp -implicitDefEqProofs only [Ev.nd1, Ev.nd2, Ev.lent_fz, Ev.lent_ow, Ev.lent_oo, Ev.lent_mx, Ev.lent_ln, Ev.lent_nil, Ev.back_nil, Ev.back_tm, Ev.back_sl, Ev.runM_at, Ev.start_at, Ev.seq_at, Ev.pass_at, Ev.brk_at, Ev.cnt_at, Ev.ret_at, Ev.retN_at, Ev.asg_at, Ev.if_at, Ev.drop_at, Ev.tgt_at, Ev.tup_at, Ev.for_at, Ev.P_at, Ev.F_at, Ev.var_at, Ev.c_at, Ev.op_at, Ev.opF_at, Ev.call_at, Ev.call1_at, Ev.un_at, Ev.isi_at, Ev.nil_at, Ev.cons_at, Ev.aNil_at, Ev.aCons_at, Ev.lst_at', Ev.tupE_at, Ev.mix_at, Ev.t_at, Ev.tru_at, Ev.and_at, Ev.or_at, Ev.not_at, Ev.andV_at, Ev.orV_at, Ev.notV_at, Ev.if2_at, Ev.ix_at', Ev.no_at, Ev.yes_at, Ev.sl_at, Ev.rep_at, Ev.fn_at, Ev.fnK_at, Ev.seqL_at, Ev.seqT_at, Ev.enum_at, Ev.zip_at, K30.rng1_D, K30.lr1_D, Ev.lc_at, Ev.lcE_at, Ev.yesT_at, Ev.meth_at, Ev.idx_at, Ev.subApp_at, Ev.sortSet_at, Ev.hName_at, Ev.hNil_at, Ev.hCons_at, Ev.hTup_at, Ev.hSub_at, Ev.turns_nil, Ev.force_fz, Ev.force_ow, Ev.force_oo, Ev.force_mx, Ev.force_sl, Ev.norm_fz, Ev.norm_ow, Ev.norm_sl, Ev.argO_sl, Ev.own_at, Ev.setOwn_at, Ev.flatF, Ev.flatO, Ev.flatL, Ev.data_tm, Ev.data_sl, Ev.toD_fz, Ev.toD_ow, Ev.toD_ln, Ev.toD_oo, Ev.toD_mx, Ev.flat_fz, Ev.flat_ow, Ev.flat_sl, Ev.retP_fz, Ev.retP_ow, Ev.retP_oo, Ev.retP_sl, Ev.putP_fz, Ev.putP_ow, Ev.putP_oo, Ev.putP_mx, Ev.putP_sl, Ev.noLn_at, Ev.argOs_nil, Ev.argOs_cons, Ev.argO_fz, Ev.argO_ow, Ev.slots_nil, Ev.slots_tm, Ev.slots_sl, Ev.bOf_b, Ev.ownP_fz, Ev.ownP_ow, Ev.ownP_sl, Ev.ownPs_nil, Ev.ownPs_cons, Ev.putAll_nil, Ev.putAll_cons, Ev.mixI_nil, Ev.mixI_fz, Ev.mixI_ow, Ev.mixI_oo, Ev.ixD_list, Ev.ixD_tup, Ev.atI_0, Ev.atI_1, Ev.ixN_0, Ev.ixN_1, Ev.gt_ii, Ev.ge_ii, Ev.lt_ii, Ev.le_ii, Ev.add_ii, Ev.add_ll, Ev.sub_ii, Ev.mul_ii, Ev.fdv_ii, Ev.mod_ii, Ev.neg_i, Ev.int_i, Ev.abs_i, Ev.max2_ii, Ev.dvm_ii, Ev.len_l, Ev.len_t, Ev.listO_l, Ev.tupO_l, Ev.ints_map, Ev.intsD_map, Ev.sorted_l, Ev.sl_list, List.map_cons, List.map_nil, List.length_cons, List.length_nil, List.replicate_succ, List.replicate_zero, List.append_nil, List.nil_append, List.cons_append, List.getElem?_cons_zero, List.getElem?_cons_succ, List.getElem?_nil, List.set_cons_zero, List.set_cons_succ, List.set_nil, Option.bind_some, Option.bind_none, Option.map_some, Option.map_none, Nat.reduceAdd, Nat.reduceSub, Nat.reduceEqDiff, Nat.reduceLeDiff, if_true, if_false, reduceCtorEq, List.nodup_nil, Bool.false_eq_true, Bool.not_true, Bool.not_false, Bool.true_and, Bool.false_and, Bool.and_true, Bool.and_false, ↓reduceIte, id_eq, List.tail_cons, Nat.zero_add, List.all_cons, List.all_nil, ne_eq, not_false_eq_true, and_self, and_true, true_and, h, decide_true, wipe_nil, wipe_cons, ih, List.filter_cons]
    · simp -implicitDefEqProofs only [Ev.nd1, Ev.nd2, Ev.lent_fz, Ev.lent_ow, Ev.lent_oo, Ev.lent_mx, Ev.lent_ln, Ev.lent_nil, Ev.back_nil, Ev.back_tm, Ev.back_sl, Ev.runM_at, Ev.start_at, Ev.seq_at, Ev.pass_at, Ev.brk_at, Ev.cnt_at, Ev.ret_at, Ev.retN_at, Ev.asg_at, Ev.if_at, Ev.drop_at, Ev.tgt_at, Ev.tup_at, Ev.for_at, Ev.P_at, Ev.F_at, Ev.var_at, Ev.c_at, Ev.op_at, Ev.opF_at, Ev.call_at, Ev.call1_at, Ev.un_at, Ev.isi_at, Ev.nil_at, Ev.cons_at, Ev.aNil_at, Ev.aCons_at, Ev.lst_at', Ev.tupE_at, Ev.mix_at, Ev.t_at, Ev.tru_at, Ev.and_at, Ev.or_at, Ev.not_at, Ev.andV_at, Ev.orV_at, Ev.notV_at, Ev.if2_at, Ev.ix_at', Ev.no_at, Ev.yes_at, Ev.sl_at, Ev.rep_at, Ev.fn_at, Ev.fnK_at, Ev.seqL_at, Ev.seqT_at, Ev.enum_at, Ev.zip_at, K30.rng1_D, K30.lr1_D, Ev.lc_at, Ev.lcE_at, Ev.yesT_at, Ev.meth_at, Ev.idx_at, Ev.subApp_at, Ev.sortSet_at, Ev.hName_at, Ev.hNil_at, Ev.hCons_at, Ev.hTup_at, Ev.hSub_at, Ev.turns_nil, Ev.force_fz, Ev.force_ow, Ev.force_oo, Ev.force_mx, Ev.force_sl, Ev.norm_fz, Ev.norm_ow, Ev.norm_sl, Ev.argO_sl, Ev.own_at, Ev.setOwn_at, Ev.flatF, Ev.flatO, Ev.flatL, Ev.data_tm, Ev.data_sl, Ev.toD_fz, Ev.toD_ow, Ev.toD_ln, Ev.toD_oo, Ev.toD_mx, Ev.flat_fz, Ev.flat_ow, Ev.flat_sl, Ev.retP_fz, Ev.retP_ow, Ev.retP_oo, Ev.retP_sl, Ev.putP_fz, Ev.putP_ow, Ev.putP_oo, Ev.putP_mx, Ev.putP_sl, Ev.noLn_at, Ev.argOs_nil, Ev.argOs_cons, Ev.argO_fz, Ev.argO_ow, Ev.slots_nil, Ev.slots_tm, Ev.slots_sl, Ev.bOf_b, Ev.ownP_fz, Ev.ownP_ow, Ev.ownP_sl, Ev.ownPs_nil, Ev.ownPs_cons, Ev.putAll_nil, Ev.putAll_cons, Ev.mixI_nil, Ev.mixI_fz, Ev.mixI_ow, Ev.mixI_oo, Ev.ixD_list, Ev.ixD_tup, Ev.atI_0, Ev.atI_1, Ev.ixN_0, Ev.ixN_1, Ev.gt_ii, Ev.ge_ii, Ev.lt_ii, Ev.le_ii, Ev.add_ii, Ev.add_ll, Ev.sub_ii, Ev.mul_ii, Ev.fdv_ii, Ev.mod_ii, Ev.neg_i, Ev.int_i, Ev.abs_i, Ev.max2_ii, Ev.dvm_ii, Ev.len_l, Ev.len_t, Ev.listO_l, Ev.tupO_l, Ev.ints_map, Ev.intsD_map, Ev.sorted_l, Ev.sl_list, List.map_cons, List.map_nil, List.length_cons, List.length_nil, List.replicate_succ, List.replicate_zero, List.append_nil, List.nil_append, List.cons_append, List.getElem?_cons_zero, List.getElem?_cons_succ, List.getElem?_nil, List.set_cons_zero, List.set_cons_succ, List.set_nil, Option.bind_some, Option.bind_none, Option.map_some, Option.map_none, Nat.reduceAdd, Nat.reduceSub, Nat.reduceEqDiff, Nat.reduceLeDiff, if_true, if_false, reduceCtorEq, List.nodup_nil, Bool.false_eq_true, Bool.not_true, Bool.not_false, Bool.true_and, Bool.false_and, Bool.and_true, Bool.and_false, ↓reduceIte, id_eq, List.tail_cons, Nat.zero_add, List.all_cons, List.all_nil, ne_eq, not_false_eq_true, and_self, and_true, true_and, h, decide_false, wipe_nil, wipe_cons, ih, List.filter_cons]
theorem cut_one : ∀ s : List Int, Vi.cutD (s.map PyData.int) none (some 1) = (s.take 1).map .int
  | [] => rfl
  | a :: r => by
    unfold Vi.cutD
    have e1 : HT.sIx ((a :: r).map PyData.int).length 0 none = 0 := rfl
    have e2 : HT.sIx ((a :: r).map PyData.int).length ((a :: r).map PyData.int).length (some 1) = 1 := by
      unfold HT.sIx
      simp
    rw [e1, e2]
    simp
theorem in_one (s : List Int) : inD false (.list ((s.take 1).map .int)) (.tuple [.list [], .list [.int 0]]) = some (.bool (decide (s = [] ∨ s.head? = some 0))) := by
  have h1 : SeqAt.shaped (.list ((s.take 1).map .int)) = true := shaped_L _
  have h2 : SeqAt.shaped (.tuple [.list [], .list [.int 0]]) = true := by decide +kernel
  unfold inD itemsOf
  rw [Option.bind_some, if_pos ⟨h1, h2⟩]
  cases s with
  | nil => rfl
  | cons a r =>
    have e1 : PyData.eqv (.list []) (.list [.int a]) = false := rfl
    have e2 : PyData.eqv (.list [.int 0]) (.list [.int a]) = decide (a = 0) := by
      have := eqvAll_L [0] [a]
      simp only [List.map_cons, List.map_nil] at this
      simp only [PyData.eqv, this]
      by_cases h : a = 0 <;> simp [h, eq_comm]
    simp [e1, e2]
theorem steps_full {ns : List Int} {a : Int} {r : List Int} (hs : sortI ns = a :: r) : (a = 0 ∧ ∀ x ∈ dif (sortI ns) 0 r.length, x ≤ 1) ↔ Full ns := by
  have so := sortI_sorted ns
  have hl : (sortI ns).length = r.length + 1 := by rw [hs]; rfl
  have gd : ∀ i (h : i < (sortI ns).length), (sortI ns).getD i 0 = (sortI ns)[i] := fun i h => by simp [h]
  have a0 : (sortI ns)[0]'(by omega) = a := by simp [hs]
  have mono := List.pairwise_iff_getElem.mp so
  have mo : ∀ i j (hi : i < (sortI ns).length) (hj : j < (sortI ns).length), i ≤ j → (sortI ns)[i] ≤ (sortI ns)[j] := fun i j hi hj h => by
    rcases Nat.lt_or_eq_of_le h with q | q
    · exact mono i j hi hj q
    · subst q; exact Int.le_refl _
  constructor
  · rintro ⟨h0, hst⟩
    have key : ∀ i (h : i < (sortI ns).length), ∀ j, 0 ≤ j → j ≤ (sortI ns)[i] → j ∈ ns := by
      intro i
      induction i with
      | zero =>
        intro h j j0 j1
        have : j = (sortI ns)[0] := by omega
        rw [this]; exact sortI_mem.mp (List.getElem_mem h)
      | succ i ih =>
        intro h j j0 j1
        by_cases q : j ≤ (sortI ns)[i]
        · exact ih (by omega) j j0 q
        · have := hst _ ((dif_mem _ _ _ _).mpr ⟨i, by omega, by omega, rfl⟩)
          rw [gd (i + 1) h, gd i (by omega)] at this
          have : j = (sortI ns)[i + 1] := by omega
          rw [this]; exact sortI_mem.mp (List.getElem_mem h)
    refine ⟨fun x hx => ?_, fun x hx j j0 j1 => ?_⟩
    · obtain ⟨i, hi, rfl⟩ := List.getElem_of_mem (sortI_mem.mpr hx)
      have := mo 0 i (by omega) hi (by omega)
      omega
    · obtain ⟨i, hi, rfl⟩ := List.getElem_of_mem (sortI_mem.mpr hx)
      exact key i hi j j0 j1
  · rintro ⟨f1, f2⟩
    have ha : a ∈ ns := sortI_mem.mp (by rw [hs]; simp)
    have z := f2 a ha 0 (Int.le_refl _) (f1 a ha)
    obtain ⟨k, hk, e⟩ := List.getElem_of_mem (sortI_mem.mpr z)
    have := mo 0 k (by omega) hk (by omega)
    have := f1 a ha
    refine ⟨by omega, fun x hx => ?_⟩
    obtain ⟨i, _, h2, rfl⟩ := (dif_mem _ _ _ _).mp hx
    have hi1 : i + 1 < (sortI ns).length := by omega
    have hi0 : i < (sortI ns).length := by omega
    rw [gd (i + 1) hi1, gd i hi0]
    refine Int.not_lt.mp fun hlt => ?_
    have m1 : (sortI ns)[i + 1] ∈ ns := sortI_mem.mp (List.getElem_mem hi1)
    have m0 : (sortI ns)[i] ∈ ns := sortI_mem.mp (List.getElem_mem hi0)
    have := f2 _ m1 ((sortI ns)[i] + 1) (by have := f1 _ m0; omega) (by omega)
    obtain ⟨k, hk, e⟩ := List.getElem_of_mem (sortI_mem.mpr this)
    by_cases q : k ≤ i
    · have := mo k i hk hi0 q; omega
    · have := mo (i + 1) k hi1 hk (by omega); omega
theorem colP_iff {m : Int} {ns : List Int} (h : (ns.length : Int) = m) : ColP m (L ns) ↔ Full ns := by
  refine ⟨fun ⟨ns', e1, e2, e3⟩ => ?_, fun f => ⟨ns, rfl, h, f⟩⟩
  have : ns = ns' := by
    have := PyData.list.inj e1
    have h5 : intsOf (ns.map .int) = intsOf (ns'.map .int) := by rw [this]
    rw [intsOf_map, intsOf_map] at h5
    exact Option.some.inj h5
  rw [this]; exact e3
theorem v_is_one (m : Int) (d : D) (nd : d.hasDict = false) (hl : ∀ ds, d = .list ds → ds.length ≤ 100) : ∃ b : Bool, (b = true ↔ ColP m d) ∧ val f__law_is_one [.fz (.int m), .fz d] = some (.fz (.bool b), [none, none]) := by
  unfold val f__law_is_one m__law_is_one
  by_cases h1 : isList d = true
  · cases d with
    | list ds =>
      have hlen := hl ds rfl
      have hds := hd_mem (ds := ds) nd
      by_cases h2 : (ds.length : Int) = m
      · obtain ⟨u', hu', hw⟩ := walk_int (.int m) (.list ds) ds none rfl hds
        cases h3 : ds.all isInt with
        | false =>
          rw [h3, if_neg (by decide)] at hw
          refine ⟨false, ⟨(fun z => by cases z), fun ⟨ns, e1, e2, e3⟩ => ?_⟩, ?_⟩
          · cases e1
            rw [ints_int] at h3; cases h3
          · simp -implicitDefEqProofs only [Ev.nd1, Ev.nd2, Ev.lent_fz, Ev.lent_ow, Ev.lent_oo, Ev.lent_mx, Ev.lent_ln, Ev.lent_nil, Ev.back_nil, Ev.back_tm, Ev.back_sl, Ev.runM_at, Ev.start_at, Ev.seq_at, Ev.pass_at, Ev.brk_at, Ev.cnt_at, Ev.ret_at, Ev.retN_at, Ev.asg_at, Ev.if_at, Ev.drop_at, Ev.tgt_at, Ev.tup_at, Ev.for_at, Ev.P_at, Ev.F_at, Ev.var_at, Ev.c_at, Ev.op_at, Ev.opF_at, Ev.call_at, Ev.call1_at, Ev.un_at, Ev.isi_at, Ev.nil_at, Ev.cons_at, Ev.aNil_at, Ev.aCons_at, Ev.lst_at', Ev.tupE_at, Ev.mix_at, Ev.t_at, Ev.tru_at, Ev.and_at, Ev.or_at, Ev.not_at, Ev.andV_at, Ev.orV_at, Ev.notV_at, Ev.if2_at, Ev.ix_at', Ev.no_at, Ev.yes_at, Ev.sl_at, Ev.rep_at, Ev.fn_at, Ev.fnK_at, Ev.seqL_at, Ev.seqT_at, Ev.enum_at, Ev.zip_at, K30.rng1_D, K30.lr1_D, Ev.lc_at, Ev.lcE_at, Ev.yesT_at, Ev.meth_at, Ev.idx_at, Ev.subApp_at, Ev.sortSet_at, Ev.hName_at, Ev.hNil_at, Ev.hCons_at, Ev.hTup_at, Ev.hSub_at, Ev.turns_nil, Ev.force_fz, Ev.force_ow, Ev.force_oo, Ev.force_mx, Ev.force_sl, Ev.norm_fz, Ev.norm_ow, Ev.norm_sl, Ev.argO_sl, Ev.own_at, Ev.setOwn_at, Ev.flatF, Ev.flatO, Ev.flatL, Ev.data_tm, Ev.data_sl, Ev.toD_fz, Ev.toD_ow, Ev.toD_ln, Ev.toD_oo, Ev.toD_mx, Ev.flat_fz, Ev.flat_ow, Ev.flat_sl, Ev.retP_fz, Ev.retP_ow, Ev.retP_oo, Ev.retP_sl, Ev.putP_fz, Ev.putP_ow, Ev.putP_oo, Ev.putP_mx, Ev.putP_sl, Ev.noLn_at, Ev.argOs_nil, Ev.argOs_cons, Ev.argO_fz, Ev.argO_ow, Ev.slots_nil, Ev.slots_tm, Ev.slots_sl, Ev.bOf_b, Ev.ownP_fz, Ev.ownP_ow, Ev.ownP_sl, Ev.ownPs_nil, Ev.ownPs_cons, Ev.putAll_nil, Ev.putAll_cons, Ev.mixI_nil, Ev.mixI_fz, Ev.mixI_ow, Ev.mixI_oo, Ev.ixD_list, Ev.ixD_tup, Ev.atI_0, Ev.atI_1, Ev.ixN_0, Ev.ixN_1, Ev.gt_ii, Ev.ge_ii, Ev.lt_ii, Ev.le_ii, Ev.add_ii, Ev.add_ll, Ev.sub_ii, Ev.mul_ii, Ev.fdv_ii, Ev.mod_ii, Ev.neg_i, Ev.int_i, Ev.abs_i, Ev.max2_ii, Ev.dvm_ii, Ev.len_l, Ev.len_t, Ev.listO_l, Ev.tupO_l, Ev.ints_map, Ev.intsD_map, Ev.sorted_l, Ev.sl_list, List.map_cons, List.map_nil, List.length_cons, List.length_nil, List.replicate_succ, List.replicate_zero, List.append_nil, List.nil_append, List.cons_append, List.getElem?_cons_zero, List.getElem?_cons_succ, List.getElem?_nil, List.set_cons_zero, List.set_cons_succ, List.set_nil, Option.bind_some, Option.bind_none, Option.map_some, Option.map_none, Nat.reduceAdd, Nat.reduceSub, Nat.reduceEqDiff, Nat.reduceLeDiff, if_true, if_false, reduceCtorEq, List.nodup_nil, Bool.false_eq_true, Bool.not_true, Bool.not_false, Bool.true_and, Bool.false_and, Bool.and_true, Bool.and_false, ↓reduceIte, id_eq, List.tail_cons, Nat.zero_add, List.all_cons, List.all_nil, ne_eq, not_false_eq_true, and_self, and_true, true_and, kit_list nd, isList, ne_ii, (decide_eq_true h2), hw]
        | true =>
          rw [h3, if_pos rfl] at hw
          obtain ⟨ns, rfl⟩ := int_ints h3
          have hln : (ns.length : Int) = m := by simpa using h2
          rw [List.length_map] at hlen
          have hr : rngD [.int ((((sortI ns).map PyData.int).length : Int) - 1)] = some (rangeD ((0 : Nat) : Int) ((sortI ns).length - 1)) := by
            rw [List.length_map, rngD_of (rgOk_of (by omega) (by rw [sortI_len]; omega))]
            congr 2
            omega
          have hz : (rangeD ((0 : Nat) : Int) ((sortI ns).length - 1)).length ≤ sizeLine := by
            unfold rangeD
            rw [List.length_map, List.length_range, sortI_len, sizeLine_eq]; omega
          have hz2 : ((dif (sortI ns) 0 ((sortI ns).length - 1)).map PyData.int).length ≤ sizeLine := by
            rw [List.length_map, dif_len, sortI_len, sizeLine_eq]; omega
          have z2 : 2 ≤ sizeLine := le_size (by decide)
          have z1 : 1 ≤ sizeLine := le_size (by decide)
          have ho : okv [some (.fz (.int m)), some (.fz (L ns)), u', some (.ow ((sortI ns).map .int)), none, none, none] 5 = true := rfl
          have hdg : lcGo [5] (hName 5) eYesT (eOp subI (eP (eIx (eVar 3) (eF (eOpF addO (eF (eVar 5)) (eC (.int 1)))))) (eP (eIx (eVar 3) (eF (eVar 5))))) (rangeD ((0 : Nat) : Int) ((sortI ns).length - 1)) [some (.fz (.int m)), some (.fz (L ns)), u', some (.ow ((sortI ns).map .int)), none, none, none] = some ((dif (sortI ns) 0 ((sortI ns).length - 1)).map .int, [some (.fz (.int m)), some (.fz (L ns)), u', some (.ow ((sortI ns).map .int)), none, none, none]) := by
            by_cases q : (sortI ns).length = 0
            · rw [q]; rfl
            · exact dif_go _ _ _ (sortI ns) ((sortI ns).length - 1) 0 (by omega)
          refine ⟨decide (sortI ns = [] ∨ (sortI ns).head? = some 0) && decide ((dif (sortI ns) 0 ((sortI ns).length - 1)).filter (fun k => decide (1 < k)) = []), ?_, ?_⟩
          · rw [colP_iff hln]
            simp only [Bool.and_eq_true, decide_eq_true_eq]
            cases hs : sortI ns with
            | nil =>
              have : ns = [] := List.length_eq_zero_iff.mp (by rw [← sortI_len, hs]; rfl)
              subst this
              exact ⟨fun _ => full_nil, fun _ => ⟨.inl rfl, rfl⟩⟩
            | cons a r =>
              rw [← steps_full hs, ← hs, show (sortI ns).length - 1 = r.length by rw [hs]; rfl, List.filter_eq_nil_iff]
              simp only [decide_eq_true_eq, Int.not_lt]
              rw [hs]
              simp
          · simp -implicitDefEqProofs only [Ev.nd1, Ev.nd2, Ev.lent_fz, Ev.lent_ow, Ev.lent_oo, Ev.lent_mx, Ev.lent_ln, Ev.lent_nil, Ev.back_nil, Ev.back_tm, Ev.back_sl, Ev.runM_at, Ev.start_at, Ev.seq_at, Ev.pass_at, Ev.brk_at, Ev.cnt_at, Ev.ret_at, Ev.retN_at, Ev.asg_at, Ev.if_at, Ev.drop_at, Ev.tgt_at, Ev.tup_at, Ev.for_at, Ev.P_at, Ev.F_at, Ev.var_at, Ev.c_at, Ev.op_at, Ev.opF_at, Ev.call_at, Ev.call1_at, Ev.un_at, Ev.isi_at, Ev.nil_at, Ev.cons_at, Ev.aNil_at, Ev.aCons_at, Ev.lst_at', Ev.tupE_at, Ev.mix_at, Ev.t_at, Ev.tru_at, Ev.and_at, Ev.or_at, Ev.not_at, Ev.andV_at, Ev.orV_at, Ev.notV_at, Ev.if2_at, Ev.ix_at', Ev.no_at, Ev.yes_at, Ev.sl_at, Ev.rep_at, Ev.fn_at, Ev.fnK_at, Ev.seqL_at, Ev.seqT_at, Ev.enum_at, Ev.zip_at, K30.rng1_D, K30.lr1_D, Ev.lc_at, Ev.lcE_at, Ev.yesT_at, Ev.meth_at, Ev.idx_at, Ev.subApp_at, Ev.sortSet_at, Ev.hName_at, Ev.hNil_at, Ev.hCons_at, Ev.hTup_at, Ev.hSub_at, Ev.turns_nil, Ev.force_fz, Ev.force_ow, Ev.force_oo, Ev.force_mx, Ev.force_sl, Ev.norm_fz, Ev.norm_ow, Ev.norm_sl, Ev.argO_sl, Ev.own_at, Ev.setOwn_at, Ev.flatF, Ev.flatO, Ev.flatL, Ev.data_tm, Ev.data_sl, Ev.toD_fz, Ev.toD_ow, Ev.toD_ln, Ev.toD_oo, Ev.toD_mx, Ev.flat_fz, Ev.flat_ow, Ev.flat_sl, Ev.retP_fz, Ev.retP_ow, Ev.retP_oo, Ev.retP_sl, Ev.putP_fz, Ev.putP_ow, Ev.putP_oo, Ev.putP_mx, Ev.putP_sl, Ev.noLn_at, Ev.argOs_nil, Ev.argOs_cons, Ev.argO_fz, Ev.argO_ow, Ev.slots_nil, Ev.slots_tm, Ev.slots_sl, Ev.bOf_b, Ev.ownP_fz, Ev.ownP_ow, Ev.ownP_sl, Ev.ownPs_nil, Ev.ownPs_cons, Ev.putAll_nil, Ev.putAll_cons, Ev.mixI_nil, Ev.mixI_fz, Ev.mixI_ow, Ev.mixI_oo, Ev.ixD_list, Ev.ixD_tup, Ev.atI_0, Ev.atI_1, Ev.ixN_0, Ev.ixN_1, Ev.gt_ii, Ev.ge_ii, Ev.lt_ii, Ev.le_ii, Ev.add_ii, Ev.add_ll, Ev.sub_ii, Ev.mul_ii, Ev.fdv_ii, Ev.mod_ii, Ev.neg_i, Ev.int_i, Ev.abs_i, Ev.max2_ii, Ev.dvm_ii, Ev.len_l, Ev.len_t, Ev.listO_l, Ev.tupO_l, Ev.ints_map, Ev.intsD_map, Ev.sorted_l, Ev.sl_list, List.map_cons, List.map_nil, List.length_cons, List.length_nil, List.replicate_succ, List.replicate_zero, List.append_nil, List.nil_append, List.cons_append, List.getElem?_cons_zero, List.getElem?_cons_succ, List.getElem?_nil, List.set_cons_zero, List.set_cons_succ, List.set_nil, Option.bind_some, Option.bind_none, Option.map_some, Option.map_none, Nat.reduceAdd, Nat.reduceSub, Nat.reduceEqDiff, Nat.reduceLeDiff, if_true, if_false, reduceCtorEq, List.nodup_nil, Bool.false_eq_true, Bool.not_true, Bool.not_false, Bool.true_and, Bool.false_and, Bool.and_true, Bool.and_false, ↓reduceIte, id_eq, List.tail_cons, Nat.zero_add, List.all_cons, List.all_nil, ne_eq, not_false_eq_true, and_self, and_true, true_and, kit_list nd, isList, ne_ii, (decide_eq_true h2), hw, hr, hz, ho, okv, wipe_nil, wipe_cons, rest_nil, rest_cons, Option.getD_some, hdg, hz2, z2, z1, Nat.zero_le, cut_one, in_one, big_go, eq_ii]
            cases hc : decide (sortI ns = [] ∨ (sortI ns).head? = some 0) with
            | false => rfl
            | true =>
              simp -implicitDefEqProofs only [Ev.nd1, Ev.nd2, Ev.lent_fz, Ev.lent_ow, Ev.lent_oo, Ev.lent_mx, Ev.lent_ln, Ev.lent_nil, Ev.back_nil, Ev.back_tm, Ev.back_sl, Ev.runM_at, Ev.start_at, Ev.seq_at, Ev.pass_at, Ev.brk_at, Ev.cnt_at, Ev.ret_at, Ev.retN_at, Ev.asg_at, Ev.if_at, Ev.drop_at, Ev.tgt_at, Ev.tup_at, Ev.for_at, Ev.P_at, Ev.F_at, Ev.var_at, Ev.c_at, Ev.op_at, Ev.opF_at, Ev.call_at, Ev.call1_at, Ev.un_at, Ev.isi_at, Ev.nil_at, Ev.cons_at, Ev.aNil_at, Ev.aCons_at, Ev.lst_at', Ev.tupE_at, Ev.mix_at, Ev.t_at, Ev.tru_at, Ev.and_at, Ev.or_at, Ev.not_at, Ev.andV_at, Ev.orV_at, Ev.notV_at, Ev.if2_at, Ev.ix_at', Ev.no_at, Ev.yes_at, Ev.sl_at, Ev.rep_at, Ev.fn_at, Ev.fnK_at, Ev.seqL_at, Ev.seqT_at, Ev.enum_at, Ev.zip_at, K30.rng1_D, K30.lr1_D, Ev.lc_at, Ev.lcE_at, Ev.yesT_at, Ev.meth_at, Ev.idx_at, Ev.subApp_at, Ev.sortSet_at, Ev.hName_at, Ev.hNil_at, Ev.hCons_at, Ev.hTup_at, Ev.hSub_at, Ev.turns_nil, Ev.force_fz, Ev.force_ow, Ev.force_oo, Ev.force_mx, Ev.force_sl, Ev.norm_fz, Ev.norm_ow, Ev.norm_sl, Ev.argO_sl, Ev.own_at, Ev.setOwn_at, Ev.flatF, Ev.flatO, Ev.flatL, Ev.data_tm, Ev.data_sl, Ev.toD_fz, Ev.toD_ow, Ev.toD_ln, Ev.toD_oo, Ev.toD_mx, Ev.flat_fz, Ev.flat_ow, Ev.flat_sl, Ev.retP_fz, Ev.retP_ow, Ev.retP_oo, Ev.retP_sl, Ev.putP_fz, Ev.putP_ow, Ev.putP_oo, Ev.putP_mx, Ev.putP_sl, Ev.noLn_at, Ev.argOs_nil, Ev.argOs_cons, Ev.argO_fz, Ev.argO_ow, Ev.slots_nil, Ev.slots_tm, Ev.slots_sl, Ev.bOf_b, Ev.ownP_fz, Ev.ownP_ow, Ev.ownP_sl, Ev.ownPs_nil, Ev.ownPs_cons, Ev.putAll_nil, Ev.putAll_cons, Ev.mixI_nil, Ev.mixI_fz, Ev.mixI_ow, Ev.mixI_oo, Ev.ixD_list, Ev.ixD_tup, Ev.atI_0, Ev.atI_1, Ev.ixN_0, Ev.ixN_1, Ev.gt_ii, Ev.ge_ii, Ev.lt_ii, Ev.le_ii, Ev.add_ii, Ev.add_ll, Ev.sub_ii, Ev.mul_ii, Ev.fdv_ii, Ev.mod_ii, Ev.neg_i, Ev.int_i, Ev.abs_i, Ev.max2_ii, Ev.dvm_ii, Ev.len_l, Ev.len_t, Ev.listO_l, Ev.tupO_l, Ev.ints_map, Ev.intsD_map, Ev.sorted_l, Ev.sl_list, List.map_cons, List.map_nil, List.length_cons, List.length_nil, List.replicate_succ, List.replicate_zero, List.append_nil, List.nil_append, List.cons_append, List.getElem?_cons_zero, List.getElem?_cons_succ, List.getElem?_nil, List.set_cons_zero, List.set_cons_succ, List.set_nil, Option.bind_some, Option.bind_none, Option.map_some, Option.map_none, Nat.reduceAdd, Nat.reduceSub, Nat.reduceEqDiff, Nat.reduceLeDiff, if_true, if_false, reduceCtorEq, List.nodup_nil, Bool.false_eq_true, Bool.not_true, Bool.not_false, Bool.true_and, Bool.false_and, Bool.and_true, Bool.and_false, ↓reduceIte, id_eq, List.tail_cons, Nat.zero_add, List.all_cons, List.all_nil, ne_eq, not_false_eq_true, and_self, and_true, true_and, kit_list nd, isList, ne_ii, (decide_eq_true h2), hw, hr, hz, ho, okv, wipe_nil, wipe_cons, rest_nil, rest_cons, Option.getD_some, hdg, hz2, z2, z1, Nat.zero_le, cut_one, in_one, big_go, eq_ii]
              have : decide ((((dif (sortI ns) 0 ((sortI ns).length - 1)).filter (fun k => decide (1 < k))).map PyData.int).length = 0) = decide ((dif (sortI ns) 0 ((sortI ns).length - 1)).filter (fun k => decide (1 < k)) = []) := by
                congr 1
                simp
              simp
      · refine ⟨false, ⟨(fun z => by cases z), fun ⟨ns, e1, e2, e3⟩ => ?_⟩, ?_⟩
        · cases e1
          simp at h2; omega
        · simp -implicitDefEqProofs only [Ev.nd1, Ev.nd2, Ev.lent_fz, Ev.lent_ow, Ev.lent_oo, Ev.lent_mx, Ev.lent_ln, Ev.lent_nil, Ev.back_nil, Ev.back_tm, Ev.back_sl, Ev.runM_at, Ev.start_at, Ev.seq_at, Ev.pass_at, Ev.brk_at, Ev.cnt_at, Ev.ret_at, Ev.retN_at, Ev.asg_at, Ev.if_at, Ev.drop_at, Ev.tgt_at, Ev.tup_at, Ev.for_at, Ev.P_at, Ev.F_at, Ev.var_at, Ev.c_at, Ev.op_at, Ev.opF_at, Ev.call_at, Ev.call1_at, Ev.un_at, Ev.isi_at, Ev.nil_at, Ev.cons_at, Ev.aNil_at, Ev.aCons_at, Ev.lst_at', Ev.tupE_at, Ev.mix_at, Ev.t_at, Ev.tru_at, Ev.and_at, Ev.or_at, Ev.not_at, Ev.andV_at, Ev.orV_at, Ev.notV_at, Ev.if2_at, Ev.ix_at', Ev.no_at, Ev.yes_at, Ev.sl_at, Ev.rep_at, Ev.fn_at, Ev.fnK_at, Ev.seqL_at, Ev.seqT_at, Ev.enum_at, Ev.zip_at, K30.rng1_D, K30.lr1_D, Ev.lc_at, Ev.lcE_at, Ev.yesT_at, Ev.meth_at, Ev.idx_at, Ev.subApp_at, Ev.sortSet_at, Ev.hName_at, Ev.hNil_at, Ev.hCons_at, Ev.hTup_at, Ev.hSub_at, Ev.turns_nil, Ev.force_fz, Ev.force_ow, Ev.force_oo, Ev.force_mx, Ev.force_sl, Ev.norm_fz, Ev.norm_ow, Ev.norm_sl, Ev.argO_sl, Ev.own_at, Ev.setOwn_at, Ev.flatF, Ev.flatO, Ev.flatL, Ev.data_tm, Ev.data_sl, Ev.toD_fz, Ev.toD_ow, Ev.toD_ln, Ev.toD_oo, Ev.toD_mx, Ev.flat_fz, Ev.flat_ow, Ev.flat_sl, Ev.retP_fz, Ev.retP_ow, Ev.retP_oo, Ev.retP_sl, Ev.putP_fz, Ev.putP_ow, Ev.putP_oo, Ev.putP_mx, Ev.putP_sl, Ev.noLn_at, Ev.argOs_nil, Ev.argOs_cons, Ev.argO_fz, Ev.argO_ow, Ev.slots_nil, Ev.slots_tm, Ev.slots_sl, Ev.bOf_b, Ev.ownP_fz, Ev.ownP_ow, Ev.ownP_sl, Ev.ownPs_nil, Ev.ownPs_cons, Ev.putAll_nil, Ev.putAll_cons, Ev.mixI_nil, Ev.mixI_fz, Ev.mixI_ow, Ev.mixI_oo, Ev.ixD_list, Ev.ixD_tup, Ev.atI_0, Ev.atI_1, Ev.ixN_0, Ev.ixN_1, Ev.gt_ii, Ev.ge_ii, Ev.lt_ii, Ev.le_ii, Ev.add_ii, Ev.add_ll, Ev.sub_ii, Ev.mul_ii, Ev.fdv_ii, Ev.mod_ii, Ev.neg_i, Ev.int_i, Ev.abs_i, Ev.max2_ii, Ev.dvm_ii, Ev.len_l, Ev.len_t, Ev.listO_l, Ev.tupO_l, Ev.ints_map, Ev.intsD_map, Ev.sorted_l, Ev.sl_list, List.map_cons, List.map_nil, List.length_cons, List.length_nil, List.replicate_succ, List.replicate_zero, List.append_nil, List.nil_append, List.cons_append, List.getElem?_cons_zero, List.getElem?_cons_succ, List.getElem?_nil, List.set_cons_zero, List.set_cons_succ, List.set_nil, Option.bind_some, Option.bind_none, Option.map_some, Option.map_none, Nat.reduceAdd, Nat.reduceSub, Nat.reduceEqDiff, Nat.reduceLeDiff, if_true, if_false, reduceCtorEq, List.nodup_nil, Bool.false_eq_true, Bool.not_true, Bool.not_false, Bool.true_and, Bool.false_and, Bool.and_true, Bool.and_false, ↓reduceIte, id_eq, List.tail_cons, Nat.zero_add, List.all_cons, List.all_nil, ne_eq, not_false_eq_true, and_self, and_true, true_and, kit_list nd, isList, ne_ii, (decide_eq_false h2)]
    | _ => cases h1
  · have h1 : isList d = false := by simpa using h1
    refine ⟨false, ⟨(fun z => by cases z), fun ⟨ns, e1, e2, e3⟩ => ?_⟩, ?_⟩
    · rw [e1] at h1; cases h1
    · simp -implicitDefEqProofs only [Ev.nd1, Ev.nd2, Ev.lent_fz, Ev.lent_ow, Ev.lent_oo, Ev.lent_mx, Ev.lent_ln, Ev.lent_nil, Ev.back_nil, Ev.back_tm, Ev.back_sl, Ev.runM_at, Ev.start_at, Ev.seq_at, Ev.pass_at, Ev.brk_at, Ev.cnt_at, Ev.ret_at, Ev.retN_at, Ev.asg_at, Ev.if_at, Ev.drop_at, Ev.tgt_at, Ev.tup_at, Ev.for_at, Ev.P_at, Ev.F_at, Ev.var_at, Ev.c_at, Ev.op_at, Ev.opF_at, Ev.call_at, Ev.call1_at, Ev.un_at, Ev.isi_at, Ev.nil_at, Ev.cons_at, Ev.aNil_at, Ev.aCons_at, Ev.lst_at', Ev.tupE_at, Ev.mix_at, Ev.t_at, Ev.tru_at, Ev.and_at, Ev.or_at, Ev.not_at, Ev.andV_at, Ev.orV_at, Ev.notV_at, Ev.if2_at, Ev.ix_at', Ev.no_at, Ev.yes_at, Ev.sl_at, Ev.rep_at, Ev.fn_at, Ev.fnK_at, Ev.seqL_at, Ev.seqT_at, Ev.enum_at, Ev.zip_at, K30.rng1_D, K30.lr1_D, Ev.lc_at, Ev.lcE_at, Ev.yesT_at, Ev.meth_at, Ev.idx_at, Ev.subApp_at, Ev.sortSet_at, Ev.hName_at, Ev.hNil_at, Ev.hCons_at, Ev.hTup_at, Ev.hSub_at, Ev.turns_nil, Ev.force_fz, Ev.force_ow, Ev.force_oo, Ev.force_mx, Ev.force_sl, Ev.norm_fz, Ev.norm_ow, Ev.norm_sl, Ev.argO_sl, Ev.own_at, Ev.setOwn_at, Ev.flatF, Ev.flatO, Ev.flatL, Ev.data_tm, Ev.data_sl, Ev.toD_fz, Ev.toD_ow, Ev.toD_ln, Ev.toD_oo, Ev.toD_mx, Ev.flat_fz, Ev.flat_ow, Ev.flat_sl, Ev.retP_fz, Ev.retP_ow, Ev.retP_oo, Ev.retP_sl, Ev.putP_fz, Ev.putP_ow, Ev.putP_oo, Ev.putP_mx, Ev.putP_sl, Ev.noLn_at, Ev.argOs_nil, Ev.argOs_cons, Ev.argO_fz, Ev.argO_ow, Ev.slots_nil, Ev.slots_tm, Ev.slots_sl, Ev.bOf_b, Ev.ownP_fz, Ev.ownP_ow, Ev.ownP_sl, Ev.ownPs_nil, Ev.ownPs_cons, Ev.putAll_nil, Ev.putAll_cons, Ev.mixI_nil, Ev.mixI_fz, Ev.mixI_ow, Ev.mixI_oo, Ev.ixD_list, Ev.ixD_tup, Ev.atI_0, Ev.atI_1, Ev.ixN_0, Ev.ixN_1, Ev.gt_ii, Ev.ge_ii, Ev.lt_ii, Ev.le_ii, Ev.add_ii, Ev.add_ll, Ev.sub_ii, Ev.mul_ii, Ev.fdv_ii, Ev.mod_ii, Ev.neg_i, Ev.int_i, Ev.abs_i, Ev.max2_ii, Ev.dvm_ii, Ev.len_l, Ev.len_t, Ev.listO_l, Ev.tupO_l, Ev.ints_map, Ev.intsD_map, Ev.sorted_l, Ev.sl_list, List.map_cons, List.map_nil, List.length_cons, List.length_nil, List.replicate_succ, List.replicate_zero, List.append_nil, List.nil_append, List.cons_append, List.getElem?_cons_zero, List.getElem?_cons_succ, List.getElem?_nil, List.set_cons_zero, List.set_cons_succ, List.set_nil, Option.bind_some, Option.bind_none, Option.map_some, Option.map_none, Nat.reduceAdd, Nat.reduceSub, Nat.reduceEqDiff, Nat.reduceLeDiff, if_true, if_false, reduceCtorEq, List.nodup_nil, Bool.false_eq_true, Bool.not_true, Bool.not_false, Bool.true_and, Bool.false_and, Bool.and_true, Bool.and_false, ↓reduceIte, id_eq, List.tail_cons, Nat.zero_add, List.all_cons, List.all_nil, ne_eq, not_false_eq_true, and_self, and_true, true_and, kit_list nd, h1]
end K30
end
section
set_option Elab.async false
set_option linter.all false
set_option maxRecDepth 100000
set_option maxHeartbeats 8000000
namespace K30
open PySem PySem.Spec PyProof.Rows L2 Vi Vf Vo Vp Vs Vt Vu Vv Vg Vw Vx Vy Va Vb Vc Ev
/-- each two places of one number in a have one number in b -/
def FinP (a b : List Int) : Prop := ∀ i < a.length, ∀ j < a.length, a.getD i 0 = a.getD j 0 → b.getD i 0 = b.getD j 0
/-- what is less in b is less in a -/
def KpP (a b : List Int) : Prop := ∀ i < a.length, ∀ j < a.length, ¬ (b.getD i 0 < b.getD j 0 ∧ a.getD j 0 ≤ a.getD i 0)
def enF : Nat → List Int → List D
  | _, [] => []
  | lo, x :: xs => .tuple [.int (lo : Nat), .int x] :: enF (lo + 1) xs
theorem zip_enF : ∀ (xs : List Int) (lo : Nat), (((xs.map PyData.int).zipIdx lo).map fun p => PyData.tuple [.int (p.2 : Nat), p.1]) = enF lo xs
  | [], _ => rfl
  | x :: xs, lo => by
    rw [List.map_cons, List.zipIdx_cons, List.map_cons, zip_enF xs (lo + 1)]
    rfl
theorem enum_L (xs : List Int) : enumD (xs.map .int) = enF 0 xs := zip_enF xs 0
def ci (b : List Int) (i : Nat) (x : Int) : Nat → List Int → Bool
  | _, [] => true
  | lo, y :: ys => !(decide (x = y) && !decide (b.getD i 0 = b.getD lo 0)) && ci b i x (lo + 1) ys
def ck (b : List Int) (i : Nat) (x : Int) : Nat → List Int → Bool
  | _, [] => true
  | lo, y :: ys => !(decide (b.getD i 0 < b.getD lo 0) && decide (y ≤ x)) && ck b i x (lo + 1) ys
theorem ci_iff (b : List Int) (i : Nat) (x : Int) : ∀ (ys : List Int) (lo : Nat), ci b i x lo ys = true ↔ ∀ k < ys.length, x = ys.getD k 0 → b.getD i 0 = b.getD (lo + k) 0
  | [], lo => by simp [ci]
  | y :: ys, lo => by
    unfold ci
    rw [Bool.and_eq_true, ci_iff b i x ys (lo + 1)]
    constructor
    · rintro ⟨h1, h2⟩ k hk e
      cases k with
      | zero =>
        have e : x = y := e
        subst e
        simpa using h1
      | succ k =>
        have := h2 k (by simpa using hk) e
        rw [this]; congr 1; omega
    · intro h
      refine ⟨?_, fun k hk e => ?_⟩
      · by_cases q : x = y
        · have := h 0 (by simp) q
          have this : b.getD i 0 = b.getD lo 0 := this
          simp only [q, this, decide_true, Bool.not_true, Bool.and_false, Bool.not_false]
        · simp only [q, decide_false, Bool.false_and, Bool.not_false]
      · have := h (k + 1) (by simpa using hk) e
        rw [this]; congr 1; omega
theorem ck_iff (b : List Int) (i : Nat) (x : Int) : ∀ (ys : List Int) (lo : Nat), ck b i x lo ys = true ↔ ∀ k < ys.length, ¬ (b.getD i 0 < b.getD (lo + k) 0 ∧ ys.getD k 0 ≤ x)
  | [], lo => by simp [ck]
  | y :: ys, lo => by
    unfold ck
    rw [Bool.and_eq_true, ck_iff b i x ys (lo + 1)]
    constructor
    · rintro ⟨h1, h2⟩ k hk e
      cases k with
      | zero =>
        have e1 : b.getD i 0 < b.getD lo 0 := e.1
        have e2 : y ≤ x := e.2
        simp only [e1, e2, decide_true, Bool.and_self, Bool.not_true] at h1
        cases h1
      | succ k =>
        refine h2 k (by simpa using hk) ⟨?_, e.2⟩
        rw [show lo + 1 + k = lo + (k + 1) by omega]
        exact e.1
    · intro h
      refine ⟨?_, fun k hk e => ?_⟩
      · have := h 0 (by simp)
        have this : ¬ (b.getD i 0 < b.getD lo 0 ∧ y ≤ x) := this
        by_cases q : b.getD i 0 < b.getD lo 0
        · by_cases w : y ≤ x
          · exact absurd ⟨q, w⟩ this
          · simp only [w, decide_false, Bool.and_false, Bool.not_false]
        · simp only [q, decide_false, Bool.false_and, Bool.not_false]
      · refine h (k + 1) (by simpa using hk) ⟨?_, e.2⟩
        rw [show lo + (k + 1) = lo + 1 + k by omega]
        exact e.1
def cI (b a : List Int) : Nat → List Int → Bool
  | _, [] => true
  | lo, x :: xs => ci b lo x 0 a && cI b a (lo + 1) xs
def cK (b a : List Int) : Nat → List Int → Bool
  | _, [] => true
  | lo, x :: xs => ck b lo x 0 a && cK b a (lo + 1) xs
theorem cI_iff (b a : List Int) : ∀ (xs : List Int) (lo : Nat), cI b a lo xs = true ↔ ∀ k < xs.length, ci b (lo + k) (xs.getD k 0) 0 a = true
  | [], lo => by simp [cI]
  | x :: xs, lo => by
    unfold cI
    rw [Bool.and_eq_true, cI_iff b a xs (lo + 1)]
    constructor
    · rintro ⟨h1, h2⟩ k hk
      cases k with
      | zero => exact h1
      | succ k =>
        have := h2 k (by simpa using hk)
        rw [show lo + 1 + k = lo + (k + 1) by omega] at this
        exact this
    · intro h
      refine ⟨h 0 (by simp), fun k hk => ?_⟩
      have := h (k + 1) (by simpa using hk)
      rw [show lo + (k + 1) = lo + 1 + k by omega] at this
      exact this
theorem cK_iff (b a : List Int) : ∀ (xs : List Int) (lo : Nat), cK b a lo xs = true ↔ ∀ k < xs.length, ck b (lo + k) (xs.getD k 0) 0 a = true
  | [], lo => by simp [cK]
  | x :: xs, lo => by
    unfold cK
    rw [Bool.and_eq_true, cK_iff b a xs (lo + 1)]
    constructor
    · rintro ⟨h1, h2⟩ k hk
      cases k with
      | zero => exact h1
      | succ k =>
        have := h2 k (by simpa using hk)
        rw [show lo + 1 + k = lo + (k + 1) by omega] at this
        exact this
    · intro h
      refine ⟨h 0 (by simp), fun k hk => ?_⟩
      have := h (k + 1) (by simpa using hk)
      rw [show lo + (k + 1) = lo + 1 + k by omega] at this
      exact this
theorem cI_fin (a b : List Int) : cI b a 0 a = true ↔ FinP a b := by
  rw [cI_iff]
  constructor
  · intro h i hi j hj e
    have := (ci_iff _ _ _ _ _).mp (h i hi) j hj e
    rw [Nat.zero_add, Nat.zero_add] at this
    exact this
  · intro h k hk
    rw [ci_iff]
    intro j hj e
    rw [Nat.zero_add, Nat.zero_add]
    exact h k hk j hj e
theorem cK_kp (a b : List Int) : cK b a 0 a = true ↔ KpP a b := by
  rw [cK_iff]
  constructor
  · intro h i hi j hj e
    have := (ck_iff _ _ _ _ _).mp (h i hi) j hj
    rw [Nat.zero_add, Nat.zero_add] at this
    exact this e
  · intro h k hk
    rw [ck_iff]
    intro j hj e
    rw [Nat.zero_add, Nat.zero_add] at e
    exact h k hk j hj e
theorem two_names {δ : Δ} {i j : Nat} {d e : D} (h1 : noLn δ i = true) (h2 : noLn (δ.set i (some (.fz d))) j = true) : hTup 2 (hCons (hName i) (hCons (hName j) hNil)) (.tuple [d, e]) δ = some ((δ.set i (some (.fz d))).set j (some (.fz e))) := by
  rw [Ev.hTup_at, if_pos (show [d, e].length = 2 from rfl), Ev.hCons_at, Ev.hName_at, if_pos h1, Option.bind_some, Ev.hCons_at, Ev.hName_at, if_pos h2, Option.bind_some]
  rfl
theorem cmp_in (a b : List Int) (i : Nat) (x : Int) (hi : i < b.length) : ∀ (ys : List Int) (lo : Nat) (f g : Bool) (u v : Option O), isFz u = true → isFz v = true → lo + ys.length ≤ b.length → ∃ u' v', isFz u' = true ∧ isFz v' = true ∧
    turns (hTup 2 (hCons (hName 6) (hCons (hName 7) hNil))) (mSeq (mIf (eAnd (eT (eOp eqX (eVar 5) (eVar 7))) (eT (eOp neX (eP (eIx (eVar 1) (eF (eVar 4)))) (eP (eIx (eVar 1) (eF (eVar 6))))))) (mSeq (mAsg 2 (eP (eC (.bool false)))) mPass) mPass) (mSeq (mIf (eAnd (eT (eOp ltI (eP (eIx (eVar 1) (eF (eVar 4)))) (eP (eIx (eVar 1) (eF (eVar 6)))))) (eT (eOp geI (eVar 5) (eVar 7)))) (mSeq (mAsg 3 (eP (eC (.bool false)))) mPass) mPass) mPass)) (enF lo ys) [some (.fz (L a)), some (.fz (L b)), some (.fz (.bool f)), some (.fz (.bool g)), some (.fz (.int (i : Nat))), some (.fz (.int x)), u, v] =
      some (.nx [some (.fz (L a)), some (.fz (L b)), some (.fz (.bool (f && ci b i x lo ys))), some (.fz (.bool (g && ck b i x lo ys))), some (.fz (.int (i : Nat))), some (.fz (.int x)), u', v'])
  | [], lo, f, g, u, v, hu, hv, _ => ⟨u, v, hu, hv, by rw [ci, ck, Bool.and_true, Bool.and_true]; rfl⟩
  | y :: ys, lo, f, g, u, v, hu, hv, hl => by
    rw [List.length_cons] at hl
    obtain ⟨u', v', hu', hv', ih⟩ := cmp_in a b i x hi ys (lo + 1) (f && !(decide (x = y) && !decide (b.getD i 0 = b.getD lo 0))) (g && !(decide (b.getD i 0 < b.getD lo 0) && decide (y ≤ x))) (some (.fz (.int (lo : Nat)))) (some (.fz (.int y))) rfl rfl (by omega)
    refine ⟨u', v', hu', hv', ?_⟩
    have a1 := at_L (s := b) (i := i) hi
    have a2 := at_L (s := b) (i := lo) (by omega)
    have n6 : noLn [some (.fz (L a)), some (.fz (L b)), some (.fz (.bool f)), some (.fz (.bool g)), some (.fz (.int (i : Nat))), some (.fz (.int x)), u, v] 6 = true := noLn_fz (j := 6) rfl hu
    have n7 : noLn ([some (.fz (L a)), some (.fz (L b)), some (.fz (.bool f)), some (.fz (.bool g)), some (.fz (.int (i : Nat))), some (.fz (.int x)), u, v].set 6 (some (.fz (.int (lo : Nat))))) 7 = true := noLn_fz (j := 7) rfl hv
    rw [enF, turns, two_names n6 n7]
    rw [ci, ck, ← Bool.and_assoc, ← Bool.and_assoc]
    cases c1 : decide (x = y) <;> cases c2 : decide (b.getD i 0 = b.getD lo 0) <;> cases c3 : decide (b.getD i 0 < b.getD lo 0) <;> cases c4 : decide (y ≤ x) <;>
      (simp only [c1, c2, c3, c4, Bool.not_true, Bool.not_false, Bool.and_true, Bool.and_false, Bool.true_and, Bool.false_and] at ih ⊢
       simp -implicitDefEqProofs only [Ev.nd1, Ev.nd2, Ev.lent_fz, Ev.lent_ow, Ev.lent_oo, Ev.lent_mx, Ev.lent_ln, Ev.lent_nil, Ev.back_nil, Ev.back_tm, Ev.back_sl, Ev.runM_at, Ev.start_at, Ev.seq_at, Ev.pass_at, Ev.brk_at, Ev.cnt_at, Ev.ret_at, Ev.retN_at, Ev.asg_at, Ev.if_at, Ev.drop_at, Ev.tgt_at, Ev.tup_at, Ev.for_at, Ev.P_at, Ev.F_at, Ev.var_at, Ev.c_at, Ev.op_at, Ev.opF_at, Ev.call_at, Ev.call1_at, Ev.un_at, Ev.isi_at, Ev.nil_at, Ev.cons_at, Ev.aNil_at, Ev.aCons_at, Ev.lst_at', Ev.tupE_at, Ev.mix_at, Ev.t_at, Ev.tru_at, Ev.and_at, Ev.or_at, Ev.not_at, Ev.andV_at, Ev.orV_at, Ev.notV_at, Ev.if2_at, Ev.ix_at', Ev.no_at, Ev.yes_at, Ev.sl_at, Ev.rep_at, Ev.fn_at, Ev.fnK_at, Ev.seqL_at, Ev.seqT_at, Ev.enum_at, Ev.zip_at, K30.rng1_D, K30.lr1_D, Ev.lc_at, Ev.lcE_at, Ev.yesT_at, Ev.meth_at, Ev.idx_at, Ev.subApp_at, Ev.sortSet_at, Ev.hName_at, Ev.hNil_at, Ev.hCons_at, Ev.hTup_at, Ev.hSub_at, Ev.turns_nil, Ev.force_fz, Ev.force_ow, Ev.force_oo, Ev.force_mx, Ev.force_sl, Ev.norm_fz, Ev.norm_ow, Ev.norm_sl, Ev.argO_sl, Ev.own_at, Ev.setOwn_at, Ev.flatF, Ev.flatO, Ev.flatL, Ev.data_tm, Ev.data_sl, Ev.toD_fz, Ev.toD_ow, Ev.toD_ln, Ev.toD_oo, Ev.toD_mx, Ev.flat_fz, Ev.flat_ow, Ev.flat_sl, Ev.retP_fz, Ev.retP_ow, Ev.retP_oo, Ev.retP_sl, Ev.putP_fz, Ev.putP_ow, Ev.putP_oo, Ev.putP_mx, Ev.putP_sl, Ev.noLn_at, Ev.argOs_nil, Ev.argOs_cons, Ev.argO_fz, Ev.argO_ow, Ev.slots_nil, Ev.slots_tm, Ev.slots_sl, Ev.bOf_b, Ev.ownP_fz, Ev.ownP_ow, Ev.ownP_sl, Ev.ownPs_nil, Ev.ownPs_cons, Ev.putAll_nil, Ev.putAll_cons, Ev.mixI_nil, Ev.mixI_fz, Ev.mixI_ow, Ev.mixI_oo, Ev.ixD_list, Ev.ixD_tup, Ev.atI_0, Ev.atI_1, Ev.ixN_0, Ev.ixN_1, Ev.gt_ii, Ev.ge_ii, Ev.lt_ii, Ev.le_ii, Ev.add_ii, Ev.add_ll, Ev.sub_ii, Ev.mul_ii, Ev.fdv_ii, Ev.mod_ii, Ev.neg_i, Ev.int_i, Ev.abs_i, Ev.max2_ii, Ev.dvm_ii, Ev.len_l, Ev.len_t, Ev.listO_l, Ev.tupO_l, Ev.ints_map, Ev.intsD_map, Ev.sorted_l, Ev.sl_list, List.map_cons, List.map_nil, List.length_cons, List.length_nil, List.replicate_succ, List.replicate_zero, List.append_nil, List.nil_append, List.cons_append, List.getElem?_cons_zero, List.getElem?_cons_succ, List.getElem?_nil, List.set_cons_zero, List.set_cons_succ, List.set_nil, Option.bind_some, Option.bind_none, Option.map_some, Option.map_none, Nat.reduceAdd, Nat.reduceSub, Nat.reduceEqDiff, Nat.reduceLeDiff, if_true, if_false, reduceCtorEq, List.nodup_nil, Bool.false_eq_true, Bool.not_true, Bool.not_false, Bool.true_and, Bool.false_and, Bool.and_true, Bool.and_false, ↓reduceIte, id_eq, List.tail_cons, Nat.zero_add, List.all_cons, List.all_nil, ne_eq, not_false_eq_true, and_self, and_true, true_and, eq_ii, ne_ii, a1, a2, c1, c2, c3, c4, ih])
theorem cmp_out (a b : List Int) (hab : a.length = b.length) : ∀ (xs : List Int) (lo : Nat) (f g : Bool) (u v s t : Option O), isFz u = true → isFz v = true → isFz s = true → isFz t = true → lo + xs.length ≤ b.length → ∃ u' v' s' t', isFz u' = true ∧ isFz v' = true ∧ isFz s' = true ∧ isFz t' = true ∧
    turns (hTup 2 (hCons (hName 4) (hCons (hName 5) hNil))) (mSeq (mFor (eEnum (eCons (eF (eVar 0)) eNil)) (hTup 2 (hCons (hName 6) (hCons (hName 7) hNil))) (mSeq (mIf (eAnd (eT (eOp eqX (eVar 5) (eVar 7))) (eT (eOp neX (eP (eIx (eVar 1) (eF (eVar 4)))) (eP (eIx (eVar 1) (eF (eVar 6))))))) (mSeq (mAsg 2 (eP (eC (.bool false)))) mPass) mPass) (mSeq (mIf (eAnd (eT (eOp ltI (eP (eIx (eVar 1) (eF (eVar 4)))) (eP (eIx (eVar 1) (eF (eVar 6)))))) (eT (eOp geI (eVar 5) (eVar 7)))) (mSeq (mAsg 3 (eP (eC (.bool false)))) mPass) mPass) mPass))) mPass) (enF lo xs) [some (.fz (L a)), some (.fz (L b)), some (.fz (.bool f)), some (.fz (.bool g)), u, v, s, t] =
      some (.nx [some (.fz (L a)), some (.fz (L b)), some (.fz (.bool (f && cI b a lo xs))), some (.fz (.bool (g && cK b a lo xs))), u', v', s', t'])
  | [], lo, f, g, u, v, s, t, hu, hv, hs, ht, _ => ⟨u, v, s, t, hu, hv, hs, ht, by rw [cI, cK, Bool.and_true, Bool.and_true]; rfl⟩
  | x :: xs, lo, f, g, u, v, s, t, hu, hv, hs, ht, hl => by
    rw [List.length_cons] at hl
    obtain ⟨s1, t1, hs1, ht1, e1⟩ := cmp_in a b lo x (by omega) a 0 f g s t hs ht (by omega)
    obtain ⟨u', v', s', t', hu', hv', hs', ht', ih⟩ := cmp_out a b hab xs (lo + 1) (f && ci b lo x 0 a) (g && ck b lo x 0 a) (some (.fz (.int (lo : Nat)))) (some (.fz (.int x))) s1 t1 rfl rfl hs1 ht1 (by omega)
    refine ⟨u', v', s', t', hu', hv', hs', ht', ?_⟩
    have n4 : noLn [some (.fz (L a)), some (.fz (L b)), some (.fz (.bool f)), some (.fz (.bool g)), u, v, s, t] 4 = true := noLn_fz (j := 4) rfl hu
    have n5 : noLn ([some (.fz (L a)), some (.fz (L b)), some (.fz (.bool f)), some (.fz (.bool g)), u, v, s, t].set 4 (some (.fz (.int (lo : Nat))))) 5 = true := noLn_fz (j := 5) rfl hv
    rw [enF, turns, two_names n4 n5]
    rw [cI, cK, ← Bool.and_assoc, ← Bool.and_assoc]
    simp -implicitDefEqProofs only [Ev.nd1, Ev.nd2, Ev.lent_fz, Ev.lent_ow, Ev.lent_oo, Ev.lent_mx, Ev.lent_ln, Ev.lent_nil, Ev.back_nil, Ev.back_tm, Ev.back_sl, Ev.runM_at, Ev.start_at, Ev.seq_at, Ev.pass_at, Ev.brk_at, Ev.cnt_at, Ev.ret_at, Ev.retN_at, Ev.asg_at, Ev.if_at, Ev.drop_at, Ev.tgt_at, Ev.tup_at, Ev.for_at, Ev.P_at, Ev.F_at, Ev.var_at, Ev.c_at, Ev.op_at, Ev.opF_at, Ev.call_at, Ev.call1_at, Ev.un_at, Ev.isi_at, Ev.nil_at, Ev.cons_at, Ev.aNil_at, Ev.aCons_at, Ev.lst_at', Ev.tupE_at, Ev.mix_at, Ev.t_at, Ev.tru_at, Ev.and_at, Ev.or_at, Ev.not_at, Ev.andV_at, Ev.orV_at, Ev.notV_at, Ev.if2_at, Ev.ix_at', Ev.no_at, Ev.yes_at, Ev.sl_at, Ev.rep_at, Ev.fn_at, Ev.fnK_at, Ev.seqL_at, Ev.seqT_at, Ev.enum_at, Ev.zip_at, K30.rng1_D, K30.lr1_D, Ev.lc_at, Ev.lcE_at, Ev.yesT_at, Ev.meth_at, Ev.idx_at, Ev.subApp_at, Ev.sortSet_at, Ev.hName_at, Ev.hNil_at, Ev.hCons_at, Ev.hTup_at, Ev.hSub_at, Ev.turns_nil, Ev.force_fz, Ev.force_ow, Ev.force_oo, Ev.force_mx, Ev.force_sl, Ev.norm_fz, Ev.norm_ow, Ev.norm_sl, Ev.argO_sl, Ev.own_at, Ev.setOwn_at, Ev.flatF, Ev.flatO, Ev.flatL, Ev.data_tm, Ev.data_sl, Ev.toD_fz, Ev.toD_ow, Ev.toD_ln, Ev.toD_oo, Ev.toD_mx, Ev.flat_fz, Ev.flat_ow, Ev.flat_sl, Ev.retP_fz, Ev.retP_ow, Ev.retP_oo, Ev.retP_sl, Ev.putP_fz, Ev.putP_ow, Ev.putP_oo, Ev.putP_mx, Ev.putP_sl, Ev.noLn_at, Ev.argOs_nil, Ev.argOs_cons, Ev.argO_fz, Ev.argO_ow, Ev.slots_nil, Ev.slots_tm, Ev.slots_sl, Ev.bOf_b, Ev.ownP_fz, Ev.ownP_ow, Ev.ownP_sl, Ev.ownPs_nil, Ev.ownPs_cons, Ev.putAll_nil, Ev.putAll_cons, Ev.mixI_nil, Ev.mixI_fz, Ev.mixI_ow, Ev.mixI_oo, Ev.ixD_list, Ev.ixD_tup, Ev.atI_0, Ev.atI_1, Ev.ixN_0, Ev.ixN_1, Ev.gt_ii, Ev.ge_ii, Ev.lt_ii, Ev.le_ii, Ev.add_ii, Ev.add_ll, Ev.sub_ii, Ev.mul_ii, Ev.fdv_ii, Ev.mod_ii, Ev.neg_i, Ev.int_i, Ev.abs_i, Ev.max2_ii, Ev.dvm_ii, Ev.len_l, Ev.len_t, Ev.listO_l, Ev.tupO_l, Ev.ints_map, Ev.intsD_map, Ev.sorted_l, Ev.sl_list, List.map_cons, List.map_nil, List.length_cons, List.length_nil, List.replicate_succ, List.replicate_zero, List.append_nil, List.nil_append, List.cons_append, List.getElem?_cons_zero, List.getElem?_cons_succ, List.getElem?_nil, List.set_cons_zero, List.set_cons_succ, List.set_nil, Option.bind_some, Option.bind_none, Option.map_some, Option.map_none, Nat.reduceAdd, Nat.reduceSub, Nat.reduceEqDiff, Nat.reduceLeDiff, if_true, if_false, reduceCtorEq, List.nodup_nil, Bool.false_eq_true, Bool.not_true, Bool.not_false, Bool.true_and, Bool.false_and, Bool.and_true, Bool.and_false, ↓reduceIte, id_eq, List.tail_cons, Nat.zero_add, List.all_cons, List.all_nil, ne_eq, not_false_eq_true, and_self, and_true, true_and, enum_L, e1, ih]
theorem v_compared (a b : List Int) (hab : a.length = b.length) : ∃ f g : Bool, (f = true ↔ FinP a b) ∧ (g = true ↔ KpP a b) ∧ val f__law_compared [.fz (L a), .fz (L b)] = some (.ow [.bool f, .bool g], [none, none]) := by
  obtain ⟨u, v, s, t, _, _, _, _, e⟩ := cmp_out a b hab a 0 true true none none none none rfl rfl rfl rfl (by omega)
  refine ⟨cI b a 0 a, cK b a 0 a, cI_fin a b, cK_kp a b, ?_⟩
  rw [Bool.true_and, Bool.true_and] at e
  unfold val f__law_compared m__law_compared
  simp -implicitDefEqProofs only [Ev.nd1, Ev.nd2, Ev.lent_fz, Ev.lent_ow, Ev.lent_oo, Ev.lent_mx, Ev.lent_ln, Ev.lent_nil, Ev.back_nil, Ev.back_tm, Ev.back_sl, Ev.runM_at, Ev.start_at, Ev.seq_at, Ev.pass_at, Ev.brk_at, Ev.cnt_at, Ev.ret_at, Ev.retN_at, Ev.asg_at, Ev.if_at, Ev.drop_at, Ev.tgt_at, Ev.tup_at, Ev.for_at, Ev.P_at, Ev.F_at, Ev.var_at, Ev.c_at, Ev.op_at, Ev.opF_at, Ev.call_at, Ev.call1_at, Ev.un_at, Ev.isi_at, Ev.nil_at, Ev.cons_at, Ev.aNil_at, Ev.aCons_at, Ev.lst_at', Ev.tupE_at, Ev.mix_at, Ev.t_at, Ev.tru_at, Ev.and_at, Ev.or_at, Ev.not_at, Ev.andV_at, Ev.orV_at, Ev.notV_at, Ev.if2_at, Ev.ix_at', Ev.no_at, Ev.yes_at, Ev.sl_at, Ev.rep_at, Ev.fn_at, Ev.fnK_at, Ev.seqL_at, Ev.seqT_at, Ev.enum_at, Ev.zip_at, K30.rng1_D, K30.lr1_D, Ev.lc_at, Ev.lcE_at, Ev.yesT_at, Ev.meth_at, Ev.idx_at, Ev.subApp_at, Ev.sortSet_at, Ev.hName_at, Ev.hNil_at, Ev.hCons_at, Ev.hTup_at, Ev.hSub_at, Ev.turns_nil, Ev.force_fz, Ev.force_ow, Ev.force_oo, Ev.force_mx, Ev.force_sl, Ev.norm_fz, Ev.norm_ow, Ev.norm_sl, Ev.argO_sl, Ev.own_at, Ev.setOwn_at, Ev.flatF, Ev.flatO, Ev.flatL, Ev.data_tm, Ev.data_sl, Ev.toD_fz, Ev.toD_ow, Ev.toD_ln, Ev.toD_oo, Ev.toD_mx, Ev.flat_fz, Ev.flat_ow, Ev.flat_sl, Ev.retP_fz, Ev.retP_ow, Ev.retP_oo, Ev.retP_sl, Ev.putP_fz, Ev.putP_ow, Ev.putP_oo, Ev.putP_mx, Ev.putP_sl, Ev.noLn_at, Ev.argOs_nil, Ev.argOs_cons, Ev.argO_fz, Ev.argO_ow, Ev.slots_nil, Ev.slots_tm, Ev.slots_sl, Ev.bOf_b, Ev.ownP_fz, Ev.ownP_ow, Ev.ownP_sl, Ev.ownPs_nil, Ev.ownPs_cons, Ev.putAll_nil, Ev.putAll_cons, Ev.mixI_nil, Ev.mixI_fz, Ev.mixI_ow, Ev.mixI_oo, Ev.ixD_list, Ev.ixD_tup, Ev.atI_0, Ev.atI_1, Ev.ixN_0, Ev.ixN_1, Ev.gt_ii, Ev.ge_ii, Ev.lt_ii, Ev.le_ii, Ev.add_ii, Ev.add_ll, Ev.sub_ii, Ev.mul_ii, Ev.fdv_ii, Ev.mod_ii, Ev.neg_i, Ev.int_i, Ev.abs_i, Ev.max2_ii, Ev.dvm_ii, Ev.len_l, Ev.len_t, Ev.listO_l, Ev.tupO_l, Ev.ints_map, Ev.intsD_map, Ev.sorted_l, Ev.sl_list, List.map_cons, List.map_nil, List.length_cons, List.length_nil, List.replicate_succ, List.replicate_zero, List.append_nil, List.nil_append, List.cons_append, List.getElem?_cons_zero, List.getElem?_cons_succ, List.getElem?_nil, List.set_cons_zero, List.set_cons_succ, List.set_nil, Option.bind_some, Option.bind_none, Option.map_some, Option.map_none, Nat.reduceAdd, Nat.reduceSub, Nat.reduceEqDiff, Nat.reduceLeDiff, if_true, if_false, reduceCtorEq, List.nodup_nil, Bool.false_eq_true, Bool.not_true, Bool.not_false, Bool.true_and, Bool.false_and, Bool.and_true, Bool.and_false, ↓reduceIte, id_eq, List.tail_cons, Nat.zero_add, List.all_cons, List.all_nil, ne_eq, not_false_eq_true, and_self, and_true, true_and, enum_L, e, (le_size (by decide : 2 ≤ 1000))]
/-! ### keeps_sequence -/
def kp1 (a b : List Int) (i : Nat) : Nat → Nat → Bool
  | _, 0 => true
  | lo, k + 1 => !(decide (b.getD i 0 < b.getD lo 0) && decide (a.getD lo 0 ≤ a.getD i 0)) && kp1 a b i (lo + 1) k
theorem kp1_iff (a b : List Int) (i : Nat) : ∀ (k lo : Nat), kp1 a b i lo k = true ↔ ∀ j, lo ≤ j → j < lo + k → ¬ (b.getD i 0 < b.getD j 0 ∧ a.getD j 0 ≤ a.getD i 0)
  | 0, lo => by
    simp only [kp1, true_iff]
    intro j h1 h2
    omega
  | k + 1, lo => by
    unfold kp1
    rw [Bool.and_eq_true, kp1_iff a b i k (lo + 1)]
    constructor
    · rintro ⟨h1, h2⟩ j j1 j2 e
      by_cases q : j = lo
      · subst q
        simp only [e.1, e.2, decide_true, Bool.and_self, Bool.not_true] at h1
        cases h1
      · exact h2 j (by omega) (by omega) e
    · intro h
      refine ⟨?_, fun j j1 j2 => h j (by omega) (by omega)⟩
      have := h lo (Nat.le_refl _) (by omega)
      by_cases q : b.getD i 0 < b.getD lo 0
      · by_cases w : a.getD lo 0 ≤ a.getD i 0
        · exact absurd ⟨q, w⟩ this
        · simp only [w, decide_false, Bool.and_false, Bool.not_false]
      · simp only [q, decide_false, Bool.false_and, Bool.not_false]
def kp2 (a b : List Int) (n : Nat) : Nat → Nat → Bool
  | _, 0 => true
  | lo, k + 1 => kp1 a b lo 0 n && kp2 a b n (lo + 1) k
theorem kp2_iff (a b : List Int) (n : Nat) : ∀ (k lo : Nat), kp2 a b n lo k = true ↔ ∀ j, lo ≤ j → j < lo + k → kp1 a b j 0 n = true
  | 0, lo => by
    simp only [kp2, true_iff]
    intro j h1 h2
    omega
  | k + 1, lo => by
    unfold kp2
    rw [Bool.and_eq_true, kp2_iff a b n k (lo + 1)]
    constructor
    · rintro ⟨h1, h2⟩ j j1 j2
      by_cases q : j = lo
      · subst q; exact h1
      · exact h2 j (by omega) (by omega)
    · intro h
      exact ⟨h lo (Nat.le_refl _) (by omega), fun j j1 j2 => h j (by omega) (by omega)⟩
theorem kp2_kp (a b : List Int) : kp2 a b a.length 0 a.length = true ↔ KpP a b := by
  rw [kp2_iff]
  constructor
  · intro h i hi j hj
    exact (kp1_iff _ _ _ _ _).mp (h i (Nat.zero_le _) (by omega)) j (Nat.zero_le _) (by omega)
  · intro h j _ hj
    rw [kp1_iff]
    intro k _ hk
    exact h j (by omega) k (by omega)
theorem kp_in (a b : List Int) (i : Nat) (hi : i < b.length) (hab : a.length = b.length) : ∀ (k lo : Nat) (u : Option O), isFz u = true → lo + k ≤ b.length → ∃ u', isFz u' = true ∧
    turns (hName 3) (mSeq (mIf (eAnd (eT (eOp ltI (eP (eIx (eVar 1) (eF (eVar 2)))) (eP (eIx (eVar 1) (eF (eVar 3)))))) (eT (eOp geI (eP (eIx (eVar 0) (eF (eVar 2)))) (eP (eIx (eVar 0) (eF (eVar 3))))))) (mSeq (mRet (eP (eC (.bool false)))) mPass) mPass) mPass) (rangeD (lo : Nat) k) [some (.fz (L a)), some (.fz (L b)), some (.fz (.int (i : Nat))), u] =
      some (if kp1 a b i lo k = true then .nx [some (.fz (L a)), some (.fz (L b)), some (.fz (.int (i : Nat))), u'] else .rt (.fz (.bool false)) [some (.fz (L a)), some (.fz (L b)), some (.fz (.int (i : Nat))), u'])
  | 0, lo, u, hu, _ => ⟨u, hu, rfl⟩
  | k + 1, lo, u, hu, hl => by
    obtain ⟨u', hu', ih⟩ := kp_in a b i hi hab k (lo + 1) (some (.fz (.int (lo : Nat)))) rfl (by omega)
    rw [Int.natCast_add, Int.natCast_one] at ih
    have a1 := at_L (s := b) (i := i) hi
    have a2 := at_L (s := b) (i := lo) (by omega)
    have a3 := at_L (s := a) (i := i) (by omega)
    have a4 := at_L (s := a) (i := lo) (by omega)
    have n3 : noLn [some (.fz (L a)), some (.fz (L b)), some (.fz (.int (i : Nat))), u] 3 = true := noLn_fz (j := 3) rfl hu
    by_cases c : b.getD i 0 < b.getD lo 0 ∧ a.getD lo 0 ≤ a.getD i 0
    · refine ⟨some (.fz (.int (lo : Nat))), rfl, ?_⟩
      have : kp1 a b i lo (k + 1) = false := by
        rw [kp1, decide_eq_true c.1, decide_eq_true c.2]
        rfl
      rw [this, rangeD_succ, turns, Ev.hName_at, if_pos n3]
      simp -implicitDefEqProofs only [Ev.nd1, Ev.nd2, Ev.lent_fz, Ev.lent_ow, Ev.lent_oo, Ev.lent_mx, Ev.lent_ln, Ev.lent_nil, Ev.back_nil, Ev.back_tm, Ev.back_sl, Ev.runM_at, Ev.start_at, Ev.seq_at, Ev.pass_at, Ev.brk_at, Ev.cnt_at, Ev.ret_at, Ev.retN_at, Ev.asg_at, Ev.if_at, Ev.drop_at, Ev.tgt_at, Ev.tup_at, Ev.for_at, Ev.P_at, Ev.F_at, Ev.var_at, Ev.c_at, Ev.op_at, Ev.opF_at, Ev.call_at, Ev.call1_at, Ev.un_at, Ev.isi_at, Ev.nil_at, Ev.cons_at, Ev.aNil_at, Ev.aCons_at, Ev.lst_at', Ev.tupE_at, Ev.mix_at, Ev.t_at, Ev.tru_at, Ev.and_at, Ev.or_at, Ev.not_at, Ev.andV_at, Ev.orV_at, Ev.notV_at, Ev.if2_at, Ev.ix_at', Ev.no_at, Ev.yes_at, Ev.sl_at, Ev.rep_at, Ev.fn_at, Ev.fnK_at, Ev.seqL_at, Ev.seqT_at, Ev.enum_at, Ev.zip_at, K30.rng1_D, K30.lr1_D, Ev.lc_at, Ev.lcE_at, Ev.yesT_at, Ev.meth_at, Ev.idx_at, Ev.subApp_at, Ev.sortSet_at, Ev.hName_at, Ev.hNil_at, Ev.hCons_at, Ev.hTup_at, Ev.hSub_at, Ev.turns_nil, Ev.force_fz, Ev.force_ow, Ev.force_oo, Ev.force_mx, Ev.force_sl, Ev.norm_fz, Ev.norm_ow, Ev.norm_sl, Ev.argO_sl, Ev.own_at, Ev.setOwn_at, Ev.flatF, Ev.flatO, Ev.flatL, Ev.data_tm, Ev.data_sl, Ev.toD_fz, Ev.toD_ow, Ev.toD_ln, Ev.toD_oo, Ev.toD_mx, Ev.flat_fz, Ev.flat_ow, Ev.flat_sl, Ev.retP_fz, Ev.retP_ow, Ev.retP_oo, Ev.retP_sl, Ev.putP_fz, Ev.putP_ow, Ev.putP_oo, Ev.putP_mx, Ev.putP_sl, Ev.noLn_at, Ev.argOs_nil, Ev.argOs_cons, Ev.argO_fz, Ev.argO_ow, Ev.slots_nil, Ev.slots_tm, Ev.slots_sl, Ev.bOf_b, Ev.ownP_fz, Ev.ownP_ow, Ev.ownP_sl, Ev.ownPs_nil, Ev.ownPs_cons, Ev.putAll_nil, Ev.putAll_cons, Ev.mixI_nil, Ev.mixI_fz, Ev.mixI_ow, Ev.mixI_oo, Ev.ixD_list, Ev.ixD_tup, Ev.atI_0, Ev.atI_1, Ev.ixN_0, Ev.ixN_1, Ev.gt_ii, Ev.ge_ii, Ev.lt_ii, Ev.le_ii, Ev.add_ii, Ev.add_ll, Ev.sub_ii, Ev.mul_ii, Ev.fdv_ii, Ev.mod_ii, Ev.neg_i, Ev.int_i, Ev.abs_i, Ev.max2_ii, Ev.dvm_ii, Ev.len_l, Ev.len_t, Ev.listO_l, Ev.tupO_l, Ev.ints_map, Ev.intsD_map, Ev.sorted_l, Ev.sl_list, List.map_cons, List.map_nil, List.length_cons, List.length_nil, List.replicate_succ, List.replicate_zero, List.append_nil, List.nil_append, List.cons_append, List.getElem?_cons_zero, List.getElem?_cons_succ, List.getElem?_nil, List.set_cons_zero, List.set_cons_succ, List.set_nil, Option.bind_some, Option.bind_none, Option.map_some, Option.map_none, Nat.reduceAdd, Nat.reduceSub, Nat.reduceEqDiff, Nat.reduceLeDiff, if_true, if_false, reduceCtorEq, List.nodup_nil, Bool.false_eq_true, Bool.not_true, Bool.not_false, Bool.true_and, Bool.false_and, Bool.and_true, Bool.and_false, ↓reduceIte, id_eq, List.tail_cons, Nat.zero_add, List.all_cons, List.all_nil, ne_eq, not_false_eq_true, and_self, and_true, true_and, a1, a2, a3, a4, (decide_eq_true c.1), (decide_eq_true c.2)]
    · refine ⟨u', hu', ?_⟩
      have : kp1 a b i lo (k + 1) = kp1 a b i (lo + 1) k := by
        rw [kp1]
        by_cases q : b.getD i 0 < b.getD lo 0
        · by_cases w : a.getD lo 0 ≤ a.getD i 0
          · exact absurd ⟨q, w⟩ c
          · simp only [w, decide_false, Bool.and_false, Bool.not_false, Bool.true_and]
        · simp only [q, decide_false, Bool.false_and, Bool.not_false, Bool.true_and]
      rw [this, ← ih, rangeD_succ, turns, Ev.hName_at, if_pos n3]
      by_cases q : b.getD i 0 < b.getD lo 0
      · have w : ¬ a.getD lo 0 ≤ a.getD i 0 := fun w => c ⟨q, w⟩
        simp -implicitDefEqProofs only [Ev.nd1, Ev.nd2, Ev.lent_fz, Ev.lent_ow, Ev.lent_oo, Ev.lent_mx, Ev.lent_ln, Ev.lent_nil, Ev.back_nil, Ev.back_tm, Ev.back_sl, Ev.runM_at, Ev.start_at, Ev.seq_at, Ev.pass_at, Ev.brk_at, Ev.cnt_at, Ev.ret_at, Ev.retN_at, Ev.asg_at, Ev.if_at, Ev.drop_at, Ev.tgt_at, Ev.tup_at, Ev.for_at, Ev.P_at, Ev.F_at, Ev.var_at, Ev.c_at, Ev.op_at, Ev.opF_at, Ev.call_at, Ev.call1_at, Ev.un_at, Ev.isi_at, Ev.nil_at, Ev.cons_at, Ev.aNil_at, Ev.aCons_at, Ev.lst_at', Ev.tupE_at, Ev.mix_at, Ev.t_at, Ev.tru_at, Ev.and_at, Ev.or_at, Ev.not_at, Ev.andV_at, Ev.orV_at, Ev.notV_at, Ev.if2_at, Ev.ix_at', Ev.no_at, Ev.yes_at, Ev.sl_at, Ev.rep_at, Ev.fn_at, Ev.fnK_at, Ev.seqL_at, Ev.seqT_at, Ev.enum_at, Ev.zip_at, K30.rng1_D, K30.lr1_D, Ev.lc_at, Ev.lcE_at, Ev.yesT_at, Ev.meth_at, Ev.idx_at, Ev.subApp_at, Ev.sortSet_at, Ev.hName_at, Ev.hNil_at, Ev.hCons_at, Ev.hTup_at, Ev.hSub_at, Ev.turns_nil, Ev.force_fz, Ev.force_ow, Ev.force_oo, Ev.force_mx, Ev.force_sl, Ev.norm_fz, Ev.norm_ow, Ev.norm_sl, Ev.argO_sl, Ev.own_at, Ev.setOwn_at, Ev.flatF, Ev.flatO, Ev.flatL, Ev.data_tm, Ev.data_sl, Ev.toD_fz, Ev.toD_ow, Ev.toD_ln, Ev.toD_oo, Ev.toD_mx, Ev.flat_fz, Ev.flat_ow, Ev.flat_sl, Ev.retP_fz, Ev.retP_ow, Ev.retP_oo, Ev.retP_sl, Ev.putP_fz, Ev.putP_ow, Ev.putP_oo, Ev.putP_mx, Ev.putP_sl, Ev.noLn_at, Ev.argOs_nil, Ev.argOs_cons, Ev.argO_fz, Ev.argO_ow, Ev.slots_nil, Ev.slots_tm, Ev.slots_sl, Ev.bOf_b, Ev.ownP_fz, Ev.ownP_ow, Ev.ownP_sl, Ev.ownPs_nil, Ev.ownPs_cons, Ev.putAll_nil, Ev.putAll_cons, Ev.mixI_nil, Ev.mixI_fz, Ev.mixI_ow, Ev.mixI_oo, Ev.ixD_list, Ev.ixD_tup, Ev.atI_0, Ev.atI_1, Ev.ixN_0, Ev.ixN_1, Ev.gt_ii, Ev.ge_ii, Ev.lt_ii, Ev.le_ii, Ev.add_ii, Ev.add_ll, Ev.sub_ii, Ev.mul_ii, Ev.fdv_ii, Ev.mod_ii, Ev.neg_i, Ev.int_i, Ev.abs_i, Ev.max2_ii, Ev.dvm_ii, Ev.len_l, Ev.len_t, Ev.listO_l, Ev.tupO_l, Ev.ints_map, Ev.intsD_map, Ev.sorted_l, Ev.sl_list, List.map_cons, List.map_nil, List.length_cons, List.length_nil, List.replicate_succ, List.replicate_zero, List.append_nil, List.nil_append, List.cons_append, List.getElem?_cons_zero, List.getElem?_cons_succ, List.getElem?_nil, List.set_cons_zero, List.set_cons_succ, List.set_nil, Option.bind_some, Option.bind_none, Option.map_some, Option.map_none, Nat.reduceAdd, Nat.reduceSub, Nat.reduceEqDiff, Nat.reduceLeDiff, if_true, if_false, reduceCtorEq, List.nodup_nil, Bool.false_eq_true, Bool.not_true, Bool.not_false, Bool.true_and, Bool.false_and, Bool.and_true, Bool.and_false, ↓reduceIte, id_eq, List.tail_cons, Nat.zero_add, List.all_cons, List.all_nil, ne_eq, not_false_eq_true, and_self, and_true, true_and, a1, a2, a3, a4, (decide_eq_true q), (decide_eq_false w)]
      · simp -implicitDefEqProofs only [Ev.nd1, Ev.nd2, Ev.lent_fz, Ev.lent_ow, Ev.lent_oo, Ev.lent_mx, Ev.lent_ln, Ev.lent_nil, Ev.back_nil, Ev.back_tm, Ev.back_sl, Ev.runM_at, Ev.start_at, Ev.seq_at, Ev.pass_at, Ev.brk_at, Ev.cnt_at, Ev.ret_at, Ev.retN_at, Ev.asg_at, Ev.if_at, Ev.drop_at, Ev.tgt_at, Ev.tup_at, Ev.for_at, Ev.P_at, Ev.F_at, Ev.var_at, Ev.c_at, Ev.op_at, Ev.opF_at, Ev.call_at, Ev.call1_at, Ev.un_at, Ev.isi_at, Ev.nil_at, Ev.cons_at, Ev.aNil_at, Ev.aCons_at, Ev.lst_at', Ev.tupE_at, Ev.mix_at, Ev.t_at, Ev.tru_at, Ev.and_at, Ev.or_at, Ev.not_at, Ev.andV_at, Ev.orV_at, Ev.notV_at, Ev.if2_at, Ev.ix_at', Ev.no_at, Ev.yes_at, Ev.sl_at, Ev.rep_at, Ev.fn_at, Ev.fnK_at, Ev.seqL_at, Ev.seqT_at, Ev.enum_at, Ev.zip_at, K30.rng1_D, K30.lr1_D, Ev.lc_at, Ev.lcE_at, Ev.yesT_at, Ev.meth_at, Ev.idx_at, Ev.subApp_at, Ev.sortSet_at, Ev.hName_at, Ev.hNil_at, Ev.hCons_at, Ev.hTup_at, Ev.hSub_at, Ev.turns_nil, Ev.force_fz, Ev.force_ow, Ev.force_oo, Ev.force_mx, Ev.force_sl, Ev.norm_fz, Ev.norm_ow, Ev.norm_sl, Ev.argO_sl, Ev.own_at, Ev.setOwn_at, Ev.flatF, Ev.flatO, Ev.flatL, Ev.data_tm, Ev.data_sl, Ev.toD_fz, Ev.toD_ow, Ev.toD_ln, Ev.toD_oo, Ev.toD_mx, Ev.flat_fz, Ev.flat_ow, Ev.flat_sl, Ev.retP_fz, Ev.retP_ow, Ev.retP_oo, Ev.retP_sl, Ev.putP_fz, Ev.putP_ow, Ev.putP_oo, Ev.putP_mx, Ev.putP_sl, Ev.noLn_at, Ev.argOs_nil, Ev.argOs_cons, Ev.argO_fz, Ev.argO_ow, Ev.slots_nil, Ev.slots_tm, Ev.slots_sl, Ev.bOf_b, Ev.ownP_fz, Ev.ownP_ow, Ev.ownP_sl, Ev.ownPs_nil, Ev.ownPs_cons, Ev.putAll_nil, Ev.putAll_cons, Ev.mixI_nil, Ev.mixI_fz, Ev.mixI_ow, Ev.mixI_oo, Ev.ixD_list, Ev.ixD_tup, Ev.atI_0, Ev.atI_1, Ev.ixN_0, Ev.ixN_1, Ev.gt_ii, Ev.ge_ii, Ev.lt_ii, Ev.le_ii, Ev.add_ii, Ev.add_ll, Ev.sub_ii, Ev.mul_ii, Ev.fdv_ii, Ev.mod_ii, Ev.neg_i, Ev.int_i, Ev.abs_i, Ev.max2_ii, Ev.dvm_ii, Ev.len_l, Ev.len_t, Ev.listO_l, Ev.tupO_l, Ev.ints_map, Ev.intsD_map, Ev.sorted_l, Ev.sl_list, List.map_cons, List.map_nil, List.length_cons, List.length_nil, List.replicate_succ, List.replicate_zero, List.append_nil, List.nil_append, List.cons_append, List.getElem?_cons_zero, List.getElem?_cons_succ, List.getElem?_nil, List.set_cons_zero, List.set_cons_succ, List.set_nil, Option.bind_some, Option.bind_none, Option.map_some, Option.map_none, Nat.reduceAdd, Nat.reduceSub, Nat.reduceEqDiff, Nat.reduceLeDiff, if_true, if_false, reduceCtorEq, List.nodup_nil, Bool.false_eq_true, Bool.not_true, Bool.not_false, Bool.true_and, Bool.false_and, Bool.and_true, Bool.and_false, ↓reduceIte, id_eq, List.tail_cons, Nat.zero_add, List.all_cons, List.all_nil, ne_eq, not_false_eq_true, and_self, and_true, true_and, a1, a2, a3, a4, (decide_eq_false q)]
theorem kp_out (a b : List Int) (hab : a.length = b.length) (hn : b.length ≤ 100) : ∀ (k lo : Nat) (u v : Option O), isFz u = true → isFz v = true → lo + k ≤ b.length → ∃ u' v', isFz u' = true ∧ isFz v' = true ∧
    turns (hName 2) (mSeq (mFor (eRng1 (eCons (eCall1 lenD (eVar 1)) eNil)) (hName 3) (mSeq (mIf (eAnd (eT (eOp ltI (eP (eIx (eVar 1) (eF (eVar 2)))) (eP (eIx (eVar 1) (eF (eVar 3)))))) (eT (eOp geI (eP (eIx (eVar 0) (eF (eVar 2)))) (eP (eIx (eVar 0) (eF (eVar 3))))))) (mSeq (mRet (eP (eC (.bool false)))) mPass) mPass) mPass)) mPass) (rangeD (lo : Nat) k) [some (.fz (L a)), some (.fz (L b)), u, v] =
      some (if kp2 a b b.length lo k = true then .nx [some (.fz (L a)), some (.fz (L b)), u', v'] else .rt (.fz (.bool false)) [some (.fz (L a)), some (.fz (L b)), u', v'])
  | 0, lo, u, v, hu, hv, _ => ⟨u, v, hu, hv, rfl⟩
  | k + 1, lo, u, v, hu, hv, hl => by
    obtain ⟨v1, hv1, e1⟩ := kp_in a b lo (by omega) hab b.length 0 v hv (by omega)
    rw [Int.natCast_zero] at e1
    obtain ⟨u', v', hu', hv', ih⟩ := kp_out a b hab hn k (lo + 1) (some (.fz (.int (lo : Nat)))) v1 rfl hv1 (by omega)
    rw [Int.natCast_add, Int.natCast_one] at ih
    have n2 : noLn [some (.fz (L a)), some (.fz (L b)), u, v] 2 = true := noLn_fz (j := 2) rfl hu
    have hr : rngD [.int ((b.map PyData.int).length : Nat)] = some (rangeD 0 b.length) := by
      rw [List.length_map, rngD_of (rgOk_of (by omega) (by omega)), Int.toNat_natCast]
    cases c : kp1 a b lo 0 b.length with
    | false =>
      rw [c, if_neg (by decide)] at e1
      refine ⟨some (.fz (.int (lo : Nat))), v1, rfl, hv1, ?_⟩
      have : kp2 a b b.length lo (k + 1) = false := by rw [kp2, c]; rfl
      rw [this, rangeD_succ, turns, Ev.hName_at, if_pos n2]
      simp -implicitDefEqProofs only [Ev.nd1, Ev.nd2, Ev.lent_fz, Ev.lent_ow, Ev.lent_oo, Ev.lent_mx, Ev.lent_ln, Ev.lent_nil, Ev.back_nil, Ev.back_tm, Ev.back_sl, Ev.runM_at, Ev.start_at, Ev.seq_at, Ev.pass_at, Ev.brk_at, Ev.cnt_at, Ev.ret_at, Ev.retN_at, Ev.asg_at, Ev.if_at, Ev.drop_at, Ev.tgt_at, Ev.tup_at, Ev.for_at, Ev.P_at, Ev.F_at, Ev.var_at, Ev.c_at, Ev.op_at, Ev.opF_at, Ev.call_at, Ev.call1_at, Ev.un_at, Ev.isi_at, Ev.nil_at, Ev.cons_at, Ev.aNil_at, Ev.aCons_at, Ev.lst_at', Ev.tupE_at, Ev.mix_at, Ev.t_at, Ev.tru_at, Ev.and_at, Ev.or_at, Ev.not_at, Ev.andV_at, Ev.orV_at, Ev.notV_at, Ev.if2_at, Ev.ix_at', Ev.no_at, Ev.yes_at, Ev.sl_at, Ev.rep_at, Ev.fn_at, Ev.fnK_at, Ev.seqL_at, Ev.seqT_at, Ev.enum_at, Ev.zip_at, K30.rng1_D, K30.lr1_D, Ev.lc_at, Ev.lcE_at, Ev.yesT_at, Ev.meth_at, Ev.idx_at, Ev.subApp_at, Ev.sortSet_at, Ev.hName_at, Ev.hNil_at, Ev.hCons_at, Ev.hTup_at, Ev.hSub_at, Ev.turns_nil, Ev.force_fz, Ev.force_ow, Ev.force_oo, Ev.force_mx, Ev.force_sl, Ev.norm_fz, Ev.norm_ow, Ev.norm_sl, Ev.argO_sl, Ev.own_at, Ev.setOwn_at, Ev.flatF, Ev.flatO, Ev.flatL, Ev.data_tm, Ev.data_sl, Ev.toD_fz, Ev.toD_ow, Ev.toD_ln, Ev.toD_oo, Ev.toD_mx, Ev.flat_fz, Ev.flat_ow, Ev.flat_sl, Ev.retP_fz, Ev.retP_ow, Ev.retP_oo, Ev.retP_sl, Ev.putP_fz, Ev.putP_ow, Ev.putP_oo, Ev.putP_mx, Ev.putP_sl, Ev.noLn_at, Ev.argOs_nil, Ev.argOs_cons, Ev.argO_fz, Ev.argO_ow, Ev.slots_nil, Ev.slots_tm, Ev.slots_sl, Ev.bOf_b, Ev.ownP_fz, Ev.ownP_ow, Ev.ownP_sl, Ev.ownPs_nil, Ev.ownPs_cons, Ev.putAll_nil, Ev.putAll_cons, Ev.mixI_nil, Ev.mixI_fz, Ev.mixI_ow, Ev.mixI_oo, Ev.ixD_list, Ev.ixD_tup, Ev.atI_0, Ev.atI_1, Ev.ixN_0, Ev.ixN_1, Ev.gt_ii, Ev.ge_ii, Ev.lt_ii, Ev.le_ii, Ev.add_ii, Ev.add_ll, Ev.sub_ii, Ev.mul_ii, Ev.fdv_ii, Ev.mod_ii, Ev.neg_i, Ev.int_i, Ev.abs_i, Ev.max2_ii, Ev.dvm_ii, Ev.len_l, Ev.len_t, Ev.listO_l, Ev.tupO_l, Ev.ints_map, Ev.intsD_map, Ev.sorted_l, Ev.sl_list, List.map_cons, List.map_nil, List.length_cons, List.length_nil, List.replicate_succ, List.replicate_zero, List.append_nil, List.nil_append, List.cons_append, List.getElem?_cons_zero, List.getElem?_cons_succ, List.getElem?_nil, List.set_cons_zero, List.set_cons_succ, List.set_nil, Option.bind_some, Option.bind_none, Option.map_some, Option.map_none, Nat.reduceAdd, Nat.reduceSub, Nat.reduceEqDiff, Nat.reduceLeDiff, if_true, if_false, reduceCtorEq, List.nodup_nil, Bool.false_eq_true, Bool.not_true, Bool.not_false, Bool.true_and, Bool.false_and, Bool.and_true, Bool.and_false, ↓reduceIte, id_eq, List.tail_cons, Nat.zero_add, List.all_cons, List.all_nil, ne_eq, not_false_eq_true, and_self, and_true, true_and, hr, e1]
    | true =>
      rw [c, if_pos rfl] at e1
      refine ⟨u', v', hu', hv', ?_⟩
      have : kp2 a b b.length lo (k + 1) = kp2 a b b.length (lo + 1) k := by rw [kp2, c]; rfl
      rw [this, ← ih, rangeD_succ, turns, Ev.hName_at, if_pos n2]
      simp -implicitDefEqProofs only [Ev.nd1, Ev.nd2, Ev.lent_fz, Ev.lent_ow, Ev.lent_oo, Ev.lent_mx, Ev.lent_ln, Ev.lent_nil, Ev.back_nil, Ev.back_tm, Ev.back_sl, Ev.runM_at, Ev.start_at, Ev.seq_at, Ev.pass_at, Ev.brk_at, Ev.cnt_at, Ev.ret_at, Ev.retN_at, Ev.asg_at, Ev.if_at, Ev.drop_at, Ev.tgt_at, Ev.tup_at, Ev.for_at, Ev.P_at, Ev.F_at, Ev.var_at, Ev.c_at, Ev.op_at, Ev.opF_at, Ev.call_at, Ev.call1_at, Ev.un_at, Ev.isi_at, Ev.nil_at, Ev.cons_at, Ev.aNil_at, Ev.aCons_at, Ev.lst_at', Ev.tupE_at, Ev.mix_at, Ev.t_at, Ev.tru_at, Ev.and_at, Ev.or_at, Ev.not_at, Ev.andV_at, Ev.orV_at, Ev.notV_at, Ev.if2_at, Ev.ix_at', Ev.no_at, Ev.yes_at, Ev.sl_at, Ev.rep_at, Ev.fn_at, Ev.fnK_at, Ev.seqL_at, Ev.seqT_at, Ev.enum_at, Ev.zip_at, K30.rng1_D, K30.lr1_D, Ev.lc_at, Ev.lcE_at, Ev.yesT_at, Ev.meth_at, Ev.idx_at, Ev.subApp_at, Ev.sortSet_at, Ev.hName_at, Ev.hNil_at, Ev.hCons_at, Ev.hTup_at, Ev.hSub_at, Ev.turns_nil, Ev.force_fz, Ev.force_ow, Ev.force_oo, Ev.force_mx, Ev.force_sl, Ev.norm_fz, Ev.norm_ow, Ev.norm_sl, Ev.argO_sl, Ev.own_at, Ev.setOwn_at, Ev.flatF, Ev.flatO, Ev.flatL, Ev.data_tm, Ev.data_sl, Ev.toD_fz, Ev.toD_ow, Ev.toD_ln, Ev.toD_oo, Ev.toD_mx, Ev.flat_fz, Ev.flat_ow, Ev.flat_sl, Ev.retP_fz, Ev.retP_ow, Ev.retP_oo, Ev.retP_sl, Ev.putP_fz, Ev.putP_ow, Ev.putP_oo, Ev.putP_mx, Ev.putP_sl, Ev.noLn_at, Ev.argOs_nil, Ev.argOs_cons, Ev.argO_fz, Ev.argO_ow, Ev.slots_nil, Ev.slots_tm, Ev.slots_sl, Ev.bOf_b, Ev.ownP_fz, Ev.ownP_ow, Ev.ownP_sl, Ev.ownPs_nil, Ev.ownPs_cons, Ev.putAll_nil, Ev.putAll_cons, Ev.mixI_nil, Ev.mixI_fz, Ev.mixI_ow, Ev.mixI_oo, Ev.ixD_list, Ev.ixD_tup, Ev.atI_0, Ev.atI_1, Ev.ixN_0, Ev.ixN_1, Ev.gt_ii, Ev.ge_ii, Ev.lt_ii, Ev.le_ii, Ev.add_ii, Ev.add_ll, Ev.sub_ii, Ev.mul_ii, Ev.fdv_ii, Ev.mod_ii, Ev.neg_i, Ev.int_i, Ev.abs_i, Ev.max2_ii, Ev.dvm_ii, Ev.len_l, Ev.len_t, Ev.listO_l, Ev.tupO_l, Ev.ints_map, Ev.intsD_map, Ev.sorted_l, Ev.sl_list, List.map_cons, List.map_nil, List.length_cons, List.length_nil, List.replicate_succ, List.replicate_zero, List.append_nil, List.nil_append, List.cons_append, List.getElem?_cons_zero, List.getElem?_cons_succ, List.getElem?_nil, List.set_cons_zero, List.set_cons_succ, List.set_nil, Option.bind_some, Option.bind_none, Option.map_some, Option.map_none, Nat.reduceAdd, Nat.reduceSub, Nat.reduceEqDiff, Nat.reduceLeDiff, if_true, if_false, reduceCtorEq, List.nodup_nil, Bool.false_eq_true, Bool.not_true, Bool.not_false, Bool.true_and, Bool.false_and, Bool.and_true, Bool.and_false, ↓reduceIte, id_eq, List.tail_cons, Nat.zero_add, List.all_cons, List.all_nil, ne_eq, not_false_eq_true, and_self, and_true, true_and, hr, e1]
theorem v_keeps (a b : List Int) (hab : a.length = b.length) (hn : b.length ≤ 100) : ∃ g : Bool, (g = true ↔ KpP a b) ∧ val f_keeps_sequence [.fz (L a), .fz (L b)] = some (.fz (.bool g), [none, none]) := by
  obtain ⟨u, v, _, _, e⟩ := kp_out a b hab hn b.length 0 none none rfl rfl (by omega)
  rw [Int.natCast_zero] at e
  refine ⟨kp2 a b b.length 0 b.length, by rw [← hab]; exact kp2_kp a b, ?_⟩
  have hr : rngD [.int ((b.map PyData.int).length : Nat)] = some (rangeD 0 b.length) := by
    rw [List.length_map, rngD_of (rgOk_of (by omega) (by omega)), Int.toNat_natCast]
  unfold val f_keeps_sequence m_keeps_sequence
  cases c : kp2 a b b.length 0 b.length with
  | false =>
    rw [c, if_neg (by decide)] at e
    simp -implicitDefEqProofs only [Ev.nd1, Ev.nd2, Ev.lent_fz, Ev.lent_ow, Ev.lent_oo, Ev.lent_mx, Ev.lent_ln, Ev.lent_nil, Ev.back_nil, Ev.back_tm, Ev.back_sl, Ev.runM_at, Ev.start_at, Ev.seq_at, Ev.pass_at, Ev.brk_at, Ev.cnt_at, Ev.ret_at, Ev.retN_at, Ev.asg_at, Ev.if_at, Ev.drop_at, Ev.tgt_at, Ev.tup_at, Ev.for_at, Ev.P_at, Ev.F_at, Ev.var_at, Ev.c_at, Ev.op_at, Ev.opF_at, Ev.call_at, Ev.call1_at, Ev.un_at, Ev.isi_at, Ev.nil_at, Ev.cons_at, Ev.aNil_at, Ev.aCons_at, Ev.lst_at', Ev.tupE_at, Ev.mix_at, Ev.t_at, Ev.tru_at, Ev.and_at, Ev.or_at, Ev.not_at, Ev.andV_at, Ev.orV_at, Ev.notV_at, Ev.if2_at, Ev.ix_at', Ev.no_at, Ev.yes_at, Ev.sl_at, Ev.rep_at, Ev.fn_at, Ev.fnK_at, Ev.seqL_at, Ev.seqT_at, Ev.enum_at, Ev.zip_at, K30.rng1_D, K30.lr1_D, Ev.lc_at, Ev.lcE_at, Ev.yesT_at, Ev.meth_at, Ev.idx_at, Ev.subApp_at, Ev.sortSet_at, Ev.hName_at, Ev.hNil_at, Ev.hCons_at, Ev.hTup_at, Ev.hSub_at, Ev.turns_nil, Ev.force_fz, Ev.force_ow, Ev.force_oo, Ev.force_mx, Ev.force_sl, Ev.norm_fz, Ev.norm_ow, Ev.norm_sl, Ev.argO_sl, Ev.own_at, Ev.setOwn_at, Ev.flatF, Ev.flatO, Ev.flatL, Ev.data_tm, Ev.data_sl, Ev.toD_fz, Ev.toD_ow, Ev.toD_ln, Ev.toD_oo, Ev.toD_mx, Ev.flat_fz, Ev.flat_ow, Ev.flat_sl, Ev.retP_fz, Ev.retP_ow, Ev.retP_oo, Ev.retP_sl, Ev.putP_fz, Ev.putP_ow, Ev.putP_oo, Ev.putP_mx, Ev.putP_sl, Ev.noLn_at, Ev.argOs_nil, Ev.argOs_cons, Ev.argO_fz, Ev.argO_ow, Ev.slots_nil, Ev.slots_tm, Ev.slots_sl, Ev.bOf_b, Ev.ownP_fz, Ev.ownP_ow, Ev.ownP_sl, Ev.ownPs_nil, Ev.ownPs_cons, Ev.putAll_nil, Ev.putAll_cons, Ev.mixI_nil, Ev.mixI_fz, Ev.mixI_ow, Ev.mixI_oo, Ev.ixD_list, Ev.ixD_tup, Ev.atI_0, Ev.atI_1, Ev.ixN_0, Ev.ixN_1, Ev.gt_ii, Ev.ge_ii, Ev.lt_ii, Ev.le_ii, Ev.add_ii, Ev.add_ll, Ev.sub_ii, Ev.mul_ii, Ev.fdv_ii, Ev.mod_ii, Ev.neg_i, Ev.int_i, Ev.abs_i, Ev.max2_ii, Ev.dvm_ii, Ev.len_l, Ev.len_t, Ev.listO_l, Ev.tupO_l, Ev.ints_map, Ev.intsD_map, Ev.sorted_l, Ev.sl_list, List.map_cons, List.map_nil, List.length_cons, List.length_nil, List.replicate_succ, List.replicate_zero, List.append_nil, List.nil_append, List.cons_append, List.getElem?_cons_zero, List.getElem?_cons_succ, List.getElem?_nil, List.set_cons_zero, List.set_cons_succ, List.set_nil, Option.bind_some, Option.bind_none, Option.map_some, Option.map_none, Nat.reduceAdd, Nat.reduceSub, Nat.reduceEqDiff, Nat.reduceLeDiff, if_true, if_false, reduceCtorEq, List.nodup_nil, Bool.false_eq_true, Bool.not_true, Bool.not_false, Bool.true_and, Bool.false_and, Bool.and_true, Bool.and_false, ↓reduceIte, id_eq, List.tail_cons, Nat.zero_add, List.all_cons, List.all_nil, ne_eq, not_false_eq_true, and_self, and_true, true_and, hr, e]
  | true =>
    rw [c, if_pos rfl] at e
    simp -implicitDefEqProofs only [Ev.nd1, Ev.nd2, Ev.lent_fz, Ev.lent_ow, Ev.lent_oo, Ev.lent_mx, Ev.lent_ln, Ev.lent_nil, Ev.back_nil, Ev.back_tm, Ev.back_sl, Ev.runM_at, Ev.start_at, Ev.seq_at, Ev.pass_at, Ev.brk_at, Ev.cnt_at, Ev.ret_at, Ev.retN_at, Ev.asg_at, Ev.if_at, Ev.drop_at, Ev.tgt_at, Ev.tup_at, Ev.for_at, Ev.P_at, Ev.F_at, Ev.var_at, Ev.c_at, Ev.op_at, Ev.opF_at, Ev.call_at, Ev.call1_at, Ev.un_at, Ev.isi_at, Ev.nil_at, Ev.cons_at, Ev.aNil_at, Ev.aCons_at, Ev.lst_at', Ev.tupE_at, Ev.mix_at, Ev.t_at, Ev.tru_at, Ev.and_at, Ev.or_at, Ev.not_at, Ev.andV_at, Ev.orV_at, Ev.notV_at, Ev.if2_at, Ev.ix_at', Ev.no_at, Ev.yes_at, Ev.sl_at, Ev.rep_at, Ev.fn_at, Ev.fnK_at, Ev.seqL_at, Ev.seqT_at, Ev.enum_at, Ev.zip_at, K30.rng1_D, K30.lr1_D, Ev.lc_at, Ev.lcE_at, Ev.yesT_at, Ev.meth_at, Ev.idx_at, Ev.subApp_at, Ev.sortSet_at, Ev.hName_at, Ev.hNil_at, Ev.hCons_at, Ev.hTup_at, Ev.hSub_at, Ev.turns_nil, Ev.force_fz, Ev.force_ow, Ev.force_oo, Ev.force_mx, Ev.force_sl, Ev.norm_fz, Ev.norm_ow, Ev.norm_sl, Ev.argO_sl, Ev.own_at, Ev.setOwn_at, Ev.flatF, Ev.flatO, Ev.flatL, Ev.data_tm, Ev.data_sl, Ev.toD_fz, Ev.toD_ow, Ev.toD_ln, Ev.toD_oo, Ev.toD_mx, Ev.flat_fz, Ev.flat_ow, Ev.flat_sl, Ev.retP_fz, Ev.retP_ow, Ev.retP_oo, Ev.retP_sl, Ev.putP_fz, Ev.putP_ow, Ev.putP_oo, Ev.putP_mx, Ev.putP_sl, Ev.noLn_at, Ev.argOs_nil, Ev.argOs_cons, Ev.argO_fz, Ev.argO_ow, Ev.slots_nil, Ev.slots_tm, Ev.slots_sl, Ev.bOf_b, Ev.ownP_fz, Ev.ownP_ow, Ev.ownP_sl, Ev.ownPs_nil, Ev.ownPs_cons, Ev.putAll_nil, Ev.putAll_cons, Ev.mixI_nil, Ev.mixI_fz, Ev.mixI_ow, Ev.mixI_oo, Ev.ixD_list, Ev.ixD_tup, Ev.atI_0, Ev.atI_1, Ev.ixN_0, Ev.ixN_1, Ev.gt_ii, Ev.ge_ii, Ev.lt_ii, Ev.le_ii, Ev.add_ii, Ev.add_ll, Ev.sub_ii, Ev.mul_ii, Ev.fdv_ii, Ev.mod_ii, Ev.neg_i, Ev.int_i, Ev.abs_i, Ev.max2_ii, Ev.dvm_ii, Ev.len_l, Ev.len_t, Ev.listO_l, Ev.tupO_l, Ev.ints_map, Ev.intsD_map, Ev.sorted_l, Ev.sl_list, List.map_cons, List.map_nil, List.length_cons, List.length_nil, List.replicate_succ, List.replicate_zero, List.append_nil, List.nil_append, List.cons_append, List.getElem?_cons_zero, List.getElem?_cons_succ, List.getElem?_nil, List.set_cons_zero, List.set_cons_succ, List.set_nil, Option.bind_some, Option.bind_none, Option.map_some, Option.map_none, Nat.reduceAdd, Nat.reduceSub, Nat.reduceEqDiff, Nat.reduceLeDiff, if_true, if_false, reduceCtorEq, List.nodup_nil, Bool.false_eq_true, Bool.not_true, Bool.not_false, Bool.true_and, Bool.false_and, Bool.and_true, Bool.and_false, ↓reduceIte, id_eq, List.tail_cons, Nat.zero_add, List.all_cons, List.all_nil, ne_eq, not_false_eq_true, and_self, and_true, true_and, hr, e]
/-! ### is_finer -/
theorem mem_zip_iff {a b : List Int} (h : a.length = b.length) {x y : Int} : (x, y) ∈ a.zip b ↔ ∃ i, i < a.length ∧ x = a.getD i 0 ∧ y = b.getD i 0 := by
  rw [List.mem_iff_getElem]
  constructor
  · rintro ⟨i, hi, e⟩
    rw [List.length_zip] at hi
    rw [List.getElem_zip] at e
    have e1 : a[i]'(by omega) = x := congrArg Prod.fst e
    have e2 : b[i]'(by omega) = y := congrArg Prod.snd e
    refine ⟨i, by omega, ?_, ?_⟩
    · rw [← e1]; simp [show i < a.length by omega]
    · rw [← e2]; simp [show i < b.length by omega]
  · rintro ⟨i, hi, rfl, rfl⟩
    refine ⟨i, by rw [List.length_zip]; omega, ?_⟩
    rw [List.getElem_zip]
    simp [hi, show i < b.length by omega]
theorem fin_iff {a b : List Int} (h : a.length = b.length) : (ddp (a.zip b)).length = (dd a).length ↔ FinP a b := by
  have fst_in : ∀ p ∈ ddp (a.zip b), p.1 ∈ dd a := fun p hp => by
    obtain ⟨i, hi, e, _⟩ := (mem_zip_iff h (x := p.1) (y := p.2)).mp (ddp_mem.mp hp)
    rw [dd_mem, e]
    simp [hi]
  have has : ∀ i < a.length, (a.getD i 0, b.getD i 0) ∈ ddp (a.zip b) := fun i hi => ddp_mem.mpr ((mem_zip_iff h).mpr ⟨i, hi, rfl, rfl⟩)
  have cov : ∀ x ∈ dd a, ∃ p ∈ ddp (a.zip b), p.1 = x := fun x hx => by
    obtain ⟨i, hi, e⟩ := List.getElem_of_mem (dd_mem.mp hx)
    exact ⟨_, has i hi, by simp [hi, e]⟩
  have nd := ddp_nodup (a.zip b)
  have nd2 := dd_nodup a
  constructor
  · intro e i hi j hj q
    refine Classical.byContradiction fun hne => ?_
    have hp := has i hi
    have hq := has j hj
    have sub : ∀ x ∈ dd a, x ∈ ((ddp (a.zip b)).erase (a.getD i 0, b.getD i 0)).map Prod.fst := fun x hx => by
      obtain ⟨r, hr, rfl⟩ := cov x hx
      by_cases w : r = (a.getD i 0, b.getD i 0)
      · refine List.mem_map.mpr ⟨(a.getD j 0, b.getD j 0), (List.mem_erase_of_ne fun z => hne ?_).mpr hq, ?_⟩
        · exact (congrArg Prod.snd z).symm
        · rw [w]; exact q.symm
      · exact List.mem_map.mpr ⟨r, (List.mem_erase_of_ne w).mpr hr, rfl⟩
    have := nd_len nd2 sub
    rw [List.length_map, List.length_erase_of_mem hp] at this
    have := List.length_pos_of_mem hp
    omega
  · intro f
    have ndm : ((ddp (a.zip b)).map Prod.fst).Nodup := by
      refine List.pairwise_map.mpr (nd.imp_of_mem fun {p q} hp hq hne e => hne ?_)
      obtain ⟨i, hi, e1, e2⟩ := (mem_zip_iff h (x := p.1) (y := p.2)).mp (ddp_mem.mp hp)
      obtain ⟨j, hj, e3, e4⟩ := (mem_zip_iff h (x := q.1) (y := q.2)).mp (ddp_mem.mp hq)
      have : p.2 = q.2 := by
        rw [e2, e4]
        exact f i hi j hj (by rw [← e1, ← e3]; exact e)
      exact Prod.ext e this
    have l1 := nd_len ndm (m := dd a) fun x hx => by
      obtain ⟨p, hp, rfl⟩ := List.mem_map.mp hx
      exact fst_in p hp
    have l2 := nd_len nd2 (m := (ddp (a.zip b)).map Prod.fst) fun x hx => by
      obtain ⟨p, hp, rfl⟩ := cov x hx
      exact List.mem_map.mpr ⟨p, hp, rfl⟩
    rw [List.length_map] at l1 l2
    omega
theorem v_finer (a b : List Int) (hab : a.length = b.length) (hn : a.length < 64) : ∃ f : Bool, (f = true ↔ FinP a b) ∧ val f_is_finer [.fz (L a), .fz (L b)] = some (.fz (.bool f), [none, none]) := by
  refine ⟨decide (((ddp (a.zip b)).length : Int) = ((dd a).length : Int)), ?_, ?_⟩
  · rw [decide_eq_true_eq, ← fin_iff hab]
    omega
  · have e1 : lszD (.list (a.map .int)) (.list (b.map .int)) = some (.int ((ddp (a.zip b)).length : Nat)) := by
      unfold lszD
      rw [Ev.intsD_map, Ev.intsD_map]
      simp [hn]
    have e2 := Ev.lenSet_l (ns := a) (by omega)
    unfold val f_is_finer m_is_finer
    simp -implicitDefEqProofs only [Ev.nd1, Ev.nd2, Ev.lent_fz, Ev.lent_ow, Ev.lent_oo, Ev.lent_mx, Ev.lent_ln, Ev.lent_nil, Ev.back_nil, Ev.back_tm, Ev.back_sl, Ev.runM_at, Ev.start_at, Ev.seq_at, Ev.pass_at, Ev.brk_at, Ev.cnt_at, Ev.ret_at, Ev.retN_at, Ev.asg_at, Ev.if_at, Ev.drop_at, Ev.tgt_at, Ev.tup_at, Ev.for_at, Ev.P_at, Ev.F_at, Ev.var_at, Ev.c_at, Ev.op_at, Ev.opF_at, Ev.call_at, Ev.call1_at, Ev.un_at, Ev.isi_at, Ev.nil_at, Ev.cons_at, Ev.aNil_at, Ev.aCons_at, Ev.lst_at', Ev.tupE_at, Ev.mix_at, Ev.t_at, Ev.tru_at, Ev.and_at, Ev.or_at, Ev.not_at, Ev.andV_at, Ev.orV_at, Ev.notV_at, Ev.if2_at, Ev.ix_at', Ev.no_at, Ev.yes_at, Ev.sl_at, Ev.rep_at, Ev.fn_at, Ev.fnK_at, Ev.seqL_at, Ev.seqT_at, Ev.enum_at, Ev.zip_at, K30.rng1_D, K30.lr1_D, Ev.lc_at, Ev.lcE_at, Ev.yesT_at, Ev.meth_at, Ev.idx_at, Ev.subApp_at, Ev.sortSet_at, Ev.hName_at, Ev.hNil_at, Ev.hCons_at, Ev.hTup_at, Ev.hSub_at, Ev.turns_nil, Ev.force_fz, Ev.force_ow, Ev.force_oo, Ev.force_mx, Ev.force_sl, Ev.norm_fz, Ev.norm_ow, Ev.norm_sl, Ev.argO_sl, Ev.own_at, Ev.setOwn_at, Ev.flatF, Ev.flatO, Ev.flatL, Ev.data_tm, Ev.data_sl, Ev.toD_fz, Ev.toD_ow, Ev.toD_ln, Ev.toD_oo, Ev.toD_mx, Ev.flat_fz, Ev.flat_ow, Ev.flat_sl, Ev.retP_fz, Ev.retP_ow, Ev.retP_oo, Ev.retP_sl, Ev.putP_fz, Ev.putP_ow, Ev.putP_oo, Ev.putP_mx, Ev.putP_sl, Ev.noLn_at, Ev.argOs_nil, Ev.argOs_cons, Ev.argO_fz, Ev.argO_ow, Ev.slots_nil, Ev.slots_tm, Ev.slots_sl, Ev.bOf_b, Ev.ownP_fz, Ev.ownP_ow, Ev.ownP_sl, Ev.ownPs_nil, Ev.ownPs_cons, Ev.putAll_nil, Ev.putAll_cons, Ev.mixI_nil, Ev.mixI_fz, Ev.mixI_ow, Ev.mixI_oo, Ev.ixD_list, Ev.ixD_tup, Ev.atI_0, Ev.atI_1, Ev.ixN_0, Ev.ixN_1, Ev.gt_ii, Ev.ge_ii, Ev.lt_ii, Ev.le_ii, Ev.add_ii, Ev.add_ll, Ev.sub_ii, Ev.mul_ii, Ev.fdv_ii, Ev.mod_ii, Ev.neg_i, Ev.int_i, Ev.abs_i, Ev.max2_ii, Ev.dvm_ii, Ev.len_l, Ev.len_t, Ev.listO_l, Ev.tupO_l, Ev.ints_map, Ev.intsD_map, Ev.sorted_l, Ev.sl_list, List.map_cons, List.map_nil, List.length_cons, List.length_nil, List.replicate_succ, List.replicate_zero, List.append_nil, List.nil_append, List.cons_append, List.getElem?_cons_zero, List.getElem?_cons_succ, List.getElem?_nil, List.set_cons_zero, List.set_cons_succ, List.set_nil, Option.bind_some, Option.bind_none, Option.map_some, Option.map_none, Nat.reduceAdd, Nat.reduceSub, Nat.reduceEqDiff, Nat.reduceLeDiff, if_true, if_false, reduceCtorEq, List.nodup_nil, Bool.false_eq_true, Bool.not_true, Bool.not_false, Bool.true_and, Bool.false_and, Bool.and_true, Bool.and_false, ↓reduceIte, id_eq, List.tail_cons, Nat.zero_add, List.all_cons, List.all_nil, ne_eq, not_false_eq_true, and_self, and_true, true_and, e1, e2, eq_ii]
end K30
end
section
set_option Elab.async false
set_option linter.all false
set_option maxRecDepth 100000
set_option maxHeartbeats 8000000
namespace K30
open PySem PySem.Spec PyProof.Rows L2 Vi Vf Vo Vp Vs Vt Vu Vv Vg Vw Vx Vy Va Vb Vc Ev
/-- the places of x -/
def pl (x : Int) : Nat → List Int → List Int
  | _, [] => []
  | lo, y :: ys => if y = x then (lo : Int) :: pl x (lo + 1) ys else pl x (lo + 1) ys
theorem pl_nil (x : Int) : ∀ (ys : List Int) (lo : Nat), pl x lo ys = [] ↔ x ∉ ys
  | [], lo => by simp [pl]
  | y :: ys, lo => by
    unfold pl
    by_cases h : y = x
    · simp [h]
    · rw [if_neg h, pl_nil x ys (lo + 1), List.mem_cons]
      exact ⟨fun a b => b.elim (fun e => h e.symm) a, fun a b => a (.inr b)⟩
theorem pl_len (x : Int) : ∀ (ys : List Int) (lo : Nat), (pl x lo ys).length ≤ ys.length
  | [], lo => by simp [pl]
  | y :: ys, lo => by
    have := pl_len x ys (lo + 1)
    unfold pl
    split
    · simp only [List.length_cons]; omega
    · simp only [List.length_cons]; omega
theorem pl_mem (x : Int) : ∀ (ys : List Int) (lo : Nat) (z : Int), z ∈ pl x lo ys → (lo : Int) ≤ z ∧ z < lo + ys.length
  | [], lo, z, h => by cases h
  | y :: ys, lo, z, h => by
    have ih := pl_mem x ys (lo + 1) z
    have aux : z ∈ pl x (lo + 1) ys → (lo : Int) ≤ z ∧ z < lo + (y :: ys).length := fun h' => by
      have := ih h'
      simp only [List.length_cons]
      omega
    unfold pl at h
    split at h
    · rcases List.mem_cons.mp h with e | h'
      · subst e; simp only [List.length_cons]; omega
      · exact aux h'
    · exact aux h
/-- how many colours -/
def cz (c : List Int) : Nat := (dd c).length
def cells (c : List Int) : List (List Int) := (List.range (cz c)).map fun (j : Nat) => pl (j : Int) 0 c
theorem cells_len (c : List Int) : (cells c).length = cz c := by simp [cells]
theorem cz_le (c : List Int) : cz c ≤ c.length := dd_le c
theorem full_mem {c : List Int} (f : Full c) {x : Int} : x ∈ c ↔ 0 ≤ x ∧ x < cz c := by
  cases hm : maxL c with
  | none =>
    cases c with
    | nil => simp [cz, dd]
    | cons y ys => cases hm
  | some m =>
    obtain ⟨m1, m2⟩ := maxL_ok hm
    have e := (full_iff f.1 hm).mpr f
    unfold cz
    constructor
    · intro hx
      have := m2 x hx
      have := f.1 x hx
      omega
    · rintro ⟨h0, h1⟩
      exact f.2 m m1 x h0 (by omega)
def foldC : Nat → List Int → List (List Int) → List (List Int)
  | _, [], acc => acc
  | lo, y :: ys, acc => foldC (lo + 1) ys (acc.set y.toNat (acc.getD y.toNat [] ++ [(lo : Int)]))
theorem foldC_len : ∀ (ys : List Int) (lo : Nat) (acc : List (List Int)), (foldC lo ys acc).length = acc.length
  | [], _, _ => rfl
  | y :: ys, lo, acc => by rw [foldC, foldC_len ys, List.length_set]
theorem foldC_get : ∀ (ys : List Int) (lo : Nat) (acc : List (List Int)) (j : Nat), (∀ y ∈ ys, 0 ≤ y ∧ y < acc.length) → j < acc.length → (foldC lo ys acc).getD j [] = acc.getD j [] ++ pl (j : Int) lo ys
  | [], lo, acc, j, _, _ => by simp [foldC, pl]
  | y :: ys, lo, acc, j, h, hj => by
    have hy := h y List.mem_cons_self
    rw [foldC, foldC_get ys (lo + 1) _ j (fun z hz => by rw [List.length_set]; exact h z (List.mem_cons_of_mem _ hz)) (by rw [List.length_set]; exact hj)]
    by_cases e : y = (j : Int)
    · have : y.toNat = j := by omega
      rw [pl, if_pos e, this]
      simp [hj]
    · have : y.toNat ≠ j := by omega
      rw [pl, if_neg e]
      simp [hj, this]
abbrev LL (rs : List (List Int)) : List (List D) := rs.map fun r => r.map .int
theorem all_tt {α : Type} (ds : List α) : (ds.all fun _ => true) = true := by simp
theorem cell_turns (A : D) : ∀ (ys : List Int) (lo : Nat) (acc : List (List Int)) (u v : Option O), isFz u = true → isFz v = true → (∀ y ∈ ys, 0 ≤ y ∧ y < acc.length) → (∀ r ∈ acc, r.length + ys.length ≤ 100) → ∃ u' v', isFz u' = true ∧ isFz v' = true ∧
    turns (hTup 2 (hCons (hName 3) (hCons (hName 2) hNil))) (mSeq (mDrop (eP (eSubApp 1 (eF (eVar 2)) (eF (eVar 3))))) mPass) (enF lo ys) [some (.fz A), some (.oo (LL acc)), u, v] = some (.nx [some (.fz A), some (.oo (LL (foldC lo ys acc))), u', v'])
  | [], lo, acc, u, v, hu, hv, _, _ => ⟨u, v, hu, hv, rfl⟩
  | y :: ys, lo, acc, u, v, hu, hv, h, hr => by
    have hy := h y List.mem_cons_self
    have hg : acc.getD y.toNat [] ∈ acc := by
      have : y.toNat < acc.length := by omega
      simp [this]
    obtain ⟨u', v', hu', hv', ih⟩ := cell_turns A ys (lo + 1) (acc.set y.toNat (acc.getD y.toNat [] ++ [(lo : Int)])) (some (.fz (.int y))) (some (.fz (.int (lo : Nat)))) rfl rfl (fun z hz => by rw [List.length_set]; exact h z (List.mem_cons_of_mem _ hz)) (fun r hr' => by
      rcases List.mem_or_eq_of_mem_set hr' with q | q
      · have := hr r q; simp only [List.length_cons] at this; omega
      · subst q
        have := hr _ hg
        simp only [List.length_cons, List.length_append, List.length_nil] at this ⊢
        omega)
    refine ⟨u', v', hu', hv', ?_⟩
    have n3 : noLn [some (.fz A), some (.oo (LL acc)), u, v] 3 = true := noLn_fz (j := 3) rfl hv
    have n2 : noLn ([some (.fz A), some (.oo (LL acc)), u, v].set 3 (some (.fz (.int (lo : Nat))))) 2 = true := noLn_fz (j := 2) rfl hu
    have hrow : rowAt y (.oo (LL acc)) = some (y.toNat, (acc.getD y.toNat []).map .int) := by
      have hl : y.toNat < acc.length := by omega
      show (ixN (LL acc).length y).bind _ = _
      rw [Ev.ixN_int hy.1 (by rw [List.length_map]; exact hy.2), Option.bind_some]
      simp [hl]
    have hset : setRow y.toNat ((acc.getD y.toNat []).map .int ++ [.int (lo : Nat)]) (.oo (LL acc)) = .oo (LL (acc.set y.toNat (acc.getD y.toNat [] ++ [(lo : Int)]))) := by
      show O.oo _ = _
      congr 1
      show (acc.map fun r => r.map PyData.int).set _ _ = _
      rw [LL, List.map_set, List.map_append]
      rfl
    have hz : ((acc.getD y.toNat []).map PyData.int).length < sizeLine := by
      have := hr _ hg
      rw [List.length_map, sizeLine_eq]; simp only [List.length_cons] at this; omega
    rw [enF, turns, two_names n3 n2, foldC]
    simp -implicitDefEqProofs only [Ev.nd1, Ev.nd2, Ev.lent_fz, Ev.lent_ow, Ev.lent_oo, Ev.lent_mx, Ev.lent_ln, Ev.lent_nil, Ev.back_nil, Ev.back_tm, Ev.back_sl, Ev.runM_at, Ev.start_at, Ev.seq_at, Ev.pass_at, Ev.brk_at, Ev.cnt_at, Ev.ret_at, Ev.retN_at, Ev.asg_at, Ev.if_at, Ev.drop_at, Ev.tgt_at, Ev.tup_at, Ev.for_at, Ev.P_at, Ev.F_at, Ev.var_at, Ev.c_at, Ev.op_at, Ev.opF_at, Ev.call_at, Ev.call1_at, Ev.un_at, Ev.isi_at, Ev.nil_at, Ev.cons_at, Ev.aNil_at, Ev.aCons_at, Ev.lst_at', Ev.tupE_at, Ev.mix_at, Ev.t_at, Ev.tru_at, Ev.and_at, Ev.or_at, Ev.not_at, Ev.andV_at, Ev.orV_at, Ev.notV_at, Ev.if2_at, Ev.ix_at', Ev.no_at, Ev.yes_at, Ev.sl_at, Ev.rep_at, Ev.fn_at, Ev.fnK_at, Ev.seqL_at, Ev.seqT_at, Ev.enum_at, Ev.zip_at, K30.rng1_D, K30.lr1_D, Ev.lc_at, Ev.lcE_at, Ev.yesT_at, Ev.meth_at, Ev.idx_at, Ev.subApp_at, Ev.sortSet_at, Ev.hName_at, Ev.hNil_at, Ev.hCons_at, Ev.hTup_at, Ev.hSub_at, Ev.turns_nil, Ev.force_fz, Ev.force_ow, Ev.force_oo, Ev.force_mx, Ev.force_sl, Ev.norm_fz, Ev.norm_ow, Ev.norm_sl, Ev.argO_sl, Ev.own_at, Ev.setOwn_at, Ev.flatF, Ev.flatO, Ev.flatL, Ev.data_tm, Ev.data_sl, Ev.toD_fz, Ev.toD_ow, Ev.toD_ln, Ev.toD_oo, Ev.toD_mx, Ev.flat_fz, Ev.flat_ow, Ev.flat_sl, Ev.retP_fz, Ev.retP_ow, Ev.retP_oo, Ev.retP_sl, Ev.putP_fz, Ev.putP_ow, Ev.putP_oo, Ev.putP_mx, Ev.putP_sl, Ev.noLn_at, Ev.argOs_nil, Ev.argOs_cons, Ev.argO_fz, Ev.argO_ow, Ev.slots_nil, Ev.slots_tm, Ev.slots_sl, Ev.bOf_b, Ev.ownP_fz, Ev.ownP_ow, Ev.ownP_sl, Ev.ownPs_nil, Ev.ownPs_cons, Ev.putAll_nil, Ev.putAll_cons, Ev.mixI_nil, Ev.mixI_fz, Ev.mixI_ow, Ev.mixI_oo, Ev.ixD_list, Ev.ixD_tup, Ev.atI_0, Ev.atI_1, Ev.ixN_0, Ev.ixN_1, Ev.gt_ii, Ev.ge_ii, Ev.lt_ii, Ev.le_ii, Ev.add_ii, Ev.add_ll, Ev.sub_ii, Ev.mul_ii, Ev.fdv_ii, Ev.mod_ii, Ev.neg_i, Ev.int_i, Ev.abs_i, Ev.max2_ii, Ev.dvm_ii, Ev.len_l, Ev.len_t, Ev.listO_l, Ev.tupO_l, Ev.ints_map, Ev.intsD_map, Ev.sorted_l, Ev.sl_list, List.map_cons, List.map_nil, List.length_cons, List.length_nil, List.replicate_succ, List.replicate_zero, List.append_nil, List.nil_append, List.cons_append, List.getElem?_cons_zero, List.getElem?_cons_succ, List.getElem?_nil, List.set_cons_zero, List.set_cons_succ, List.set_nil, Option.bind_some, Option.bind_none, Option.map_some, Option.map_none, Nat.reduceAdd, Nat.reduceSub, Nat.reduceEqDiff, Nat.reduceLeDiff, if_true, if_false, reduceCtorEq, List.nodup_nil, Bool.false_eq_true, Bool.not_true, Bool.not_false, Bool.true_and, Bool.false_and, Bool.and_true, Bool.and_false, ↓reduceIte, id_eq, List.tail_cons, Nat.zero_add, List.all_cons, List.all_nil, ne_eq, not_false_eq_true, and_self, and_true, true_and, hrow, hset, hz, ih]
theorem foldC_cells {c : List Int} (f : Full c) : foldC 0 c (List.replicate (cz c) []) = cells c := by
  refine List.ext_getElem (by rw [foldC_len, List.length_replicate, cells_len]) fun j h1 h2 => ?_
  rw [foldC_len, List.length_replicate] at h1
  have := foldC_get c 0 (List.replicate (cz c) []) j (fun y hy => by rw [List.length_replicate]; exact (full_mem f).mp hy) (by rw [List.length_replicate]; exact h1)
  have e : (foldC 0 c (List.replicate (cz c) [])).getD j [] = (foldC 0 c (List.replicate (cz c) []))[j]'(by rw [foldC_len, List.length_replicate]; exact h1) := by
    simp [foldC_len, h1]
  rw [← e, this]
  simp [cells, h1]
theorem LL_rep (k : Nat) : List.replicate k ([] : List D) = LL (List.replicate k []) := by simp [LL]
theorem v_cells_of (c : List Int) (f : Full c) (hn : c.length ≤ 40) : val f_cells_of [.fz (L c)] = some (.oo (LL (cells c)), [none]) := by
  have hk := cz_le c
  have hs : sortSetO (.list (c.map .int)) = some (.ow ((sortI (dd c)).map .int)) := by
    unfold sortSetO
    rw [Ev.intsD_map]
    have : (dd c).length ≤ 40 := Nat.le_trans hk hn
    simp [show c.length ≤ 4000 by omega, show (dd c).length < 64 by omega]
  obtain ⟨u', v', hu', hv', e⟩ := cell_turns (L c) c 0 (List.replicate (cz c) []) none none rfl rfl (fun y hy => by rw [List.length_replicate]; exact (full_mem f).mp hy) (fun r hr => by
    rw [(List.mem_replicate.mp hr).2]; simp only [List.length_nil]; omega)
  rw [foldC_cells f, ← LL_rep] at e
  have hz : ((sortI (dd c)).map PyData.int).length ≤ sizeLine := by rw [List.length_map, sortI_len, sizeLine_eq]; have : (dd c).length ≤ 40 := Nat.le_trans hk hn; omega
  have hl : ((sortI (dd c)).map PyData.int).length = cz c := by rw [List.length_map, sortI_len]; rfl
  have hz2 : cz c ≤ sizeLine := by rw [sizeLine_eq]; omega
  unfold val f_cells_of m_cells_of
  simp -implicitDefEqProofs only [Ev.nd1, Ev.nd2, Ev.lent_fz, Ev.lent_ow, Ev.lent_oo, Ev.lent_mx, Ev.lent_ln, Ev.lent_nil, Ev.back_nil, Ev.back_tm, Ev.back_sl, Ev.runM_at, Ev.start_at, Ev.seq_at, Ev.pass_at, Ev.brk_at, Ev.cnt_at, Ev.ret_at, Ev.retN_at, Ev.asg_at, Ev.if_at, Ev.drop_at, Ev.tgt_at, Ev.tup_at, Ev.for_at, Ev.P_at, Ev.F_at, Ev.var_at, Ev.c_at, Ev.op_at, Ev.opF_at, Ev.call_at, Ev.call1_at, Ev.un_at, Ev.isi_at, Ev.nil_at, Ev.cons_at, Ev.aNil_at, Ev.aCons_at, Ev.lst_at', Ev.tupE_at, Ev.mix_at, Ev.t_at, Ev.tru_at, Ev.and_at, Ev.or_at, Ev.not_at, Ev.andV_at, Ev.orV_at, Ev.notV_at, Ev.if2_at, Ev.ix_at', Ev.no_at, Ev.yes_at, Ev.sl_at, Ev.rep_at, Ev.fn_at, Ev.fnK_at, Ev.seqL_at, Ev.seqT_at, Ev.enum_at, Ev.zip_at, K30.rng1_D, K30.lr1_D, Ev.lc_at, Ev.lcE_at, Ev.yesT_at, Ev.meth_at, Ev.idx_at, Ev.subApp_at, Ev.sortSet_at, Ev.hName_at, Ev.hNil_at, Ev.hCons_at, Ev.hTup_at, Ev.hSub_at, Ev.turns_nil, Ev.force_fz, Ev.force_ow, Ev.force_oo, Ev.force_mx, Ev.force_sl, Ev.norm_fz, Ev.norm_ow, Ev.norm_sl, Ev.argO_sl, Ev.own_at, Ev.setOwn_at, Ev.flatF, Ev.flatO, Ev.flatL, Ev.data_tm, Ev.data_sl, Ev.toD_fz, Ev.toD_ow, Ev.toD_ln, Ev.toD_oo, Ev.toD_mx, Ev.flat_fz, Ev.flat_ow, Ev.flat_sl, Ev.retP_fz, Ev.retP_ow, Ev.retP_oo, Ev.retP_sl, Ev.putP_fz, Ev.putP_ow, Ev.putP_oo, Ev.putP_mx, Ev.putP_sl, Ev.noLn_at, Ev.argOs_nil, Ev.argOs_cons, Ev.argO_fz, Ev.argO_ow, Ev.slots_nil, Ev.slots_tm, Ev.slots_sl, Ev.bOf_b, Ev.ownP_fz, Ev.ownP_ow, Ev.ownP_sl, Ev.ownPs_nil, Ev.ownPs_cons, Ev.putAll_nil, Ev.putAll_cons, Ev.mixI_nil, Ev.mixI_fz, Ev.mixI_ow, Ev.mixI_oo, Ev.ixD_list, Ev.ixD_tup, Ev.atI_0, Ev.atI_1, Ev.ixN_0, Ev.ixN_1, Ev.gt_ii, Ev.ge_ii, Ev.lt_ii, Ev.le_ii, Ev.add_ii, Ev.add_ll, Ev.sub_ii, Ev.mul_ii, Ev.fdv_ii, Ev.mod_ii, Ev.neg_i, Ev.int_i, Ev.abs_i, Ev.max2_ii, Ev.dvm_ii, Ev.len_l, Ev.len_t, Ev.listO_l, Ev.tupO_l, Ev.ints_map, Ev.intsD_map, Ev.sorted_l, Ev.sl_list, List.map_cons, List.map_nil, List.length_cons, List.length_nil, List.replicate_succ, List.replicate_zero, List.append_nil, List.nil_append, List.cons_append, List.getElem?_cons_zero, List.getElem?_cons_succ, List.getElem?_nil, List.set_cons_zero, List.set_cons_succ, List.set_nil, Option.bind_some, Option.bind_none, Option.map_some, Option.map_none, Nat.reduceAdd, Nat.reduceSub, Nat.reduceEqDiff, Nat.reduceLeDiff, if_true, if_false, reduceCtorEq, List.nodup_nil, Bool.false_eq_true, Bool.not_true, Bool.not_false, Bool.true_and, Bool.false_and, Bool.and_true, Bool.and_false, ↓reduceIte, id_eq, List.tail_cons, Nat.zero_add, List.all_cons, List.all_nil, ne_eq, not_false_eq_true, and_self, and_true, true_and, hs, hz, okv, wipe_nil, wipe_cons, rest_nil, rest_cons, Option.getD_some, Option.isSome_some, all_tt, hl, hz2, enum_L, e]
theorem tr_go (A : Option O) : ∀ (rs : List (List Int)), lcGo [1] (hName 1) eYesT (eCall1 lenD (eVar 1)) ((LL rs).map .list) [A, none] = some ((rs.map fun r => (r.length : Int)).map .int, [A, none])
  | [] => rfl
  | r :: rs => by
    have ih := tr_go A rs
    rw [LL, List.map_cons, List.map_cons, lcGo]
    simp -implicitDefEqProofs only [Ev.nd1, Ev.nd2, Ev.lent_fz, Ev.lent_ow, Ev.lent_oo, Ev.lent_mx, Ev.lent_ln, Ev.lent_nil, Ev.back_nil, Ev.back_tm, Ev.back_sl, Ev.runM_at, Ev.start_at, Ev.seq_at, Ev.pass_at, Ev.brk_at, Ev.cnt_at, Ev.ret_at, Ev.retN_at, Ev.asg_at, Ev.if_at, Ev.drop_at, Ev.tgt_at, Ev.tup_at, Ev.for_at, Ev.P_at, Ev.F_at, Ev.var_at, Ev.c_at, Ev.op_at, Ev.opF_at, Ev.call_at, Ev.call1_at, Ev.un_at, Ev.isi_at, Ev.nil_at, Ev.cons_at, Ev.aNil_at, Ev.aCons_at, Ev.lst_at', Ev.tupE_at, Ev.mix_at, Ev.t_at, Ev.tru_at, Ev.and_at, Ev.or_at, Ev.not_at, Ev.andV_at, Ev.orV_at, Ev.notV_at, Ev.if2_at, Ev.ix_at', Ev.no_at, Ev.yes_at, Ev.sl_at, Ev.rep_at, Ev.fn_at, Ev.fnK_at, Ev.seqL_at, Ev.seqT_at, Ev.enum_at, Ev.zip_at, K30.rng1_D, K30.lr1_D, Ev.lc_at, Ev.lcE_at, Ev.yesT_at, Ev.meth_at, Ev.idx_at, Ev.subApp_at, Ev.sortSet_at, Ev.hName_at, Ev.hNil_at, Ev.hCons_at, Ev.hTup_at, Ev.hSub_at, Ev.turns_nil, Ev.force_fz, Ev.force_ow, Ev.force_oo, Ev.force_mx, Ev.force_sl, Ev.norm_fz, Ev.norm_ow, Ev.norm_sl, Ev.argO_sl, Ev.own_at, Ev.setOwn_at, Ev.flatF, Ev.flatO, Ev.flatL, Ev.data_tm, Ev.data_sl, Ev.toD_fz, Ev.toD_ow, Ev.toD_ln, Ev.toD_oo, Ev.toD_mx, Ev.flat_fz, Ev.flat_ow, Ev.flat_sl, Ev.retP_fz, Ev.retP_ow, Ev.retP_oo, Ev.retP_sl, Ev.putP_fz, Ev.putP_ow, Ev.putP_oo, Ev.putP_mx, Ev.putP_sl, Ev.noLn_at, Ev.argOs_nil, Ev.argOs_cons, Ev.argO_fz, Ev.argO_ow, Ev.slots_nil, Ev.slots_tm, Ev.slots_sl, Ev.bOf_b, Ev.ownP_fz, Ev.ownP_ow, Ev.ownP_sl, Ev.ownPs_nil, Ev.ownPs_cons, Ev.putAll_nil, Ev.putAll_cons, Ev.mixI_nil, Ev.mixI_fz, Ev.mixI_ow, Ev.mixI_oo, Ev.ixD_list, Ev.ixD_tup, Ev.atI_0, Ev.atI_1, Ev.ixN_0, Ev.ixN_1, Ev.gt_ii, Ev.ge_ii, Ev.lt_ii, Ev.le_ii, Ev.add_ii, Ev.add_ll, Ev.sub_ii, Ev.mul_ii, Ev.fdv_ii, Ev.mod_ii, Ev.neg_i, Ev.int_i, Ev.abs_i, Ev.max2_ii, Ev.dvm_ii, Ev.len_l, Ev.len_t, Ev.listO_l, Ev.tupO_l, Ev.ints_map, Ev.intsD_map, Ev.sorted_l, Ev.sl_list, List.map_cons, List.map_nil, List.length_cons, List.length_nil, List.replicate_succ, List.replicate_zero, List.append_nil, List.nil_append, List.cons_append, List.getElem?_cons_zero, List.getElem?_cons_succ, List.getElem?_nil, List.set_cons_zero, List.set_cons_succ, List.set_nil, Option.bind_some, Option.bind_none, Option.map_some, Option.map_none, Nat.reduceAdd, Nat.reduceSub, Nat.reduceEqDiff, Nat.reduceLeDiff, if_true, if_false, reduceCtorEq, List.nodup_nil, Bool.false_eq_true, Bool.not_true, Bool.not_false, Bool.true_and, Bool.false_and, Bool.and_true, Bool.and_false, ↓reduceIte, id_eq, List.tail_cons, Nat.zero_add, List.all_cons, List.all_nil, ne_eq, not_false_eq_true, and_self, and_true, true_and, wipe_nil, wipe_cons, List.length_map]
    rw [show List.map PyData.list (List.map (fun r => List.map PyData.int r) rs) = (LL rs).map .list from rfl, ih]
    rfl
theorem v_trace_of (c : List Int) (f : Full c) (hn : c.length ≤ 40) : val f_trace_of [.fz (L c)] = some (.ow (((cells c).map fun r => (r.length : Int)).map .int), [none]) := by
  have e := v_cells_of c f hn
  have hz : ((LL (cells c)).map PyData.list).length ≤ sizeLine := by
    have := cz_le c
    rw [List.length_map, List.length_map, cells_len, sizeLine_eq]; omega
  have g := tr_go (some (.fz (L c))) (cells c)
  unfold val f_trace_of m_trace_of
  simp -implicitDefEqProofs only [Ev.nd1, Ev.nd2, Ev.lent_fz, Ev.lent_ow, Ev.lent_oo, Ev.lent_mx, Ev.lent_ln, Ev.lent_nil, Ev.back_nil, Ev.back_tm, Ev.back_sl, Ev.runM_at, Ev.start_at, Ev.seq_at, Ev.pass_at, Ev.brk_at, Ev.cnt_at, Ev.ret_at, Ev.retN_at, Ev.asg_at, Ev.if_at, Ev.drop_at, Ev.tgt_at, Ev.tup_at, Ev.for_at, Ev.P_at, Ev.F_at, Ev.var_at, Ev.c_at, Ev.op_at, Ev.opF_at, Ev.call_at, Ev.call1_at, Ev.un_at, Ev.isi_at, Ev.nil_at, Ev.cons_at, Ev.aNil_at, Ev.aCons_at, Ev.lst_at', Ev.tupE_at, Ev.mix_at, Ev.t_at, Ev.tru_at, Ev.and_at, Ev.or_at, Ev.not_at, Ev.andV_at, Ev.orV_at, Ev.notV_at, Ev.if2_at, Ev.ix_at', Ev.no_at, Ev.yes_at, Ev.sl_at, Ev.rep_at, Ev.fn_at, Ev.fnK_at, Ev.seqL_at, Ev.seqT_at, Ev.enum_at, Ev.zip_at, K30.rng1_D, K30.lr1_D, Ev.lc_at, Ev.lcE_at, Ev.yesT_at, Ev.meth_at, Ev.idx_at, Ev.subApp_at, Ev.sortSet_at, Ev.hName_at, Ev.hNil_at, Ev.hCons_at, Ev.hTup_at, Ev.hSub_at, Ev.turns_nil, Ev.force_fz, Ev.force_ow, Ev.force_oo, Ev.force_mx, Ev.force_sl, Ev.norm_fz, Ev.norm_ow, Ev.norm_sl, Ev.argO_sl, Ev.own_at, Ev.setOwn_at, Ev.flatF, Ev.flatO, Ev.flatL, Ev.data_tm, Ev.data_sl, Ev.toD_fz, Ev.toD_ow, Ev.toD_ln, Ev.toD_oo, Ev.toD_mx, Ev.flat_fz, Ev.flat_ow, Ev.flat_sl, Ev.retP_fz, Ev.retP_ow, Ev.retP_oo, Ev.retP_sl, Ev.putP_fz, Ev.putP_ow, Ev.putP_oo, Ev.putP_mx, Ev.putP_sl, Ev.noLn_at, Ev.argOs_nil, Ev.argOs_cons, Ev.argO_fz, Ev.argO_ow, Ev.slots_nil, Ev.slots_tm, Ev.slots_sl, Ev.bOf_b, Ev.ownP_fz, Ev.ownP_ow, Ev.ownP_sl, Ev.ownPs_nil, Ev.ownPs_cons, Ev.putAll_nil, Ev.putAll_cons, Ev.mixI_nil, Ev.mixI_fz, Ev.mixI_ow, Ev.mixI_oo, Ev.ixD_list, Ev.ixD_tup, Ev.atI_0, Ev.atI_1, Ev.ixN_0, Ev.ixN_1, Ev.gt_ii, Ev.ge_ii, Ev.lt_ii, Ev.le_ii, Ev.add_ii, Ev.add_ll, Ev.sub_ii, Ev.mul_ii, Ev.fdv_ii, Ev.mod_ii, Ev.neg_i, Ev.int_i, Ev.abs_i, Ev.max2_ii, Ev.dvm_ii, Ev.len_l, Ev.len_t, Ev.listO_l, Ev.tupO_l, Ev.ints_map, Ev.intsD_map, Ev.sorted_l, Ev.sl_list, List.map_cons, List.map_nil, List.length_cons, List.length_nil, List.replicate_succ, List.replicate_zero, List.append_nil, List.nil_append, List.cons_append, List.getElem?_cons_zero, List.getElem?_cons_succ, List.getElem?_nil, List.set_cons_zero, List.set_cons_succ, List.set_nil, Option.bind_some, Option.bind_none, Option.map_some, Option.map_none, Nat.reduceAdd, Nat.reduceSub, Nat.reduceEqDiff, Nat.reduceLeDiff, if_true, if_false, reduceCtorEq, List.nodup_nil, Bool.false_eq_true, Bool.not_true, Bool.not_false, Bool.true_and, Bool.false_and, Bool.and_true, Bool.and_false, ↓reduceIte, id_eq, List.tail_cons, Nat.zero_add, List.all_cons, List.all_nil, ne_eq, not_false_eq_true, and_self, and_true, true_and, e, hz, okv, wipe_nil, wipe_cons, g, rest_nil, rest_cons, Option.getD_some]
theorem v_discrete (c : List Int) (hn : c.length ≤ 40) : val f_is_discrete [.fz (L c)] = some (.fz (.bool (decide (cz c = c.length))), [none]) := by
  have e := Ev.lenSet_l (ns := c) (by omega)
  unfold val f_is_discrete m_is_discrete
  simp -implicitDefEqProofs only [Ev.nd1, Ev.nd2, Ev.lent_fz, Ev.lent_ow, Ev.lent_oo, Ev.lent_mx, Ev.lent_ln, Ev.lent_nil, Ev.back_nil, Ev.back_tm, Ev.back_sl, Ev.runM_at, Ev.start_at, Ev.seq_at, Ev.pass_at, Ev.brk_at, Ev.cnt_at, Ev.ret_at, Ev.retN_at, Ev.asg_at, Ev.if_at, Ev.drop_at, Ev.tgt_at, Ev.tup_at, Ev.for_at, Ev.P_at, Ev.F_at, Ev.var_at, Ev.c_at, Ev.op_at, Ev.opF_at, Ev.call_at, Ev.call1_at, Ev.un_at, Ev.isi_at, Ev.nil_at, Ev.cons_at, Ev.aNil_at, Ev.aCons_at, Ev.lst_at', Ev.tupE_at, Ev.mix_at, Ev.t_at, Ev.tru_at, Ev.and_at, Ev.or_at, Ev.not_at, Ev.andV_at, Ev.orV_at, Ev.notV_at, Ev.if2_at, Ev.ix_at', Ev.no_at, Ev.yes_at, Ev.sl_at, Ev.rep_at, Ev.fn_at, Ev.fnK_at, Ev.seqL_at, Ev.seqT_at, Ev.enum_at, Ev.zip_at, K30.rng1_D, K30.lr1_D, Ev.lc_at, Ev.lcE_at, Ev.yesT_at, Ev.meth_at, Ev.idx_at, Ev.subApp_at, Ev.sortSet_at, Ev.hName_at, Ev.hNil_at, Ev.hCons_at, Ev.hTup_at, Ev.hSub_at, Ev.turns_nil, Ev.force_fz, Ev.force_ow, Ev.force_oo, Ev.force_mx, Ev.force_sl, Ev.norm_fz, Ev.norm_ow, Ev.norm_sl, Ev.argO_sl, Ev.own_at, Ev.setOwn_at, Ev.flatF, Ev.flatO, Ev.flatL, Ev.data_tm, Ev.data_sl, Ev.toD_fz, Ev.toD_ow, Ev.toD_ln, Ev.toD_oo, Ev.toD_mx, Ev.flat_fz, Ev.flat_ow, Ev.flat_sl, Ev.retP_fz, Ev.retP_ow, Ev.retP_oo, Ev.retP_sl, Ev.putP_fz, Ev.putP_ow, Ev.putP_oo, Ev.putP_mx, Ev.putP_sl, Ev.noLn_at, Ev.argOs_nil, Ev.argOs_cons, Ev.argO_fz, Ev.argO_ow, Ev.slots_nil, Ev.slots_tm, Ev.slots_sl, Ev.bOf_b, Ev.ownP_fz, Ev.ownP_ow, Ev.ownP_sl, Ev.ownPs_nil, Ev.ownPs_cons, Ev.putAll_nil, Ev.putAll_cons, Ev.mixI_nil, Ev.mixI_fz, Ev.mixI_ow, Ev.mixI_oo, Ev.ixD_list, Ev.ixD_tup, Ev.atI_0, Ev.atI_1, Ev.ixN_0, Ev.ixN_1, Ev.gt_ii, Ev.ge_ii, Ev.lt_ii, Ev.le_ii, Ev.add_ii, Ev.add_ll, Ev.sub_ii, Ev.mul_ii, Ev.fdv_ii, Ev.mod_ii, Ev.neg_i, Ev.int_i, Ev.abs_i, Ev.max2_ii, Ev.dvm_ii, Ev.len_l, Ev.len_t, Ev.listO_l, Ev.tupO_l, Ev.ints_map, Ev.intsD_map, Ev.sorted_l, Ev.sl_list, List.map_cons, List.map_nil, List.length_cons, List.length_nil, List.replicate_succ, List.replicate_zero, List.append_nil, List.nil_append, List.cons_append, List.getElem?_cons_zero, List.getElem?_cons_succ, List.getElem?_nil, List.set_cons_zero, List.set_cons_succ, List.set_nil, Option.bind_some, Option.bind_none, Option.map_some, Option.map_none, Nat.reduceAdd, Nat.reduceSub, Nat.reduceEqDiff, Nat.reduceLeDiff, if_true, if_false, reduceCtorEq, List.nodup_nil, Bool.false_eq_true, Bool.not_true, Bool.not_false, Bool.true_and, Bool.false_and, Bool.and_true, Bool.and_false, ↓reduceIte, id_eq, List.tail_cons, Nat.zero_add, List.all_cons, List.all_nil, ne_eq, not_false_eq_true, and_self, and_true, true_and, e, eq_ii, List.length_map]
  have : decide (((dd c).length : Int) = (c.length : Int)) = decide (cz c = c.length) := by
    unfold cz
    congr 1
    exact propext Int.natCast_inj
  rw [this]
/-! ### the law's own cells -/
theorem ne_Lnil (a : List Int) : neX (.list (a.map .int)) (.list []) = some (.bool (!decide (a = []))) := by
  show neD (L a) (L []) = _
  unfold neD
  rw [if_pos ⟨shaped_L a, shaped_L []⟩]
  have := eqvAll_L a []
  rw [List.map_nil] at this
  simp only [PyData.eqv, List.map_nil, this]
theorem enF_len : ∀ (ys : List Int) (lo : Nat), (enF lo ys).length = ys.length
  | [], _ => rfl
  | y :: ys, lo => by rw [enF, List.length_cons, List.length_cons, enF_len ys]
theorem pl_go (A B C : Option O) (x : Int) : ∀ (ys : List Int) (lo : Nat), lcGo [4, 5] (hTup 2 (hCons (hName 4) (hCons (hName 5) hNil))) (eT (eOp eqX (eVar 5) (eVar 2))) (eF (eVar 4)) (enF lo ys) [A, B, some (.fz (.int x)), C, none, none] = some ((pl x lo ys).map .int, [A, B, some (.fz (.int x)), C, none, none])
  | [], _ => rfl
  | y :: ys, lo => by
    have ih := pl_go A B C x ys (lo + 1)
    rw [enF, lcGo, pl]
    by_cases h : y = x
    · rw [if_pos h]
      simp -implicitDefEqProofs only [Ev.nd1, Ev.nd2, Ev.lent_fz, Ev.lent_ow, Ev.lent_oo, Ev.lent_mx, Ev.lent_ln, Ev.lent_nil, Ev.back_nil, Ev.back_tm, Ev.back_sl, Ev.runM_at, Ev.start_at, Ev.seq_at, Ev.pass_at, Ev.brk_at, Ev.cnt_at, Ev.ret_at, Ev.retN_at, Ev.asg_at, Ev.if_at, Ev.drop_at, Ev.tgt_at, Ev.tup_at, Ev.for_at, Ev.P_at, Ev.F_at, Ev.var_at, Ev.c_at, Ev.op_at, Ev.opF_at, Ev.call_at, Ev.call1_at, Ev.un_at, Ev.isi_at, Ev.nil_at, Ev.cons_at, Ev.aNil_at, Ev.aCons_at, Ev.lst_at', Ev.tupE_at, Ev.mix_at, Ev.t_at, Ev.tru_at, Ev.and_at, Ev.or_at, Ev.not_at, Ev.andV_at, Ev.orV_at, Ev.notV_at, Ev.if2_at, Ev.ix_at', Ev.no_at, Ev.yes_at, Ev.sl_at, Ev.rep_at, Ev.fn_at, Ev.fnK_at, Ev.seqL_at, Ev.seqT_at, Ev.enum_at, Ev.zip_at, K30.rng1_D, K30.lr1_D, Ev.lc_at, Ev.lcE_at, Ev.yesT_at, Ev.meth_at, Ev.idx_at, Ev.subApp_at, Ev.sortSet_at, Ev.hName_at, Ev.hNil_at, Ev.hCons_at, Ev.hTup_at, Ev.hSub_at, Ev.turns_nil, Ev.force_fz, Ev.force_ow, Ev.force_oo, Ev.force_mx, Ev.force_sl, Ev.norm_fz, Ev.norm_ow, Ev.norm_sl, Ev.argO_sl, Ev.own_at, Ev.setOwn_at, Ev.flatF, Ev.flatO, Ev.flatL, Ev.data_tm, Ev.data_sl, Ev.toD_fz, Ev.toD_ow, Ev.toD_ln, Ev.toD_oo, Ev.toD_mx, Ev.flat_fz, Ev.flat_ow, Ev.flat_sl, Ev.retP_fz, Ev.retP_ow, Ev.retP_oo, Ev.retP_sl, Ev.putP_fz, Ev.putP_ow, Ev.putP_oo, Ev.putP_mx, Ev.putP_sl, Ev.noLn_at, Ev.argOs_nil, Ev.argOs_cons, Ev.argO_fz, Ev.argO_ow, Ev.slots_nil, Ev.slots_tm, Ev.slots_sl, Ev.bOf_b, Ev.ownP_fz, Ev.ownP_ow, Ev.ownP_sl, Ev.ownPs_nil, Ev.ownPs_cons, Ev.putAll_nil, Ev.putAll_cons, Ev.mixI_nil, Ev.mixI_fz, Ev.mixI_ow, Ev.mixI_oo, Ev.ixD_list, Ev.ixD_tup, Ev.atI_0, Ev.atI_1, Ev.ixN_0, Ev.ixN_1, Ev.gt_ii, Ev.ge_ii, Ev.lt_ii, Ev.le_ii, Ev.add_ii, Ev.add_ll, Ev.sub_ii, Ev.mul_ii, Ev.fdv_ii, Ev.mod_ii, Ev.neg_i, Ev.int_i, Ev.abs_i, Ev.max2_ii, Ev.dvm_ii, Ev.len_l, Ev.len_t, Ev.listO_l, Ev.tupO_l, Ev.ints_map, Ev.intsD_map, Ev.sorted_l, Ev.sl_list, List.map_cons, List.map_nil, List.length_cons, List.length_nil, List.replicate_succ, List.replicate_zero, List.append_nil, List.nil_append, List.cons_append, List.getElem?_cons_zero, List.getElem?_cons_succ, List.getElem?_nil, List.set_cons_zero, List.set_cons_succ, List.set_nil, Option.bind_some, Option.bind_none, Option.map_some, Option.map_none, Nat.reduceAdd, Nat.reduceSub, Nat.reduceEqDiff, Nat.reduceLeDiff, if_true, if_false, reduceCtorEq, List.nodup_nil, Bool.false_eq_true, Bool.not_true, Bool.not_false, Bool.true_and, Bool.false_and, Bool.and_true, Bool.and_false, ↓reduceIte, id_eq, List.tail_cons, Nat.zero_add, List.all_cons, List.all_nil, ne_eq, not_false_eq_true, and_self, and_true, true_and, eq_ii, (decide_eq_true h), wipe_nil, wipe_cons, ih]
    · rw [if_neg h]
      simp -implicitDefEqProofs only [Ev.nd1, Ev.nd2, Ev.lent_fz, Ev.lent_ow, Ev.lent_oo, Ev.lent_mx, Ev.lent_ln, Ev.lent_nil, Ev.back_nil, Ev.back_tm, Ev.back_sl, Ev.runM_at, Ev.start_at, Ev.seq_at, Ev.pass_at, Ev.brk_at, Ev.cnt_at, Ev.ret_at, Ev.retN_at, Ev.asg_at, Ev.if_at, Ev.drop_at, Ev.tgt_at, Ev.tup_at, Ev.for_at, Ev.P_at, Ev.F_at, Ev.var_at, Ev.c_at, Ev.op_at, Ev.opF_at, Ev.call_at, Ev.call1_at, Ev.un_at, Ev.isi_at, Ev.nil_at, Ev.cons_at, Ev.aNil_at, Ev.aCons_at, Ev.lst_at', Ev.tupE_at, Ev.mix_at, Ev.t_at, Ev.tru_at, Ev.and_at, Ev.or_at, Ev.not_at, Ev.andV_at, Ev.orV_at, Ev.notV_at, Ev.if2_at, Ev.ix_at', Ev.no_at, Ev.yes_at, Ev.sl_at, Ev.rep_at, Ev.fn_at, Ev.fnK_at, Ev.seqL_at, Ev.seqT_at, Ev.enum_at, Ev.zip_at, K30.rng1_D, K30.lr1_D, Ev.lc_at, Ev.lcE_at, Ev.yesT_at, Ev.meth_at, Ev.idx_at, Ev.subApp_at, Ev.sortSet_at, Ev.hName_at, Ev.hNil_at, Ev.hCons_at, Ev.hTup_at, Ev.hSub_at, Ev.turns_nil, Ev.force_fz, Ev.force_ow, Ev.force_oo, Ev.force_mx, Ev.force_sl, Ev.norm_fz, Ev.norm_ow, Ev.norm_sl, Ev.argO_sl, Ev.own_at, Ev.setOwn_at, Ev.flatF, Ev.flatO, Ev.flatL, Ev.data_tm, Ev.data_sl, Ev.toD_fz, Ev.toD_ow, Ev.toD_ln, Ev.toD_oo, Ev.toD_mx, Ev.flat_fz, Ev.flat_ow, Ev.flat_sl, Ev.retP_fz, Ev.retP_ow, Ev.retP_oo, Ev.retP_sl, Ev.putP_fz, Ev.putP_ow, Ev.putP_oo, Ev.putP_mx, Ev.putP_sl, Ev.noLn_at, Ev.argOs_nil, Ev.argOs_cons, Ev.argO_fz, Ev.argO_ow, Ev.slots_nil, Ev.slots_tm, Ev.slots_sl, Ev.bOf_b, Ev.ownP_fz, Ev.ownP_ow, Ev.ownP_sl, Ev.ownPs_nil, Ev.ownPs_cons, Ev.putAll_nil, Ev.putAll_cons, Ev.mixI_nil, Ev.mixI_fz, Ev.mixI_ow, Ev.mixI_oo, Ev.ixD_list, Ev.ixD_tup, Ev.atI_0, Ev.atI_1, Ev.ixN_0, Ev.ixN_1, Ev.gt_ii, Ev.ge_ii, Ev.lt_ii, Ev.le_ii, Ev.add_ii, Ev.add_ll, Ev.sub_ii, Ev.mul_ii, Ev.fdv_ii, Ev.mod_ii, Ev.neg_i, Ev.int_i, Ev.abs_i, Ev.max2_ii, Ev.dvm_ii, Ev.len_l, Ev.len_t, Ev.listO_l, Ev.tupO_l, Ev.ints_map, Ev.intsD_map, Ev.sorted_l, Ev.sl_list, List.map_cons, List.map_nil, List.length_cons, List.length_nil, List.replicate_succ, List.replicate_zero, List.append_nil, List.nil_append, List.cons_append, List.getElem?_cons_zero, List.getElem?_cons_succ, List.getElem?_nil, List.set_cons_zero, List.set_cons_succ, List.set_nil, Option.bind_some, Option.bind_none, Option.map_some, Option.map_none, Nat.reduceAdd, Nat.reduceSub, Nat.reduceEqDiff, Nat.reduceLeDiff, if_true, if_false, reduceCtorEq, List.nodup_nil, Bool.false_eq_true, Bool.not_true, Bool.not_false, Bool.true_and, Bool.false_and, Bool.and_true, Bool.and_false, ↓reduceIte, id_eq, List.tail_cons, Nat.zero_add, List.all_cons, List.all_nil, ne_eq, not_false_eq_true, and_self, and_true, true_and, eq_ii, (decide_eq_false h), wipe_nil, wipe_cons, ih]
def fl (c : List Int) : Nat → Nat → List D
  | _, 0 => []
  | lo, k + 1 => if pl (lo : Int) 0 c = [] then fl c (lo + 1) k else L (pl (lo : Int) 0 c) :: fl c (lo + 1) k
def Nl (v : Option O) : Prop := v = none ∨ (∃ d, v = some (.fz d)) ∨ ∃ ds, v = some (.ow ds)
theorem lc_turns (c : List Int) (hn : c.length ≤ 40) : ∀ (k lo : Nat) (acc : List D) (u v : Option O), isFz u = true → Nl v → acc.length + k ≤ 100 → ∃ u' v', isFz u' = true ∧ Nl v' ∧
    turns (hName 2) (mSeq (mAsg 3 (eLc [4, 5] (eEnum (eCons (eF (eVar 0)) eNil)) (hTup 2 (hCons (hName 4) (hCons (hName 5) hNil))) (eT (eOp eqX (eVar 5) (eVar 2))) (eF (eVar 4)))) (mSeq (mIf (eT (eOp neX (eVar 3) (eLst eNil))) (mSeq (mDrop (eP (eMeth 1 mApp (eCons (eF (eVar 3)) eNil)))) mPass) mPass) mPass)) (rangeD (lo : Nat) k) [some (.fz (L c)), some (.ow acc), u, v, none, none] = some (.nx [some (.fz (L c)), some (.ow (acc ++ fl c lo k)), u', v', none, none])
  | 0, lo, acc, u, v, hu, hv, _ => ⟨u, v, hu, hv, by rw [fl, List.append_nil]; rfl⟩
  | k + 1, lo, acc, u, v, hu, hv, hl => by
    have n2 : noLn [some (.fz (L c)), some (.ow acc), u, v, none, none] 2 = true := noLn_fz (j := 2) rfl hu
    have hz : (enF 0 c).length ≤ sizeLine := by rw [enF_len, sizeLine_eq]; omega
    have ha : acc.length < sizeLine := by rw [sizeLine_eq]; omega
    by_cases h : pl (lo : Int) 0 c = []
    · obtain ⟨u', v', hu', hv', ih⟩ := lc_turns c hn k (lo + 1) acc (some (.fz (.int (lo : Nat)))) (some (.ow [])) rfl (.inr (.inr ⟨_, rfl⟩)) (by omega)
      rw [Int.natCast_add, Int.natCast_one] at ih
      refine ⟨u', v', hu', hv', ?_⟩
      have g := pl_go (some (.fz (L c))) (some (.ow acc)) v (lo : Int) c 0
      rw [h, List.map_nil] at g
      rw [rangeD_succ, turns, Ev.hName_at, if_pos n2, fl, if_pos h, ← ih]
      have ne := ne_Lnil []
      rw [List.map_nil] at ne
      rcases hv with rfl | ⟨d, rfl⟩ | ⟨ds, rfl⟩ <;> simp -implicitDefEqProofs only [Ev.nd1, Ev.nd2, Ev.lent_fz, Ev.lent_ow, Ev.lent_oo, Ev.lent_mx, Ev.lent_ln, Ev.lent_nil, Ev.back_nil, Ev.back_tm, Ev.back_sl, Ev.runM_at, Ev.start_at, Ev.seq_at, Ev.pass_at, Ev.brk_at, Ev.cnt_at, Ev.ret_at, Ev.retN_at, Ev.asg_at, Ev.if_at, Ev.drop_at, Ev.tgt_at, Ev.tup_at, Ev.for_at, Ev.P_at, Ev.F_at, Ev.var_at, Ev.c_at, Ev.op_at, Ev.opF_at, Ev.call_at, Ev.call1_at, Ev.un_at, Ev.isi_at, Ev.nil_at, Ev.cons_at, Ev.aNil_at, Ev.aCons_at, Ev.lst_at', Ev.tupE_at, Ev.mix_at, Ev.t_at, Ev.tru_at, Ev.and_at, Ev.or_at, Ev.not_at, Ev.andV_at, Ev.orV_at, Ev.notV_at, Ev.if2_at, Ev.ix_at', Ev.no_at, Ev.yes_at, Ev.sl_at, Ev.rep_at, Ev.fn_at, Ev.fnK_at, Ev.seqL_at, Ev.seqT_at, Ev.enum_at, Ev.zip_at, K30.rng1_D, K30.lr1_D, Ev.lc_at, Ev.lcE_at, Ev.yesT_at, Ev.meth_at, Ev.idx_at, Ev.subApp_at, Ev.sortSet_at, Ev.hName_at, Ev.hNil_at, Ev.hCons_at, Ev.hTup_at, Ev.hSub_at, Ev.turns_nil, Ev.force_fz, Ev.force_ow, Ev.force_oo, Ev.force_mx, Ev.force_sl, Ev.norm_fz, Ev.norm_ow, Ev.norm_sl, Ev.argO_sl, Ev.own_at, Ev.setOwn_at, Ev.flatF, Ev.flatO, Ev.flatL, Ev.data_tm, Ev.data_sl, Ev.toD_fz, Ev.toD_ow, Ev.toD_ln, Ev.toD_oo, Ev.toD_mx, Ev.flat_fz, Ev.flat_ow, Ev.flat_sl, Ev.retP_fz, Ev.retP_ow, Ev.retP_oo, Ev.retP_sl, Ev.putP_fz, Ev.putP_ow, Ev.putP_oo, Ev.putP_mx, Ev.putP_sl, Ev.noLn_at, Ev.argOs_nil, Ev.argOs_cons, Ev.argO_fz, Ev.argO_ow, Ev.slots_nil, Ev.slots_tm, Ev.slots_sl, Ev.bOf_b, Ev.ownP_fz, Ev.ownP_ow, Ev.ownP_sl, Ev.ownPs_nil, Ev.ownPs_cons, Ev.putAll_nil, Ev.putAll_cons, Ev.mixI_nil, Ev.mixI_fz, Ev.mixI_ow, Ev.mixI_oo, Ev.ixD_list, Ev.ixD_tup, Ev.atI_0, Ev.atI_1, Ev.ixN_0, Ev.ixN_1, Ev.gt_ii, Ev.ge_ii, Ev.lt_ii, Ev.le_ii, Ev.add_ii, Ev.add_ll, Ev.sub_ii, Ev.mul_ii, Ev.fdv_ii, Ev.mod_ii, Ev.neg_i, Ev.int_i, Ev.abs_i, Ev.max2_ii, Ev.dvm_ii, Ev.len_l, Ev.len_t, Ev.listO_l, Ev.tupO_l, Ev.ints_map, Ev.intsD_map, Ev.sorted_l, Ev.sl_list, List.map_cons, List.map_nil, List.length_cons, List.length_nil, List.replicate_succ, List.replicate_zero, List.append_nil, List.nil_append, List.cons_append, List.getElem?_cons_zero, List.getElem?_cons_succ, List.getElem?_nil, List.set_cons_zero, List.set_cons_succ, List.set_nil, Option.bind_some, Option.bind_none, Option.map_some, Option.map_none, Nat.reduceAdd, Nat.reduceSub, Nat.reduceEqDiff, Nat.reduceLeDiff, if_true, if_false, reduceCtorEq, List.nodup_nil, Bool.false_eq_true, Bool.not_true, Bool.not_false, Bool.true_and, Bool.false_and, Bool.and_true, Bool.and_false, ↓reduceIte, id_eq, List.tail_cons, Nat.zero_add, List.all_cons, List.all_nil, ne_eq, not_false_eq_true, and_self, and_true, true_and, enum_L, hz, okv, wipe_nil, wipe_cons, rest_nil, rest_cons, Option.getD_some, g, ne, decide_true, Nat.zero_le]
    · obtain ⟨u', v', hu', hv', ih⟩ := lc_turns c hn k (lo + 1) (acc ++ [L (pl (lo : Int) 0 c)]) (some (.fz (.int (lo : Nat)))) (some (.fz (L (pl (lo : Int) 0 c)))) rfl (.inr (.inl ⟨_, rfl⟩)) (by simp only [List.length_append, List.length_cons, List.length_nil]; omega)
      rw [Int.natCast_add, Int.natCast_one, List.append_assoc, List.singleton_append] at ih
      refine ⟨u', v', hu', hv', ?_⟩
      have g := pl_go (some (.fz (L c))) (some (.ow acc)) v (lo : Int) c 0
      rw [rangeD_succ, turns, Ev.hName_at, if_pos n2, fl, if_neg h, ← ih]
      have ne := ne_Lnil (pl (lo : Int) 0 c)
      rcases hv with rfl | ⟨d, rfl⟩ | ⟨ds, rfl⟩ <;> simp -implicitDefEqProofs only [Ev.nd1, Ev.nd2, Ev.lent_fz, Ev.lent_ow, Ev.lent_oo, Ev.lent_mx, Ev.lent_ln, Ev.lent_nil, Ev.back_nil, Ev.back_tm, Ev.back_sl, Ev.runM_at, Ev.start_at, Ev.seq_at, Ev.pass_at, Ev.brk_at, Ev.cnt_at, Ev.ret_at, Ev.retN_at, Ev.asg_at, Ev.if_at, Ev.drop_at, Ev.tgt_at, Ev.tup_at, Ev.for_at, Ev.P_at, Ev.F_at, Ev.var_at, Ev.c_at, Ev.op_at, Ev.opF_at, Ev.call_at, Ev.call1_at, Ev.un_at, Ev.isi_at, Ev.nil_at, Ev.cons_at, Ev.aNil_at, Ev.aCons_at, Ev.lst_at', Ev.tupE_at, Ev.mix_at, Ev.t_at, Ev.tru_at, Ev.and_at, Ev.or_at, Ev.not_at, Ev.andV_at, Ev.orV_at, Ev.notV_at, Ev.if2_at, Ev.ix_at', Ev.no_at, Ev.yes_at, Ev.sl_at, Ev.rep_at, Ev.fn_at, Ev.fnK_at, Ev.seqL_at, Ev.seqT_at, Ev.enum_at, Ev.zip_at, K30.rng1_D, K30.lr1_D, Ev.lc_at, Ev.lcE_at, Ev.yesT_at, Ev.meth_at, Ev.idx_at, Ev.subApp_at, Ev.sortSet_at, Ev.hName_at, Ev.hNil_at, Ev.hCons_at, Ev.hTup_at, Ev.hSub_at, Ev.turns_nil, Ev.force_fz, Ev.force_ow, Ev.force_oo, Ev.force_mx, Ev.force_sl, Ev.norm_fz, Ev.norm_ow, Ev.norm_sl, Ev.argO_sl, Ev.own_at, Ev.setOwn_at, Ev.flatF, Ev.flatO, Ev.flatL, Ev.data_tm, Ev.data_sl, Ev.toD_fz, Ev.toD_ow, Ev.toD_ln, Ev.toD_oo, Ev.toD_mx, Ev.flat_fz, Ev.flat_ow, Ev.flat_sl, Ev.retP_fz, Ev.retP_ow, Ev.retP_oo, Ev.retP_sl, Ev.putP_fz, Ev.putP_ow, Ev.putP_oo, Ev.putP_mx, Ev.putP_sl, Ev.noLn_at, Ev.argOs_nil, Ev.argOs_cons, Ev.argO_fz, Ev.argO_ow, Ev.slots_nil, Ev.slots_tm, Ev.slots_sl, Ev.bOf_b, Ev.ownP_fz, Ev.ownP_ow, Ev.ownP_sl, Ev.ownPs_nil, Ev.ownPs_cons, Ev.putAll_nil, Ev.putAll_cons, Ev.mixI_nil, Ev.mixI_fz, Ev.mixI_ow, Ev.mixI_oo, Ev.ixD_list, Ev.ixD_tup, Ev.atI_0, Ev.atI_1, Ev.ixN_0, Ev.ixN_1, Ev.gt_ii, Ev.ge_ii, Ev.lt_ii, Ev.le_ii, Ev.add_ii, Ev.add_ll, Ev.sub_ii, Ev.mul_ii, Ev.fdv_ii, Ev.mod_ii, Ev.neg_i, Ev.int_i, Ev.abs_i, Ev.max2_ii, Ev.dvm_ii, Ev.len_l, Ev.len_t, Ev.listO_l, Ev.tupO_l, Ev.ints_map, Ev.intsD_map, Ev.sorted_l, Ev.sl_list, List.map_cons, List.map_nil, List.length_cons, List.length_nil, List.replicate_succ, List.replicate_zero, List.append_nil, List.nil_append, List.cons_append, List.getElem?_cons_zero, List.getElem?_cons_succ, List.getElem?_nil, List.set_cons_zero, List.set_cons_succ, List.set_nil, Option.bind_some, Option.bind_none, Option.map_some, Option.map_none, Nat.reduceAdd, Nat.reduceSub, Nat.reduceEqDiff, Nat.reduceLeDiff, if_true, if_false, reduceCtorEq, List.nodup_nil, Bool.false_eq_true, Bool.not_true, Bool.not_false, Bool.true_and, Bool.false_and, Bool.and_true, Bool.and_false, ↓reduceIte, id_eq, List.tail_cons, Nat.zero_add, List.all_cons, List.all_nil, ne_eq, not_false_eq_true, and_self, and_true, true_and, enum_L, hz, okv, wipe_nil, wipe_cons, rest_nil, rest_cons, Option.getD_some, g, ne, (decide_eq_false h), Nat.zero_le, mApp, ha]
theorem fl_end (c : List Int) (z : Nat) (hz : ∀ j : Nat, pl (j : Int) 0 c = [] ↔ z ≤ j) : ∀ (k lo : Nat), z ≤ lo → fl c lo k = []
  | 0, _, _ => rfl
  | k + 1, lo, h => by rw [fl, if_pos ((hz lo).mpr h), fl_end c z hz k (lo + 1) (by omega)]
theorem fl_eq (c : List Int) (z : Nat) (hz : ∀ j : Nat, pl (j : Int) 0 c = [] ↔ z ≤ j) : ∀ (k lo : Nat), lo ≤ z → z ≤ lo + k → fl c lo k = (List.range' lo (z - lo)).map fun (j : Nat) => L (pl (j : Int) 0 c)
  | 0, lo, h1, h2 => by
    have : z - lo = 0 := by omega
    rw [this]; rfl
  | k + 1, lo, h1, h2 => by
    by_cases q : z ≤ lo
    · have : z - lo = 0 := by omega
      rw [fl_end c z hz (k + 1) lo q, this]; rfl
    · have : z - lo = (z - (lo + 1)) + 1 := by omega
      rw [fl, if_neg (fun e => q ((hz lo).mp e)), fl_eq c z hz k (lo + 1) (by omega) (by omega), this, List.range'_succ, List.map_cons]
theorem v_law_cells (c : List Int) (f : Full c) (hn : c.length ≤ 40) : val f__law_cells [.fz (L c)] = some (.ow ((LL (cells c)).map .list), [none]) := by
  obtain ⟨u', v', hu', hv', e⟩ := lc_turns c hn c.length 0 [] none none rfl (.inl rfl) (by simp only [List.length_nil]; omega)
  have hz : ∀ j : Nat, pl (j : Int) 0 c = [] ↔ cz c ≤ j := fun j => by
    rw [pl_nil, full_mem f]
    omega
  have : fl c 0 c.length = (LL (cells c)).map .list := by
    rw [fl_eq c (cz c) hz c.length 0 (Nat.zero_le _) (by have := cz_le c; omega), Nat.sub_zero, ← List.range_eq_range', LL, cells, List.map_map, List.map_map]
    rfl
  rw [this, Int.natCast_zero, List.nil_append] at e
  have hr : rngD [.int ((c.map PyData.int).length : Nat)] = some (rangeD 0 c.length) := by
    rw [List.length_map, rngD_of (rgOk_of (by omega) (by omega)), Int.toNat_natCast]
  unfold val f__law_cells m__law_cells
  simp -implicitDefEqProofs only [Ev.nd1, Ev.nd2, Ev.lent_fz, Ev.lent_ow, Ev.lent_oo, Ev.lent_mx, Ev.lent_ln, Ev.lent_nil, Ev.back_nil, Ev.back_tm, Ev.back_sl, Ev.runM_at, Ev.start_at, Ev.seq_at, Ev.pass_at, Ev.brk_at, Ev.cnt_at, Ev.ret_at, Ev.retN_at, Ev.asg_at, Ev.if_at, Ev.drop_at, Ev.tgt_at, Ev.tup_at, Ev.for_at, Ev.P_at, Ev.F_at, Ev.var_at, Ev.c_at, Ev.op_at, Ev.opF_at, Ev.call_at, Ev.call1_at, Ev.un_at, Ev.isi_at, Ev.nil_at, Ev.cons_at, Ev.aNil_at, Ev.aCons_at, Ev.lst_at', Ev.tupE_at, Ev.mix_at, Ev.t_at, Ev.tru_at, Ev.and_at, Ev.or_at, Ev.not_at, Ev.andV_at, Ev.orV_at, Ev.notV_at, Ev.if2_at, Ev.ix_at', Ev.no_at, Ev.yes_at, Ev.sl_at, Ev.rep_at, Ev.fn_at, Ev.fnK_at, Ev.seqL_at, Ev.seqT_at, Ev.enum_at, Ev.zip_at, K30.rng1_D, K30.lr1_D, Ev.lc_at, Ev.lcE_at, Ev.yesT_at, Ev.meth_at, Ev.idx_at, Ev.subApp_at, Ev.sortSet_at, Ev.hName_at, Ev.hNil_at, Ev.hCons_at, Ev.hTup_at, Ev.hSub_at, Ev.turns_nil, Ev.force_fz, Ev.force_ow, Ev.force_oo, Ev.force_mx, Ev.force_sl, Ev.norm_fz, Ev.norm_ow, Ev.norm_sl, Ev.argO_sl, Ev.own_at, Ev.setOwn_at, Ev.flatF, Ev.flatO, Ev.flatL, Ev.data_tm, Ev.data_sl, Ev.toD_fz, Ev.toD_ow, Ev.toD_ln, Ev.toD_oo, Ev.toD_mx, Ev.flat_fz, Ev.flat_ow, Ev.flat_sl, Ev.retP_fz, Ev.retP_ow, Ev.retP_oo, Ev.retP_sl, Ev.putP_fz, Ev.putP_ow, Ev.putP_oo, Ev.putP_mx, Ev.putP_sl, Ev.noLn_at, Ev.argOs_nil, Ev.argOs_cons, Ev.argO_fz, Ev.argO_ow, Ev.slots_nil, Ev.slots_tm, Ev.slots_sl, Ev.bOf_b, Ev.ownP_fz, Ev.ownP_ow, Ev.ownP_sl, Ev.ownPs_nil, Ev.ownPs_cons, Ev.putAll_nil, Ev.putAll_cons, Ev.mixI_nil, Ev.mixI_fz, Ev.mixI_ow, Ev.mixI_oo, Ev.ixD_list, Ev.ixD_tup, Ev.atI_0, Ev.atI_1, Ev.ixN_0, Ev.ixN_1, Ev.gt_ii, Ev.ge_ii, Ev.lt_ii, Ev.le_ii, Ev.add_ii, Ev.add_ll, Ev.sub_ii, Ev.mul_ii, Ev.fdv_ii, Ev.mod_ii, Ev.neg_i, Ev.int_i, Ev.abs_i, Ev.max2_ii, Ev.dvm_ii, Ev.len_l, Ev.len_t, Ev.listO_l, Ev.tupO_l, Ev.ints_map, Ev.intsD_map, Ev.sorted_l, Ev.sl_list, List.map_cons, List.map_nil, List.length_cons, List.length_nil, List.replicate_succ, List.replicate_zero, List.append_nil, List.nil_append, List.cons_append, List.getElem?_cons_zero, List.getElem?_cons_succ, List.getElem?_nil, List.set_cons_zero, List.set_cons_succ, List.set_nil, Option.bind_some, Option.bind_none, Option.map_some, Option.map_none, Nat.reduceAdd, Nat.reduceSub, Nat.reduceEqDiff, Nat.reduceLeDiff, if_true, if_false, reduceCtorEq, List.nodup_nil, Bool.false_eq_true, Bool.not_true, Bool.not_false, Bool.true_and, Bool.false_and, Bool.and_true, Bool.and_false, ↓reduceIte, id_eq, List.tail_cons, Nat.zero_add, List.all_cons, List.all_nil, ne_eq, not_false_eq_true, and_self, and_true, true_and, hr, e, Nat.zero_le]
end K30
end
section
set_option Elab.async false
set_option linter.all false
set_option maxRecDepth 100000
set_option maxHeartbeats 8000000
namespace K30
open PySem PySem.Spec PyProof.Rows L2 Vi Vf Vo Vp Vs Vt Vu Vv Vg Vw Vx Vy Va Vb Vc Ev
/-- a numbering of n parts -/
def Num (n : Nat) (p : List Int) : Prop := p.Perm (upto n)
theorem Num.len {n : Nat} {p : List Int} (h : Num n p) : p.length = n := by rw [h.length_eq, upto_len]
theorem Num.mem {n : Nat} {p : List Int} (h : Num n p) {x : Int} : x ∈ p ↔ 0 ≤ x ∧ x < n := by rw [h.mem_iff, upto_mem]
theorem Num.nd {n : Nat} {p : List Int} (h : Num n p) : p.Nodup := h.nodup_iff.mpr (upto_nodup n)
theorem num_upto (n : Nat) : Num n (upto n) := .refl _
/-- one number after another is put in -/
def puts : List (Nat × Int) → List Int → List Int
  | [], h => h
  | (k, v) :: r, h => puts r (h.set k v)
theorem puts_len : ∀ (ps : List (Nat × Int)) (h : List Int), (puts ps h).length = h.length
  | [], _ => rfl
  | (k, v) :: r, h => by rw [puts, puts_len r, List.length_set]
theorem puts_not : ∀ (ps : List (Nat × Int)) (h : List Int) (k : Nat), k ∉ ps.map Prod.fst → (puts ps h).getD k 0 = h.getD k 0
  | [], _, _, _ => rfl
  | (k1, v1) :: r, h, k, hk => by
    rw [List.map_cons, List.mem_cons, not_or] at hk
    rw [puts, puts_not r _ k hk.2]
    simp [show k1 ≠ k from fun e => hk.1 e.symm]
theorem puts_get : ∀ (ps : List (Nat × Int)) (h : List Int) (k : Nat) (v : Int), (ps.map Prod.fst).Nodup → (k, v) ∈ ps → k < h.length → (puts ps h).getD k 0 = v
  | [], _, _, _, _, hm, _ => by cases hm
  | (k1, v1) :: r, h, k, v, nd, hm, hl => by
    rw [List.map_cons] at nd
    obtain ⟨n1, n2⟩ := List.nodup_cons.mp nd
    rw [puts]
    rcases List.mem_cons.mp hm with e | hm'
    · have e1 : k = k1 := congrArg Prod.fst e
      have e2 : v = v1 := congrArg Prod.snd e
      subst e1 e2
      rw [puts_not r _ k n1]
      simp [hl]
    · exact puts_get r _ k v n2 hm' (by rw [List.length_set]; exact hl)
def bk : Nat → List Int → List (Nat × Int)
  | _, [] => []
  | lo, p :: ps => (p.toNat, (lo : Int)) :: bk (lo + 1) ps
theorem bk_keys : ∀ (ps : List Int) (lo : Nat), (bk lo ps).map Prod.fst = ps.map Int.toNat
  | [], _ => rfl
  | p :: ps, lo => by rw [bk, List.map_cons, List.map_cons, bk_keys ps]
theorem bk_mem : ∀ (ps : List Int) (lo i : Nat), i < ps.length → ((ps.getD i 0).toNat, ((lo + i : Nat) : Int)) ∈ bk lo ps
  | [], _, i, h => by simp at h
  | p :: ps, lo, 0, _ => by rw [bk]; exact List.mem_cons_self
  | p :: ps, lo, i + 1, h => by
    have := bk_mem ps (lo + 1) i (by simpa using h)
    rw [bk, show lo + (i + 1) = lo + 1 + i by omega]
    exact List.mem_cons_of_mem _ this
def lp (lead : List Int) : Nat → List Int → List (Nat × Int)
  | _, [] => []
  | lo, x :: xs => ((lead.getD lo 0).toNat, x) :: lp lead (lo + 1) xs
theorem lp_keys (lead : List Int) : ∀ (xs : List Int) (lo : Nat), (lp lead lo xs).map Prod.fst = (List.range' lo xs.length).map fun i => (lead.getD i 0).toNat
  | [], _ => rfl
  | x :: xs, lo => by rw [lp, List.map_cons, lp_keys lead xs, List.length_cons, List.range'_succ, List.map_cons]
theorem lp_mem (lead : List Int) : ∀ (xs : List Int) (lo i : Nat), i < xs.length → ((lead.getD (lo + i) 0).toNat, xs.getD i 0) ∈ lp lead lo xs
  | [], _, i, h => by simp at h
  | x :: xs, lo, 0, _ => by rw [lp]; exact List.mem_cons_self
  | x :: xs, lo, i + 1, h => by
    have := lp_mem lead xs (lo + 1) i (by simpa using h)
    rw [lp, show lo + (i + 1) = lo + 1 + i by omega]
    exact List.mem_cons_of_mem _ this
theorem num_keys {n : Nat} {p : List Int} (h : Num n p) : (p.map Int.toNat).Nodup := by
  refine List.pairwise_map.mpr (h.nd.imp_of_mem fun {a b} ha hb hne e => hne ?_)
  have := h.mem.mp ha
  have := h.mem.mp hb
  omega
theorem lead_keys {p : List Int} {n : Nat} (hn : p.length = n) : ((List.range' 0 n).map fun i => (p.getD i 0).toNat) = p.map Int.toNat := by
  refine List.ext_getElem (by simp [hn]) fun i h1 h2 => ?_
  simp at h1 h2
  simp [h2]
def backL (n : Nat) (p : List Int) : List Int := puts (bk 0 p) (List.replicate n 0)
def ledL (n : Nat) (p c : List Int) : List Int := puts (lp p 0 c) (List.replicate n 0)
def led (n : Nat) (c p : List Int) : List Int := (backL n p).map fun j => c.getD j.toNat 0
theorem backL_len (n : Nat) (p : List Int) : (backL n p).length = n := by rw [backL, puts_len, List.length_replicate]
theorem backL_at {n : Nat} {p : List Int} (h : Num n p) {i : Nat} (hi : i < n) : (backL n p).getD (p.getD i 0).toNat 0 = (i : Int) := by
  have hp : p.getD i 0 ∈ p := by simp [h.len, hi]
  have hr := h.mem.mp hp
  have := puts_get (bk 0 p) (List.replicate n 0) (p.getD i 0).toNat ((0 + i : Nat) : Int) (by rw [bk_keys]; exact num_keys h) (bk_mem p 0 i (by rw [h.len]; exact hi)) (by rw [List.length_replicate]; omega)
  rw [Nat.zero_add] at this
  exact this
theorem num_at {n : Nat} {p : List Int} (h : Num n p) {q : Nat} (hq : q < n) : ∃ i, i < n ∧ (p.getD i 0).toNat = q := by
  have : (q : Int) ∈ p := h.mem.mpr (by omega)
  obtain ⟨i, hi, e⟩ := List.getElem_of_mem this
  exact ⟨i, by rw [← h.len]; exact hi, by simp [hi, e]⟩
theorem getD_of {l : List Int} {i : Nat} (h : i < l.length) : l[i] = l.getD i 0 := by simp [h]
theorem backL_rg {n : Nat} {p : List Int} (h : Num n p) : ∀ x ∈ backL n p, 0 ≤ x ∧ x < n := by
  intro x hx
  obtain ⟨q, hq, rfl⟩ := List.getElem_of_mem hx
  rw [backL_len] at hq
  obtain ⟨i, hi, e⟩ := num_at h hq
  rw [getD_of (by rw [backL_len]; exact hq), ← e, backL_at h hi]
  omega
theorem led_len (n : Nat) (c p : List Int) : (led n c p).length = n := by rw [led, List.length_map, backL_len]
theorem ledL_eq {n : Nat} {c p : List Int} (h : Num n p) (hc : c.length = n) : ledL n p c = led n c p := by
  refine List.ext_getElem (by rw [ledL, puts_len, List.length_replicate, led_len]) fun q h1 h2 => ?_
  rw [led_len] at h2
  obtain ⟨i, hi, e⟩ := num_at h h2
  have hk : ((lp p 0 c).map Prod.fst).Nodup := by rw [lp_keys, hc, lead_keys h.len]; exact num_keys h
  have a1 := puts_get (lp p 0 c) (List.replicate n 0) (p.getD (0 + i) 0).toNat (c.getD i 0) hk (lp_mem p c 0 i (by omega)) (by rw [List.length_replicate, Nat.zero_add, e]; exact h2)
  rw [Nat.zero_add, e] at a1
  have a2 := backL_at h hi
  rw [e] at a2
  rw [getD_of h1, ledL, a1]
  have g : (led n c p)[q]'(by rw [led_len]; exact h2) = c.getD ((backL n p).getD q 0).toNat 0 := by
    simp [led, backL_len, h2]
  rw [g, a2, Int.toNat_natCast]
theorem led_upto {n : Nat} {c : List Int} (hc : c.length = n) : led n c (upto n) = c := by
  refine List.ext_getElem (by rw [led_len, hc]) fun q h1 h2 => ?_
  rw [led_len] at h1
  have e : ((upto n).getD q 0).toNat = q := by simp [upto, h1]
  have a2 := backL_at (num_upto n) h1
  rw [e] at a2
  have g : (led n c (upto n))[q]'(by rw [led_len]; exact h1) = c.getD ((backL n (upto n)).getD q 0).toNat 0 := by
    simp [led, backL_len, h1]
  rw [g, a2, Int.toNat_natCast, getD_of h2]
theorem rep_zer (n : Nat) : (List.replicate n [PyData.int 0]).flatten = (List.replicate n (0 : Int)).map .int := by
  induction n with
  | zero => rfl
  | succ n ih => rw [List.replicate_succ, List.flatten_cons, ih, List.replicate_succ]; rfl
theorem set_L (h : List Int) (k : Nat) (v : Int) : (h.map PyData.int).set k (.int v) = (h.set k v).map .int := by rw [List.map_set]
theorem bk_turns (A : D) : ∀ (ps : List Int) (lo : Nat) (h : List Int) (u v : Option O), isFz u = true → isFz v = true → (∀ p ∈ ps, 0 ≤ p ∧ p < h.length) → ∃ u' v', isFz u' = true ∧ isFz v' = true ∧
    turns (hTup 2 (hCons (hName 2) (hCons (hName 3) hNil))) (mSeq (mTgt (eF (eVar 2)) (hSub 1 (eF (eVar 3)))) mPass) (enF lo ps) [some (.fz A), some (.ow (h.map .int)), u, v] = some (.nx [some (.fz A), some (.ow ((puts (bk lo ps) h).map .int)), u', v'])
  | [], lo, h, u, v, hu, hv, _ => ⟨u, v, hu, hv, rfl⟩
  | p :: ps, lo, h, u, v, hu, hv, hp => by
    have h1 := hp p List.mem_cons_self
    obtain ⟨u', v', hu', hv', ih⟩ := bk_turns A ps (lo + 1) (h.set p.toNat (lo : Int)) (some (.fz (.int (lo : Nat)))) (some (.fz (.int p))) rfl rfl (fun z hz => by rw [List.length_set]; exact hp z (List.mem_cons_of_mem _ hz))
    refine ⟨u', v', hu', hv', ?_⟩
    have n2 : noLn [some (.fz A), some (.ow (h.map .int)), u, v] 2 = true := noLn_fz (j := 2) rfl hu
    have n3 : noLn ([some (.fz A), some (.ow (h.map .int)), u, v].set 2 (some (.fz (.int (lo : Nat))))) 3 = true := noLn_fz (j := 3) rfl hv
    have hx : ixN (h.map PyData.int).length p = some p.toNat := Ev.ixN_int h1.1 (by rw [List.length_map]; exact h1.2)
    rw [enF, turns, two_names n2 n3, bk, puts]
    simp -implicitDefEqProofs only [Ev.nd1, Ev.nd2, Ev.lent_fz, Ev.lent_ow, Ev.lent_oo, Ev.lent_mx, Ev.lent_ln, Ev.lent_nil, Ev.back_nil, Ev.back_tm, Ev.back_sl, Ev.runM_at, Ev.start_at, Ev.seq_at, Ev.pass_at, Ev.brk_at, Ev.cnt_at, Ev.ret_at, Ev.retN_at, Ev.asg_at, Ev.if_at, Ev.drop_at, Ev.tgt_at, Ev.tup_at, Ev.for_at, Ev.P_at, Ev.F_at, Ev.var_at, Ev.c_at, Ev.op_at, Ev.opF_at, Ev.call_at, Ev.call1_at, Ev.un_at, Ev.isi_at, Ev.nil_at, Ev.cons_at, Ev.aNil_at, Ev.aCons_at, Ev.lst_at', Ev.tupE_at, Ev.mix_at, Ev.t_at, Ev.tru_at, Ev.and_at, Ev.or_at, Ev.not_at, Ev.andV_at, Ev.orV_at, Ev.notV_at, Ev.if2_at, Ev.ix_at', Ev.no_at, Ev.yes_at, Ev.sl_at, Ev.rep_at, Ev.fn_at, Ev.fnK_at, Ev.seqL_at, Ev.seqT_at, Ev.enum_at, Ev.zip_at, K30.rng1_D, K30.lr1_D, Ev.lc_at, Ev.lcE_at, Ev.yesT_at, Ev.meth_at, Ev.idx_at, Ev.subApp_at, Ev.sortSet_at, Ev.hName_at, Ev.hNil_at, Ev.hCons_at, Ev.hTup_at, Ev.hSub_at, Ev.turns_nil, Ev.force_fz, Ev.force_ow, Ev.force_oo, Ev.force_mx, Ev.force_sl, Ev.norm_fz, Ev.norm_ow, Ev.norm_sl, Ev.argO_sl, Ev.own_at, Ev.setOwn_at, Ev.flatF, Ev.flatO, Ev.flatL, Ev.data_tm, Ev.data_sl, Ev.toD_fz, Ev.toD_ow, Ev.toD_ln, Ev.toD_oo, Ev.toD_mx, Ev.flat_fz, Ev.flat_ow, Ev.flat_sl, Ev.retP_fz, Ev.retP_ow, Ev.retP_oo, Ev.retP_sl, Ev.putP_fz, Ev.putP_ow, Ev.putP_oo, Ev.putP_mx, Ev.putP_sl, Ev.noLn_at, Ev.argOs_nil, Ev.argOs_cons, Ev.argO_fz, Ev.argO_ow, Ev.slots_nil, Ev.slots_tm, Ev.slots_sl, Ev.bOf_b, Ev.ownP_fz, Ev.ownP_ow, Ev.ownP_sl, Ev.ownPs_nil, Ev.ownPs_cons, Ev.putAll_nil, Ev.putAll_cons, Ev.mixI_nil, Ev.mixI_fz, Ev.mixI_ow, Ev.mixI_oo, Ev.ixD_list, Ev.ixD_tup, Ev.atI_0, Ev.atI_1, Ev.ixN_0, Ev.ixN_1, Ev.gt_ii, Ev.ge_ii, Ev.lt_ii, Ev.le_ii, Ev.add_ii, Ev.add_ll, Ev.sub_ii, Ev.mul_ii, Ev.fdv_ii, Ev.mod_ii, Ev.neg_i, Ev.int_i, Ev.abs_i, Ev.max2_ii, Ev.dvm_ii, Ev.len_l, Ev.len_t, Ev.listO_l, Ev.tupO_l, Ev.ints_map, Ev.intsD_map, Ev.sorted_l, Ev.sl_list, List.map_cons, List.map_nil, List.length_cons, List.length_nil, List.replicate_succ, List.replicate_zero, List.append_nil, List.nil_append, List.cons_append, List.getElem?_cons_zero, List.getElem?_cons_succ, List.getElem?_nil, List.set_cons_zero, List.set_cons_succ, List.set_nil, Option.bind_some, Option.bind_none, Option.map_some, Option.map_none, Nat.reduceAdd, Nat.reduceSub, Nat.reduceEqDiff, Nat.reduceLeDiff, if_true, if_false, reduceCtorEq, List.nodup_nil, Bool.false_eq_true, Bool.not_true, Bool.not_false, Bool.true_and, Bool.false_and, Bool.and_true, Bool.and_false, ↓reduceIte, id_eq, List.tail_cons, Nat.zero_add, List.all_cons, List.all_nil, ne_eq, not_false_eq_true, and_self, and_true, true_and, hx, set_L, ih]
theorem v_back {n : Nat} {p : List Int} (h : Num n p) (hn : n ≤ 100) : val f_back [.fz (L p)] = some (.ow ((backL n p).map .int), [none]) := by
  obtain ⟨u', v', _, _, e⟩ := bk_turns (L p) p 0 (List.replicate n 0) none none rfl rfl (fun x hx => by rw [List.length_replicate]; exact h.mem.mp hx)
  have hr : repP (.tm (.ow [.int 0])) (.int ((p.map PyData.int).length : Nat)) = some (.ow ((List.replicate n (0 : Int)).map .int)) := by
    unfold repP
    dsimp only
    rw [List.length_map, h.len, if_pos (by rw [sizeLine_eq]; simp; omega), Int.toNat_natCast, rep_zer]
  have z1 : 1 ≤ sizeLine := le_size (by decide)
  unfold val f_back m_back
  simp -implicitDefEqProofs only [Ev.nd1, Ev.nd2, Ev.lent_fz, Ev.lent_ow, Ev.lent_oo, Ev.lent_mx, Ev.lent_ln, Ev.lent_nil, Ev.back_nil, Ev.back_tm, Ev.back_sl, Ev.runM_at, Ev.start_at, Ev.seq_at, Ev.pass_at, Ev.brk_at, Ev.cnt_at, Ev.ret_at, Ev.retN_at, Ev.asg_at, Ev.if_at, Ev.drop_at, Ev.tgt_at, Ev.tup_at, Ev.for_at, Ev.P_at, Ev.F_at, Ev.var_at, Ev.c_at, Ev.op_at, Ev.opF_at, Ev.call_at, Ev.call1_at, Ev.un_at, Ev.isi_at, Ev.nil_at, Ev.cons_at, Ev.aNil_at, Ev.aCons_at, Ev.lst_at', Ev.tupE_at, Ev.mix_at, Ev.t_at, Ev.tru_at, Ev.and_at, Ev.or_at, Ev.not_at, Ev.andV_at, Ev.orV_at, Ev.notV_at, Ev.if2_at, Ev.ix_at', Ev.no_at, Ev.yes_at, Ev.sl_at, Ev.rep_at, Ev.fn_at, Ev.fnK_at, Ev.seqL_at, Ev.seqT_at, Ev.enum_at, Ev.zip_at, K30.rng1_D, K30.lr1_D, Ev.lc_at, Ev.lcE_at, Ev.yesT_at, Ev.meth_at, Ev.idx_at, Ev.subApp_at, Ev.sortSet_at, Ev.hName_at, Ev.hNil_at, Ev.hCons_at, Ev.hTup_at, Ev.hSub_at, Ev.turns_nil, Ev.force_fz, Ev.force_ow, Ev.force_oo, Ev.force_mx, Ev.force_sl, Ev.norm_fz, Ev.norm_ow, Ev.norm_sl, Ev.argO_sl, Ev.own_at, Ev.setOwn_at, Ev.flatF, Ev.flatO, Ev.flatL, Ev.data_tm, Ev.data_sl, Ev.toD_fz, Ev.toD_ow, Ev.toD_ln, Ev.toD_oo, Ev.toD_mx, Ev.flat_fz, Ev.flat_ow, Ev.flat_sl, Ev.retP_fz, Ev.retP_ow, Ev.retP_oo, Ev.retP_sl, Ev.putP_fz, Ev.putP_ow, Ev.putP_oo, Ev.putP_mx, Ev.putP_sl, Ev.noLn_at, Ev.argOs_nil, Ev.argOs_cons, Ev.argO_fz, Ev.argO_ow, Ev.slots_nil, Ev.slots_tm, Ev.slots_sl, Ev.bOf_b, Ev.ownP_fz, Ev.ownP_ow, Ev.ownP_sl, Ev.ownPs_nil, Ev.ownPs_cons, Ev.putAll_nil, Ev.putAll_cons, Ev.mixI_nil, Ev.mixI_fz, Ev.mixI_ow, Ev.mixI_oo, Ev.ixD_list, Ev.ixD_tup, Ev.atI_0, Ev.atI_1, Ev.ixN_0, Ev.ixN_1, Ev.gt_ii, Ev.ge_ii, Ev.lt_ii, Ev.le_ii, Ev.add_ii, Ev.add_ll, Ev.sub_ii, Ev.mul_ii, Ev.fdv_ii, Ev.mod_ii, Ev.neg_i, Ev.int_i, Ev.abs_i, Ev.max2_ii, Ev.dvm_ii, Ev.len_l, Ev.len_t, Ev.listO_l, Ev.tupO_l, Ev.ints_map, Ev.intsD_map, Ev.sorted_l, Ev.sl_list, List.map_cons, List.map_nil, List.length_cons, List.length_nil, List.replicate_succ, List.replicate_zero, List.append_nil, List.nil_append, List.cons_append, List.getElem?_cons_zero, List.getElem?_cons_succ, List.getElem?_nil, List.set_cons_zero, List.set_cons_succ, List.set_nil, Option.bind_some, Option.bind_none, Option.map_some, Option.map_none, Nat.reduceAdd, Nat.reduceSub, Nat.reduceEqDiff, Nat.reduceLeDiff, if_true, if_false, reduceCtorEq, List.nodup_nil, Bool.false_eq_true, Bool.not_true, Bool.not_false, Bool.true_and, Bool.false_and, Bool.and_true, Bool.and_false, ↓reduceIte, id_eq, List.tail_cons, Nat.zero_add, List.all_cons, List.all_nil, ne_eq, not_false_eq_true, and_self, and_true, true_and, hr, z1, enum_L, e]
  rfl
theorem at_I {c : List Int} {j : Int} (h0 : 0 ≤ j) (h1 : j < c.length) : atI (c.map PyData.int) j = some (.int (c.getD j.toNat 0)) := by
  have := at_L (s := c) (i := j.toNat) (by omega)
  rw [show ((j.toNat : Nat) : Int) = j by omega] at this
  exact this
theorem led_go (c : List Int) (B : Option O) : ∀ (js : List Int), (∀ j ∈ js, 0 ≤ j ∧ j < c.length) → lcGo [2] (hName 2) eYesT (eIx (eVar 0) (eF (eVar 2))) (js.map .int) [some (.fz (L c)), B, none] = some ((js.map fun j => c.getD j.toNat 0).map .int, [some (.fz (L c)), B, none])
  | [], _ => rfl
  | j :: js, h => by
    have ih := led_go c B js fun z hz => h z (List.mem_cons_of_mem _ hz)
    have hj := h j List.mem_cons_self
    have a := at_I hj.1 hj.2
    rw [List.map_cons, lcGo]
    simp -implicitDefEqProofs only [Ev.nd1, Ev.nd2, Ev.lent_fz, Ev.lent_ow, Ev.lent_oo, Ev.lent_mx, Ev.lent_ln, Ev.lent_nil, Ev.back_nil, Ev.back_tm, Ev.back_sl, Ev.runM_at, Ev.start_at, Ev.seq_at, Ev.pass_at, Ev.brk_at, Ev.cnt_at, Ev.ret_at, Ev.retN_at, Ev.asg_at, Ev.if_at, Ev.drop_at, Ev.tgt_at, Ev.tup_at, Ev.for_at, Ev.P_at, Ev.F_at, Ev.var_at, Ev.c_at, Ev.op_at, Ev.opF_at, Ev.call_at, Ev.call1_at, Ev.un_at, Ev.isi_at, Ev.nil_at, Ev.cons_at, Ev.aNil_at, Ev.aCons_at, Ev.lst_at', Ev.tupE_at, Ev.mix_at, Ev.t_at, Ev.tru_at, Ev.and_at, Ev.or_at, Ev.not_at, Ev.andV_at, Ev.orV_at, Ev.notV_at, Ev.if2_at, Ev.ix_at', Ev.no_at, Ev.yes_at, Ev.sl_at, Ev.rep_at, Ev.fn_at, Ev.fnK_at, Ev.seqL_at, Ev.seqT_at, Ev.enum_at, Ev.zip_at, K30.rng1_D, K30.lr1_D, Ev.lc_at, Ev.lcE_at, Ev.yesT_at, Ev.meth_at, Ev.idx_at, Ev.subApp_at, Ev.sortSet_at, Ev.hName_at, Ev.hNil_at, Ev.hCons_at, Ev.hTup_at, Ev.hSub_at, Ev.turns_nil, Ev.force_fz, Ev.force_ow, Ev.force_oo, Ev.force_mx, Ev.force_sl, Ev.norm_fz, Ev.norm_ow, Ev.norm_sl, Ev.argO_sl, Ev.own_at, Ev.setOwn_at, Ev.flatF, Ev.flatO, Ev.flatL, Ev.data_tm, Ev.data_sl, Ev.toD_fz, Ev.toD_ow, Ev.toD_ln, Ev.toD_oo, Ev.toD_mx, Ev.flat_fz, Ev.flat_ow, Ev.flat_sl, Ev.retP_fz, Ev.retP_ow, Ev.retP_oo, Ev.retP_sl, Ev.putP_fz, Ev.putP_ow, Ev.putP_oo, Ev.putP_mx, Ev.putP_sl, Ev.noLn_at, Ev.argOs_nil, Ev.argOs_cons, Ev.argO_fz, Ev.argO_ow, Ev.slots_nil, Ev.slots_tm, Ev.slots_sl, Ev.bOf_b, Ev.ownP_fz, Ev.ownP_ow, Ev.ownP_sl, Ev.ownPs_nil, Ev.ownPs_cons, Ev.putAll_nil, Ev.putAll_cons, Ev.mixI_nil, Ev.mixI_fz, Ev.mixI_ow, Ev.mixI_oo, Ev.ixD_list, Ev.ixD_tup, Ev.atI_0, Ev.atI_1, Ev.ixN_0, Ev.ixN_1, Ev.gt_ii, Ev.ge_ii, Ev.lt_ii, Ev.le_ii, Ev.add_ii, Ev.add_ll, Ev.sub_ii, Ev.mul_ii, Ev.fdv_ii, Ev.mod_ii, Ev.neg_i, Ev.int_i, Ev.abs_i, Ev.max2_ii, Ev.dvm_ii, Ev.len_l, Ev.len_t, Ev.listO_l, Ev.tupO_l, Ev.ints_map, Ev.intsD_map, Ev.sorted_l, Ev.sl_list, List.map_cons, List.map_nil, List.length_cons, List.length_nil, List.replicate_succ, List.replicate_zero, List.append_nil, List.nil_append, List.cons_append, List.getElem?_cons_zero, List.getElem?_cons_succ, List.getElem?_nil, List.set_cons_zero, List.set_cons_succ, List.set_nil, Option.bind_some, Option.bind_none, Option.map_some, Option.map_none, Nat.reduceAdd, Nat.reduceSub, Nat.reduceEqDiff, Nat.reduceLeDiff, if_true, if_false, reduceCtorEq, List.nodup_nil, Bool.false_eq_true, Bool.not_true, Bool.not_false, Bool.true_and, Bool.false_and, Bool.and_true, Bool.and_false, ↓reduceIte, id_eq, List.tail_cons, Nat.zero_add, List.all_cons, List.all_nil, ne_eq, not_false_eq_true, and_self, and_true, true_and, a, wipe_nil, wipe_cons, ih]
theorem v_led {n : Nat} {c p : List Int} (h : Num n p) (hc : c.length = n) (hn : n ≤ 100) : val f_colouring_led [.fz (L c), .fz (L p)] = some (.ow ((led n c p).map .int), [none, none]) := by
  have e := v_back h hn
  have g := led_go c (some (.fz (L p))) (backL n p) (fun j hj => by rw [hc]; exact backL_rg h j hj)
  have hz : ((backL n p).map PyData.int).length ≤ sizeLine := by rw [List.length_map, backL_len, sizeLine_eq]; omega
  unfold val f_colouring_led m_colouring_led
  simp -implicitDefEqProofs only [Ev.nd1, Ev.nd2, Ev.lent_fz, Ev.lent_ow, Ev.lent_oo, Ev.lent_mx, Ev.lent_ln, Ev.lent_nil, Ev.back_nil, Ev.back_tm, Ev.back_sl, Ev.runM_at, Ev.start_at, Ev.seq_at, Ev.pass_at, Ev.brk_at, Ev.cnt_at, Ev.ret_at, Ev.retN_at, Ev.asg_at, Ev.if_at, Ev.drop_at, Ev.tgt_at, Ev.tup_at, Ev.for_at, Ev.P_at, Ev.F_at, Ev.var_at, Ev.c_at, Ev.op_at, Ev.opF_at, Ev.call_at, Ev.call1_at, Ev.un_at, Ev.isi_at, Ev.nil_at, Ev.cons_at, Ev.aNil_at, Ev.aCons_at, Ev.lst_at', Ev.tupE_at, Ev.mix_at, Ev.t_at, Ev.tru_at, Ev.and_at, Ev.or_at, Ev.not_at, Ev.andV_at, Ev.orV_at, Ev.notV_at, Ev.if2_at, Ev.ix_at', Ev.no_at, Ev.yes_at, Ev.sl_at, Ev.rep_at, Ev.fn_at, Ev.fnK_at, Ev.seqL_at, Ev.seqT_at, Ev.enum_at, Ev.zip_at, K30.rng1_D, K30.lr1_D, Ev.lc_at, Ev.lcE_at, Ev.yesT_at, Ev.meth_at, Ev.idx_at, Ev.subApp_at, Ev.sortSet_at, Ev.hName_at, Ev.hNil_at, Ev.hCons_at, Ev.hTup_at, Ev.hSub_at, Ev.turns_nil, Ev.force_fz, Ev.force_ow, Ev.force_oo, Ev.force_mx, Ev.force_sl, Ev.norm_fz, Ev.norm_ow, Ev.norm_sl, Ev.argO_sl, Ev.own_at, Ev.setOwn_at, Ev.flatF, Ev.flatO, Ev.flatL, Ev.data_tm, Ev.data_sl, Ev.toD_fz, Ev.toD_ow, Ev.toD_ln, Ev.toD_oo, Ev.toD_mx, Ev.flat_fz, Ev.flat_ow, Ev.flat_sl, Ev.retP_fz, Ev.retP_ow, Ev.retP_oo, Ev.retP_sl, Ev.putP_fz, Ev.putP_ow, Ev.putP_oo, Ev.putP_mx, Ev.putP_sl, Ev.noLn_at, Ev.argOs_nil, Ev.argOs_cons, Ev.argO_fz, Ev.argO_ow, Ev.slots_nil, Ev.slots_tm, Ev.slots_sl, Ev.bOf_b, Ev.ownP_fz, Ev.ownP_ow, Ev.ownP_sl, Ev.ownPs_nil, Ev.ownPs_cons, Ev.putAll_nil, Ev.putAll_cons, Ev.mixI_nil, Ev.mixI_fz, Ev.mixI_ow, Ev.mixI_oo, Ev.ixD_list, Ev.ixD_tup, Ev.atI_0, Ev.atI_1, Ev.ixN_0, Ev.ixN_1, Ev.gt_ii, Ev.ge_ii, Ev.lt_ii, Ev.le_ii, Ev.add_ii, Ev.add_ll, Ev.sub_ii, Ev.mul_ii, Ev.fdv_ii, Ev.mod_ii, Ev.neg_i, Ev.int_i, Ev.abs_i, Ev.max2_ii, Ev.dvm_ii, Ev.len_l, Ev.len_t, Ev.listO_l, Ev.tupO_l, Ev.ints_map, Ev.intsD_map, Ev.sorted_l, Ev.sl_list, List.map_cons, List.map_nil, List.length_cons, List.length_nil, List.replicate_succ, List.replicate_zero, List.append_nil, List.nil_append, List.cons_append, List.getElem?_cons_zero, List.getElem?_cons_succ, List.getElem?_nil, List.set_cons_zero, List.set_cons_succ, List.set_nil, Option.bind_some, Option.bind_none, Option.map_some, Option.map_none, Nat.reduceAdd, Nat.reduceSub, Nat.reduceEqDiff, Nat.reduceLeDiff, if_true, if_false, reduceCtorEq, List.nodup_nil, Bool.false_eq_true, Bool.not_true, Bool.not_false, Bool.true_and, Bool.false_and, Bool.and_true, Bool.and_false, ↓reduceIte, id_eq, List.tail_cons, Nat.zero_add, List.all_cons, List.all_nil, ne_eq, not_false_eq_true, and_self, and_true, true_and, e, hz, okv, wipe_nil, wipe_cons, g, rest_nil, rest_cons, Option.getD_some]
  rfl
end K30
end
section
set_option Elab.async false
set_option linter.all false
set_option maxRecDepth 100000
set_option maxHeartbeats 8000000
namespace K30
open PySem PySem.Spec PyProof.Rows L2 Vi Vf Vo Vp Vs Vt Vu Vv Vg Vw Vx Vy Va Vb Vc Ev
def q1 : Δ → Option Out := mAsg 2 (eP (eIx (eLst (eCons (eC (.int 0)) (eCons (eC (.int 1)) (eCons (eC (.int 2)) (eCons (eC (.int 3)) (eCons (eC (.int 4)) (eCons (eC (.int 5)) (eCons (eC (.int 6)) (eCons (eC (.int 24)) eNil))))))))) (eF (eFn f__law_draw (aCons (eVar 1) (aCons (eP (eC (.int 8))) aNil))))))
def q2 : Δ → Option Out := mAsg 3 (eLc [4] (eRng1 (eCons (eF (eOpF addO (eC (.int 25)) (eF (eFn f__law_draw (aCons (eVar 1) (aCons (eP (eC (.int 9))) aNil)))))) eNil)) (hName 4) eYesT (eC (.int 0)))
def q3 : Δ → Option Out := mAsg 5 (eLst (eCons (eF (eFn f_is_colouring (aCons (eP (eCall1 lenD (eVar 3))) (aCons (eP (eF (eVar 3))) aNil)))) (eCons (eF (eFn f_is_colouring (aCons (eP (eF (eOpF addO (eCall1 lenD (eVar 3)) (eC (.int 1))))) (aCons (eP (eF (eVar 3))) aNil)))) eNil)))
def q4 : Δ → Option Out := mIf (eT (eOp neX (eP (eCall1 reprD (eVar 5))) (eP (eCall1 reprD (eLst (eCons (eC (.bool true)) (eCons (eC (.bool false)) eNil))))))) (mSeq (mRet (eP (eC (.bool false)))) mPass) mPass
def q5 : Δ → Option Out := mAsg 6 (eFn f__law_tint (aCons (eVar 0) (aCons (eP (eF (eVar 2))) aNil)))
def q6 : Δ → Option Out := mAsg 7 (eIf (eT (eOp eqX (eFn f__law_draw (aCons (eVar 1) (aCons (eP (eC (.int 2))) aNil))) (eP (eC (.int 0))))) (eFn f__law_tint (aCons (eVar 1) (aCons (eP (eF (eVar 2))) aNil))) (eFn f__law_coarser (aCons (eVar 1) (aCons (eP (eF (eVar 6))) aNil))))
def q7 : Δ → Option Out := mTup [8, 9] (aCons (eFn f__law_row (aCons (eVar 1) (aCons (eP (eF (eVar 2))) aNil))) (aCons (eOpF addO (eF (eVar 2)) (eOp fdvI (eFn f__law_draw (aCons (eVar 1) (aCons (eP (eC (.int 5))) aNil))) (eP (eC (.int 4))))) aNil))
def q8b : Δ → Option Out := (mSeq (mAsg 11 (eP (eCall1 reprD (eVar 10)))) (mSeq (mAsg 5 (eLst (eCons (eF (eFn f_is_colouring (aCons (eP (eF (eVar 2))) (aCons (eP (eF (eVar 10))) aNil)))) (eCons (eF (eFnK 2 [1, 0] f_is_colouring (aCons (eP (eF (eVar 10))) (aCons (eP (eF (eVar 9))) aNil)))) eNil)))) (mSeq (mIf (eT (eOp neX (eP (eCall1 reprD (eVar 5))) (eP (eCall1 reprD (eLst (eCons (eF (eFn f__law_is_one (aCons (eP (eF (eVar 2))) (aCons (eP (eF (eVar 10))) aNil)))) (eCons (eF (eFn f__law_is_one (aCons (eP (eF (eVar 9))) (aCons (eP (eF (eVar 10))) aNil)))) eNil))))))) (mSeq (mRet (eP (eC (.bool false)))) mPass) mPass) (mSeq (mIf (eT (eOp neX (eP (eCall1 reprD (eVar 10))) (eVar 11))) (mSeq (mRet (eP (eC (.bool false)))) mPass) mPass) mPass))))
def q8 : Δ → Option Out := mFor (eSeqT (eTup (eCons (eF (eVar 6)) (eCons (eF (eFn f__law_near (aCons (eVar 0) (aCons (eP (eF (eVar 6))) aNil)))) (eCons (eF (eFn f__law_near (aCons (eVar 1) (aCons (eP (eF (eVar 7))) aNil)))) eNil))))) (hName 10) q8b
def q9b : Δ → Option Out := (mSeq (mAsg 5 (eLst (eCons (eF (eFn f_is_finer (aCons (eP (eF (eSl (eVar 12) eNo eNo))) (aCons (eP (eF (eSl (eVar 13) eNo eNo))) aNil)))) (eCons (eF (eFn f_keeps_sequence (aCons (eP (eF (eSl (eVar 12) eNo eNo))) (aCons (eP (eF (eSl (eVar 13) eNo eNo))) aNil)))) eNil)))) (mSeq (mIf (eT (eOp neX (eP (eCall1 reprD (eVar 5))) (eP (eCall1 reprD (eFn f__law_compared (aCons (eP (eF (eVar 12))) (aCons (eP (eF (eVar 13))) aNil))))))) (mSeq (mRet (eP (eC (.bool false)))) mPass) mPass) mPass))
def q9 : Δ → Option Out := mFor (eSeqT (eTup (eCons (eTup (eCons (eF (eVar 6)) (eCons (eF (eVar 7)) eNil))) (eCons (eTup (eCons (eF (eVar 7)) (eCons (eF (eVar 6)) eNil))) (eCons (eTup (eCons (eF (eVar 6)) (eCons (eF (eVar 6)) eNil))) eNil))))) (hTup 2 (hCons (hName 12) (hCons (hName 13) hNil))) q9b
def q10 : Δ → Option Out := mAsg 5 (eLst (eCons (eF (eFnK 2 [1, 0] f_is_finer (aCons (eP (eF (eVar 7))) (aCons (eP (eF (eVar 6))) aNil)))) (eCons (eF (eFnK 2 [1, 0] f_keeps_sequence (aCons (eP (eF (eVar 7))) (aCons (eP (eF (eVar 6))) aNil)))) eNil)))
def q11 : Δ → Option Out := mIf (eT (eOp neX (eP (eCall1 reprD (eVar 5))) (eP (eCall1 reprD (eFn f__law_compared (aCons (eP (eF (eVar 6))) (aCons (eP (eF (eVar 7))) aNil))))))) (mSeq (mRet (eP (eC (.bool false)))) mPass) mPass
def q12 : Δ → Option Out := mAsg 14 (eFn f__law_cells (aCons (eP (eF (eVar 6))) aNil))
def q13 : Δ → Option Out := mAsg 15 (eLc [16] (eSeq (eF (eVar 14))) (hName 16) eYesT (eCall1 lenD (eVar 16)))
def q14 : Δ → Option Out := mAsg 5 (eMix (aCons (eFn f_cells_of (aCons (eP (eF (eVar 6))) aNil)) (aCons (eFnK 1 [0] f_trace_of (aCons (eP (eF (eVar 6))) aNil)) (aCons (eFnK 1 [0] f_is_discrete (aCons (eP (eF (eVar 6))) aNil)) aNil))))
def q15 : Δ → Option Out := mIf (eT (eOp neX (eP (eCall1 reprD (eVar 5))) (eP (eCall1 reprD (eLst (eCons (eF (eVar 14)) (eCons (eF (eVar 15)) (eCons (eOp eqX (eP (eCall1 lenD (eVar 14))) (eVar 2)) eNil)))))))) (mSeq (mRet (eP (eC (.bool false)))) mPass) mPass
def q16 : Δ → Option Out := mSpoil 5 16 0 .none
def q17 : Δ → Option Out := mTup [17, 11] (aCons (eLc [4] (eSeq (eF (eVar 6))) (hName 4) eYesT (eC (.int 0))) (aCons (eP (eCall1 reprD (eLst (eCons (eF (eVar 6)) (eCons (eF (eVar 8)) eNil))))) aNil))
def q18b : Δ → Option Out := (mSeq (mTgt (eF (eVar 18)) (hSub 17 (eIx (eVar 8) (eF (eVar 4))))) mPass)
def q18 : Δ → Option Out := mFor (eEnum (eCons (eF (eVar 6)) eNil)) (hTup 2 (hCons (hName 4) (hCons (hName 18) hNil))) q18b
def q19 : Δ → Option Out := mIf (eT (eOp neX (eP (eCall1 reprD (eLst (eCons (eF (eFnK 1 [0] f_cells_of (aCons (eP (eF (eVar 6))) aNil))) (eCons (eF (eFn f_colouring_led (aCons (eP (eF (eVar 6))) (aCons (eP (eF (eVar 8))) aNil)))) eNil))))) (eP (eCall1 reprD (eLst (eCons (eF (eVar 14)) (eCons (eF (eVar 17)) eNil))))))) (mSeq (mRet (eP (eC (.bool false)))) mPass) mPass
def q20 : Δ → Option Out := mAsg 5 (eMix (aCons (eFn f_colouring_led (aCons (eP (eF (eVar 6))) (aCons (eP (eF (eListR1 (eF (eVar 2))))) aNil))) (aCons (eFn f_colouring_led (aCons (eP (eF (eVar 6))) (aCons (eP (eF (eVar 8))) aNil))) aNil)))
def q21 : Δ → Option Out := mIf (eT (eOp neX (eP (eCall1 reprD (eVar 5))) (eP (eCall1 reprD (eLst (eCons (eF (eVar 6)) (eCons (eF (eVar 17)) eNil))))))) (mSeq (mRet (eP (eC (.bool false)))) mPass) mPass
def q22 : Δ → Option Out := mDrop (eP (eSubApp 5 (eC (.int 0)) (eC .none)))
def q23 : Δ → Option Out := mRet (eP (eAndV (eOp eqX (eFnK 2 [1, 0] f_colouring_led (aCons (eP (eF (eVar 8))) (aCons (eP (eF (eVar 6))) aNil))) (eVar 17)) (eOp eqX (eP (eCall1 reprD (eLst (eCons (eF (eVar 6)) (eCons (eF (eVar 8)) eNil))))) (eVar 11))))
theorem m__law_right_eq : m__law_right = (mSeq q1 (mSeq q2 (mSeq q3 (mSeq q4 (mSeq q5 (mSeq q6 (mSeq q7 (mSeq q8 (mSeq q9 (mSeq q10 (mSeq q11 (mSeq q12 (mSeq q13 (mSeq q14 (mSeq q15 (mSeq q16 (mSeq q17 (mSeq q18 (mSeq q19 (mSeq q20 (mSeq q21 (mSeq q22 (mSeq q23 mPass))))))))))))))))))))))) := rfl
theorem seq_nx {a b : Δ → Option Out} {δ δ' : Δ} (h : a δ = some (.nx δ')) : mSeq a b δ = b δ' := by rw [Ev.seq_at, h]; rfl
theorem seq_rt {a b : Δ → Option Out} {δ δ' : Δ} {o : O} (h : a δ = some (.rt o δ')) : mSeq a b δ = some (.rt o δ') := by rw [Ev.seq_at, h]; rfl
end K30
end
section
set_option Elab.async false
set_option linter.all false
set_option maxRecDepth 100000
set_option maxHeartbeats 8000000
namespace K30
open PySem PySem.Spec PyProof.Rows L2 Vi Vf Vo Vp Vs Vt Vu Vv Vg Vw Vx Vy Va Vb Vc Ev
theorem pm10 {α : Type} {a b : α} : pmI [1, 0] [a, b] = [b, a] := rfl
theorem pm0 {α : Type} {a : α} : pmI [0] [a] = [a] := rfl
theorem nd10 : ([1, 0] : List Nat).Nodup := by decide
theorem nd0 : ([0] : List Nat).Nodup := by decide
theorem ne_same {s : Str} : neX (.str s) (.str s) = some (.bool false) := by rw [ne_ss]; simp
theorem eq_same {s : Str} : eqX (.str s) (.str s) = some (.bool true) := by rw [eq_ss]; simp
theorem s1 (a b c d : Int) : ∃ (n : Nat) (c' d' : Int), n ≤ 24 ∧ q1 [some (.ow ([.int a, .int b])), some (.ow ([.int c, .int d])), none, none, none, none, none, none, none, none, none, none, none, none, none, none, none, none, none] = some (.nx [some (.ow ([.int a, .int b])), some (.ow ([.int c', .int d'])), some (.fz (.int (n : Nat))), none, none, none, none, none, none, none, none, none, none, none, none, none, none, none, none]) := by
  obtain ⟨r, c', d', r0, r1, e⟩ := v_draw c d 8 (by decide) (by decide)
  obtain ⟨n, hn, hm⟩ : ∃ n : Nat, n ≤ 24 ∧ atI [PyData.int 0, .int 1, .int 2, .int 3, .int 4, .int 5, .int 6, .int 24] r = some (.int (n : Nat)) := by
    rw [Ev.atI_int r0 (by simpa using r1)]
    have : r.toNat = 0 ∨ r.toNat = 1 ∨ r.toNat = 2 ∨ r.toNat = 3 ∨ r.toNat = 4 ∨ r.toNat = 5 ∨ r.toNat = 6 ∨ r.toNat = 7 := by omega
    rcases this with q | q | q | q | q | q | q | q <;> rw [q]
    · exact ⟨0, by decide, rfl⟩
    · exact ⟨1, by decide, rfl⟩
    · exact ⟨2, by decide, rfl⟩
    · exact ⟨3, by decide, rfl⟩
    · exact ⟨4, by decide, rfl⟩
    · exact ⟨5, by decide, rfl⟩
    · exact ⟨6, by decide, rfl⟩
    · exact ⟨24, by decide, rfl⟩
  refine ⟨n, c', d', hn, ?_⟩
  have z8 : 8 ≤ sizeLine := le_size (by decide)
  unfold q1
  simp -implicitDefEqProofs only [Ev.nd1, Ev.nd2, Ev.lent_fz, Ev.lent_ow, Ev.lent_oo, Ev.lent_mx, Ev.lent_ln, Ev.lent_nil, Ev.back_nil, Ev.back_tm, Ev.back_sl, Ev.runM_at, Ev.start_at, Ev.seq_at, Ev.pass_at, Ev.brk_at, Ev.cnt_at, Ev.ret_at, Ev.retN_at, Ev.asg_at, Ev.if_at, Ev.drop_at, Ev.tgt_at, Ev.tup_at, Ev.for_at, Ev.P_at, Ev.F_at, Ev.var_at, Ev.c_at, Ev.op_at, Ev.opF_at, Ev.call_at, Ev.call1_at, Ev.un_at, Ev.isi_at, Ev.nil_at, Ev.cons_at, Ev.aNil_at, Ev.aCons_at, Ev.lst_at', Ev.tupE_at, Ev.mix_at, Ev.t_at, Ev.tru_at, Ev.and_at, Ev.or_at, Ev.not_at, Ev.andV_at, Ev.orV_at, Ev.notV_at, Ev.if2_at, Ev.ix_at', Ev.no_at, Ev.yes_at, Ev.sl_at, Ev.rep_at, Ev.fn_at, Ev.fnK_at, Ev.seqL_at, Ev.seqT_at, Ev.enum_at, Ev.zip_at, K30.rng1_D, K30.lr1_D, Ev.lc_at, Ev.lcE_at, Ev.yesT_at, Ev.meth_at, Ev.idx_at, Ev.subApp_at, Ev.sortSet_at, Ev.hName_at, Ev.hNil_at, Ev.hCons_at, Ev.hTup_at, Ev.hSub_at, Ev.turns_nil, Ev.force_fz, Ev.force_ow, Ev.force_oo, Ev.force_mx, Ev.force_sl, Ev.norm_fz, Ev.norm_ow, Ev.norm_sl, Ev.argO_sl, Ev.own_at, Ev.setOwn_at, Ev.flatF, Ev.flatO, Ev.flatL, Ev.data_tm, Ev.data_sl, Ev.toD_fz, Ev.toD_ow, Ev.toD_ln, Ev.toD_oo, Ev.toD_mx, Ev.flat_fz, Ev.flat_ow, Ev.flat_sl, Ev.retP_fz, Ev.retP_ow, Ev.retP_oo, Ev.retP_sl, Ev.putP_fz, Ev.putP_ow, Ev.putP_oo, Ev.putP_mx, Ev.putP_sl, Ev.noLn_at, Ev.argOs_nil, Ev.argOs_cons, Ev.argO_fz, Ev.argO_ow, Ev.slots_nil, Ev.slots_tm, Ev.slots_sl, Ev.bOf_b, Ev.ownP_fz, Ev.ownP_ow, Ev.ownP_sl, Ev.ownPs_nil, Ev.ownPs_cons, Ev.putAll_nil, Ev.putAll_cons, Ev.mixI_nil, Ev.mixI_fz, Ev.mixI_ow, Ev.mixI_oo, Ev.ixD_list, Ev.ixD_tup, Ev.atI_0, Ev.atI_1, Ev.ixN_0, Ev.ixN_1, Ev.gt_ii, Ev.ge_ii, Ev.lt_ii, Ev.le_ii, Ev.add_ii, Ev.add_ll, Ev.sub_ii, Ev.mul_ii, Ev.fdv_ii, Ev.mod_ii, Ev.neg_i, Ev.int_i, Ev.abs_i, Ev.max2_ii, Ev.dvm_ii, Ev.len_l, Ev.len_t, Ev.listO_l, Ev.tupO_l, Ev.ints_map, Ev.intsD_map, Ev.sorted_l, Ev.sl_list, List.map_cons, List.map_nil, List.length_cons, List.length_nil, List.replicate_succ, List.replicate_zero, List.append_nil, List.nil_append, List.cons_append, List.getElem?_cons_zero, List.getElem?_cons_succ, List.getElem?_nil, List.set_cons_zero, List.set_cons_succ, List.set_nil, Option.bind_some, Option.bind_none, Option.map_some, Option.map_none, Nat.reduceAdd, Nat.reduceSub, Nat.reduceEqDiff, Nat.reduceLeDiff, if_true, if_false, reduceCtorEq, List.nodup_nil, Bool.false_eq_true, Bool.not_true, Bool.not_false, Bool.true_and, Bool.false_and, Bool.and_true, Bool.and_false, ↓reduceIte, id_eq, List.tail_cons, Nat.zero_add, List.all_cons, List.all_nil, ne_eq, not_false_eq_true, and_self, and_true, true_and, e, hm, z8]
theorem zer_go (a b c d : Int) (N : D) : ∀ (k : Nat) (lo : Int), lcGo [4] (hName 4) eYesT (eC (.int 0)) (rangeD lo k) [some (.ow ([.int a, .int b])), some (.ow ([.int c, .int d])), some (.fz (N)), none, none, none, none, none, none, none, none, none, none, none, none, none, none, none, none] = some ((List.replicate k (0 : Int)).map .int, [some (.ow ([.int a, .int b])), some (.ow ([.int c, .int d])), some (.fz (N)), none, none, none, none, none, none, none, none, none, none, none, none, none, none, none, none])
  | 0, _ => rfl
  | k + 1, lo => by
    have ih := zer_go a b c d N k (lo + 1)
    rw [rangeD_succ, lcGo]
    simp -implicitDefEqProofs only [Ev.nd1, Ev.nd2, Ev.lent_fz, Ev.lent_ow, Ev.lent_oo, Ev.lent_mx, Ev.lent_ln, Ev.lent_nil, Ev.back_nil, Ev.back_tm, Ev.back_sl, Ev.runM_at, Ev.start_at, Ev.seq_at, Ev.pass_at, Ev.brk_at, Ev.cnt_at, Ev.ret_at, Ev.retN_at, Ev.asg_at, Ev.if_at, Ev.drop_at, Ev.tgt_at, Ev.tup_at, Ev.for_at, Ev.P_at, Ev.F_at, Ev.var_at, Ev.c_at, Ev.op_at, Ev.opF_at, Ev.call_at, Ev.call1_at, Ev.un_at, Ev.isi_at, Ev.nil_at, Ev.cons_at, Ev.aNil_at, Ev.aCons_at, Ev.lst_at', Ev.tupE_at, Ev.mix_at, Ev.t_at, Ev.tru_at, Ev.and_at, Ev.or_at, Ev.not_at, Ev.andV_at, Ev.orV_at, Ev.notV_at, Ev.if2_at, Ev.ix_at', Ev.no_at, Ev.yes_at, Ev.sl_at, Ev.rep_at, Ev.fn_at, Ev.fnK_at, Ev.seqL_at, Ev.seqT_at, Ev.enum_at, Ev.zip_at, K30.rng1_D, K30.lr1_D, Ev.lc_at, Ev.lcE_at, Ev.yesT_at, Ev.meth_at, Ev.idx_at, Ev.subApp_at, Ev.sortSet_at, Ev.hName_at, Ev.hNil_at, Ev.hCons_at, Ev.hTup_at, Ev.hSub_at, Ev.turns_nil, Ev.force_fz, Ev.force_ow, Ev.force_oo, Ev.force_mx, Ev.force_sl, Ev.norm_fz, Ev.norm_ow, Ev.norm_sl, Ev.argO_sl, Ev.own_at, Ev.setOwn_at, Ev.flatF, Ev.flatO, Ev.flatL, Ev.data_tm, Ev.data_sl, Ev.toD_fz, Ev.toD_ow, Ev.toD_ln, Ev.toD_oo, Ev.toD_mx, Ev.flat_fz, Ev.flat_ow, Ev.flat_sl, Ev.retP_fz, Ev.retP_ow, Ev.retP_oo, Ev.retP_sl, Ev.putP_fz, Ev.putP_ow, Ev.putP_oo, Ev.putP_mx, Ev.putP_sl, Ev.noLn_at, Ev.argOs_nil, Ev.argOs_cons, Ev.argO_fz, Ev.argO_ow, Ev.slots_nil, Ev.slots_tm, Ev.slots_sl, Ev.bOf_b, Ev.ownP_fz, Ev.ownP_ow, Ev.ownP_sl, Ev.ownPs_nil, Ev.ownPs_cons, Ev.putAll_nil, Ev.putAll_cons, Ev.mixI_nil, Ev.mixI_fz, Ev.mixI_ow, Ev.mixI_oo, Ev.ixD_list, Ev.ixD_tup, Ev.atI_0, Ev.atI_1, Ev.ixN_0, Ev.ixN_1, Ev.gt_ii, Ev.ge_ii, Ev.lt_ii, Ev.le_ii, Ev.add_ii, Ev.add_ll, Ev.sub_ii, Ev.mul_ii, Ev.fdv_ii, Ev.mod_ii, Ev.neg_i, Ev.int_i, Ev.abs_i, Ev.max2_ii, Ev.dvm_ii, Ev.len_l, Ev.len_t, Ev.listO_l, Ev.tupO_l, Ev.ints_map, Ev.intsD_map, Ev.sorted_l, Ev.sl_list, List.map_cons, List.map_nil, List.length_cons, List.length_nil, List.replicate_succ, List.replicate_zero, List.append_nil, List.nil_append, List.cons_append, List.getElem?_cons_zero, List.getElem?_cons_succ, List.getElem?_nil, List.set_cons_zero, List.set_cons_succ, List.set_nil, Option.bind_some, Option.bind_none, Option.map_some, Option.map_none, Nat.reduceAdd, Nat.reduceSub, Nat.reduceEqDiff, Nat.reduceLeDiff, if_true, if_false, reduceCtorEq, List.nodup_nil, Bool.false_eq_true, Bool.not_true, Bool.not_false, Bool.true_and, Bool.false_and, Bool.and_true, Bool.and_false, ↓reduceIte, id_eq, List.tail_cons, Nat.zero_add, List.all_cons, List.all_nil, ne_eq, not_false_eq_true, and_self, and_true, true_and, wipe_nil, wipe_cons, ih]
theorem s2 (a b c d : Int) (n : Nat) : ∃ (w : Nat) (c' d' : Int), 25 ≤ w ∧ w ≤ 33 ∧ q2 [some (.ow ([.int a, .int b])), some (.ow ([.int c, .int d])), some (.fz (.int (n : Nat))), none, none, none, none, none, none, none, none, none, none, none, none, none, none, none, none] = some (.nx [some (.ow ([.int a, .int b])), some (.ow ([.int c', .int d'])), some (.fz (.int (n : Nat))), some (.ow ((List.replicate w (0 : Int)).map .int)), none, none, none, none, none, none, none, none, none, none, none, none, none, none, none]) := by
  obtain ⟨r, c', d', r0, r1, e⟩ := v_draw c d 9 (by decide) (by decide)
  refine ⟨25 + r.toNat, c', d', by omega, by omega, ?_⟩
  have hr : rngD [.int (25 + r)] = some (rangeD 0 (25 + r.toNat)) := by
    rw [rngD_of (rgOk_of (by omega) (by omega))]
    congr 2
    omega
  have hz : (rangeD 0 (25 + r.toNat)).length ≤ sizeLine := by
    unfold rangeD
    rw [List.length_map, List.length_range, sizeLine_eq]; omega
  have g := zer_go a b c' d' (.int (n : Nat)) (25 + r.toNat) 0
  unfold q2
  simp -implicitDefEqProofs only [Ev.nd1, Ev.nd2, Ev.lent_fz, Ev.lent_ow, Ev.lent_oo, Ev.lent_mx, Ev.lent_ln, Ev.lent_nil, Ev.back_nil, Ev.back_tm, Ev.back_sl, Ev.runM_at, Ev.start_at, Ev.seq_at, Ev.pass_at, Ev.brk_at, Ev.cnt_at, Ev.ret_at, Ev.retN_at, Ev.asg_at, Ev.if_at, Ev.drop_at, Ev.tgt_at, Ev.tup_at, Ev.for_at, Ev.P_at, Ev.F_at, Ev.var_at, Ev.c_at, Ev.op_at, Ev.opF_at, Ev.call_at, Ev.call1_at, Ev.un_at, Ev.isi_at, Ev.nil_at, Ev.cons_at, Ev.aNil_at, Ev.aCons_at, Ev.lst_at', Ev.tupE_at, Ev.mix_at, Ev.t_at, Ev.tru_at, Ev.and_at, Ev.or_at, Ev.not_at, Ev.andV_at, Ev.orV_at, Ev.notV_at, Ev.if2_at, Ev.ix_at', Ev.no_at, Ev.yes_at, Ev.sl_at, Ev.rep_at, Ev.fn_at, Ev.fnK_at, Ev.seqL_at, Ev.seqT_at, Ev.enum_at, Ev.zip_at, K30.rng1_D, K30.lr1_D, Ev.lc_at, Ev.lcE_at, Ev.yesT_at, Ev.meth_at, Ev.idx_at, Ev.subApp_at, Ev.sortSet_at, Ev.hName_at, Ev.hNil_at, Ev.hCons_at, Ev.hTup_at, Ev.hSub_at, Ev.turns_nil, Ev.force_fz, Ev.force_ow, Ev.force_oo, Ev.force_mx, Ev.force_sl, Ev.norm_fz, Ev.norm_ow, Ev.norm_sl, Ev.argO_sl, Ev.own_at, Ev.setOwn_at, Ev.flatF, Ev.flatO, Ev.flatL, Ev.data_tm, Ev.data_sl, Ev.toD_fz, Ev.toD_ow, Ev.toD_ln, Ev.toD_oo, Ev.toD_mx, Ev.flat_fz, Ev.flat_ow, Ev.flat_sl, Ev.retP_fz, Ev.retP_ow, Ev.retP_oo, Ev.retP_sl, Ev.putP_fz, Ev.putP_ow, Ev.putP_oo, Ev.putP_mx, Ev.putP_sl, Ev.noLn_at, Ev.argOs_nil, Ev.argOs_cons, Ev.argO_fz, Ev.argO_ow, Ev.slots_nil, Ev.slots_tm, Ev.slots_sl, Ev.bOf_b, Ev.ownP_fz, Ev.ownP_ow, Ev.ownP_sl, Ev.ownPs_nil, Ev.ownPs_cons, Ev.putAll_nil, Ev.putAll_cons, Ev.mixI_nil, Ev.mixI_fz, Ev.mixI_ow, Ev.mixI_oo, Ev.ixD_list, Ev.ixD_tup, Ev.atI_0, Ev.atI_1, Ev.ixN_0, Ev.ixN_1, Ev.gt_ii, Ev.ge_ii, Ev.lt_ii, Ev.le_ii, Ev.add_ii, Ev.add_ll, Ev.sub_ii, Ev.mul_ii, Ev.fdv_ii, Ev.mod_ii, Ev.neg_i, Ev.int_i, Ev.abs_i, Ev.max2_ii, Ev.dvm_ii, Ev.len_l, Ev.len_t, Ev.listO_l, Ev.tupO_l, Ev.ints_map, Ev.intsD_map, Ev.sorted_l, Ev.sl_list, List.map_cons, List.map_nil, List.length_cons, List.length_nil, List.replicate_succ, List.replicate_zero, List.append_nil, List.nil_append, List.cons_append, List.getElem?_cons_zero, List.getElem?_cons_succ, List.getElem?_nil, List.set_cons_zero, List.set_cons_succ, List.set_nil, Option.bind_some, Option.bind_none, Option.map_some, Option.map_none, Nat.reduceAdd, Nat.reduceSub, Nat.reduceEqDiff, Nat.reduceLeDiff, if_true, if_false, reduceCtorEq, List.nodup_nil, Bool.false_eq_true, Bool.not_true, Bool.not_false, Bool.true_and, Bool.false_and, Bool.and_true, Bool.and_false, ↓reduceIte, id_eq, List.tail_cons, Nat.zero_add, List.all_cons, List.all_nil, ne_eq, not_false_eq_true, and_self, and_true, true_and, e, hr, hz, okv, wipe_nil, wipe_cons, g, rest_nil, rest_cons, Option.getD_some]
theorem zer_nd (w : Nat) : (PyData.list ((List.replicate w (0 : Int)).map .int)).hasDict = false := by
  show PyData.hasDictAll _ = false
  induction w with
  | zero => rfl
  | succ w ih => rw [List.replicate_succ, List.map_cons, PyData.hasDictAll, ih]; rfl
theorem s3 (a b c d : Int) (n w : Nat) (hw : w ≤ 33) : q3 [some (.ow ([.int a, .int b])), some (.ow ([.int c, .int d])), some (.fz (.int (n : Nat))), some (.ow ((List.replicate w (0 : Int)).map .int)), none, none, none, none, none, none, none, none, none, none, none, none, none, none, none] = some (.nx [some (.ow ([.int a, .int b])), some (.ow ([.int c, .int d])), some (.fz (.int (n : Nat))), some (.fz (L (List.replicate w 0))), none, some (.ow ([.bool true, .bool false])), none, none, none, none, none, none, none, none, none, none, none, none, none]) := by
  have hl : ∀ ds, PyData.list ((List.replicate w (0 : Int)).map .int) = .list ds → ds.length ≤ 100 := fun ds e => by
    cases e
    rw [List.length_map, List.length_replicate]; omega
  obtain ⟨b1, h1, e1⟩ := v_is_colouring ((((List.replicate w (0 : Int)).map PyData.int).length : Nat) : Int) _ (zer_nd w) hl
  obtain ⟨b2, h2, e2⟩ := v_is_colouring ((((List.replicate w (0 : Int)).map PyData.int).length : Nat) + 1 : Int) _ (zer_nd w) hl
  have t1 : b1 = true := h1.mpr ⟨List.replicate w 0, rfl, by rw [List.length_map], fun x hx => by rw [(List.mem_replicate.mp hx).2]; exact Int.le_refl _, fun x hx j j0 j1 => by
    have := (List.mem_replicate.mp hx).2
    rw [this] at j1
    have : j = 0 := by omega
    rw [this]
    exact List.mem_replicate.mpr ⟨(List.mem_replicate.mp hx).1, rfl⟩⟩
  have t2 : b2 = false := by
    cases hb : b2 with
    | false => rfl
    | true =>
      obtain ⟨ns, q1, q2, _⟩ := h2.mp hb
      have := congrArg (fun d : D => match d with | .list l => l.length | _ => 0) q1
      simp only [List.length_map] at this q2
      omega
  rw [t1] at e1
  rw [t2] at e2
  have z2 : 2 ≤ sizeLine := le_size (by decide)
  unfold q3
  simp -implicitDefEqProofs only [Ev.nd1, Ev.nd2, Ev.lent_fz, Ev.lent_ow, Ev.lent_oo, Ev.lent_mx, Ev.lent_ln, Ev.lent_nil, Ev.back_nil, Ev.back_tm, Ev.back_sl, Ev.runM_at, Ev.start_at, Ev.seq_at, Ev.pass_at, Ev.brk_at, Ev.cnt_at, Ev.ret_at, Ev.retN_at, Ev.asg_at, Ev.if_at, Ev.drop_at, Ev.tgt_at, Ev.tup_at, Ev.for_at, Ev.P_at, Ev.F_at, Ev.var_at, Ev.c_at, Ev.op_at, Ev.opF_at, Ev.call_at, Ev.call1_at, Ev.un_at, Ev.isi_at, Ev.nil_at, Ev.cons_at, Ev.aNil_at, Ev.aCons_at, Ev.lst_at', Ev.tupE_at, Ev.mix_at, Ev.t_at, Ev.tru_at, Ev.and_at, Ev.or_at, Ev.not_at, Ev.andV_at, Ev.orV_at, Ev.notV_at, Ev.if2_at, Ev.ix_at', Ev.no_at, Ev.yes_at, Ev.sl_at, Ev.rep_at, Ev.fn_at, Ev.fnK_at, Ev.seqL_at, Ev.seqT_at, Ev.enum_at, Ev.zip_at, K30.rng1_D, K30.lr1_D, Ev.lc_at, Ev.lcE_at, Ev.yesT_at, Ev.meth_at, Ev.idx_at, Ev.subApp_at, Ev.sortSet_at, Ev.hName_at, Ev.hNil_at, Ev.hCons_at, Ev.hTup_at, Ev.hSub_at, Ev.turns_nil, Ev.force_fz, Ev.force_ow, Ev.force_oo, Ev.force_mx, Ev.force_sl, Ev.norm_fz, Ev.norm_ow, Ev.norm_sl, Ev.argO_sl, Ev.own_at, Ev.setOwn_at, Ev.flatF, Ev.flatO, Ev.flatL, Ev.data_tm, Ev.data_sl, Ev.toD_fz, Ev.toD_ow, Ev.toD_ln, Ev.toD_oo, Ev.toD_mx, Ev.flat_fz, Ev.flat_ow, Ev.flat_sl, Ev.retP_fz, Ev.retP_ow, Ev.retP_oo, Ev.retP_sl, Ev.putP_fz, Ev.putP_ow, Ev.putP_oo, Ev.putP_mx, Ev.putP_sl, Ev.noLn_at, Ev.argOs_nil, Ev.argOs_cons, Ev.argO_fz, Ev.argO_ow, Ev.slots_nil, Ev.slots_tm, Ev.slots_sl, Ev.bOf_b, Ev.ownP_fz, Ev.ownP_ow, Ev.ownP_sl, Ev.ownPs_nil, Ev.ownPs_cons, Ev.putAll_nil, Ev.putAll_cons, Ev.mixI_nil, Ev.mixI_fz, Ev.mixI_ow, Ev.mixI_oo, Ev.ixD_list, Ev.ixD_tup, Ev.atI_0, Ev.atI_1, Ev.ixN_0, Ev.ixN_1, Ev.gt_ii, Ev.ge_ii, Ev.lt_ii, Ev.le_ii, Ev.add_ii, Ev.add_ll, Ev.sub_ii, Ev.mul_ii, Ev.fdv_ii, Ev.mod_ii, Ev.neg_i, Ev.int_i, Ev.abs_i, Ev.max2_ii, Ev.dvm_ii, Ev.len_l, Ev.len_t, Ev.listO_l, Ev.tupO_l, Ev.ints_map, Ev.intsD_map, Ev.sorted_l, Ev.sl_list, List.map_cons, List.map_nil, List.length_cons, List.length_nil, List.replicate_succ, List.replicate_zero, List.append_nil, List.nil_append, List.cons_append, List.getElem?_cons_zero, List.getElem?_cons_succ, List.getElem?_nil, List.set_cons_zero, List.set_cons_succ, List.set_nil, Option.bind_some, Option.bind_none, Option.map_some, Option.map_none, Nat.reduceAdd, Nat.reduceSub, Nat.reduceEqDiff, Nat.reduceLeDiff, if_true, if_false, reduceCtorEq, List.nodup_nil, Bool.false_eq_true, Bool.not_true, Bool.not_false, Bool.true_and, Bool.false_and, Bool.and_true, Bool.and_false, ↓reduceIte, id_eq, List.tail_cons, Nat.zero_add, List.all_cons, List.all_nil, ne_eq, not_false_eq_true, and_self, and_true, true_and, e1, e2, z2]
theorem sm_bools (l : List Bool) (h : l.length ≤ 32) : Sm 1 (.list (l.map .bool)) := sm_list (k := 0) (fun x hx => by
  obtain ⟨b, _, rfl⟩ := List.mem_map.mp hx
  exact sm_bool b) (by rw [List.length_map]; exact h)
theorem repr_bb (x y : Bool) : ∃ s, reprD (.list [.bool x, .bool y]) = some (.str s) := ⟨_, repr_sm (sm_bools [x, y] (show 2 ≤ 32 by decide)) (by decide)⟩
theorem s4 (a b c d : Int) (n : Nat) (Z : D) : q4 [some (.ow ([.int a, .int b])), some (.ow ([.int c, .int d])), some (.fz (.int (n : Nat))), some (.fz (Z)), none, some (.ow ([.bool true, .bool false])), none, none, none, none, none, none, none, none, none, none, none, none, none] = some (.nx [some (.ow ([.int a, .int b])), some (.ow ([.int c, .int d])), some (.fz (.int (n : Nat))), some (.fz (Z)), none, some (.ow ([.bool true, .bool false])), none, none, none, none, none, none, none, none, none, none, none, none, none]) := by
  obtain ⟨s, e⟩ := repr_bb true false
  have z2 : 2 ≤ sizeLine := le_size (by decide)
  unfold q4
  simp -implicitDefEqProofs only [Ev.nd1, Ev.nd2, Ev.lent_fz, Ev.lent_ow, Ev.lent_oo, Ev.lent_mx, Ev.lent_ln, Ev.lent_nil, Ev.back_nil, Ev.back_tm, Ev.back_sl, Ev.runM_at, Ev.start_at, Ev.seq_at, Ev.pass_at, Ev.brk_at, Ev.cnt_at, Ev.ret_at, Ev.retN_at, Ev.asg_at, Ev.if_at, Ev.drop_at, Ev.tgt_at, Ev.tup_at, Ev.for_at, Ev.P_at, Ev.F_at, Ev.var_at, Ev.c_at, Ev.op_at, Ev.opF_at, Ev.call_at, Ev.call1_at, Ev.un_at, Ev.isi_at, Ev.nil_at, Ev.cons_at, Ev.aNil_at, Ev.aCons_at, Ev.lst_at', Ev.tupE_at, Ev.mix_at, Ev.t_at, Ev.tru_at, Ev.and_at, Ev.or_at, Ev.not_at, Ev.andV_at, Ev.orV_at, Ev.notV_at, Ev.if2_at, Ev.ix_at', Ev.no_at, Ev.yes_at, Ev.sl_at, Ev.rep_at, Ev.fn_at, Ev.fnK_at, Ev.seqL_at, Ev.seqT_at, Ev.enum_at, Ev.zip_at, K30.rng1_D, K30.lr1_D, Ev.lc_at, Ev.lcE_at, Ev.yesT_at, Ev.meth_at, Ev.idx_at, Ev.subApp_at, Ev.sortSet_at, Ev.hName_at, Ev.hNil_at, Ev.hCons_at, Ev.hTup_at, Ev.hSub_at, Ev.turns_nil, Ev.force_fz, Ev.force_ow, Ev.force_oo, Ev.force_mx, Ev.force_sl, Ev.norm_fz, Ev.norm_ow, Ev.norm_sl, Ev.argO_sl, Ev.own_at, Ev.setOwn_at, Ev.flatF, Ev.flatO, Ev.flatL, Ev.data_tm, Ev.data_sl, Ev.toD_fz, Ev.toD_ow, Ev.toD_ln, Ev.toD_oo, Ev.toD_mx, Ev.flat_fz, Ev.flat_ow, Ev.flat_sl, Ev.retP_fz, Ev.retP_ow, Ev.retP_oo, Ev.retP_sl, Ev.putP_fz, Ev.putP_ow, Ev.putP_oo, Ev.putP_mx, Ev.putP_sl, Ev.noLn_at, Ev.argOs_nil, Ev.argOs_cons, Ev.argO_fz, Ev.argO_ow, Ev.slots_nil, Ev.slots_tm, Ev.slots_sl, Ev.bOf_b, Ev.ownP_fz, Ev.ownP_ow, Ev.ownP_sl, Ev.ownPs_nil, Ev.ownPs_cons, Ev.putAll_nil, Ev.putAll_cons, Ev.mixI_nil, Ev.mixI_fz, Ev.mixI_ow, Ev.mixI_oo, Ev.ixD_list, Ev.ixD_tup, Ev.atI_0, Ev.atI_1, Ev.ixN_0, Ev.ixN_1, Ev.gt_ii, Ev.ge_ii, Ev.lt_ii, Ev.le_ii, Ev.add_ii, Ev.add_ll, Ev.sub_ii, Ev.mul_ii, Ev.fdv_ii, Ev.mod_ii, Ev.neg_i, Ev.int_i, Ev.abs_i, Ev.max2_ii, Ev.dvm_ii, Ev.len_l, Ev.len_t, Ev.listO_l, Ev.tupO_l, Ev.ints_map, Ev.intsD_map, Ev.sorted_l, Ev.sl_list, List.map_cons, List.map_nil, List.length_cons, List.length_nil, List.replicate_succ, List.replicate_zero, List.append_nil, List.nil_append, List.cons_append, List.getElem?_cons_zero, List.getElem?_cons_succ, List.getElem?_nil, List.set_cons_zero, List.set_cons_succ, List.set_nil, Option.bind_some, Option.bind_none, Option.map_some, Option.map_none, Nat.reduceAdd, Nat.reduceSub, Nat.reduceEqDiff, Nat.reduceLeDiff, if_true, if_false, reduceCtorEq, List.nodup_nil, Bool.false_eq_true, Bool.not_true, Bool.not_false, Bool.true_and, Bool.false_and, Bool.and_true, Bool.and_false, ↓reduceIte, id_eq, List.tail_cons, Nat.zero_add, List.all_cons, List.all_nil, ne_eq, not_false_eq_true, and_self, and_true, true_and, e, ne_same, z2]
theorem s5 (a b c d : Int) (n : Nat) (hn : n ≤ 24) (Z : D) (B : List D) : ∃ (t : List Int) (a' b' : Int), t.length = n ∧ Full t ∧ q5 [some (.ow ([.int a, .int b])), some (.ow ([.int c, .int d])), some (.fz (.int (n : Nat))), some (.fz (Z)), none, some (.ow (B)), none, none, none, none, none, none, none, none, none, none, none, none, none] = some (.nx [some (.ow ([.int a', .int b'])), some (.ow ([.int c, .int d])), some (.fz (.int (n : Nat))), some (.fz (Z)), none, some (.ow (B)), some (.ow (t.map .int)), none, none, none, none, none, none, none, none, none, none, none, none]) := by
  obtain ⟨t, a', b', h1, h2, e⟩ := v_tint n hn a b
  refine ⟨t, a', b', h1, h2, ?_⟩
  unfold q5
  simp -implicitDefEqProofs only [Ev.nd1, Ev.nd2, Ev.lent_fz, Ev.lent_ow, Ev.lent_oo, Ev.lent_mx, Ev.lent_ln, Ev.lent_nil, Ev.back_nil, Ev.back_tm, Ev.back_sl, Ev.runM_at, Ev.start_at, Ev.seq_at, Ev.pass_at, Ev.brk_at, Ev.cnt_at, Ev.ret_at, Ev.retN_at, Ev.asg_at, Ev.if_at, Ev.drop_at, Ev.tgt_at, Ev.tup_at, Ev.for_at, Ev.P_at, Ev.F_at, Ev.var_at, Ev.c_at, Ev.op_at, Ev.opF_at, Ev.call_at, Ev.call1_at, Ev.un_at, Ev.isi_at, Ev.nil_at, Ev.cons_at, Ev.aNil_at, Ev.aCons_at, Ev.lst_at', Ev.tupE_at, Ev.mix_at, Ev.t_at, Ev.tru_at, Ev.and_at, Ev.or_at, Ev.not_at, Ev.andV_at, Ev.orV_at, Ev.notV_at, Ev.if2_at, Ev.ix_at', Ev.no_at, Ev.yes_at, Ev.sl_at, Ev.rep_at, Ev.fn_at, Ev.fnK_at, Ev.seqL_at, Ev.seqT_at, Ev.enum_at, Ev.zip_at, K30.rng1_D, K30.lr1_D, Ev.lc_at, Ev.lcE_at, Ev.yesT_at, Ev.meth_at, Ev.idx_at, Ev.subApp_at, Ev.sortSet_at, Ev.hName_at, Ev.hNil_at, Ev.hCons_at, Ev.hTup_at, Ev.hSub_at, Ev.turns_nil, Ev.force_fz, Ev.force_ow, Ev.force_oo, Ev.force_mx, Ev.force_sl, Ev.norm_fz, Ev.norm_ow, Ev.norm_sl, Ev.argO_sl, Ev.own_at, Ev.setOwn_at, Ev.flatF, Ev.flatO, Ev.flatL, Ev.data_tm, Ev.data_sl, Ev.toD_fz, Ev.toD_ow, Ev.toD_ln, Ev.toD_oo, Ev.toD_mx, Ev.flat_fz, Ev.flat_ow, Ev.flat_sl, Ev.retP_fz, Ev.retP_ow, Ev.retP_oo, Ev.retP_sl, Ev.putP_fz, Ev.putP_ow, Ev.putP_oo, Ev.putP_mx, Ev.putP_sl, Ev.noLn_at, Ev.argOs_nil, Ev.argOs_cons, Ev.argO_fz, Ev.argO_ow, Ev.slots_nil, Ev.slots_tm, Ev.slots_sl, Ev.bOf_b, Ev.ownP_fz, Ev.ownP_ow, Ev.ownP_sl, Ev.ownPs_nil, Ev.ownPs_cons, Ev.putAll_nil, Ev.putAll_cons, Ev.mixI_nil, Ev.mixI_fz, Ev.mixI_ow, Ev.mixI_oo, Ev.ixD_list, Ev.ixD_tup, Ev.atI_0, Ev.atI_1, Ev.ixN_0, Ev.ixN_1, Ev.gt_ii, Ev.ge_ii, Ev.lt_ii, Ev.le_ii, Ev.add_ii, Ev.add_ll, Ev.sub_ii, Ev.mul_ii, Ev.fdv_ii, Ev.mod_ii, Ev.neg_i, Ev.int_i, Ev.abs_i, Ev.max2_ii, Ev.dvm_ii, Ev.len_l, Ev.len_t, Ev.listO_l, Ev.tupO_l, Ev.ints_map, Ev.intsD_map, Ev.sorted_l, Ev.sl_list, List.map_cons, List.map_nil, List.length_cons, List.length_nil, List.replicate_succ, List.replicate_zero, List.append_nil, List.nil_append, List.cons_append, List.getElem?_cons_zero, List.getElem?_cons_succ, List.getElem?_nil, List.set_cons_zero, List.set_cons_succ, List.set_nil, Option.bind_some, Option.bind_none, Option.map_some, Option.map_none, Nat.reduceAdd, Nat.reduceSub, Nat.reduceEqDiff, Nat.reduceLeDiff, if_true, if_false, reduceCtorEq, List.nodup_nil, Bool.false_eq_true, Bool.not_true, Bool.not_false, Bool.true_and, Bool.false_and, Bool.and_true, Bool.and_false, ↓reduceIte, id_eq, List.tail_cons, Nat.zero_add, List.all_cons, List.all_nil, ne_eq, not_false_eq_true, and_self, and_true, true_and, e]
/-- a slot that has the list, frozen or own -/
def Has (o : O) (t : List Int) : Prop := o = .ow (t.map .int) ∨ o = .fz (L t)
theorem s6 (a b c d : Int) (n : Nat) (hn : n ≤ 24) (Z : D) (B : List D) (t : List Int) (ht : t.length = n) : ∃ (o : O) (f : List Int) (c' d' : Int), Has o t ∧ f.length = n ∧ Full f ∧ q6 [some (.ow ([.int a, .int b])), some (.ow ([.int c, .int d])), some (.fz (.int (n : Nat))), some (.fz (Z)), none, some (.ow (B)), some (.ow (t.map .int)), none, none, none, none, none, none, none, none, none, none, none, none] = some (.nx [some (.ow ([.int a, .int b])), some (.ow ([.int c', .int d'])), some (.fz (.int (n : Nat))), some (.fz (Z)), none, some (.ow (B)), some o, some (.ow (f.map .int)), none, none, none, none, none, none, none, none, none, none, none]) := by
  obtain ⟨r, c1, d1, r0, r1, e⟩ := v_draw c d 2 (by decide) (by decide)
  by_cases hr : r = 0
  · obtain ⟨f, c', d', h1, h2, e2⟩ := v_tint n hn c1 d1
    refine ⟨_, f, c', d', .inl rfl, h1, h2, ?_⟩
    unfold q6
    simp -implicitDefEqProofs only [Ev.nd1, Ev.nd2, Ev.lent_fz, Ev.lent_ow, Ev.lent_oo, Ev.lent_mx, Ev.lent_ln, Ev.lent_nil, Ev.back_nil, Ev.back_tm, Ev.back_sl, Ev.runM_at, Ev.start_at, Ev.seq_at, Ev.pass_at, Ev.brk_at, Ev.cnt_at, Ev.ret_at, Ev.retN_at, Ev.asg_at, Ev.if_at, Ev.drop_at, Ev.tgt_at, Ev.tup_at, Ev.for_at, Ev.P_at, Ev.F_at, Ev.var_at, Ev.c_at, Ev.op_at, Ev.opF_at, Ev.call_at, Ev.call1_at, Ev.un_at, Ev.isi_at, Ev.nil_at, Ev.cons_at, Ev.aNil_at, Ev.aCons_at, Ev.lst_at', Ev.tupE_at, Ev.mix_at, Ev.t_at, Ev.tru_at, Ev.and_at, Ev.or_at, Ev.not_at, Ev.andV_at, Ev.orV_at, Ev.notV_at, Ev.if2_at, Ev.ix_at', Ev.no_at, Ev.yes_at, Ev.sl_at, Ev.rep_at, Ev.fn_at, Ev.fnK_at, Ev.seqL_at, Ev.seqT_at, Ev.enum_at, Ev.zip_at, K30.rng1_D, K30.lr1_D, Ev.lc_at, Ev.lcE_at, Ev.yesT_at, Ev.meth_at, Ev.idx_at, Ev.subApp_at, Ev.sortSet_at, Ev.hName_at, Ev.hNil_at, Ev.hCons_at, Ev.hTup_at, Ev.hSub_at, Ev.turns_nil, Ev.force_fz, Ev.force_ow, Ev.force_oo, Ev.force_mx, Ev.force_sl, Ev.norm_fz, Ev.norm_ow, Ev.norm_sl, Ev.argO_sl, Ev.own_at, Ev.setOwn_at, Ev.flatF, Ev.flatO, Ev.flatL, Ev.data_tm, Ev.data_sl, Ev.toD_fz, Ev.toD_ow, Ev.toD_ln, Ev.toD_oo, Ev.toD_mx, Ev.flat_fz, Ev.flat_ow, Ev.flat_sl, Ev.retP_fz, Ev.retP_ow, Ev.retP_oo, Ev.retP_sl, Ev.putP_fz, Ev.putP_ow, Ev.putP_oo, Ev.putP_mx, Ev.putP_sl, Ev.noLn_at, Ev.argOs_nil, Ev.argOs_cons, Ev.argO_fz, Ev.argO_ow, Ev.slots_nil, Ev.slots_tm, Ev.slots_sl, Ev.bOf_b, Ev.ownP_fz, Ev.ownP_ow, Ev.ownP_sl, Ev.ownPs_nil, Ev.ownPs_cons, Ev.putAll_nil, Ev.putAll_cons, Ev.mixI_nil, Ev.mixI_fz, Ev.mixI_ow, Ev.mixI_oo, Ev.ixD_list, Ev.ixD_tup, Ev.atI_0, Ev.atI_1, Ev.ixN_0, Ev.ixN_1, Ev.gt_ii, Ev.ge_ii, Ev.lt_ii, Ev.le_ii, Ev.add_ii, Ev.add_ll, Ev.sub_ii, Ev.mul_ii, Ev.fdv_ii, Ev.mod_ii, Ev.neg_i, Ev.int_i, Ev.abs_i, Ev.max2_ii, Ev.dvm_ii, Ev.len_l, Ev.len_t, Ev.listO_l, Ev.tupO_l, Ev.ints_map, Ev.intsD_map, Ev.sorted_l, Ev.sl_list, List.map_cons, List.map_nil, List.length_cons, List.length_nil, List.replicate_succ, List.replicate_zero, List.append_nil, List.nil_append, List.cons_append, List.getElem?_cons_zero, List.getElem?_cons_succ, List.getElem?_nil, List.set_cons_zero, List.set_cons_succ, List.set_nil, Option.bind_some, Option.bind_none, Option.map_some, Option.map_none, Nat.reduceAdd, Nat.reduceSub, Nat.reduceEqDiff, Nat.reduceLeDiff, if_true, if_false, reduceCtorEq, List.nodup_nil, Bool.false_eq_true, Bool.not_true, Bool.not_false, Bool.true_and, Bool.false_and, Bool.and_true, Bool.and_false, ↓reduceIte, id_eq, List.tail_cons, Nat.zero_add, List.all_cons, List.all_nil, ne_eq, not_false_eq_true, and_self, and_true, true_and, e, eq_ii, (decide_eq_true hr), e2]
  · obtain ⟨f, c', d', h1, h2, e2⟩ := v_coarser t (by omega) c1 d1
    refine ⟨_, f, c', d', .inr rfl, by rw [h1, ht], h2, ?_⟩
    unfold q6
    simp -implicitDefEqProofs only [Ev.nd1, Ev.nd2, Ev.lent_fz, Ev.lent_ow, Ev.lent_oo, Ev.lent_mx, Ev.lent_ln, Ev.lent_nil, Ev.back_nil, Ev.back_tm, Ev.back_sl, Ev.runM_at, Ev.start_at, Ev.seq_at, Ev.pass_at, Ev.brk_at, Ev.cnt_at, Ev.ret_at, Ev.retN_at, Ev.asg_at, Ev.if_at, Ev.drop_at, Ev.tgt_at, Ev.tup_at, Ev.for_at, Ev.P_at, Ev.F_at, Ev.var_at, Ev.c_at, Ev.op_at, Ev.opF_at, Ev.call_at, Ev.call1_at, Ev.un_at, Ev.isi_at, Ev.nil_at, Ev.cons_at, Ev.aNil_at, Ev.aCons_at, Ev.lst_at', Ev.tupE_at, Ev.mix_at, Ev.t_at, Ev.tru_at, Ev.and_at, Ev.or_at, Ev.not_at, Ev.andV_at, Ev.orV_at, Ev.notV_at, Ev.if2_at, Ev.ix_at', Ev.no_at, Ev.yes_at, Ev.sl_at, Ev.rep_at, Ev.fn_at, Ev.fnK_at, Ev.seqL_at, Ev.seqT_at, Ev.enum_at, Ev.zip_at, K30.rng1_D, K30.lr1_D, Ev.lc_at, Ev.lcE_at, Ev.yesT_at, Ev.meth_at, Ev.idx_at, Ev.subApp_at, Ev.sortSet_at, Ev.hName_at, Ev.hNil_at, Ev.hCons_at, Ev.hTup_at, Ev.hSub_at, Ev.turns_nil, Ev.force_fz, Ev.force_ow, Ev.force_oo, Ev.force_mx, Ev.force_sl, Ev.norm_fz, Ev.norm_ow, Ev.norm_sl, Ev.argO_sl, Ev.own_at, Ev.setOwn_at, Ev.flatF, Ev.flatO, Ev.flatL, Ev.data_tm, Ev.data_sl, Ev.toD_fz, Ev.toD_ow, Ev.toD_ln, Ev.toD_oo, Ev.toD_mx, Ev.flat_fz, Ev.flat_ow, Ev.flat_sl, Ev.retP_fz, Ev.retP_ow, Ev.retP_oo, Ev.retP_sl, Ev.putP_fz, Ev.putP_ow, Ev.putP_oo, Ev.putP_mx, Ev.putP_sl, Ev.noLn_at, Ev.argOs_nil, Ev.argOs_cons, Ev.argO_fz, Ev.argO_ow, Ev.slots_nil, Ev.slots_tm, Ev.slots_sl, Ev.bOf_b, Ev.ownP_fz, Ev.ownP_ow, Ev.ownP_sl, Ev.ownPs_nil, Ev.ownPs_cons, Ev.putAll_nil, Ev.putAll_cons, Ev.mixI_nil, Ev.mixI_fz, Ev.mixI_ow, Ev.mixI_oo, Ev.ixD_list, Ev.ixD_tup, Ev.atI_0, Ev.atI_1, Ev.ixN_0, Ev.ixN_1, Ev.gt_ii, Ev.ge_ii, Ev.lt_ii, Ev.le_ii, Ev.add_ii, Ev.add_ll, Ev.sub_ii, Ev.mul_ii, Ev.fdv_ii, Ev.mod_ii, Ev.neg_i, Ev.int_i, Ev.abs_i, Ev.max2_ii, Ev.dvm_ii, Ev.len_l, Ev.len_t, Ev.listO_l, Ev.tupO_l, Ev.ints_map, Ev.intsD_map, Ev.sorted_l, Ev.sl_list, List.map_cons, List.map_nil, List.length_cons, List.length_nil, List.replicate_succ, List.replicate_zero, List.append_nil, List.nil_append, List.cons_append, List.getElem?_cons_zero, List.getElem?_cons_succ, List.getElem?_nil, List.set_cons_zero, List.set_cons_succ, List.set_nil, Option.bind_some, Option.bind_none, Option.map_some, Option.map_none, Nat.reduceAdd, Nat.reduceSub, Nat.reduceEqDiff, Nat.reduceLeDiff, if_true, if_false, reduceCtorEq, List.nodup_nil, Bool.false_eq_true, Bool.not_true, Bool.not_false, Bool.true_and, Bool.false_and, Bool.and_true, Bool.and_false, ↓reduceIte, id_eq, List.tail_cons, Nat.zero_add, List.all_cons, List.all_nil, ne_eq, not_false_eq_true, and_self, and_true, true_and, e, eq_ii, (decide_eq_false hr), e2]
theorem s7 (a b c d : Int) (n : Nat) (hn : n ≤ 24) (Z : D) (B : List D) (o : O) (F : List D) : ∃ (p : List Int) (k : Int) (c' d' : Int), Num n p ∧ q7 [some (.ow ([.int a, .int b])), some (.ow ([.int c, .int d])), some (.fz (.int (n : Nat))), some (.fz (Z)), none, some (.ow (B)), some o, some (.ow (F)), none, none, none, none, none, none, none, none, none, none, none] = some (.nx [some (.ow ([.int a, .int b])), some (.ow ([.int c', .int d'])), some (.fz (.int (n : Nat))), some (.fz (Z)), none, some (.ow (B)), some o, some (.ow (F)), some (.ow (p.map .int)), some (.fz (.int k)), none, none, none, none, none, none, none, none, none]) := by
  obtain ⟨p, c1, d1, h1, e1⟩ := v_row n hn c d
  obtain ⟨r, c2, d2, r0, r1, e2⟩ := v_draw c1 d1 5 (by decide) (by decide)
  refine ⟨p, (n : Int) + r.fdiv 4, c2, d2, h1, ?_⟩
  have z2 : 2 ≤ sizeLine := le_size (by decide)
  have h4 : ((4 : Int) ≠ 0 ∧ (4 : Int).natAbs < 1073741824) := by decide
  unfold q7
  simp -implicitDefEqProofs only [Ev.nd1, Ev.nd2, Ev.lent_fz, Ev.lent_ow, Ev.lent_oo, Ev.lent_mx, Ev.lent_ln, Ev.lent_nil, Ev.back_nil, Ev.back_tm, Ev.back_sl, Ev.runM_at, Ev.start_at, Ev.seq_at, Ev.pass_at, Ev.brk_at, Ev.cnt_at, Ev.ret_at, Ev.retN_at, Ev.asg_at, Ev.if_at, Ev.drop_at, Ev.tgt_at, Ev.tup_at, Ev.for_at, Ev.P_at, Ev.F_at, Ev.var_at, Ev.c_at, Ev.op_at, Ev.opF_at, Ev.call_at, Ev.call1_at, Ev.un_at, Ev.isi_at, Ev.nil_at, Ev.cons_at, Ev.aNil_at, Ev.aCons_at, Ev.lst_at', Ev.tupE_at, Ev.mix_at, Ev.t_at, Ev.tru_at, Ev.and_at, Ev.or_at, Ev.not_at, Ev.andV_at, Ev.orV_at, Ev.notV_at, Ev.if2_at, Ev.ix_at', Ev.no_at, Ev.yes_at, Ev.sl_at, Ev.rep_at, Ev.fn_at, Ev.fnK_at, Ev.seqL_at, Ev.seqT_at, Ev.enum_at, Ev.zip_at, K30.rng1_D, K30.lr1_D, Ev.lc_at, Ev.lcE_at, Ev.yesT_at, Ev.meth_at, Ev.idx_at, Ev.subApp_at, Ev.sortSet_at, Ev.hName_at, Ev.hNil_at, Ev.hCons_at, Ev.hTup_at, Ev.hSub_at, Ev.turns_nil, Ev.force_fz, Ev.force_ow, Ev.force_oo, Ev.force_mx, Ev.force_sl, Ev.norm_fz, Ev.norm_ow, Ev.norm_sl, Ev.argO_sl, Ev.own_at, Ev.setOwn_at, Ev.flatF, Ev.flatO, Ev.flatL, Ev.data_tm, Ev.data_sl, Ev.toD_fz, Ev.toD_ow, Ev.toD_ln, Ev.toD_oo, Ev.toD_mx, Ev.flat_fz, Ev.flat_ow, Ev.flat_sl, Ev.retP_fz, Ev.retP_ow, Ev.retP_oo, Ev.retP_sl, Ev.putP_fz, Ev.putP_ow, Ev.putP_oo, Ev.putP_mx, Ev.putP_sl, Ev.noLn_at, Ev.argOs_nil, Ev.argOs_cons, Ev.argO_fz, Ev.argO_ow, Ev.slots_nil, Ev.slots_tm, Ev.slots_sl, Ev.bOf_b, Ev.ownP_fz, Ev.ownP_ow, Ev.ownP_sl, Ev.ownPs_nil, Ev.ownPs_cons, Ev.putAll_nil, Ev.putAll_cons, Ev.mixI_nil, Ev.mixI_fz, Ev.mixI_ow, Ev.mixI_oo, Ev.ixD_list, Ev.ixD_tup, Ev.atI_0, Ev.atI_1, Ev.ixN_0, Ev.ixN_1, Ev.gt_ii, Ev.ge_ii, Ev.lt_ii, Ev.le_ii, Ev.add_ii, Ev.add_ll, Ev.sub_ii, Ev.mul_ii, Ev.fdv_ii, Ev.mod_ii, Ev.neg_i, Ev.int_i, Ev.abs_i, Ev.max2_ii, Ev.dvm_ii, Ev.len_l, Ev.len_t, Ev.listO_l, Ev.tupO_l, Ev.ints_map, Ev.intsD_map, Ev.sorted_l, Ev.sl_list, List.map_cons, List.map_nil, List.length_cons, List.length_nil, List.replicate_succ, List.replicate_zero, List.append_nil, List.nil_append, List.cons_append, List.getElem?_cons_zero, List.getElem?_cons_succ, List.getElem?_nil, List.set_cons_zero, List.set_cons_succ, List.set_nil, Option.bind_some, Option.bind_none, Option.map_some, Option.map_none, Nat.reduceAdd, Nat.reduceSub, Nat.reduceEqDiff, Nat.reduceLeDiff, if_true, if_false, reduceCtorEq, List.nodup_nil, Bool.false_eq_true, Bool.not_true, Bool.not_false, Bool.true_and, Bool.false_and, Bool.and_true, Bool.and_false, ↓reduceIte, id_eq, List.tail_cons, Nat.zero_add, List.all_cons, List.all_nil, ne_eq, not_false_eq_true, and_self, and_true, true_and, e1, e2, z2, h4]
end K30
end
section
set_option Elab.async false
set_option linter.all false
set_option maxRecDepth 100000
set_option maxHeartbeats 8000000
namespace K30
open PySem PySem.Spec PyProof.Rows L2 Vi Vf Vo Vp Vs Vt Vu Vv Vg Vw Vx Vy Va Vb Vc Ev
theorem fz_cases {u : Option O} (h : isFz u = true) : u = none ∨ ∃ d, u = some (.fz d) := by
  cases u with
  | none => exact .inl rfl
  | some o => cases o <;> first | exact .inr ⟨_, rfl⟩ | cases h
theorem one_col (m : Int) {d : D} (h : Thing d) : ∃ b : Bool, val f_is_colouring [.fz (.int m), .fz d] = some (.fz (.bool b), [none, none]) ∧ val f__law_is_one [.fz (.int m), .fz d] = some (.fz (.bool b), [none, none]) := by
  have hl : ∀ ds, d = .list ds → ds.length ≤ 100 := fun ds e => by have := h.2 ds e; omega
  obtain ⟨b1, h1, e1⟩ := v_is_colouring m d h.1.nd hl
  obtain ⟨b2, h2, e2⟩ := v_is_one m d h.1.nd hl
  have : b1 = b2 := by rw [Bool.eq_iff_iff, h1, h2]
  subst this
  exact ⟨b1, e1, e2⟩
theorem s8b (A0 A1 A3 A6 A7 A8 : Option O) (n k : Int) (B : List D) (d : D) (hd : Thing d) (v : Option O) (hv : isFz v = true) : ∃ (B' : List D) (v' : Option O), isFz v' = true ∧
    q8b [A0, A1, some (.fz (.int n)), A3, none, some (.ow (B)), A6, A7, A8, some (.fz (.int k)), some (.fz (d)), v, none, none, none, none, none, none, none] = some (.nx [A0, A1, some (.fz (.int n)), A3, none, some (.ow (B')), A6, A7, A8, some (.fz (.int k)), some (.fz (d)), v', none, none, none, none, none, none, none]) := by
  obtain ⟨b1, e1, g1⟩ := one_col n hd
  obtain ⟨b2, e2, g2⟩ := one_col k hd
  obtain ⟨s, es⟩ := repr_bb b1 b2
  have ed := repr_sm hd.1 (by decide)
  refine ⟨[.bool b1, .bool b2], some (.fz (.str d.shown)), rfl, ?_⟩
  have z2 : 2 ≤ sizeLine := le_size (by decide)
  unfold q8b
  rcases fz_cases hv with rfl | ⟨w, rfl⟩ <;> simp -implicitDefEqProofs only [Ev.nd1, Ev.nd2, Ev.lent_fz, Ev.lent_ow, Ev.lent_oo, Ev.lent_mx, Ev.lent_ln, Ev.lent_nil, Ev.back_nil, Ev.back_tm, Ev.back_sl, Ev.runM_at, Ev.start_at, Ev.seq_at, Ev.pass_at, Ev.brk_at, Ev.cnt_at, Ev.ret_at, Ev.retN_at, Ev.asg_at, Ev.if_at, Ev.drop_at, Ev.tgt_at, Ev.tup_at, Ev.for_at, Ev.P_at, Ev.F_at, Ev.var_at, Ev.c_at, Ev.op_at, Ev.opF_at, Ev.call_at, Ev.call1_at, Ev.un_at, Ev.isi_at, Ev.nil_at, Ev.cons_at, Ev.aNil_at, Ev.aCons_at, Ev.lst_at', Ev.tupE_at, Ev.mix_at, Ev.t_at, Ev.tru_at, Ev.and_at, Ev.or_at, Ev.not_at, Ev.andV_at, Ev.orV_at, Ev.notV_at, Ev.if2_at, Ev.ix_at', Ev.no_at, Ev.yes_at, Ev.sl_at, Ev.rep_at, Ev.fn_at, Ev.fnK_at, Ev.seqL_at, Ev.seqT_at, Ev.enum_at, Ev.zip_at, K30.rng1_D, K30.lr1_D, Ev.lc_at, Ev.lcE_at, Ev.yesT_at, Ev.meth_at, Ev.idx_at, Ev.subApp_at, Ev.sortSet_at, Ev.hName_at, Ev.hNil_at, Ev.hCons_at, Ev.hTup_at, Ev.hSub_at, Ev.turns_nil, Ev.force_fz, Ev.force_ow, Ev.force_oo, Ev.force_mx, Ev.force_sl, Ev.norm_fz, Ev.norm_ow, Ev.norm_sl, Ev.argO_sl, Ev.own_at, Ev.setOwn_at, Ev.flatF, Ev.flatO, Ev.flatL, Ev.data_tm, Ev.data_sl, Ev.toD_fz, Ev.toD_ow, Ev.toD_ln, Ev.toD_oo, Ev.toD_mx, Ev.flat_fz, Ev.flat_ow, Ev.flat_sl, Ev.retP_fz, Ev.retP_ow, Ev.retP_oo, Ev.retP_sl, Ev.putP_fz, Ev.putP_ow, Ev.putP_oo, Ev.putP_mx, Ev.putP_sl, Ev.noLn_at, Ev.argOs_nil, Ev.argOs_cons, Ev.argO_fz, Ev.argO_ow, Ev.slots_nil, Ev.slots_tm, Ev.slots_sl, Ev.bOf_b, Ev.ownP_fz, Ev.ownP_ow, Ev.ownP_sl, Ev.ownPs_nil, Ev.ownPs_cons, Ev.putAll_nil, Ev.putAll_cons, Ev.mixI_nil, Ev.mixI_fz, Ev.mixI_ow, Ev.mixI_oo, Ev.ixD_list, Ev.ixD_tup, Ev.atI_0, Ev.atI_1, Ev.ixN_0, Ev.ixN_1, Ev.gt_ii, Ev.ge_ii, Ev.lt_ii, Ev.le_ii, Ev.add_ii, Ev.add_ll, Ev.sub_ii, Ev.mul_ii, Ev.fdv_ii, Ev.mod_ii, Ev.neg_i, Ev.int_i, Ev.abs_i, Ev.max2_ii, Ev.dvm_ii, Ev.len_l, Ev.len_t, Ev.listO_l, Ev.tupO_l, Ev.ints_map, Ev.intsD_map, Ev.sorted_l, Ev.sl_list, List.map_cons, List.map_nil, List.length_cons, List.length_nil, List.replicate_succ, List.replicate_zero, List.append_nil, List.nil_append, List.cons_append, List.getElem?_cons_zero, List.getElem?_cons_succ, List.getElem?_nil, List.set_cons_zero, List.set_cons_succ, List.set_nil, Option.bind_some, Option.bind_none, Option.map_some, Option.map_none, Nat.reduceAdd, Nat.reduceSub, Nat.reduceEqDiff, Nat.reduceLeDiff, if_true, if_false, reduceCtorEq, List.nodup_nil, Bool.false_eq_true, Bool.not_true, Bool.not_false, Bool.true_and, Bool.false_and, Bool.and_true, Bool.and_false, ↓reduceIte, id_eq, List.tail_cons, Nat.zero_add, List.all_cons, List.all_nil, ne_eq, not_false_eq_true, and_self, and_true, true_and, e1, e2, g1, g2, ed, es, z2, pm10, nd10, ne_same]
theorem s8t (A0 A1 A3 A6 A7 A8 : Option O) (n k : Int) : ∀ (ds : List D), (∀ d ∈ ds, Thing d) → ∀ (B : List D) (u v : Option O), isFz u = true → isFz v = true → ∃ (B' : List D) (u' v' : Option O), isFz u' = true ∧ isFz v' = true ∧
    turns (hName 10) q8b ds [A0, A1, some (.fz (.int n)), A3, none, some (.ow (B)), A6, A7, A8, some (.fz (.int k)), u, v, none, none, none, none, none, none, none] = some (.nx [A0, A1, some (.fz (.int n)), A3, none, some (.ow (B')), A6, A7, A8, some (.fz (.int k)), u', v', none, none, none, none, none, none, none])
  | [], _, B, u, v, hu, hv => ⟨B, u, v, hu, hv, rfl⟩
  | d :: ds, h, B, u, v, hu, hv => by
    obtain ⟨B1, v1, hv1, e1⟩ := s8b A0 A1 A3 A6 A7 A8 n k B d (h d List.mem_cons_self) v hv
    obtain ⟨B', u', v', hu', hv', e2⟩ := s8t A0 A1 A3 A6 A7 A8 n k ds (fun x hx => h x (List.mem_cons_of_mem _ hx)) B1 (some (.fz d)) v1 rfl hv1
    refine ⟨B', u', v', hu', hv', ?_⟩
    have hn : noLn [A0, A1, some (.fz (.int n)), A3, none, some (.ow (B)), A6, A7, A8, some (.fz (.int k)), u, v, none, none, none, none, none, none, none] 10 = true := noLn_fz (j := 10) rfl hu
    rw [turns, Ev.hName_at, if_pos hn, Option.bind_some]
    show (q8b [A0, A1, some (.fz (.int n)), A3, none, some (.ow (B)), A6, A7, A8, some (.fz (.int k)), some (.fz (d)), v, none, none, none, none, none, none, none]).bind _ = _
    rw [e1, Option.bind_some]
    exact e2
theorem full_abs {n : Nat} {t : List Int} (f : Full t) (h : t.length = n) (hn : n ≤ 24) : ∀ x ∈ t, x.natAbs ≤ 30 := fun x hx => by
  have := f.1 x hx
  have := full_lt f x hx
  omega
theorem full_sm {n : Nat} {t : List Int} (f : Full t) (h : t.length = n) (hn : n ≤ 24) : Sm 1 (L t) := sm_L (fun x hx => Nat.lt_of_le_of_lt (full_abs f h hn x hx) (by decide)) (by omega)
theorem full_thing {n : Nat} {t : List Int} (f : Full t) (h : t.length = n) (hn : n ≤ 24) : Thing (L t) := ⟨(full_sm f h hn).up, fun ds e => by
  cases e
  rw [List.length_map]; omega⟩
theorem s8 (a b c d : Int) (n : Nat) (hn : n ≤ 24) (k : Int) (A3 A8 : Option O) (B : List D) (o : O) (t f : List Int) (ho : Has o t) (ht : t.length = n) (hf : f.length = n) (ft : Full t) (ff : Full f) : ∃ (a' b' c' d' : Int) (B' : List D) (u v : Option O), isFz u = true ∧ isFz v = true ∧
    q8 [some (.ow ([.int a, .int b])), some (.ow ([.int c, .int d])), some (.fz (.int (n : Nat))), A3, none, some (.ow (B)), some o, some (.ow (f.map .int)), A8, some (.fz (.int k)), none, none, none, none, none, none, none, none, none] = some (.nx [some (.ow ([.int a', .int b'])), some (.ow ([.int c', .int d'])), some (.fz (.int (n : Nat))), A3, none, some (.ow (B')), some (.fz (L t)), some (.fz (L f)), A8, some (.fz (.int k)), u, v, none, none, none, none, none, none, none]) := by
  obtain ⟨o1, a', b', h1, e1⟩ := v_near t (by omega) (full_abs ft ht hn) a b
  obtain ⟨o2, c', d', h2, e2⟩ := v_near f (by omega) (full_abs ff hf hn) c d
  have h1' : ∃ x, Thing x ∧ (o1 = .fz x ∨ ∃ ds, x = .list ds ∧ o1 = .ow ds) := by
    rcases h1 with ⟨x, rfl, q⟩ | ⟨ds, rfl, q⟩
    · exact ⟨x, q, .inl rfl⟩
    · exact ⟨_, q, .inr ⟨ds, rfl, rfl⟩⟩
  have h2' : ∃ x, Thing x ∧ (o2 = .fz x ∨ ∃ ds, x = .list ds ∧ o2 = .ow ds) := by
    rcases h2 with ⟨x, rfl, q⟩ | ⟨ds, rfl, q⟩
    · exact ⟨x, q, .inl rfl⟩
    · exact ⟨_, q, .inr ⟨ds, rfl, rfl⟩⟩
  obtain ⟨x1, t1, g1⟩ := h1'
  obtain ⟨x2, t2, g2⟩ := h2'
  obtain ⟨B', u, v, hu, hv, e3⟩ := s8t (some (.ow [.int a', .int b'])) (some (.ow [.int c', .int d'])) A3 (some (.fz (L t))) (some (.fz (L f))) A8 (n : Int) k [L t, x1, x2] (by
    intro y hy
    simp only [List.mem_cons, List.not_mem_nil, or_false] at hy
    rcases hy with rfl | rfl | rfl
    · exact full_thing ft ht hn
    · exact t1
    · exact t2) B none none rfl rfl
  refine ⟨a', b', c', d', B', u, v, hu, hv, ?_⟩
  have z3 : 3 ≤ sizeLine := le_size (by decide)
  unfold q8
  rcases ho with rfl | rfl <;> rcases g1 with rfl | ⟨l1, rfl, rfl⟩ <;> rcases g2 with rfl | ⟨l2, rfl, rfl⟩ <;> simp -implicitDefEqProofs only [Ev.nd1, Ev.nd2, Ev.lent_fz, Ev.lent_ow, Ev.lent_oo, Ev.lent_mx, Ev.lent_ln, Ev.lent_nil, Ev.back_nil, Ev.back_tm, Ev.back_sl, Ev.runM_at, Ev.start_at, Ev.seq_at, Ev.pass_at, Ev.brk_at, Ev.cnt_at, Ev.ret_at, Ev.retN_at, Ev.asg_at, Ev.if_at, Ev.drop_at, Ev.tgt_at, Ev.tup_at, Ev.for_at, Ev.P_at, Ev.F_at, Ev.var_at, Ev.c_at, Ev.op_at, Ev.opF_at, Ev.call_at, Ev.call1_at, Ev.un_at, Ev.isi_at, Ev.nil_at, Ev.cons_at, Ev.aNil_at, Ev.aCons_at, Ev.lst_at', Ev.tupE_at, Ev.mix_at, Ev.t_at, Ev.tru_at, Ev.and_at, Ev.or_at, Ev.not_at, Ev.andV_at, Ev.orV_at, Ev.notV_at, Ev.if2_at, Ev.ix_at', Ev.no_at, Ev.yes_at, Ev.sl_at, Ev.rep_at, Ev.fn_at, Ev.fnK_at, Ev.seqL_at, Ev.seqT_at, Ev.enum_at, Ev.zip_at, K30.rng1_D, K30.lr1_D, Ev.lc_at, Ev.lcE_at, Ev.yesT_at, Ev.meth_at, Ev.idx_at, Ev.subApp_at, Ev.sortSet_at, Ev.hName_at, Ev.hNil_at, Ev.hCons_at, Ev.hTup_at, Ev.hSub_at, Ev.turns_nil, Ev.force_fz, Ev.force_ow, Ev.force_oo, Ev.force_mx, Ev.force_sl, Ev.norm_fz, Ev.norm_ow, Ev.norm_sl, Ev.argO_sl, Ev.own_at, Ev.setOwn_at, Ev.flatF, Ev.flatO, Ev.flatL, Ev.data_tm, Ev.data_sl, Ev.toD_fz, Ev.toD_ow, Ev.toD_ln, Ev.toD_oo, Ev.toD_mx, Ev.flat_fz, Ev.flat_ow, Ev.flat_sl, Ev.retP_fz, Ev.retP_ow, Ev.retP_oo, Ev.retP_sl, Ev.putP_fz, Ev.putP_ow, Ev.putP_oo, Ev.putP_mx, Ev.putP_sl, Ev.noLn_at, Ev.argOs_nil, Ev.argOs_cons, Ev.argO_fz, Ev.argO_ow, Ev.slots_nil, Ev.slots_tm, Ev.slots_sl, Ev.bOf_b, Ev.ownP_fz, Ev.ownP_ow, Ev.ownP_sl, Ev.ownPs_nil, Ev.ownPs_cons, Ev.putAll_nil, Ev.putAll_cons, Ev.mixI_nil, Ev.mixI_fz, Ev.mixI_ow, Ev.mixI_oo, Ev.ixD_list, Ev.ixD_tup, Ev.atI_0, Ev.atI_1, Ev.ixN_0, Ev.ixN_1, Ev.gt_ii, Ev.ge_ii, Ev.lt_ii, Ev.le_ii, Ev.add_ii, Ev.add_ll, Ev.sub_ii, Ev.mul_ii, Ev.fdv_ii, Ev.mod_ii, Ev.neg_i, Ev.int_i, Ev.abs_i, Ev.max2_ii, Ev.dvm_ii, Ev.len_l, Ev.len_t, Ev.listO_l, Ev.tupO_l, Ev.ints_map, Ev.intsD_map, Ev.sorted_l, Ev.sl_list, List.map_cons, List.map_nil, List.length_cons, List.length_nil, List.replicate_succ, List.replicate_zero, List.append_nil, List.nil_append, List.cons_append, List.getElem?_cons_zero, List.getElem?_cons_succ, List.getElem?_nil, List.set_cons_zero, List.set_cons_succ, List.set_nil, Option.bind_some, Option.bind_none, Option.map_some, Option.map_none, Nat.reduceAdd, Nat.reduceSub, Nat.reduceEqDiff, Nat.reduceLeDiff, if_true, if_false, reduceCtorEq, List.nodup_nil, Bool.false_eq_true, Bool.not_true, Bool.not_false, Bool.true_and, Bool.false_and, Bool.and_true, Bool.and_false, ↓reduceIte, id_eq, List.tail_cons, Nat.zero_add, List.all_cons, List.all_nil, ne_eq, not_false_eq_true, and_self, and_true, true_and, e1, e2, e3, z3]
/-! ### two colourings -/
theorem two_col {a b : List Int} (h : a.length = b.length) (hn : b.length ≤ 60) : ∃ x y : Bool, val f_is_finer [.fz (L a), .fz (L b)] = some (.fz (.bool x), [none, none]) ∧ val f_keeps_sequence [.fz (L a), .fz (L b)] = some (.fz (.bool y), [none, none]) ∧ val f__law_compared [.fz (L a), .fz (L b)] = some (.ow [.bool x, .bool y], [none, none]) := by
  obtain ⟨x1, h1, e1⟩ := v_finer a b h (by omega)
  obtain ⟨y1, h2, e2⟩ := v_keeps a b h (by omega)
  obtain ⟨x, y, h3, h4, e3⟩ := v_compared a b h
  have q1 : x1 = x := by rw [Bool.eq_iff_iff, h1, h3]
  have q2 : y1 = y := by rw [Bool.eq_iff_iff, h2, h4]
  subst q1 q2
  exact ⟨x1, y1, e1, e2, e3⟩
theorem s9b (A0 A1 A2 A3 A6 A7 A8 A9 A10 A11 : Option O) (B : List D) (x y : List Int) (h : x.length = y.length) (hn : y.length ≤ 60) : ∃ (B' : List D),
    q9b [A0, A1, A2, A3, none, some (.ow (B)), A6, A7, A8, A9, A10, A11, some (.fz (L x)), some (.fz (L y)), none, none, none, none, none] = some (.nx [A0, A1, A2, A3, none, some (.ow (B')), A6, A7, A8, A9, A10, A11, some (.fz (L x)), some (.fz (L y)), none, none, none, none, none]) := by
  obtain ⟨b1, b2, e1, e2, e3⟩ := two_col h hn
  obtain ⟨s, es⟩ := repr_bb b1 b2
  refine ⟨[.bool b1, .bool b2], ?_⟩
  have z2 : 2 ≤ sizeLine := le_size (by decide)
  unfold q9b
  simp -implicitDefEqProofs only [Ev.nd1, Ev.nd2, Ev.lent_fz, Ev.lent_ow, Ev.lent_oo, Ev.lent_mx, Ev.lent_ln, Ev.lent_nil, Ev.back_nil, Ev.back_tm, Ev.back_sl, Ev.runM_at, Ev.start_at, Ev.seq_at, Ev.pass_at, Ev.brk_at, Ev.cnt_at, Ev.ret_at, Ev.retN_at, Ev.asg_at, Ev.if_at, Ev.drop_at, Ev.tgt_at, Ev.tup_at, Ev.for_at, Ev.P_at, Ev.F_at, Ev.var_at, Ev.c_at, Ev.op_at, Ev.opF_at, Ev.call_at, Ev.call1_at, Ev.un_at, Ev.isi_at, Ev.nil_at, Ev.cons_at, Ev.aNil_at, Ev.aCons_at, Ev.lst_at', Ev.tupE_at, Ev.mix_at, Ev.t_at, Ev.tru_at, Ev.and_at, Ev.or_at, Ev.not_at, Ev.andV_at, Ev.orV_at, Ev.notV_at, Ev.if2_at, Ev.ix_at', Ev.no_at, Ev.yes_at, Ev.sl_at, Ev.rep_at, Ev.fn_at, Ev.fnK_at, Ev.seqL_at, Ev.seqT_at, Ev.enum_at, Ev.zip_at, K30.rng1_D, K30.lr1_D, Ev.lc_at, Ev.lcE_at, Ev.yesT_at, Ev.meth_at, Ev.idx_at, Ev.subApp_at, Ev.sortSet_at, Ev.hName_at, Ev.hNil_at, Ev.hCons_at, Ev.hTup_at, Ev.hSub_at, Ev.turns_nil, Ev.force_fz, Ev.force_ow, Ev.force_oo, Ev.force_mx, Ev.force_sl, Ev.norm_fz, Ev.norm_ow, Ev.norm_sl, Ev.argO_sl, Ev.own_at, Ev.setOwn_at, Ev.flatF, Ev.flatO, Ev.flatL, Ev.data_tm, Ev.data_sl, Ev.toD_fz, Ev.toD_ow, Ev.toD_ln, Ev.toD_oo, Ev.toD_mx, Ev.flat_fz, Ev.flat_ow, Ev.flat_sl, Ev.retP_fz, Ev.retP_ow, Ev.retP_oo, Ev.retP_sl, Ev.putP_fz, Ev.putP_ow, Ev.putP_oo, Ev.putP_mx, Ev.putP_sl, Ev.noLn_at, Ev.argOs_nil, Ev.argOs_cons, Ev.argO_fz, Ev.argO_ow, Ev.slots_nil, Ev.slots_tm, Ev.slots_sl, Ev.bOf_b, Ev.ownP_fz, Ev.ownP_ow, Ev.ownP_sl, Ev.ownPs_nil, Ev.ownPs_cons, Ev.putAll_nil, Ev.putAll_cons, Ev.mixI_nil, Ev.mixI_fz, Ev.mixI_ow, Ev.mixI_oo, Ev.ixD_list, Ev.ixD_tup, Ev.atI_0, Ev.atI_1, Ev.ixN_0, Ev.ixN_1, Ev.gt_ii, Ev.ge_ii, Ev.lt_ii, Ev.le_ii, Ev.add_ii, Ev.add_ll, Ev.sub_ii, Ev.mul_ii, Ev.fdv_ii, Ev.mod_ii, Ev.neg_i, Ev.int_i, Ev.abs_i, Ev.max2_ii, Ev.dvm_ii, Ev.len_l, Ev.len_t, Ev.listO_l, Ev.tupO_l, Ev.ints_map, Ev.intsD_map, Ev.sorted_l, Ev.sl_list, List.map_cons, List.map_nil, List.length_cons, List.length_nil, List.replicate_succ, List.replicate_zero, List.append_nil, List.nil_append, List.cons_append, List.getElem?_cons_zero, List.getElem?_cons_succ, List.getElem?_nil, List.set_cons_zero, List.set_cons_succ, List.set_nil, Option.bind_some, Option.bind_none, Option.map_some, Option.map_none, Nat.reduceAdd, Nat.reduceSub, Nat.reduceEqDiff, Nat.reduceLeDiff, if_true, if_false, reduceCtorEq, List.nodup_nil, Bool.false_eq_true, Bool.not_true, Bool.not_false, Bool.true_and, Bool.false_and, Bool.and_true, Bool.and_false, ↓reduceIte, id_eq, List.tail_cons, Nat.zero_add, List.all_cons, List.all_nil, ne_eq, not_false_eq_true, and_self, and_true, true_and, cut_all, e1, e2, e3, es, z2, ne_same]
def tw (p : List Int × List Int) : D := .tuple [L p.1, L p.2]
theorem s9t (A0 A1 A2 A3 A6 A7 A8 A9 A10 A11 : Option O) : ∀ (ps : List (List Int × List Int)), (∀ p ∈ ps, p.1.length = p.2.length ∧ p.2.length ≤ 60) → ∀ (B : List D) (u v : Option O), isFz u = true → isFz v = true → ∃ (B' : List D) (u' v' : Option O), isFz u' = true ∧ isFz v' = true ∧
    turns (hTup 2 (hCons (hName 12) (hCons (hName 13) hNil))) q9b (ps.map tw) [A0, A1, A2, A3, none, some (.ow (B)), A6, A7, A8, A9, A10, A11, u, v, none, none, none, none, none] = some (.nx [A0, A1, A2, A3, none, some (.ow (B')), A6, A7, A8, A9, A10, A11, u', v', none, none, none, none, none])
  | [], _, B, u, v, hu, hv => ⟨B, u, v, hu, hv, rfl⟩
  | (x, y) :: ps, h, B, u, v, hu, hv => by
    obtain ⟨h1, h2⟩ := h (x, y) List.mem_cons_self
    obtain ⟨B1, e1⟩ := s9b A0 A1 A2 A3 A6 A7 A8 A9 A10 A11 B x y h1 h2
    obtain ⟨B', u', v', hu', hv', e2⟩ := s9t A0 A1 A2 A3 A6 A7 A8 A9 A10 A11 ps (fun p hp => h p (List.mem_cons_of_mem _ hp)) B1 (some (.fz (L x))) (some (.fz (L y))) rfl rfl
    refine ⟨B', u', v', hu', hv', ?_⟩
    have n1 : noLn [A0, A1, A2, A3, none, some (.ow (B)), A6, A7, A8, A9, A10, A11, u, v, none, none, none, none, none] 12 = true := noLn_fz (j := 12) rfl hu
    have n2 : noLn ([A0, A1, A2, A3, none, some (.ow (B)), A6, A7, A8, A9, A10, A11, u, v, none, none, none, none, none].set 12 (some (.fz (L x)))) 13 = true := noLn_fz (j := 13) rfl hv
    rw [List.map_cons, turns]
    show (hTup 2 (hCons (hName 12) (hCons (hName 13) hNil)) (.tuple [L x, L y]) _).bind _ = _
    rw [two_names n1 n2, Option.bind_some]
    show (q9b [A0, A1, A2, A3, none, some (.ow (B)), A6, A7, A8, A9, A10, A11, some (.fz (L x)), some (.fz (L y)), none, none, none, none, none]).bind _ = _
    rw [e1, Option.bind_some]
    exact e2
theorem s9 (A0 A1 A2 A3 A8 A9 A10 A11 : Option O) (B : List D) (t f : List Int) (h : t.length = f.length) (hn : f.length ≤ 60) : ∃ (B' : List D) (u v : Option O), isFz u = true ∧ isFz v = true ∧
    q9 [A0, A1, A2, A3, none, some (.ow (B)), some (.fz (L t)), some (.fz (L f)), A8, A9, A10, A11, none, none, none, none, none, none, none] = some (.nx [A0, A1, A2, A3, none, some (.ow (B')), some (.fz (L t)), some (.fz (L f)), A8, A9, A10, A11, u, v, none, none, none, none, none]) := by
  obtain ⟨B', u, v, hu, hv, e⟩ := s9t A0 A1 A2 A3 (some (.fz (L t))) (some (.fz (L f))) A8 A9 A10 A11 [(t, f), (f, t), (t, t)] (by
    intro p hp
    simp only [List.mem_cons, List.not_mem_nil, or_false] at hp
    rcases hp with rfl | rfl | rfl
    · exact ⟨h, hn⟩
    · exact ⟨h.symm, by show t.length ≤ 60; omega⟩
    · exact ⟨rfl, by show t.length ≤ 60; omega⟩) B none none rfl rfl
  refine ⟨B', u, v, hu, hv, ?_⟩
  have z3 : 3 ≤ sizeLine := le_size (by decide)
  have z2 : 2 ≤ sizeLine := le_size (by decide)
  have e : turns (hTup 2 (hCons (hName 12) (hCons (hName 13) hNil))) q9b [.tuple [L t, L f], .tuple [L f, L t], .tuple [L t, L t]] [A0, A1, A2, A3, none, some (.ow (B)), some (.fz (L t)), some (.fz (L f)), A8, A9, A10, A11, none, none, none, none, none, none, none] = _ := e
  unfold q9
  simp -implicitDefEqProofs only [Ev.nd1, Ev.nd2, Ev.lent_fz, Ev.lent_ow, Ev.lent_oo, Ev.lent_mx, Ev.lent_ln, Ev.lent_nil, Ev.back_nil, Ev.back_tm, Ev.back_sl, Ev.runM_at, Ev.start_at, Ev.seq_at, Ev.pass_at, Ev.brk_at, Ev.cnt_at, Ev.ret_at, Ev.retN_at, Ev.asg_at, Ev.if_at, Ev.drop_at, Ev.tgt_at, Ev.tup_at, Ev.for_at, Ev.P_at, Ev.F_at, Ev.var_at, Ev.c_at, Ev.op_at, Ev.opF_at, Ev.call_at, Ev.call1_at, Ev.un_at, Ev.isi_at, Ev.nil_at, Ev.cons_at, Ev.aNil_at, Ev.aCons_at, Ev.lst_at', Ev.tupE_at, Ev.mix_at, Ev.t_at, Ev.tru_at, Ev.and_at, Ev.or_at, Ev.not_at, Ev.andV_at, Ev.orV_at, Ev.notV_at, Ev.if2_at, Ev.ix_at', Ev.no_at, Ev.yes_at, Ev.sl_at, Ev.rep_at, Ev.fn_at, Ev.fnK_at, Ev.seqL_at, Ev.seqT_at, Ev.enum_at, Ev.zip_at, K30.rng1_D, K30.lr1_D, Ev.lc_at, Ev.lcE_at, Ev.yesT_at, Ev.meth_at, Ev.idx_at, Ev.subApp_at, Ev.sortSet_at, Ev.hName_at, Ev.hNil_at, Ev.hCons_at, Ev.hTup_at, Ev.hSub_at, Ev.turns_nil, Ev.force_fz, Ev.force_ow, Ev.force_oo, Ev.force_mx, Ev.force_sl, Ev.norm_fz, Ev.norm_ow, Ev.norm_sl, Ev.argO_sl, Ev.own_at, Ev.setOwn_at, Ev.flatF, Ev.flatO, Ev.flatL, Ev.data_tm, Ev.data_sl, Ev.toD_fz, Ev.toD_ow, Ev.toD_ln, Ev.toD_oo, Ev.toD_mx, Ev.flat_fz, Ev.flat_ow, Ev.flat_sl, Ev.retP_fz, Ev.retP_ow, Ev.retP_oo, Ev.retP_sl, Ev.putP_fz, Ev.putP_ow, Ev.putP_oo, Ev.putP_mx, Ev.putP_sl, Ev.noLn_at, Ev.argOs_nil, Ev.argOs_cons, Ev.argO_fz, Ev.argO_ow, Ev.slots_nil, Ev.slots_tm, Ev.slots_sl, Ev.bOf_b, Ev.ownP_fz, Ev.ownP_ow, Ev.ownP_sl, Ev.ownPs_nil, Ev.ownPs_cons, Ev.putAll_nil, Ev.putAll_cons, Ev.mixI_nil, Ev.mixI_fz, Ev.mixI_ow, Ev.mixI_oo, Ev.ixD_list, Ev.ixD_tup, Ev.atI_0, Ev.atI_1, Ev.ixN_0, Ev.ixN_1, Ev.gt_ii, Ev.ge_ii, Ev.lt_ii, Ev.le_ii, Ev.add_ii, Ev.add_ll, Ev.sub_ii, Ev.mul_ii, Ev.fdv_ii, Ev.mod_ii, Ev.neg_i, Ev.int_i, Ev.abs_i, Ev.max2_ii, Ev.dvm_ii, Ev.len_l, Ev.len_t, Ev.listO_l, Ev.tupO_l, Ev.ints_map, Ev.intsD_map, Ev.sorted_l, Ev.sl_list, List.map_cons, List.map_nil, List.length_cons, List.length_nil, List.replicate_succ, List.replicate_zero, List.append_nil, List.nil_append, List.cons_append, List.getElem?_cons_zero, List.getElem?_cons_succ, List.getElem?_nil, List.set_cons_zero, List.set_cons_succ, List.set_nil, Option.bind_some, Option.bind_none, Option.map_some, Option.map_none, Nat.reduceAdd, Nat.reduceSub, Nat.reduceEqDiff, Nat.reduceLeDiff, if_true, if_false, reduceCtorEq, List.nodup_nil, Bool.false_eq_true, Bool.not_true, Bool.not_false, Bool.true_and, Bool.false_and, Bool.and_true, Bool.and_false, ↓reduceIte, id_eq, List.tail_cons, Nat.zero_add, List.all_cons, List.all_nil, ne_eq, not_false_eq_true, and_self, and_true, true_and, z2, z3, e]
theorem s10 (A0 A1 A2 A3 A8 A9 A10 A11 A12 A13 : Option O) (B : List D) (t f : List Int) (h : t.length = f.length) (hn : f.length ≤ 60) : ∃ (x y : Bool), val f__law_compared [.fz (L t), .fz (L f)] = some (.ow [.bool x, .bool y], [none, none]) ∧
    q10 [A0, A1, A2, A3, none, some (.ow (B)), some (.fz (L t)), some (.fz (L f)), A8, A9, A10, A11, A12, A13, none, none, none, none, none] = some (.nx [A0, A1, A2, A3, none, some (.ow ([.bool x, .bool y])), some (.fz (L t)), some (.fz (L f)), A8, A9, A10, A11, A12, A13, none, none, none, none, none]) := by
  obtain ⟨x, y, e1, e2, e3⟩ := two_col h hn
  refine ⟨x, y, e3, ?_⟩
  have z2 : 2 ≤ sizeLine := le_size (by decide)
  unfold q10
  simp -implicitDefEqProofs only [Ev.nd1, Ev.nd2, Ev.lent_fz, Ev.lent_ow, Ev.lent_oo, Ev.lent_mx, Ev.lent_ln, Ev.lent_nil, Ev.back_nil, Ev.back_tm, Ev.back_sl, Ev.runM_at, Ev.start_at, Ev.seq_at, Ev.pass_at, Ev.brk_at, Ev.cnt_at, Ev.ret_at, Ev.retN_at, Ev.asg_at, Ev.if_at, Ev.drop_at, Ev.tgt_at, Ev.tup_at, Ev.for_at, Ev.P_at, Ev.F_at, Ev.var_at, Ev.c_at, Ev.op_at, Ev.opF_at, Ev.call_at, Ev.call1_at, Ev.un_at, Ev.isi_at, Ev.nil_at, Ev.cons_at, Ev.aNil_at, Ev.aCons_at, Ev.lst_at', Ev.tupE_at, Ev.mix_at, Ev.t_at, Ev.tru_at, Ev.and_at, Ev.or_at, Ev.not_at, Ev.andV_at, Ev.orV_at, Ev.notV_at, Ev.if2_at, Ev.ix_at', Ev.no_at, Ev.yes_at, Ev.sl_at, Ev.rep_at, Ev.fn_at, Ev.fnK_at, Ev.seqL_at, Ev.seqT_at, Ev.enum_at, Ev.zip_at, K30.rng1_D, K30.lr1_D, Ev.lc_at, Ev.lcE_at, Ev.yesT_at, Ev.meth_at, Ev.idx_at, Ev.subApp_at, Ev.sortSet_at, Ev.hName_at, Ev.hNil_at, Ev.hCons_at, Ev.hTup_at, Ev.hSub_at, Ev.turns_nil, Ev.force_fz, Ev.force_ow, Ev.force_oo, Ev.force_mx, Ev.force_sl, Ev.norm_fz, Ev.norm_ow, Ev.norm_sl, Ev.argO_sl, Ev.own_at, Ev.setOwn_at, Ev.flatF, Ev.flatO, Ev.flatL, Ev.data_tm, Ev.data_sl, Ev.toD_fz, Ev.toD_ow, Ev.toD_ln, Ev.toD_oo, Ev.toD_mx, Ev.flat_fz, Ev.flat_ow, Ev.flat_sl, Ev.retP_fz, Ev.retP_ow, Ev.retP_oo, Ev.retP_sl, Ev.putP_fz, Ev.putP_ow, Ev.putP_oo, Ev.putP_mx, Ev.putP_sl, Ev.noLn_at, Ev.argOs_nil, Ev.argOs_cons, Ev.argO_fz, Ev.argO_ow, Ev.slots_nil, Ev.slots_tm, Ev.slots_sl, Ev.bOf_b, Ev.ownP_fz, Ev.ownP_ow, Ev.ownP_sl, Ev.ownPs_nil, Ev.ownPs_cons, Ev.putAll_nil, Ev.putAll_cons, Ev.mixI_nil, Ev.mixI_fz, Ev.mixI_ow, Ev.mixI_oo, Ev.ixD_list, Ev.ixD_tup, Ev.atI_0, Ev.atI_1, Ev.ixN_0, Ev.ixN_1, Ev.gt_ii, Ev.ge_ii, Ev.lt_ii, Ev.le_ii, Ev.add_ii, Ev.add_ll, Ev.sub_ii, Ev.mul_ii, Ev.fdv_ii, Ev.mod_ii, Ev.neg_i, Ev.int_i, Ev.abs_i, Ev.max2_ii, Ev.dvm_ii, Ev.len_l, Ev.len_t, Ev.listO_l, Ev.tupO_l, Ev.ints_map, Ev.intsD_map, Ev.sorted_l, Ev.sl_list, List.map_cons, List.map_nil, List.length_cons, List.length_nil, List.replicate_succ, List.replicate_zero, List.append_nil, List.nil_append, List.cons_append, List.getElem?_cons_zero, List.getElem?_cons_succ, List.getElem?_nil, List.set_cons_zero, List.set_cons_succ, List.set_nil, Option.bind_some, Option.bind_none, Option.map_some, Option.map_none, Nat.reduceAdd, Nat.reduceSub, Nat.reduceEqDiff, Nat.reduceLeDiff, if_true, if_false, reduceCtorEq, List.nodup_nil, Bool.false_eq_true, Bool.not_true, Bool.not_false, Bool.true_and, Bool.false_and, Bool.and_true, Bool.and_false, ↓reduceIte, id_eq, List.tail_cons, Nat.zero_add, List.all_cons, List.all_nil, ne_eq, not_false_eq_true, and_self, and_true, true_and, e1, e2, z2, pm10, nd10]
theorem s11 (A0 A1 A2 A3 A8 A9 A10 A11 A12 A13 : Option O) (t f : List Int) (x y : Bool) (e : val f__law_compared [.fz (L t), .fz (L f)] = some (.ow [.bool x, .bool y], [none, none])) :
    q11 [A0, A1, A2, A3, none, some (.ow ([.bool x, .bool y])), some (.fz (L t)), some (.fz (L f)), A8, A9, A10, A11, A12, A13, none, none, none, none, none] = some (.nx [A0, A1, A2, A3, none, some (.ow ([.bool x, .bool y])), some (.fz (L t)), some (.fz (L f)), A8, A9, A10, A11, A12, A13, none, none, none, none, none]) := by
  obtain ⟨s, es⟩ := repr_bb x y
  unfold q11
  simp -implicitDefEqProofs only [Ev.nd1, Ev.nd2, Ev.lent_fz, Ev.lent_ow, Ev.lent_oo, Ev.lent_mx, Ev.lent_ln, Ev.lent_nil, Ev.back_nil, Ev.back_tm, Ev.back_sl, Ev.runM_at, Ev.start_at, Ev.seq_at, Ev.pass_at, Ev.brk_at, Ev.cnt_at, Ev.ret_at, Ev.retN_at, Ev.asg_at, Ev.if_at, Ev.drop_at, Ev.tgt_at, Ev.tup_at, Ev.for_at, Ev.P_at, Ev.F_at, Ev.var_at, Ev.c_at, Ev.op_at, Ev.opF_at, Ev.call_at, Ev.call1_at, Ev.un_at, Ev.isi_at, Ev.nil_at, Ev.cons_at, Ev.aNil_at, Ev.aCons_at, Ev.lst_at', Ev.tupE_at, Ev.mix_at, Ev.t_at, Ev.tru_at, Ev.and_at, Ev.or_at, Ev.not_at, Ev.andV_at, Ev.orV_at, Ev.notV_at, Ev.if2_at, Ev.ix_at', Ev.no_at, Ev.yes_at, Ev.sl_at, Ev.rep_at, Ev.fn_at, Ev.fnK_at, Ev.seqL_at, Ev.seqT_at, Ev.enum_at, Ev.zip_at, K30.rng1_D, K30.lr1_D, Ev.lc_at, Ev.lcE_at, Ev.yesT_at, Ev.meth_at, Ev.idx_at, Ev.subApp_at, Ev.sortSet_at, Ev.hName_at, Ev.hNil_at, Ev.hCons_at, Ev.hTup_at, Ev.hSub_at, Ev.turns_nil, Ev.force_fz, Ev.force_ow, Ev.force_oo, Ev.force_mx, Ev.force_sl, Ev.norm_fz, Ev.norm_ow, Ev.norm_sl, Ev.argO_sl, Ev.own_at, Ev.setOwn_at, Ev.flatF, Ev.flatO, Ev.flatL, Ev.data_tm, Ev.data_sl, Ev.toD_fz, Ev.toD_ow, Ev.toD_ln, Ev.toD_oo, Ev.toD_mx, Ev.flat_fz, Ev.flat_ow, Ev.flat_sl, Ev.retP_fz, Ev.retP_ow, Ev.retP_oo, Ev.retP_sl, Ev.putP_fz, Ev.putP_ow, Ev.putP_oo, Ev.putP_mx, Ev.putP_sl, Ev.noLn_at, Ev.argOs_nil, Ev.argOs_cons, Ev.argO_fz, Ev.argO_ow, Ev.slots_nil, Ev.slots_tm, Ev.slots_sl, Ev.bOf_b, Ev.ownP_fz, Ev.ownP_ow, Ev.ownP_sl, Ev.ownPs_nil, Ev.ownPs_cons, Ev.putAll_nil, Ev.putAll_cons, Ev.mixI_nil, Ev.mixI_fz, Ev.mixI_ow, Ev.mixI_oo, Ev.ixD_list, Ev.ixD_tup, Ev.atI_0, Ev.atI_1, Ev.ixN_0, Ev.ixN_1, Ev.gt_ii, Ev.ge_ii, Ev.lt_ii, Ev.le_ii, Ev.add_ii, Ev.add_ll, Ev.sub_ii, Ev.mul_ii, Ev.fdv_ii, Ev.mod_ii, Ev.neg_i, Ev.int_i, Ev.abs_i, Ev.max2_ii, Ev.dvm_ii, Ev.len_l, Ev.len_t, Ev.listO_l, Ev.tupO_l, Ev.ints_map, Ev.intsD_map, Ev.sorted_l, Ev.sl_list, List.map_cons, List.map_nil, List.length_cons, List.length_nil, List.replicate_succ, List.replicate_zero, List.append_nil, List.nil_append, List.cons_append, List.getElem?_cons_zero, List.getElem?_cons_succ, List.getElem?_nil, List.set_cons_zero, List.set_cons_succ, List.set_nil, Option.bind_some, Option.bind_none, Option.map_some, Option.map_none, Nat.reduceAdd, Nat.reduceSub, Nat.reduceEqDiff, Nat.reduceLeDiff, if_true, if_false, reduceCtorEq, List.nodup_nil, Bool.false_eq_true, Bool.not_true, Bool.not_false, Bool.true_and, Bool.false_and, Bool.and_true, Bool.and_false, ↓reduceIte, id_eq, List.tail_cons, Nat.zero_add, List.all_cons, List.all_nil, ne_eq, not_false_eq_true, and_self, and_true, true_and, e, es, ne_same]
end K30
end
section
set_option Elab.async false
set_option linter.all false
set_option maxRecDepth 100000
set_option maxHeartbeats 8000000
namespace K30
open PySem PySem.Spec PyProof.Rows L2 Vi Vf Vo Vp Vs Vt Vu Vv Vg Vw Vx Vy Va Vb Vc Ev
theorem it_fz {d : D} : I.toD (.fz d) = d := rfl
theorem it_ow {ds : List D} : I.toD (.ow ds) = .list ds := rfl
theorem it_oo {dss : List (List D)} : I.toD (.oo dss) = .list (dss.map .list) := rfl
abbrev CD (t : List Int) : List D := (LL (cells t)).map .list
abbrev SZ (t : List Int) : List Int := (cells t).map fun r => (r.length : Int)
theorem s12 (A0 A1 A2 A3 A5 A7 A8 A9 A10 A11 A12 A13 : Option O) (t : List Int) (f : Full t) (hn : t.length ≤ 24) :
    q12 [A0, A1, A2, A3, none, A5, some (.fz (L t)), A7, A8, A9, A10, A11, A12, A13, none, none, none, none, none] = some (.nx [A0, A1, A2, A3, none, A5, some (.fz (L t)), A7, A8, A9, A10, A11, A12, A13, some (.ow (CD t)), none, none, none, none]) := by
  have e := v_law_cells t f (by omega)
  unfold q12
  simp -implicitDefEqProofs only [Ev.nd1, Ev.nd2, Ev.lent_fz, Ev.lent_ow, Ev.lent_oo, Ev.lent_mx, Ev.lent_ln, Ev.lent_nil, Ev.back_nil, Ev.back_tm, Ev.back_sl, Ev.runM_at, Ev.start_at, Ev.seq_at, Ev.pass_at, Ev.brk_at, Ev.cnt_at, Ev.ret_at, Ev.retN_at, Ev.asg_at, Ev.if_at, Ev.drop_at, Ev.tgt_at, Ev.tup_at, Ev.for_at, Ev.P_at, Ev.F_at, Ev.var_at, Ev.c_at, Ev.op_at, Ev.opF_at, Ev.call_at, Ev.call1_at, Ev.un_at, Ev.isi_at, Ev.nil_at, Ev.cons_at, Ev.aNil_at, Ev.aCons_at, Ev.lst_at', Ev.tupE_at, Ev.mix_at, Ev.t_at, Ev.tru_at, Ev.and_at, Ev.or_at, Ev.not_at, Ev.andV_at, Ev.orV_at, Ev.notV_at, Ev.if2_at, Ev.ix_at', Ev.no_at, Ev.yes_at, Ev.sl_at, Ev.rep_at, Ev.fn_at, Ev.fnK_at, Ev.seqL_at, Ev.seqT_at, Ev.enum_at, Ev.zip_at, K30.rng1_D, K30.lr1_D, Ev.lc_at, Ev.lcE_at, Ev.yesT_at, Ev.meth_at, Ev.idx_at, Ev.subApp_at, Ev.sortSet_at, Ev.hName_at, Ev.hNil_at, Ev.hCons_at, Ev.hTup_at, Ev.hSub_at, Ev.turns_nil, Ev.force_fz, Ev.force_ow, Ev.force_oo, Ev.force_mx, Ev.force_sl, Ev.norm_fz, Ev.norm_ow, Ev.norm_sl, Ev.argO_sl, Ev.own_at, Ev.setOwn_at, Ev.flatF, Ev.flatO, Ev.flatL, Ev.data_tm, Ev.data_sl, Ev.toD_fz, Ev.toD_ow, Ev.toD_ln, Ev.toD_oo, Ev.toD_mx, Ev.flat_fz, Ev.flat_ow, Ev.flat_sl, Ev.retP_fz, Ev.retP_ow, Ev.retP_oo, Ev.retP_sl, Ev.putP_fz, Ev.putP_ow, Ev.putP_oo, Ev.putP_mx, Ev.putP_sl, Ev.noLn_at, Ev.argOs_nil, Ev.argOs_cons, Ev.argO_fz, Ev.argO_ow, Ev.slots_nil, Ev.slots_tm, Ev.slots_sl, Ev.bOf_b, Ev.ownP_fz, Ev.ownP_ow, Ev.ownP_sl, Ev.ownPs_nil, Ev.ownPs_cons, Ev.putAll_nil, Ev.putAll_cons, Ev.mixI_nil, Ev.mixI_fz, Ev.mixI_ow, Ev.mixI_oo, Ev.ixD_list, Ev.ixD_tup, Ev.atI_0, Ev.atI_1, Ev.ixN_0, Ev.ixN_1, Ev.gt_ii, Ev.ge_ii, Ev.lt_ii, Ev.le_ii, Ev.add_ii, Ev.add_ll, Ev.sub_ii, Ev.mul_ii, Ev.fdv_ii, Ev.mod_ii, Ev.neg_i, Ev.int_i, Ev.abs_i, Ev.max2_ii, Ev.dvm_ii, Ev.len_l, Ev.len_t, Ev.listO_l, Ev.tupO_l, Ev.ints_map, Ev.intsD_map, Ev.sorted_l, Ev.sl_list, List.map_cons, List.map_nil, List.length_cons, List.length_nil, List.replicate_succ, List.replicate_zero, List.append_nil, List.nil_append, List.cons_append, List.getElem?_cons_zero, List.getElem?_cons_succ, List.getElem?_nil, List.set_cons_zero, List.set_cons_succ, List.set_nil, Option.bind_some, Option.bind_none, Option.map_some, Option.map_none, Nat.reduceAdd, Nat.reduceSub, Nat.reduceEqDiff, Nat.reduceLeDiff, if_true, if_false, reduceCtorEq, List.nodup_nil, Bool.false_eq_true, Bool.not_true, Bool.not_false, Bool.true_and, Bool.false_and, Bool.and_true, Bool.and_false, ↓reduceIte, id_eq, List.tail_cons, Nat.zero_add, List.all_cons, List.all_nil, ne_eq, not_false_eq_true, and_self, and_true, true_and, e]
theorem sz_go (A0 A1 A2 A3 A5 A6 A7 A8 A9 A10 A11 A12 A13 A14 : Option O) : ∀ (rs : List (List Int)), lcGo [16] (hName 16) eYesT (eCall1 lenD (eVar 16)) ((LL rs).map .list) [A0, A1, A2, A3, none, A5, A6, A7, A8, A9, A10, A11, A12, A13, A14, none, none, none, none] = some ((rs.map fun r => (r.length : Int)).map .int, [A0, A1, A2, A3, none, A5, A6, A7, A8, A9, A10, A11, A12, A13, A14, none, none, none, none])
  | [] => rfl
  | r :: rs => by
    have ih := sz_go A0 A1 A2 A3 A5 A6 A7 A8 A9 A10 A11 A12 A13 A14 rs
    rw [LL, List.map_cons, List.map_cons, lcGo]
    simp -implicitDefEqProofs only [Ev.nd1, Ev.nd2, Ev.lent_fz, Ev.lent_ow, Ev.lent_oo, Ev.lent_mx, Ev.lent_ln, Ev.lent_nil, Ev.back_nil, Ev.back_tm, Ev.back_sl, Ev.runM_at, Ev.start_at, Ev.seq_at, Ev.pass_at, Ev.brk_at, Ev.cnt_at, Ev.ret_at, Ev.retN_at, Ev.asg_at, Ev.if_at, Ev.drop_at, Ev.tgt_at, Ev.tup_at, Ev.for_at, Ev.P_at, Ev.F_at, Ev.var_at, Ev.c_at, Ev.op_at, Ev.opF_at, Ev.call_at, Ev.call1_at, Ev.un_at, Ev.isi_at, Ev.nil_at, Ev.cons_at, Ev.aNil_at, Ev.aCons_at, Ev.lst_at', Ev.tupE_at, Ev.mix_at, Ev.t_at, Ev.tru_at, Ev.and_at, Ev.or_at, Ev.not_at, Ev.andV_at, Ev.orV_at, Ev.notV_at, Ev.if2_at, Ev.ix_at', Ev.no_at, Ev.yes_at, Ev.sl_at, Ev.rep_at, Ev.fn_at, Ev.fnK_at, Ev.seqL_at, Ev.seqT_at, Ev.enum_at, Ev.zip_at, K30.rng1_D, K30.lr1_D, Ev.lc_at, Ev.lcE_at, Ev.yesT_at, Ev.meth_at, Ev.idx_at, Ev.subApp_at, Ev.sortSet_at, Ev.hName_at, Ev.hNil_at, Ev.hCons_at, Ev.hTup_at, Ev.hSub_at, Ev.turns_nil, Ev.force_fz, Ev.force_ow, Ev.force_oo, Ev.force_mx, Ev.force_sl, Ev.norm_fz, Ev.norm_ow, Ev.norm_sl, Ev.argO_sl, Ev.own_at, Ev.setOwn_at, Ev.flatF, Ev.flatO, Ev.flatL, Ev.data_tm, Ev.data_sl, Ev.toD_fz, Ev.toD_ow, Ev.toD_ln, Ev.toD_oo, Ev.toD_mx, Ev.flat_fz, Ev.flat_ow, Ev.flat_sl, Ev.retP_fz, Ev.retP_ow, Ev.retP_oo, Ev.retP_sl, Ev.putP_fz, Ev.putP_ow, Ev.putP_oo, Ev.putP_mx, Ev.putP_sl, Ev.noLn_at, Ev.argOs_nil, Ev.argOs_cons, Ev.argO_fz, Ev.argO_ow, Ev.slots_nil, Ev.slots_tm, Ev.slots_sl, Ev.bOf_b, Ev.ownP_fz, Ev.ownP_ow, Ev.ownP_sl, Ev.ownPs_nil, Ev.ownPs_cons, Ev.putAll_nil, Ev.putAll_cons, Ev.mixI_nil, Ev.mixI_fz, Ev.mixI_ow, Ev.mixI_oo, Ev.ixD_list, Ev.ixD_tup, Ev.atI_0, Ev.atI_1, Ev.ixN_0, Ev.ixN_1, Ev.gt_ii, Ev.ge_ii, Ev.lt_ii, Ev.le_ii, Ev.add_ii, Ev.add_ll, Ev.sub_ii, Ev.mul_ii, Ev.fdv_ii, Ev.mod_ii, Ev.neg_i, Ev.int_i, Ev.abs_i, Ev.max2_ii, Ev.dvm_ii, Ev.len_l, Ev.len_t, Ev.listO_l, Ev.tupO_l, Ev.ints_map, Ev.intsD_map, Ev.sorted_l, Ev.sl_list, List.map_cons, List.map_nil, List.length_cons, List.length_nil, List.replicate_succ, List.replicate_zero, List.append_nil, List.nil_append, List.cons_append, List.getElem?_cons_zero, List.getElem?_cons_succ, List.getElem?_nil, List.set_cons_zero, List.set_cons_succ, List.set_nil, Option.bind_some, Option.bind_none, Option.map_some, Option.map_none, Nat.reduceAdd, Nat.reduceSub, Nat.reduceEqDiff, Nat.reduceLeDiff, if_true, if_false, reduceCtorEq, List.nodup_nil, Bool.false_eq_true, Bool.not_true, Bool.not_false, Bool.true_and, Bool.false_and, Bool.and_true, Bool.and_false, ↓reduceIte, id_eq, List.tail_cons, Nat.zero_add, List.all_cons, List.all_nil, ne_eq, not_false_eq_true, and_self, and_true, true_and, wipe_nil, wipe_cons, List.length_map]
    rw [show List.map PyData.list (List.map (fun r => List.map PyData.int r) rs) = (LL rs).map .list from rfl, ih]
    rfl
theorem CD_len (t : List Int) : (CD t).length = cz t := by rw [CD, LL, List.length_map, List.length_map, cells_len]
theorem s13 (A0 A1 A2 A3 A5 A6 A7 A8 A9 A10 A11 A12 A13 : Option O) (t : List Int) (hn : t.length ≤ 24) :
    q13 [A0, A1, A2, A3, none, A5, A6, A7, A8, A9, A10, A11, A12, A13, some (.ow (CD t)), none, none, none, none] = some (.nx [A0, A1, A2, A3, none, A5, A6, A7, A8, A9, A10, A11, A12, A13, some (.fz (.list (CD t))), some (.ow ((SZ t).map .int)), none, none, none]) := by
  have hz : (CD t).length ≤ sizeLine := by
    have := cz_le t
    rw [CD_len, sizeLine_eq]; omega
  have g := sz_go A0 A1 A2 A3 A5 A6 A7 A8 A9 A10 A11 A12 A13 (some (.fz (.list (CD t)))) (cells t)
  unfold q13
  simp -implicitDefEqProofs only [Ev.nd1, Ev.nd2, Ev.lent_fz, Ev.lent_ow, Ev.lent_oo, Ev.lent_mx, Ev.lent_ln, Ev.lent_nil, Ev.back_nil, Ev.back_tm, Ev.back_sl, Ev.runM_at, Ev.start_at, Ev.seq_at, Ev.pass_at, Ev.brk_at, Ev.cnt_at, Ev.ret_at, Ev.retN_at, Ev.asg_at, Ev.if_at, Ev.drop_at, Ev.tgt_at, Ev.tup_at, Ev.for_at, Ev.P_at, Ev.F_at, Ev.var_at, Ev.c_at, Ev.op_at, Ev.opF_at, Ev.call_at, Ev.call1_at, Ev.un_at, Ev.isi_at, Ev.nil_at, Ev.cons_at, Ev.aNil_at, Ev.aCons_at, Ev.lst_at', Ev.tupE_at, Ev.mix_at, Ev.t_at, Ev.tru_at, Ev.and_at, Ev.or_at, Ev.not_at, Ev.andV_at, Ev.orV_at, Ev.notV_at, Ev.if2_at, Ev.ix_at', Ev.no_at, Ev.yes_at, Ev.sl_at, Ev.rep_at, Ev.fn_at, Ev.fnK_at, Ev.seqL_at, Ev.seqT_at, Ev.enum_at, Ev.zip_at, K30.rng1_D, K30.lr1_D, Ev.lc_at, Ev.lcE_at, Ev.yesT_at, Ev.meth_at, Ev.idx_at, Ev.subApp_at, Ev.sortSet_at, Ev.hName_at, Ev.hNil_at, Ev.hCons_at, Ev.hTup_at, Ev.hSub_at, Ev.turns_nil, Ev.force_fz, Ev.force_ow, Ev.force_oo, Ev.force_mx, Ev.force_sl, Ev.norm_fz, Ev.norm_ow, Ev.norm_sl, Ev.argO_sl, Ev.own_at, Ev.setOwn_at, Ev.flatF, Ev.flatO, Ev.flatL, Ev.data_tm, Ev.data_sl, Ev.toD_fz, Ev.toD_ow, Ev.toD_ln, Ev.toD_oo, Ev.toD_mx, Ev.flat_fz, Ev.flat_ow, Ev.flat_sl, Ev.retP_fz, Ev.retP_ow, Ev.retP_oo, Ev.retP_sl, Ev.putP_fz, Ev.putP_ow, Ev.putP_oo, Ev.putP_mx, Ev.putP_sl, Ev.noLn_at, Ev.argOs_nil, Ev.argOs_cons, Ev.argO_fz, Ev.argO_ow, Ev.slots_nil, Ev.slots_tm, Ev.slots_sl, Ev.bOf_b, Ev.ownP_fz, Ev.ownP_ow, Ev.ownP_sl, Ev.ownPs_nil, Ev.ownPs_cons, Ev.putAll_nil, Ev.putAll_cons, Ev.mixI_nil, Ev.mixI_fz, Ev.mixI_ow, Ev.mixI_oo, Ev.ixD_list, Ev.ixD_tup, Ev.atI_0, Ev.atI_1, Ev.ixN_0, Ev.ixN_1, Ev.gt_ii, Ev.ge_ii, Ev.lt_ii, Ev.le_ii, Ev.add_ii, Ev.add_ll, Ev.sub_ii, Ev.mul_ii, Ev.fdv_ii, Ev.mod_ii, Ev.neg_i, Ev.int_i, Ev.abs_i, Ev.max2_ii, Ev.dvm_ii, Ev.len_l, Ev.len_t, Ev.listO_l, Ev.tupO_l, Ev.ints_map, Ev.intsD_map, Ev.sorted_l, Ev.sl_list, List.map_cons, List.map_nil, List.length_cons, List.length_nil, List.replicate_succ, List.replicate_zero, List.append_nil, List.nil_append, List.cons_append, List.getElem?_cons_zero, List.getElem?_cons_succ, List.getElem?_nil, List.set_cons_zero, List.set_cons_succ, List.set_nil, Option.bind_some, Option.bind_none, Option.map_some, Option.map_none, Nat.reduceAdd, Nat.reduceSub, Nat.reduceEqDiff, Nat.reduceLeDiff, if_true, if_false, reduceCtorEq, List.nodup_nil, Bool.false_eq_true, Bool.not_true, Bool.not_false, Bool.true_and, Bool.false_and, Bool.and_true, Bool.and_false, ↓reduceIte, id_eq, List.tail_cons, Nat.zero_add, List.all_cons, List.all_nil, ne_eq, not_false_eq_true, and_self, and_true, true_and, hz, okv, wipe_nil, wipe_cons, g, rest_nil, rest_cons, Option.getD_some]
theorem s14 (A0 A1 A2 A3 A7 A8 A9 A10 A11 A12 A13 A14 A15 : Option O) (B : List D) (t : List Int) (f : Full t) (hn : t.length ≤ 24) :
    q14 [A0, A1, A2, A3, none, some (.ow (B)), some (.fz (L t)), A7, A8, A9, A10, A11, A12, A13, A14, A15, none, none, none] = some (.nx [A0, A1, A2, A3, none, some (.mx [.oo (LL (cells t)), .ow ((SZ t).map .int), .fz (.bool (decide (cz t = t.length)))]), some (.fz (L t)), A7, A8, A9, A10, A11, A12, A13, A14, A15, none, none, none]) := by
  have e1 := v_cells_of t f (by omega)
  have e2 := v_trace_of t f (by omega)
  have e3 := v_discrete t (by omega)
  have z3 : 3 ≤ sizeLine := le_size (by decide)
  unfold q14
  simp -implicitDefEqProofs only [Ev.nd1, Ev.nd2, Ev.lent_fz, Ev.lent_ow, Ev.lent_oo, Ev.lent_mx, Ev.lent_ln, Ev.lent_nil, Ev.back_nil, Ev.back_tm, Ev.back_sl, Ev.runM_at, Ev.start_at, Ev.seq_at, Ev.pass_at, Ev.brk_at, Ev.cnt_at, Ev.ret_at, Ev.retN_at, Ev.asg_at, Ev.if_at, Ev.drop_at, Ev.tgt_at, Ev.tup_at, Ev.for_at, Ev.P_at, Ev.F_at, Ev.var_at, Ev.c_at, Ev.op_at, Ev.opF_at, Ev.call_at, Ev.call1_at, Ev.un_at, Ev.isi_at, Ev.nil_at, Ev.cons_at, Ev.aNil_at, Ev.aCons_at, Ev.lst_at', Ev.tupE_at, Ev.mix_at, Ev.t_at, Ev.tru_at, Ev.and_at, Ev.or_at, Ev.not_at, Ev.andV_at, Ev.orV_at, Ev.notV_at, Ev.if2_at, Ev.ix_at', Ev.no_at, Ev.yes_at, Ev.sl_at, Ev.rep_at, Ev.fn_at, Ev.fnK_at, Ev.seqL_at, Ev.seqT_at, Ev.enum_at, Ev.zip_at, K30.rng1_D, K30.lr1_D, Ev.lc_at, Ev.lcE_at, Ev.yesT_at, Ev.meth_at, Ev.idx_at, Ev.subApp_at, Ev.sortSet_at, Ev.hName_at, Ev.hNil_at, Ev.hCons_at, Ev.hTup_at, Ev.hSub_at, Ev.turns_nil, Ev.force_fz, Ev.force_ow, Ev.force_oo, Ev.force_mx, Ev.force_sl, Ev.norm_fz, Ev.norm_ow, Ev.norm_sl, Ev.argO_sl, Ev.own_at, Ev.setOwn_at, Ev.flatF, Ev.flatO, Ev.flatL, Ev.data_tm, Ev.data_sl, Ev.toD_fz, Ev.toD_ow, Ev.toD_ln, Ev.toD_oo, Ev.toD_mx, Ev.flat_fz, Ev.flat_ow, Ev.flat_sl, Ev.retP_fz, Ev.retP_ow, Ev.retP_oo, Ev.retP_sl, Ev.putP_fz, Ev.putP_ow, Ev.putP_oo, Ev.putP_mx, Ev.putP_sl, Ev.noLn_at, Ev.argOs_nil, Ev.argOs_cons, Ev.argO_fz, Ev.argO_ow, Ev.slots_nil, Ev.slots_tm, Ev.slots_sl, Ev.bOf_b, Ev.ownP_fz, Ev.ownP_ow, Ev.ownP_sl, Ev.ownPs_nil, Ev.ownPs_cons, Ev.putAll_nil, Ev.putAll_cons, Ev.mixI_nil, Ev.mixI_fz, Ev.mixI_ow, Ev.mixI_oo, Ev.ixD_list, Ev.ixD_tup, Ev.atI_0, Ev.atI_1, Ev.ixN_0, Ev.ixN_1, Ev.gt_ii, Ev.ge_ii, Ev.lt_ii, Ev.le_ii, Ev.add_ii, Ev.add_ll, Ev.sub_ii, Ev.mul_ii, Ev.fdv_ii, Ev.mod_ii, Ev.neg_i, Ev.int_i, Ev.abs_i, Ev.max2_ii, Ev.dvm_ii, Ev.len_l, Ev.len_t, Ev.listO_l, Ev.tupO_l, Ev.ints_map, Ev.intsD_map, Ev.sorted_l, Ev.sl_list, List.map_cons, List.map_nil, List.length_cons, List.length_nil, List.replicate_succ, List.replicate_zero, List.append_nil, List.nil_append, List.cons_append, List.getElem?_cons_zero, List.getElem?_cons_succ, List.getElem?_nil, List.set_cons_zero, List.set_cons_succ, List.set_nil, Option.bind_some, Option.bind_none, Option.map_some, Option.map_none, Nat.reduceAdd, Nat.reduceSub, Nat.reduceEqDiff, Nat.reduceLeDiff, if_true, if_false, reduceCtorEq, List.nodup_nil, Bool.false_eq_true, Bool.not_true, Bool.not_false, Bool.true_and, Bool.false_and, Bool.and_true, Bool.and_false, ↓reduceIte, id_eq, List.tail_cons, Nat.zero_add, List.all_cons, List.all_nil, ne_eq, not_false_eq_true, and_self, and_true, true_and, e1, e2, e3, z3, pm0, nd0]
/-! ### what can be shown -/
theorem sm_cells {t : List Int} (hn : t.length ≤ 24) : Sm 2 (.list (CD t)) := by
  have := cz_le t
  refine sm_list (fun x hx => ?_) (by rw [CD_len]; omega)
  obtain ⟨r, hr, rfl⟩ := List.mem_map.mp hx
  obtain ⟨q, hq, rfl⟩ := List.mem_map.mp hr
  obtain ⟨j, hj, rfl⟩ := List.mem_map.mp hq
  exact sm_L (fun z hz => by
    have := pl_mem _ _ _ _ hz
    exact Nat.lt_of_le_of_lt (show z.natAbs ≤ 30 by omega) (by decide)) (Nat.le_trans (pl_len _ _ _) (by omega))
theorem sm_sizes {t : List Int} (hn : t.length ≤ 24) : Sm 1 (L (SZ t)) := by
  have := cz_le t
  refine sm_L (fun x hx => ?_) (by rw [SZ, List.length_map, cells_len]; omega)
  obtain ⟨r, hr, rfl⟩ := List.mem_map.mp hx
  obtain ⟨j, hj, rfl⟩ := List.mem_map.mp hr
  exact Nat.lt_of_le_of_lt (show (((pl (j : Int) 0 t).length : Nat) : Int).natAbs ≤ 30 by have := pl_len (j : Int) t 0; omega) (by decide)
theorem sm_cons2 {k : Nat} {x y : D} (hx : Sm k x) (hy : Sm k y) : Sm (k + 1) (.list [x, y]) := sm_list (fun z hz => by
  rcases List.mem_cons.mp hz with rfl | hz
  · exact hx
  · rw [List.mem_singleton.mp hz]; exact hy) (by simp)
theorem sm_cons3 {k : Nat} {x y w : D} (hx : Sm k x) (hy : Sm k y) (hw : Sm k w) : Sm (k + 1) (.list [x, y, w]) := sm_list (fun z hz => by
  rcases List.mem_cons.mp hz with rfl | hz
  · exact hx
  rcases List.mem_cons.mp hz with rfl | hz
  · exact hy
  · rw [List.mem_singleton.mp hz]; exact hw) (by simp)
theorem s15 (A0 A1 A3 A7 A8 A9 A10 A11 A12 A13 : Option O) (n : Nat) (t : List Int) (hn : t.length ≤ 24) (ht : t.length = n) :
    q15 [A0, A1, some (.fz (.int (n : Nat))), A3, none, some (.mx [.oo (LL (cells t)), .ow ((SZ t).map .int), .fz (.bool (decide (cz t = t.length)))]), some (.fz (L t)), A7, A8, A9, A10, A11, A12, A13, some (.fz (.list (CD t))), some (.ow ((SZ t).map .int)), none, none, none] = some (.nx [A0, A1, some (.fz (.int (n : Nat))), A3, none, some (.mx [.oo (LL (cells t)), .ow ((SZ t).map .int), .fz (.bool (decide (cz t = t.length)))]), some (.fz (L t)), A7, A8, A9, A10, A11, A12, A13, some (.fz (.list (CD t))), some (.fz (L (SZ t))), none, none, none]) := by
  have he : eqX (.int (((CD t).length : Nat) : Int)) (.int (n : Nat)) = some (.bool (decide (cz t = t.length))) := by
    rw [eq_ii, CD_len, ht]
    congr 2
    exact decide_eq_decide.mpr (by omega)
  have er : reprD (.list [.list (CD t), L (SZ t), .bool (decide (cz t = t.length))]) = some (.str _) := repr_sm (sm_cons3 (sm_cells hn) (sm_sizes hn).up (sm_bool _).up.up) (by decide)
  have z3 : 3 ≤ sizeLine := le_size (by decide)
  unfold q15
  simp -implicitDefEqProofs only [Ev.nd1, Ev.nd2, Ev.lent_fz, Ev.lent_ow, Ev.lent_oo, Ev.lent_mx, Ev.lent_ln, Ev.lent_nil, Ev.back_nil, Ev.back_tm, Ev.back_sl, Ev.runM_at, Ev.start_at, Ev.seq_at, Ev.pass_at, Ev.brk_at, Ev.cnt_at, Ev.ret_at, Ev.retN_at, Ev.asg_at, Ev.if_at, Ev.drop_at, Ev.tgt_at, Ev.tup_at, Ev.for_at, Ev.P_at, Ev.F_at, Ev.var_at, Ev.c_at, Ev.op_at, Ev.opF_at, Ev.call_at, Ev.call1_at, Ev.un_at, Ev.isi_at, Ev.nil_at, Ev.cons_at, Ev.aNil_at, Ev.aCons_at, Ev.lst_at', Ev.tupE_at, Ev.mix_at, Ev.t_at, Ev.tru_at, Ev.and_at, Ev.or_at, Ev.not_at, Ev.andV_at, Ev.orV_at, Ev.notV_at, Ev.if2_at, Ev.ix_at', Ev.no_at, Ev.yes_at, Ev.sl_at, Ev.rep_at, Ev.fn_at, Ev.fnK_at, Ev.seqL_at, Ev.seqT_at, Ev.enum_at, Ev.zip_at, K30.rng1_D, K30.lr1_D, Ev.lc_at, Ev.lcE_at, Ev.yesT_at, Ev.meth_at, Ev.idx_at, Ev.subApp_at, Ev.sortSet_at, Ev.hName_at, Ev.hNil_at, Ev.hCons_at, Ev.hTup_at, Ev.hSub_at, Ev.turns_nil, Ev.force_fz, Ev.force_ow, Ev.force_oo, Ev.force_mx, Ev.force_sl, Ev.norm_fz, Ev.norm_ow, Ev.norm_sl, Ev.argO_sl, Ev.own_at, Ev.setOwn_at, Ev.flatF, Ev.flatO, Ev.flatL, Ev.data_tm, Ev.data_sl, Ev.toD_fz, Ev.toD_ow, Ev.toD_ln, Ev.toD_oo, Ev.toD_mx, Ev.flat_fz, Ev.flat_ow, Ev.flat_sl, Ev.retP_fz, Ev.retP_ow, Ev.retP_oo, Ev.retP_sl, Ev.putP_fz, Ev.putP_ow, Ev.putP_oo, Ev.putP_mx, Ev.putP_sl, Ev.noLn_at, Ev.argOs_nil, Ev.argOs_cons, Ev.argO_fz, Ev.argO_ow, Ev.slots_nil, Ev.slots_tm, Ev.slots_sl, Ev.bOf_b, Ev.ownP_fz, Ev.ownP_ow, Ev.ownP_sl, Ev.ownPs_nil, Ev.ownPs_cons, Ev.putAll_nil, Ev.putAll_cons, Ev.mixI_nil, Ev.mixI_fz, Ev.mixI_ow, Ev.mixI_oo, Ev.ixD_list, Ev.ixD_tup, Ev.atI_0, Ev.atI_1, Ev.ixN_0, Ev.ixN_1, Ev.gt_ii, Ev.ge_ii, Ev.lt_ii, Ev.le_ii, Ev.add_ii, Ev.add_ll, Ev.sub_ii, Ev.mul_ii, Ev.fdv_ii, Ev.mod_ii, Ev.neg_i, Ev.int_i, Ev.abs_i, Ev.max2_ii, Ev.dvm_ii, Ev.len_l, Ev.len_t, Ev.listO_l, Ev.tupO_l, Ev.ints_map, Ev.intsD_map, Ev.sorted_l, Ev.sl_list, List.map_cons, List.map_nil, List.length_cons, List.length_nil, List.replicate_succ, List.replicate_zero, List.append_nil, List.nil_append, List.cons_append, List.getElem?_cons_zero, List.getElem?_cons_succ, List.getElem?_nil, List.set_cons_zero, List.set_cons_succ, List.set_nil, Option.bind_some, Option.bind_none, Option.map_some, Option.map_none, Nat.reduceAdd, Nat.reduceSub, Nat.reduceEqDiff, Nat.reduceLeDiff, if_true, if_false, reduceCtorEq, List.nodup_nil, Bool.false_eq_true, Bool.not_true, Bool.not_false, Bool.true_and, Bool.false_and, Bool.and_true, Bool.and_false, ↓reduceIte, id_eq, List.tail_cons, Nat.zero_add, List.all_cons, List.all_nil, ne_eq, not_false_eq_true, and_self, and_true, true_and, he, er, z3, ne_same, it_fz, it_ow, it_oo]
theorem s16 (A0 A1 A2 A3 A6 A7 A8 A9 A10 A11 A12 A13 A14 A15 : Option O) (t : List Int) (hn : t.length ≤ 24) (i2 i3 : I) :
    q16 [A0, A1, A2, A3, none, some (.mx [.oo (LL (cells t)), i2, i3]), A6, A7, A8, A9, A10, A11, A12, A13, A14, A15, none, none, none] = some (.nx [A0, A1, A2, A3, none, none, A6, A7, A8, A9, A10, A11, A12, A13, A14, A15, none, none, none]) := by
  have ha : ((LL (cells t)).all fun es => decide (es.length < sizeLine)) = true := by
    rw [List.all_eq_true]
    intro x hx
    obtain ⟨q, hq, rfl⟩ := List.mem_map.mp hx
    obtain ⟨j, hj, rfl⟩ := List.mem_map.mp hq
    have := pl_len (j : Int) t 0
    rw [decide_eq_true_eq, List.length_map, sizeLine_eq]; omega
  have hs : (sv PyData.none).isSome = true := rfl
  unfold q16 mSpoil
  simp -implicitDefEqProofs only [Ev.nd1, Ev.nd2, Ev.lent_fz, Ev.lent_ow, Ev.lent_oo, Ev.lent_mx, Ev.lent_ln, Ev.lent_nil, Ev.back_nil, Ev.back_tm, Ev.back_sl, Ev.runM_at, Ev.start_at, Ev.seq_at, Ev.pass_at, Ev.brk_at, Ev.cnt_at, Ev.ret_at, Ev.retN_at, Ev.asg_at, Ev.if_at, Ev.drop_at, Ev.tgt_at, Ev.tup_at, Ev.for_at, Ev.P_at, Ev.F_at, Ev.var_at, Ev.c_at, Ev.op_at, Ev.opF_at, Ev.call_at, Ev.call1_at, Ev.un_at, Ev.isi_at, Ev.nil_at, Ev.cons_at, Ev.aNil_at, Ev.aCons_at, Ev.lst_at', Ev.tupE_at, Ev.mix_at, Ev.t_at, Ev.tru_at, Ev.and_at, Ev.or_at, Ev.not_at, Ev.andV_at, Ev.orV_at, Ev.notV_at, Ev.if2_at, Ev.ix_at', Ev.no_at, Ev.yes_at, Ev.sl_at, Ev.rep_at, Ev.fn_at, Ev.fnK_at, Ev.seqL_at, Ev.seqT_at, Ev.enum_at, Ev.zip_at, K30.rng1_D, K30.lr1_D, Ev.lc_at, Ev.lcE_at, Ev.yesT_at, Ev.meth_at, Ev.idx_at, Ev.subApp_at, Ev.sortSet_at, Ev.hName_at, Ev.hNil_at, Ev.hCons_at, Ev.hTup_at, Ev.hSub_at, Ev.turns_nil, Ev.force_fz, Ev.force_ow, Ev.force_oo, Ev.force_mx, Ev.force_sl, Ev.norm_fz, Ev.norm_ow, Ev.norm_sl, Ev.argO_sl, Ev.own_at, Ev.setOwn_at, Ev.flatF, Ev.flatO, Ev.flatL, Ev.data_tm, Ev.data_sl, Ev.toD_fz, Ev.toD_ow, Ev.toD_ln, Ev.toD_oo, Ev.toD_mx, Ev.flat_fz, Ev.flat_ow, Ev.flat_sl, Ev.retP_fz, Ev.retP_ow, Ev.retP_oo, Ev.retP_sl, Ev.putP_fz, Ev.putP_ow, Ev.putP_oo, Ev.putP_mx, Ev.putP_sl, Ev.noLn_at, Ev.argOs_nil, Ev.argOs_cons, Ev.argO_fz, Ev.argO_ow, Ev.slots_nil, Ev.slots_tm, Ev.slots_sl, Ev.bOf_b, Ev.ownP_fz, Ev.ownP_ow, Ev.ownP_sl, Ev.ownPs_nil, Ev.ownPs_cons, Ev.putAll_nil, Ev.putAll_cons, Ev.mixI_nil, Ev.mixI_fz, Ev.mixI_ow, Ev.mixI_oo, Ev.ixD_list, Ev.ixD_tup, Ev.atI_0, Ev.atI_1, Ev.ixN_0, Ev.ixN_1, Ev.gt_ii, Ev.ge_ii, Ev.lt_ii, Ev.le_ii, Ev.add_ii, Ev.add_ll, Ev.sub_ii, Ev.mul_ii, Ev.fdv_ii, Ev.mod_ii, Ev.neg_i, Ev.int_i, Ev.abs_i, Ev.max2_ii, Ev.dvm_ii, Ev.len_l, Ev.len_t, Ev.listO_l, Ev.tupO_l, Ev.ints_map, Ev.intsD_map, Ev.sorted_l, Ev.sl_list, List.map_cons, List.map_nil, List.length_cons, List.length_nil, List.replicate_succ, List.replicate_zero, List.append_nil, List.nil_append, List.cons_append, List.getElem?_cons_zero, List.getElem?_cons_succ, List.getElem?_nil, List.set_cons_zero, List.set_cons_succ, List.set_nil, Option.bind_some, Option.bind_none, Option.map_some, Option.map_none, Nat.reduceAdd, Nat.reduceSub, Nat.reduceEqDiff, Nat.reduceLeDiff, if_true, if_false, reduceCtorEq, List.nodup_nil, Bool.false_eq_true, Bool.not_true, Bool.not_false, Bool.true_and, Bool.false_and, Bool.and_true, Bool.and_false, ↓reduceIte, id_eq, List.tail_cons, Nat.zero_add, List.all_cons, List.all_nil, ne_eq, not_false_eq_true, and_self, and_true, true_and, ha, hs]
theorem z_go (A0 A1 A2 A3 A5 A6 A7 A8 A9 A10 A11 A12 A13 A14 A15 : Option O) : ∀ (ds : List D), lcGo [4] (hName 4) eYesT (eC (.int 0)) ds [A0, A1, A2, A3, none, A5, A6, A7, A8, A9, A10, A11, A12, A13, A14, A15, none, none, none] = some ((List.replicate ds.length (0 : Int)).map .int, [A0, A1, A2, A3, none, A5, A6, A7, A8, A9, A10, A11, A12, A13, A14, A15, none, none, none])
  | [] => rfl
  | d :: ds => by
    have ih := z_go A0 A1 A2 A3 A5 A6 A7 A8 A9 A10 A11 A12 A13 A14 A15 ds
    rw [lcGo]
    simp -implicitDefEqProofs only [Ev.nd1, Ev.nd2, Ev.lent_fz, Ev.lent_ow, Ev.lent_oo, Ev.lent_mx, Ev.lent_ln, Ev.lent_nil, Ev.back_nil, Ev.back_tm, Ev.back_sl, Ev.runM_at, Ev.start_at, Ev.seq_at, Ev.pass_at, Ev.brk_at, Ev.cnt_at, Ev.ret_at, Ev.retN_at, Ev.asg_at, Ev.if_at, Ev.drop_at, Ev.tgt_at, Ev.tup_at, Ev.for_at, Ev.P_at, Ev.F_at, Ev.var_at, Ev.c_at, Ev.op_at, Ev.opF_at, Ev.call_at, Ev.call1_at, Ev.un_at, Ev.isi_at, Ev.nil_at, Ev.cons_at, Ev.aNil_at, Ev.aCons_at, Ev.lst_at', Ev.tupE_at, Ev.mix_at, Ev.t_at, Ev.tru_at, Ev.and_at, Ev.or_at, Ev.not_at, Ev.andV_at, Ev.orV_at, Ev.notV_at, Ev.if2_at, Ev.ix_at', Ev.no_at, Ev.yes_at, Ev.sl_at, Ev.rep_at, Ev.fn_at, Ev.fnK_at, Ev.seqL_at, Ev.seqT_at, Ev.enum_at, Ev.zip_at, K30.rng1_D, K30.lr1_D, Ev.lc_at, Ev.lcE_at, Ev.yesT_at, Ev.meth_at, Ev.idx_at, Ev.subApp_at, Ev.sortSet_at, Ev.hName_at, Ev.hNil_at, Ev.hCons_at, Ev.hTup_at, Ev.hSub_at, Ev.turns_nil, Ev.force_fz, Ev.force_ow, Ev.force_oo, Ev.force_mx, Ev.force_sl, Ev.norm_fz, Ev.norm_ow, Ev.norm_sl, Ev.argO_sl, Ev.own_at, Ev.setOwn_at, Ev.flatF, Ev.flatO, Ev.flatL, Ev.data_tm, Ev.data_sl, Ev.toD_fz, Ev.toD_ow, Ev.toD_ln, Ev.toD_oo, Ev.toD_mx, Ev.flat_fz, Ev.flat_ow, Ev.flat_sl, Ev.retP_fz, Ev.retP_ow, Ev.retP_oo, Ev.retP_sl, Ev.putP_fz, Ev.putP_ow, Ev.putP_oo, Ev.putP_mx, Ev.putP_sl, Ev.noLn_at, Ev.argOs_nil, Ev.argOs_cons, Ev.argO_fz, Ev.argO_ow, Ev.slots_nil, Ev.slots_tm, Ev.slots_sl, Ev.bOf_b, Ev.ownP_fz, Ev.ownP_ow, Ev.ownP_sl, Ev.ownPs_nil, Ev.ownPs_cons, Ev.putAll_nil, Ev.putAll_cons, Ev.mixI_nil, Ev.mixI_fz, Ev.mixI_ow, Ev.mixI_oo, Ev.ixD_list, Ev.ixD_tup, Ev.atI_0, Ev.atI_1, Ev.ixN_0, Ev.ixN_1, Ev.gt_ii, Ev.ge_ii, Ev.lt_ii, Ev.le_ii, Ev.add_ii, Ev.add_ll, Ev.sub_ii, Ev.mul_ii, Ev.fdv_ii, Ev.mod_ii, Ev.neg_i, Ev.int_i, Ev.abs_i, Ev.max2_ii, Ev.dvm_ii, Ev.len_l, Ev.len_t, Ev.listO_l, Ev.tupO_l, Ev.ints_map, Ev.intsD_map, Ev.sorted_l, Ev.sl_list, List.map_cons, List.map_nil, List.length_cons, List.length_nil, List.replicate_succ, List.replicate_zero, List.append_nil, List.nil_append, List.cons_append, List.getElem?_cons_zero, List.getElem?_cons_succ, List.getElem?_nil, List.set_cons_zero, List.set_cons_succ, List.set_nil, Option.bind_some, Option.bind_none, Option.map_some, Option.map_none, Nat.reduceAdd, Nat.reduceSub, Nat.reduceEqDiff, Nat.reduceLeDiff, if_true, if_false, reduceCtorEq, List.nodup_nil, Bool.false_eq_true, Bool.not_true, Bool.not_false, Bool.true_and, Bool.false_and, Bool.and_true, Bool.and_false, ↓reduceIte, id_eq, List.tail_cons, Nat.zero_add, List.all_cons, List.all_nil, ne_eq, not_false_eq_true, and_self, and_true, true_and, wipe_nil, wipe_cons, ih]
theorem num_sm {n : Nat} {p : List Int} (h : Num n p) (hn : n ≤ 24) : Sm 1 (L p) := sm_L (fun x hx => Nat.lt_of_le_of_lt (show x.natAbs ≤ 30 by have := h.mem.mp hx; omega) (by decide)) (by rw [h.len]; omega)
theorem s17 (A0 A1 A2 A3 A7 A9 A10 A12 A13 A14 A15 v : Option O) (hv : isFz v = true) (n : Nat) (t p : List Int) (hn : n ≤ 24) (ht : t.length = n) (ft : Full t) (hp : Num n p) : ∃ s, reprD (.list [L t, L p]) = some (.str s) ∧
    q17 [A0, A1, A2, A3, none, none, some (.fz (L t)), A7, some (.ow (p.map .int)), A9, A10, v, A12, A13, A14, A15, none, none, none] = some (.nx [A0, A1, A2, A3, none, none, some (.fz (L t)), A7, some (.fz (L p)), A9, A10, some (.fz (.str s)), A12, A13, A14, A15, none, some (.ow ((List.replicate n (0 : Int)).map .int)), none]) := by
  have er := repr_sm (sm_cons2 (full_sm ft ht hn) (num_sm hp hn)) (by decide)
  refine ⟨_, er, ?_⟩
  have hz : (t.map PyData.int).length ≤ sizeLine := by rw [List.length_map, sizeLine_eq]; omega
  have z2 : 2 ≤ sizeLine := le_size (by decide)
  have g := z_go A0 A1 A2 A3 none (some (.fz (L t))) A7 (some (.ow (p.map .int))) A9 A10 v A12 A13 A14 A15 (t.map .int)
  rw [List.length_map, ht] at g
  unfold q17
  rcases fz_cases hv with rfl | ⟨w, rfl⟩ <;> simp -implicitDefEqProofs only [Ev.nd1, Ev.nd2, Ev.lent_fz, Ev.lent_ow, Ev.lent_oo, Ev.lent_mx, Ev.lent_ln, Ev.lent_nil, Ev.back_nil, Ev.back_tm, Ev.back_sl, Ev.runM_at, Ev.start_at, Ev.seq_at, Ev.pass_at, Ev.brk_at, Ev.cnt_at, Ev.ret_at, Ev.retN_at, Ev.asg_at, Ev.if_at, Ev.drop_at, Ev.tgt_at, Ev.tup_at, Ev.for_at, Ev.P_at, Ev.F_at, Ev.var_at, Ev.c_at, Ev.op_at, Ev.opF_at, Ev.call_at, Ev.call1_at, Ev.un_at, Ev.isi_at, Ev.nil_at, Ev.cons_at, Ev.aNil_at, Ev.aCons_at, Ev.lst_at', Ev.tupE_at, Ev.mix_at, Ev.t_at, Ev.tru_at, Ev.and_at, Ev.or_at, Ev.not_at, Ev.andV_at, Ev.orV_at, Ev.notV_at, Ev.if2_at, Ev.ix_at', Ev.no_at, Ev.yes_at, Ev.sl_at, Ev.rep_at, Ev.fn_at, Ev.fnK_at, Ev.seqL_at, Ev.seqT_at, Ev.enum_at, Ev.zip_at, K30.rng1_D, K30.lr1_D, Ev.lc_at, Ev.lcE_at, Ev.yesT_at, Ev.meth_at, Ev.idx_at, Ev.subApp_at, Ev.sortSet_at, Ev.hName_at, Ev.hNil_at, Ev.hCons_at, Ev.hTup_at, Ev.hSub_at, Ev.turns_nil, Ev.force_fz, Ev.force_ow, Ev.force_oo, Ev.force_mx, Ev.force_sl, Ev.norm_fz, Ev.norm_ow, Ev.norm_sl, Ev.argO_sl, Ev.own_at, Ev.setOwn_at, Ev.flatF, Ev.flatO, Ev.flatL, Ev.data_tm, Ev.data_sl, Ev.toD_fz, Ev.toD_ow, Ev.toD_ln, Ev.toD_oo, Ev.toD_mx, Ev.flat_fz, Ev.flat_ow, Ev.flat_sl, Ev.retP_fz, Ev.retP_ow, Ev.retP_oo, Ev.retP_sl, Ev.putP_fz, Ev.putP_ow, Ev.putP_oo, Ev.putP_mx, Ev.putP_sl, Ev.noLn_at, Ev.argOs_nil, Ev.argOs_cons, Ev.argO_fz, Ev.argO_ow, Ev.slots_nil, Ev.slots_tm, Ev.slots_sl, Ev.bOf_b, Ev.ownP_fz, Ev.ownP_ow, Ev.ownP_sl, Ev.ownPs_nil, Ev.ownPs_cons, Ev.putAll_nil, Ev.putAll_cons, Ev.mixI_nil, Ev.mixI_fz, Ev.mixI_ow, Ev.mixI_oo, Ev.ixD_list, Ev.ixD_tup, Ev.atI_0, Ev.atI_1, Ev.ixN_0, Ev.ixN_1, Ev.gt_ii, Ev.ge_ii, Ev.lt_ii, Ev.le_ii, Ev.add_ii, Ev.add_ll, Ev.sub_ii, Ev.mul_ii, Ev.fdv_ii, Ev.mod_ii, Ev.neg_i, Ev.int_i, Ev.abs_i, Ev.max2_ii, Ev.dvm_ii, Ev.len_l, Ev.len_t, Ev.listO_l, Ev.tupO_l, Ev.ints_map, Ev.intsD_map, Ev.sorted_l, Ev.sl_list, List.map_cons, List.map_nil, List.length_cons, List.length_nil, List.replicate_succ, List.replicate_zero, List.append_nil, List.nil_append, List.cons_append, List.getElem?_cons_zero, List.getElem?_cons_succ, List.getElem?_nil, List.set_cons_zero, List.set_cons_succ, List.set_nil, Option.bind_some, Option.bind_none, Option.map_some, Option.map_none, Nat.reduceAdd, Nat.reduceSub, Nat.reduceEqDiff, Nat.reduceLeDiff, if_true, if_false, reduceCtorEq, List.nodup_nil, Bool.false_eq_true, Bool.not_true, Bool.not_false, Bool.true_and, Bool.false_and, Bool.and_true, Bool.and_false, ↓reduceIte, id_eq, List.tail_cons, Nat.zero_add, List.all_cons, List.all_nil, ne_eq, not_false_eq_true, and_self, and_true, true_and, hz, z2, okv, wipe_nil, wipe_cons, g, rest_nil, rest_cons, Option.getD_some, er]
theorem ld_turns (A0 A1 A2 A3 A6 A7 A9 A10 A11 A12 A13 A14 A15 : Option O) (p : List Int) : ∀ (xs : List Int) (lo : Nat) (h : List Int) (u v : Option O), isFz u = true → isFz v = true → lo + xs.length ≤ p.length → (∀ x ∈ p, 0 ≤ x ∧ x < h.length) → ∃ u' v', isFz u' = true ∧ isFz v' = true ∧
    turns (hTup 2 (hCons (hName 4) (hCons (hName 18) hNil))) q18b (enF lo xs) [A0, A1, A2, A3, u, none, A6, A7, some (.fz (L p)), A9, A10, A11, A12, A13, A14, A15, none, some (.ow (h.map .int)), v] = some (.nx [A0, A1, A2, A3, u', none, A6, A7, some (.fz (L p)), A9, A10, A11, A12, A13, A14, A15, none, some (.ow ((puts (lp p lo xs) h).map .int)), v'])
  | [], lo, h, u, v, hu, hv, _, _ => ⟨u, v, hu, hv, rfl⟩
  | x :: xs, lo, h, u, v, hu, hv, hl, hp => by
    rw [List.length_cons] at hl
    have hm : p.getD lo 0 ∈ p := by simp [show lo < p.length by omega]
    have h1 := hp _ hm
    obtain ⟨u', v', hu', hv', ih⟩ := ld_turns A0 A1 A2 A3 A6 A7 A9 A10 A11 A12 A13 A14 A15 p xs (lo + 1) (h.set (p.getD lo 0).toNat x) (some (.fz (.int (lo : Nat)))) (some (.fz (.int x))) rfl rfl (by omega) (fun z hz => by rw [List.length_set]; exact hp z hz)
    refine ⟨u', v', hu', hv', ?_⟩
    have n1 : noLn [A0, A1, A2, A3, u, none, A6, A7, some (.fz (L p)), A9, A10, A11, A12, A13, A14, A15, none, some (.ow (h.map .int)), v] 4 = true := noLn_fz (j := 4) rfl hu
    have n2 : noLn ([A0, A1, A2, A3, u, none, A6, A7, some (.fz (L p)), A9, A10, A11, A12, A13, A14, A15, none, some (.ow (h.map .int)), v].set 4 (some (.fz (.int (lo : Nat))))) 18 = true := noLn_fz (j := 18) rfl hv
    have a := at_L (s := p) (i := lo) (by omega)
    have hx : ixN (h.map PyData.int).length (p.getD lo 0) = some (p.getD lo 0).toNat := Ev.ixN_int h1.1 (by rw [List.length_map]; exact h1.2)
    rw [enF, turns, two_names n1 n2, lp, puts]
    unfold q18b
    unfold q18b at ih
    simp -implicitDefEqProofs only [Ev.nd1, Ev.nd2, Ev.lent_fz, Ev.lent_ow, Ev.lent_oo, Ev.lent_mx, Ev.lent_ln, Ev.lent_nil, Ev.back_nil, Ev.back_tm, Ev.back_sl, Ev.runM_at, Ev.start_at, Ev.seq_at, Ev.pass_at, Ev.brk_at, Ev.cnt_at, Ev.ret_at, Ev.retN_at, Ev.asg_at, Ev.if_at, Ev.drop_at, Ev.tgt_at, Ev.tup_at, Ev.for_at, Ev.P_at, Ev.F_at, Ev.var_at, Ev.c_at, Ev.op_at, Ev.opF_at, Ev.call_at, Ev.call1_at, Ev.un_at, Ev.isi_at, Ev.nil_at, Ev.cons_at, Ev.aNil_at, Ev.aCons_at, Ev.lst_at', Ev.tupE_at, Ev.mix_at, Ev.t_at, Ev.tru_at, Ev.and_at, Ev.or_at, Ev.not_at, Ev.andV_at, Ev.orV_at, Ev.notV_at, Ev.if2_at, Ev.ix_at', Ev.no_at, Ev.yes_at, Ev.sl_at, Ev.rep_at, Ev.fn_at, Ev.fnK_at, Ev.seqL_at, Ev.seqT_at, Ev.enum_at, Ev.zip_at, K30.rng1_D, K30.lr1_D, Ev.lc_at, Ev.lcE_at, Ev.yesT_at, Ev.meth_at, Ev.idx_at, Ev.subApp_at, Ev.sortSet_at, Ev.hName_at, Ev.hNil_at, Ev.hCons_at, Ev.hTup_at, Ev.hSub_at, Ev.turns_nil, Ev.force_fz, Ev.force_ow, Ev.force_oo, Ev.force_mx, Ev.force_sl, Ev.norm_fz, Ev.norm_ow, Ev.norm_sl, Ev.argO_sl, Ev.own_at, Ev.setOwn_at, Ev.flatF, Ev.flatO, Ev.flatL, Ev.data_tm, Ev.data_sl, Ev.toD_fz, Ev.toD_ow, Ev.toD_ln, Ev.toD_oo, Ev.toD_mx, Ev.flat_fz, Ev.flat_ow, Ev.flat_sl, Ev.retP_fz, Ev.retP_ow, Ev.retP_oo, Ev.retP_sl, Ev.putP_fz, Ev.putP_ow, Ev.putP_oo, Ev.putP_mx, Ev.putP_sl, Ev.noLn_at, Ev.argOs_nil, Ev.argOs_cons, Ev.argO_fz, Ev.argO_ow, Ev.slots_nil, Ev.slots_tm, Ev.slots_sl, Ev.bOf_b, Ev.ownP_fz, Ev.ownP_ow, Ev.ownP_sl, Ev.ownPs_nil, Ev.ownPs_cons, Ev.putAll_nil, Ev.putAll_cons, Ev.mixI_nil, Ev.mixI_fz, Ev.mixI_ow, Ev.mixI_oo, Ev.ixD_list, Ev.ixD_tup, Ev.atI_0, Ev.atI_1, Ev.ixN_0, Ev.ixN_1, Ev.gt_ii, Ev.ge_ii, Ev.lt_ii, Ev.le_ii, Ev.add_ii, Ev.add_ll, Ev.sub_ii, Ev.mul_ii, Ev.fdv_ii, Ev.mod_ii, Ev.neg_i, Ev.int_i, Ev.abs_i, Ev.max2_ii, Ev.dvm_ii, Ev.len_l, Ev.len_t, Ev.listO_l, Ev.tupO_l, Ev.ints_map, Ev.intsD_map, Ev.sorted_l, Ev.sl_list, List.map_cons, List.map_nil, List.length_cons, List.length_nil, List.replicate_succ, List.replicate_zero, List.append_nil, List.nil_append, List.cons_append, List.getElem?_cons_zero, List.getElem?_cons_succ, List.getElem?_nil, List.set_cons_zero, List.set_cons_succ, List.set_nil, Option.bind_some, Option.bind_none, Option.map_some, Option.map_none, Nat.reduceAdd, Nat.reduceSub, Nat.reduceEqDiff, Nat.reduceLeDiff, if_true, if_false, reduceCtorEq, List.nodup_nil, Bool.false_eq_true, Bool.not_true, Bool.not_false, Bool.true_and, Bool.false_and, Bool.and_true, Bool.and_false, ↓reduceIte, id_eq, List.tail_cons, Nat.zero_add, List.all_cons, List.all_nil, ne_eq, not_false_eq_true, and_self, and_true, true_and, a, hx, set_L, ih]
theorem s18 (A0 A1 A2 A3 A7 A9 A10 A11 A12 A13 A14 A15 : Option O) (n : Nat) (t p : List Int) (ht : t.length = n) (hp : Num n p) : ∃ u v, isFz u = true ∧ isFz v = true ∧
    q18 [A0, A1, A2, A3, none, none, some (.fz (L t)), A7, some (.fz (L p)), A9, A10, A11, A12, A13, A14, A15, none, some (.ow ((List.replicate n (0 : Int)).map .int)), none] = some (.nx [A0, A1, A2, A3, u, none, some (.fz (L t)), A7, some (.fz (L p)), A9, A10, A11, A12, A13, A14, A15, none, some (.ow ((led n t p).map .int)), v]) := by
  obtain ⟨u, v, hu, hv, e⟩ := ld_turns A0 A1 A2 A3 (some (.fz (L t))) A7 A9 A10 A11 A12 A13 A14 A15 p t 0 (List.replicate n 0) none none rfl rfl (by rw [hp.len]; omega) (fun x hx => by rw [List.length_replicate]; exact hp.mem.mp hx)
  refine ⟨u, v, hu, hv, ?_⟩
  have : puts (lp p 0 t) (List.replicate n 0) = led n t p := ledL_eq hp ht
  rw [this] at e
  unfold q18
  simp -implicitDefEqProofs only [Ev.nd1, Ev.nd2, Ev.lent_fz, Ev.lent_ow, Ev.lent_oo, Ev.lent_mx, Ev.lent_ln, Ev.lent_nil, Ev.back_nil, Ev.back_tm, Ev.back_sl, Ev.runM_at, Ev.start_at, Ev.seq_at, Ev.pass_at, Ev.brk_at, Ev.cnt_at, Ev.ret_at, Ev.retN_at, Ev.asg_at, Ev.if_at, Ev.drop_at, Ev.tgt_at, Ev.tup_at, Ev.for_at, Ev.P_at, Ev.F_at, Ev.var_at, Ev.c_at, Ev.op_at, Ev.opF_at, Ev.call_at, Ev.call1_at, Ev.un_at, Ev.isi_at, Ev.nil_at, Ev.cons_at, Ev.aNil_at, Ev.aCons_at, Ev.lst_at', Ev.tupE_at, Ev.mix_at, Ev.t_at, Ev.tru_at, Ev.and_at, Ev.or_at, Ev.not_at, Ev.andV_at, Ev.orV_at, Ev.notV_at, Ev.if2_at, Ev.ix_at', Ev.no_at, Ev.yes_at, Ev.sl_at, Ev.rep_at, Ev.fn_at, Ev.fnK_at, Ev.seqL_at, Ev.seqT_at, Ev.enum_at, Ev.zip_at, K30.rng1_D, K30.lr1_D, Ev.lc_at, Ev.lcE_at, Ev.yesT_at, Ev.meth_at, Ev.idx_at, Ev.subApp_at, Ev.sortSet_at, Ev.hName_at, Ev.hNil_at, Ev.hCons_at, Ev.hTup_at, Ev.hSub_at, Ev.turns_nil, Ev.force_fz, Ev.force_ow, Ev.force_oo, Ev.force_mx, Ev.force_sl, Ev.norm_fz, Ev.norm_ow, Ev.norm_sl, Ev.argO_sl, Ev.own_at, Ev.setOwn_at, Ev.flatF, Ev.flatO, Ev.flatL, Ev.data_tm, Ev.data_sl, Ev.toD_fz, Ev.toD_ow, Ev.toD_ln, Ev.toD_oo, Ev.toD_mx, Ev.flat_fz, Ev.flat_ow, Ev.flat_sl, Ev.retP_fz, Ev.retP_ow, Ev.retP_oo, Ev.retP_sl, Ev.putP_fz, Ev.putP_ow, Ev.putP_oo, Ev.putP_mx, Ev.putP_sl, Ev.noLn_at, Ev.argOs_nil, Ev.argOs_cons, Ev.argO_fz, Ev.argO_ow, Ev.slots_nil, Ev.slots_tm, Ev.slots_sl, Ev.bOf_b, Ev.ownP_fz, Ev.ownP_ow, Ev.ownP_sl, Ev.ownPs_nil, Ev.ownPs_cons, Ev.putAll_nil, Ev.putAll_cons, Ev.mixI_nil, Ev.mixI_fz, Ev.mixI_ow, Ev.mixI_oo, Ev.ixD_list, Ev.ixD_tup, Ev.atI_0, Ev.atI_1, Ev.ixN_0, Ev.ixN_1, Ev.gt_ii, Ev.ge_ii, Ev.lt_ii, Ev.le_ii, Ev.add_ii, Ev.add_ll, Ev.sub_ii, Ev.mul_ii, Ev.fdv_ii, Ev.mod_ii, Ev.neg_i, Ev.int_i, Ev.abs_i, Ev.max2_ii, Ev.dvm_ii, Ev.len_l, Ev.len_t, Ev.listO_l, Ev.tupO_l, Ev.ints_map, Ev.intsD_map, Ev.sorted_l, Ev.sl_list, List.map_cons, List.map_nil, List.length_cons, List.length_nil, List.replicate_succ, List.replicate_zero, List.append_nil, List.nil_append, List.cons_append, List.getElem?_cons_zero, List.getElem?_cons_succ, List.getElem?_nil, List.set_cons_zero, List.set_cons_succ, List.set_nil, Option.bind_some, Option.bind_none, Option.map_some, Option.map_none, Nat.reduceAdd, Nat.reduceSub, Nat.reduceEqDiff, Nat.reduceLeDiff, if_true, if_false, reduceCtorEq, List.nodup_nil, Bool.false_eq_true, Bool.not_true, Bool.not_false, Bool.true_and, Bool.false_and, Bool.and_true, Bool.and_false, ↓reduceIte, id_eq, List.tail_cons, Nat.zero_add, List.all_cons, List.all_nil, ne_eq, not_false_eq_true, and_self, and_true, true_and, enum_L, e]
theorem led_sm {n : Nat} {t p : List Int} (ht : t.length = n) (ft : Full t) (hp : Num n p) (hn : n ≤ 24) : Sm 1 (L (led n t p)) := sm_L (fun x hx => by
  obtain ⟨j, hj, rfl⟩ := List.mem_map.mp hx
  have hr := backL_rg hp j hj
  refine Nat.lt_of_le_of_lt (full_abs ft ht hn _ ?_) (by decide)
  have : j.toNat < t.length := by omega
  simp [this]) (by rw [led_len]; omega)
theorem s19 (A0 A1 A2 A3 A4 A7 A9 A10 A11 A12 A13 A15 A18 : Option O) (n : Nat) (t p : List Int) (hn : n ≤ 24) (ht : t.length = n) (ft : Full t) (hp : Num n p) :
    q19 [A0, A1, A2, A3, A4, none, some (.fz (L t)), A7, some (.fz (L p)), A9, A10, A11, A12, A13, some (.fz (.list (CD t))), A15, none, some (.ow ((led n t p).map .int)), A18] = some (.nx [A0, A1, A2, A3, A4, none, some (.fz (L t)), A7, some (.fz (L p)), A9, A10, A11, A12, A13, some (.fz (.list (CD t))), A15, none, some (.fz (L (led n t p))), A18]) := by
  have e1 := v_cells_of t ft (by omega)
  have e2 := v_led hp ht (by omega)
  have er := repr_sm (sm_cons2 (sm_cells (t := t) (by omega)) (led_sm ht ft hp hn).up) (by decide)
  have z2 : 2 ≤ sizeLine := le_size (by decide)
  unfold q19
  simp -implicitDefEqProofs only [Ev.nd1, Ev.nd2, Ev.lent_fz, Ev.lent_ow, Ev.lent_oo, Ev.lent_mx, Ev.lent_ln, Ev.lent_nil, Ev.back_nil, Ev.back_tm, Ev.back_sl, Ev.runM_at, Ev.start_at, Ev.seq_at, Ev.pass_at, Ev.brk_at, Ev.cnt_at, Ev.ret_at, Ev.retN_at, Ev.asg_at, Ev.if_at, Ev.drop_at, Ev.tgt_at, Ev.tup_at, Ev.for_at, Ev.P_at, Ev.F_at, Ev.var_at, Ev.c_at, Ev.op_at, Ev.opF_at, Ev.call_at, Ev.call1_at, Ev.un_at, Ev.isi_at, Ev.nil_at, Ev.cons_at, Ev.aNil_at, Ev.aCons_at, Ev.lst_at', Ev.tupE_at, Ev.mix_at, Ev.t_at, Ev.tru_at, Ev.and_at, Ev.or_at, Ev.not_at, Ev.andV_at, Ev.orV_at, Ev.notV_at, Ev.if2_at, Ev.ix_at', Ev.no_at, Ev.yes_at, Ev.sl_at, Ev.rep_at, Ev.fn_at, Ev.fnK_at, Ev.seqL_at, Ev.seqT_at, Ev.enum_at, Ev.zip_at, K30.rng1_D, K30.lr1_D, Ev.lc_at, Ev.lcE_at, Ev.yesT_at, Ev.meth_at, Ev.idx_at, Ev.subApp_at, Ev.sortSet_at, Ev.hName_at, Ev.hNil_at, Ev.hCons_at, Ev.hTup_at, Ev.hSub_at, Ev.turns_nil, Ev.force_fz, Ev.force_ow, Ev.force_oo, Ev.force_mx, Ev.force_sl, Ev.norm_fz, Ev.norm_ow, Ev.norm_sl, Ev.argO_sl, Ev.own_at, Ev.setOwn_at, Ev.flatF, Ev.flatO, Ev.flatL, Ev.data_tm, Ev.data_sl, Ev.toD_fz, Ev.toD_ow, Ev.toD_ln, Ev.toD_oo, Ev.toD_mx, Ev.flat_fz, Ev.flat_ow, Ev.flat_sl, Ev.retP_fz, Ev.retP_ow, Ev.retP_oo, Ev.retP_sl, Ev.putP_fz, Ev.putP_ow, Ev.putP_oo, Ev.putP_mx, Ev.putP_sl, Ev.noLn_at, Ev.argOs_nil, Ev.argOs_cons, Ev.argO_fz, Ev.argO_ow, Ev.slots_nil, Ev.slots_tm, Ev.slots_sl, Ev.bOf_b, Ev.ownP_fz, Ev.ownP_ow, Ev.ownP_sl, Ev.ownPs_nil, Ev.ownPs_cons, Ev.putAll_nil, Ev.putAll_cons, Ev.mixI_nil, Ev.mixI_fz, Ev.mixI_ow, Ev.mixI_oo, Ev.ixD_list, Ev.ixD_tup, Ev.atI_0, Ev.atI_1, Ev.ixN_0, Ev.ixN_1, Ev.gt_ii, Ev.ge_ii, Ev.lt_ii, Ev.le_ii, Ev.add_ii, Ev.add_ll, Ev.sub_ii, Ev.mul_ii, Ev.fdv_ii, Ev.mod_ii, Ev.neg_i, Ev.int_i, Ev.abs_i, Ev.max2_ii, Ev.dvm_ii, Ev.len_l, Ev.len_t, Ev.listO_l, Ev.tupO_l, Ev.ints_map, Ev.intsD_map, Ev.sorted_l, Ev.sl_list, List.map_cons, List.map_nil, List.length_cons, List.length_nil, List.replicate_succ, List.replicate_zero, List.append_nil, List.nil_append, List.cons_append, List.getElem?_cons_zero, List.getElem?_cons_succ, List.getElem?_nil, List.set_cons_zero, List.set_cons_succ, List.set_nil, Option.bind_some, Option.bind_none, Option.map_some, Option.map_none, Nat.reduceAdd, Nat.reduceSub, Nat.reduceEqDiff, Nat.reduceLeDiff, if_true, if_false, reduceCtorEq, List.nodup_nil, Bool.false_eq_true, Bool.not_true, Bool.not_false, Bool.true_and, Bool.false_and, Bool.and_true, Bool.and_false, ↓reduceIte, id_eq, List.tail_cons, Nat.zero_add, List.all_cons, List.all_nil, ne_eq, not_false_eq_true, and_self, and_true, true_and, e1, e2, er, z2, pm0, nd0, ne_same]
theorem s20 (A0 A1 A3 A4 A7 A9 A10 A11 A12 A13 A14 A15 A17 A18 : Option O) (n : Nat) (t p : List Int) (hn : n ≤ 24) (ht : t.length = n) (hp : Num n p) :
    q20 [A0, A1, some (.fz (.int (n : Nat))), A3, A4, none, some (.fz (L t)), A7, some (.fz (L p)), A9, A10, A11, A12, A13, A14, A15, none, A17, A18] = some (.nx [A0, A1, some (.fz (.int (n : Nat))), A3, A4, some (.mx [.ow (t.map .int), .ow ((led n t p).map .int)]), some (.fz (L t)), A7, some (.fz (L p)), A9, A10, A11, A12, A13, A14, A15, none, A17, A18]) := by
  have e1 := v_led (num_upto n) ht (by omega)
  rw [led_upto ht] at e1
  have e2 := v_led hp ht (by omega)
  have z2 : 2 ≤ sizeLine := le_size (by decide)
  have hr := lr_n (show n ≤ 100 by omega)
  unfold q20
  simp -implicitDefEqProofs only [Ev.nd1, Ev.nd2, Ev.lent_fz, Ev.lent_ow, Ev.lent_oo, Ev.lent_mx, Ev.lent_ln, Ev.lent_nil, Ev.back_nil, Ev.back_tm, Ev.back_sl, Ev.runM_at, Ev.start_at, Ev.seq_at, Ev.pass_at, Ev.brk_at, Ev.cnt_at, Ev.ret_at, Ev.retN_at, Ev.asg_at, Ev.if_at, Ev.drop_at, Ev.tgt_at, Ev.tup_at, Ev.for_at, Ev.P_at, Ev.F_at, Ev.var_at, Ev.c_at, Ev.op_at, Ev.opF_at, Ev.call_at, Ev.call1_at, Ev.un_at, Ev.isi_at, Ev.nil_at, Ev.cons_at, Ev.aNil_at, Ev.aCons_at, Ev.lst_at', Ev.tupE_at, Ev.mix_at, Ev.t_at, Ev.tru_at, Ev.and_at, Ev.or_at, Ev.not_at, Ev.andV_at, Ev.orV_at, Ev.notV_at, Ev.if2_at, Ev.ix_at', Ev.no_at, Ev.yes_at, Ev.sl_at, Ev.rep_at, Ev.fn_at, Ev.fnK_at, Ev.seqL_at, Ev.seqT_at, Ev.enum_at, Ev.zip_at, K30.rng1_D, K30.lr1_D, Ev.lc_at, Ev.lcE_at, Ev.yesT_at, Ev.meth_at, Ev.idx_at, Ev.subApp_at, Ev.sortSet_at, Ev.hName_at, Ev.hNil_at, Ev.hCons_at, Ev.hTup_at, Ev.hSub_at, Ev.turns_nil, Ev.force_fz, Ev.force_ow, Ev.force_oo, Ev.force_mx, Ev.force_sl, Ev.norm_fz, Ev.norm_ow, Ev.norm_sl, Ev.argO_sl, Ev.own_at, Ev.setOwn_at, Ev.flatF, Ev.flatO, Ev.flatL, Ev.data_tm, Ev.data_sl, Ev.toD_fz, Ev.toD_ow, Ev.toD_ln, Ev.toD_oo, Ev.toD_mx, Ev.flat_fz, Ev.flat_ow, Ev.flat_sl, Ev.retP_fz, Ev.retP_ow, Ev.retP_oo, Ev.retP_sl, Ev.putP_fz, Ev.putP_ow, Ev.putP_oo, Ev.putP_mx, Ev.putP_sl, Ev.noLn_at, Ev.argOs_nil, Ev.argOs_cons, Ev.argO_fz, Ev.argO_ow, Ev.slots_nil, Ev.slots_tm, Ev.slots_sl, Ev.bOf_b, Ev.ownP_fz, Ev.ownP_ow, Ev.ownP_sl, Ev.ownPs_nil, Ev.ownPs_cons, Ev.putAll_nil, Ev.putAll_cons, Ev.mixI_nil, Ev.mixI_fz, Ev.mixI_ow, Ev.mixI_oo, Ev.ixD_list, Ev.ixD_tup, Ev.atI_0, Ev.atI_1, Ev.ixN_0, Ev.ixN_1, Ev.gt_ii, Ev.ge_ii, Ev.lt_ii, Ev.le_ii, Ev.add_ii, Ev.add_ll, Ev.sub_ii, Ev.mul_ii, Ev.fdv_ii, Ev.mod_ii, Ev.neg_i, Ev.int_i, Ev.abs_i, Ev.max2_ii, Ev.dvm_ii, Ev.len_l, Ev.len_t, Ev.listO_l, Ev.tupO_l, Ev.ints_map, Ev.intsD_map, Ev.sorted_l, Ev.sl_list, List.map_cons, List.map_nil, List.length_cons, List.length_nil, List.replicate_succ, List.replicate_zero, List.append_nil, List.nil_append, List.cons_append, List.getElem?_cons_zero, List.getElem?_cons_succ, List.getElem?_nil, List.set_cons_zero, List.set_cons_succ, List.set_nil, Option.bind_some, Option.bind_none, Option.map_some, Option.map_none, Nat.reduceAdd, Nat.reduceSub, Nat.reduceEqDiff, Nat.reduceLeDiff, if_true, if_false, reduceCtorEq, List.nodup_nil, Bool.false_eq_true, Bool.not_true, Bool.not_false, Bool.true_and, Bool.false_and, Bool.and_true, Bool.and_false, ↓reduceIte, id_eq, List.tail_cons, Nat.zero_add, List.all_cons, List.all_nil, ne_eq, not_false_eq_true, and_self, and_true, true_and, e1, e2, z2, hr]
theorem s21 (A0 A1 A2 A3 A4 A7 A8 A9 A10 A11 A12 A13 A14 A15 A18 : Option O) (n : Nat) (t p : List Int) (hn : n ≤ 24) (ht : t.length = n) (ft : Full t) (hp : Num n p) :
    q21 [A0, A1, A2, A3, A4, some (.mx [.ow (t.map .int), .ow ((led n t p).map .int)]), some (.fz (L t)), A7, A8, A9, A10, A11, A12, A13, A14, A15, none, some (.fz (L (led n t p))), A18] = some (.nx [A0, A1, A2, A3, A4, some (.mx [.ow (t.map .int), .ow ((led n t p).map .int)]), some (.fz (L t)), A7, A8, A9, A10, A11, A12, A13, A14, A15, none, some (.fz (L (led n t p))), A18]) := by
  have er := repr_sm (sm_cons2 (full_sm ft ht hn) (led_sm ht ft hp hn)) (by decide)
  have z2 : 2 ≤ sizeLine := le_size (by decide)
  unfold q21
  simp -implicitDefEqProofs only [Ev.nd1, Ev.nd2, Ev.lent_fz, Ev.lent_ow, Ev.lent_oo, Ev.lent_mx, Ev.lent_ln, Ev.lent_nil, Ev.back_nil, Ev.back_tm, Ev.back_sl, Ev.runM_at, Ev.start_at, Ev.seq_at, Ev.pass_at, Ev.brk_at, Ev.cnt_at, Ev.ret_at, Ev.retN_at, Ev.asg_at, Ev.if_at, Ev.drop_at, Ev.tgt_at, Ev.tup_at, Ev.for_at, Ev.P_at, Ev.F_at, Ev.var_at, Ev.c_at, Ev.op_at, Ev.opF_at, Ev.call_at, Ev.call1_at, Ev.un_at, Ev.isi_at, Ev.nil_at, Ev.cons_at, Ev.aNil_at, Ev.aCons_at, Ev.lst_at', Ev.tupE_at, Ev.mix_at, Ev.t_at, Ev.tru_at, Ev.and_at, Ev.or_at, Ev.not_at, Ev.andV_at, Ev.orV_at, Ev.notV_at, Ev.if2_at, Ev.ix_at', Ev.no_at, Ev.yes_at, Ev.sl_at, Ev.rep_at, Ev.fn_at, Ev.fnK_at, Ev.seqL_at, Ev.seqT_at, Ev.enum_at, Ev.zip_at, K30.rng1_D, K30.lr1_D, Ev.lc_at, Ev.lcE_at, Ev.yesT_at, Ev.meth_at, Ev.idx_at, Ev.subApp_at, Ev.sortSet_at, Ev.hName_at, Ev.hNil_at, Ev.hCons_at, Ev.hTup_at, Ev.hSub_at, Ev.turns_nil, Ev.force_fz, Ev.force_ow, Ev.force_oo, Ev.force_mx, Ev.force_sl, Ev.norm_fz, Ev.norm_ow, Ev.norm_sl, Ev.argO_sl, Ev.own_at, Ev.setOwn_at, Ev.flatF, Ev.flatO, Ev.flatL, Ev.data_tm, Ev.data_sl, Ev.toD_fz, Ev.toD_ow, Ev.toD_ln, Ev.toD_oo, Ev.toD_mx, Ev.flat_fz, Ev.flat_ow, Ev.flat_sl, Ev.retP_fz, Ev.retP_ow, Ev.retP_oo, Ev.retP_sl, Ev.putP_fz, Ev.putP_ow, Ev.putP_oo, Ev.putP_mx, Ev.putP_sl, Ev.noLn_at, Ev.argOs_nil, Ev.argOs_cons, Ev.argO_fz, Ev.argO_ow, Ev.slots_nil, Ev.slots_tm, Ev.slots_sl, Ev.bOf_b, Ev.ownP_fz, Ev.ownP_ow, Ev.ownP_sl, Ev.ownPs_nil, Ev.ownPs_cons, Ev.putAll_nil, Ev.putAll_cons, Ev.mixI_nil, Ev.mixI_fz, Ev.mixI_ow, Ev.mixI_oo, Ev.ixD_list, Ev.ixD_tup, Ev.atI_0, Ev.atI_1, Ev.ixN_0, Ev.ixN_1, Ev.gt_ii, Ev.ge_ii, Ev.lt_ii, Ev.le_ii, Ev.add_ii, Ev.add_ll, Ev.sub_ii, Ev.mul_ii, Ev.fdv_ii, Ev.mod_ii, Ev.neg_i, Ev.int_i, Ev.abs_i, Ev.max2_ii, Ev.dvm_ii, Ev.len_l, Ev.len_t, Ev.listO_l, Ev.tupO_l, Ev.ints_map, Ev.intsD_map, Ev.sorted_l, Ev.sl_list, List.map_cons, List.map_nil, List.length_cons, List.length_nil, List.replicate_succ, List.replicate_zero, List.append_nil, List.nil_append, List.cons_append, List.getElem?_cons_zero, List.getElem?_cons_succ, List.getElem?_nil, List.set_cons_zero, List.set_cons_succ, List.set_nil, Option.bind_some, Option.bind_none, Option.map_some, Option.map_none, Nat.reduceAdd, Nat.reduceSub, Nat.reduceEqDiff, Nat.reduceLeDiff, if_true, if_false, reduceCtorEq, List.nodup_nil, Bool.false_eq_true, Bool.not_true, Bool.not_false, Bool.true_and, Bool.false_and, Bool.and_true, Bool.and_false, ↓reduceIte, id_eq, List.tail_cons, Nat.zero_add, List.all_cons, List.all_nil, ne_eq, not_false_eq_true, and_self, and_true, true_and, er, z2, ne_same, it_ow]
theorem s22 (A0 A1 A2 A3 A4 A6 A7 A8 A9 A10 A11 A12 A13 A14 A15 A17 A18 : Option O) (t l : List D) (ht : t.length ≤ 24) :
    q22 [A0, A1, A2, A3, A4, some (.mx [.ow t, .ow l]), A6, A7, A8, A9, A10, A11, A12, A13, A14, A15, none, A17, A18] = some (.nx [A0, A1, A2, A3, A4, some (.mx [.ow (t ++ [.none]), .ow l]), A6, A7, A8, A9, A10, A11, A12, A13, A14, A15, none, A17, A18]) := by
  have hr : rowAt 0 (.mx [.ow t, .ow l]) = some (0, t) := rfl
  have hs : setRow 0 (t ++ [.none]) (.mx [.ow t, .ow l]) = .mx [.ow (t ++ [.none]), .ow l] := rfl
  have hz : t.length < sizeLine := by rw [sizeLine_eq]; omega
  unfold q22
  simp -implicitDefEqProofs only [Ev.nd1, Ev.nd2, Ev.lent_fz, Ev.lent_ow, Ev.lent_oo, Ev.lent_mx, Ev.lent_ln, Ev.lent_nil, Ev.back_nil, Ev.back_tm, Ev.back_sl, Ev.runM_at, Ev.start_at, Ev.seq_at, Ev.pass_at, Ev.brk_at, Ev.cnt_at, Ev.ret_at, Ev.retN_at, Ev.asg_at, Ev.if_at, Ev.drop_at, Ev.tgt_at, Ev.tup_at, Ev.for_at, Ev.P_at, Ev.F_at, Ev.var_at, Ev.c_at, Ev.op_at, Ev.opF_at, Ev.call_at, Ev.call1_at, Ev.un_at, Ev.isi_at, Ev.nil_at, Ev.cons_at, Ev.aNil_at, Ev.aCons_at, Ev.lst_at', Ev.tupE_at, Ev.mix_at, Ev.t_at, Ev.tru_at, Ev.and_at, Ev.or_at, Ev.not_at, Ev.andV_at, Ev.orV_at, Ev.notV_at, Ev.if2_at, Ev.ix_at', Ev.no_at, Ev.yes_at, Ev.sl_at, Ev.rep_at, Ev.fn_at, Ev.fnK_at, Ev.seqL_at, Ev.seqT_at, Ev.enum_at, Ev.zip_at, K30.rng1_D, K30.lr1_D, Ev.lc_at, Ev.lcE_at, Ev.yesT_at, Ev.meth_at, Ev.idx_at, Ev.subApp_at, Ev.sortSet_at, Ev.hName_at, Ev.hNil_at, Ev.hCons_at, Ev.hTup_at, Ev.hSub_at, Ev.turns_nil, Ev.force_fz, Ev.force_ow, Ev.force_oo, Ev.force_mx, Ev.force_sl, Ev.norm_fz, Ev.norm_ow, Ev.norm_sl, Ev.argO_sl, Ev.own_at, Ev.setOwn_at, Ev.flatF, Ev.flatO, Ev.flatL, Ev.data_tm, Ev.data_sl, Ev.toD_fz, Ev.toD_ow, Ev.toD_ln, Ev.toD_oo, Ev.toD_mx, Ev.flat_fz, Ev.flat_ow, Ev.flat_sl, Ev.retP_fz, Ev.retP_ow, Ev.retP_oo, Ev.retP_sl, Ev.putP_fz, Ev.putP_ow, Ev.putP_oo, Ev.putP_mx, Ev.putP_sl, Ev.noLn_at, Ev.argOs_nil, Ev.argOs_cons, Ev.argO_fz, Ev.argO_ow, Ev.slots_nil, Ev.slots_tm, Ev.slots_sl, Ev.bOf_b, Ev.ownP_fz, Ev.ownP_ow, Ev.ownP_sl, Ev.ownPs_nil, Ev.ownPs_cons, Ev.putAll_nil, Ev.putAll_cons, Ev.mixI_nil, Ev.mixI_fz, Ev.mixI_ow, Ev.mixI_oo, Ev.ixD_list, Ev.ixD_tup, Ev.atI_0, Ev.atI_1, Ev.ixN_0, Ev.ixN_1, Ev.gt_ii, Ev.ge_ii, Ev.lt_ii, Ev.le_ii, Ev.add_ii, Ev.add_ll, Ev.sub_ii, Ev.mul_ii, Ev.fdv_ii, Ev.mod_ii, Ev.neg_i, Ev.int_i, Ev.abs_i, Ev.max2_ii, Ev.dvm_ii, Ev.len_l, Ev.len_t, Ev.listO_l, Ev.tupO_l, Ev.ints_map, Ev.intsD_map, Ev.sorted_l, Ev.sl_list, List.map_cons, List.map_nil, List.length_cons, List.length_nil, List.replicate_succ, List.replicate_zero, List.append_nil, List.nil_append, List.cons_append, List.getElem?_cons_zero, List.getElem?_cons_succ, List.getElem?_nil, List.set_cons_zero, List.set_cons_succ, List.set_nil, Option.bind_some, Option.bind_none, Option.map_some, Option.map_none, Nat.reduceAdd, Nat.reduceSub, Nat.reduceEqDiff, Nat.reduceLeDiff, if_true, if_false, reduceCtorEq, List.nodup_nil, Bool.false_eq_true, Bool.not_true, Bool.not_false, Bool.true_and, Bool.false_and, Bool.and_true, Bool.and_false, ↓reduceIte, id_eq, List.tail_cons, Nat.zero_add, List.all_cons, List.all_nil, ne_eq, not_false_eq_true, and_self, and_true, true_and, hr, hs, hz]
theorem s23 (A0 A1 A2 A3 A4 A5 A7 A9 A10 A12 A13 A14 A15 A18 : Option O) (n : Nat) (t p : List Int) (s : Str) (hn : n ≤ 24) (ht : t.length = n) (hp : Num n p) (er : reprD (.list [L t, L p]) = some (.str s)) :
    q23 [A0, A1, A2, A3, A4, A5, some (.fz (L t)), A7, some (.fz (L p)), A9, A10, some (.fz (.str s)), A12, A13, A14, A15, none, some (.fz (L (led n t p))), A18] = some (.rt (.fz (.bool true)) [A0, A1, A2, A3, A4, A5, some (.fz (L t)), A7, some (.fz (L p)), A9, A10, some (.fz (.str s)), A12, A13, A14, A15, none, some (.fz (L (led n t p))), A18]) := by
  have e2 := v_led hp ht (by omega)
  have ee := eq_LL (led n t p) (led n t p)
  rw [decide_eq_true rfl] at ee
  have z2 : 2 ≤ sizeLine := le_size (by decide)
  unfold q23
  simp -implicitDefEqProofs only [Ev.nd1, Ev.nd2, Ev.lent_fz, Ev.lent_ow, Ev.lent_oo, Ev.lent_mx, Ev.lent_ln, Ev.lent_nil, Ev.back_nil, Ev.back_tm, Ev.back_sl, Ev.runM_at, Ev.start_at, Ev.seq_at, Ev.pass_at, Ev.brk_at, Ev.cnt_at, Ev.ret_at, Ev.retN_at, Ev.asg_at, Ev.if_at, Ev.drop_at, Ev.tgt_at, Ev.tup_at, Ev.for_at, Ev.P_at, Ev.F_at, Ev.var_at, Ev.c_at, Ev.op_at, Ev.opF_at, Ev.call_at, Ev.call1_at, Ev.un_at, Ev.isi_at, Ev.nil_at, Ev.cons_at, Ev.aNil_at, Ev.aCons_at, Ev.lst_at', Ev.tupE_at, Ev.mix_at, Ev.t_at, Ev.tru_at, Ev.and_at, Ev.or_at, Ev.not_at, Ev.andV_at, Ev.orV_at, Ev.notV_at, Ev.if2_at, Ev.ix_at', Ev.no_at, Ev.yes_at, Ev.sl_at, Ev.rep_at, Ev.fn_at, Ev.fnK_at, Ev.seqL_at, Ev.seqT_at, Ev.enum_at, Ev.zip_at, K30.rng1_D, K30.lr1_D, Ev.lc_at, Ev.lcE_at, Ev.yesT_at, Ev.meth_at, Ev.idx_at, Ev.subApp_at, Ev.sortSet_at, Ev.hName_at, Ev.hNil_at, Ev.hCons_at, Ev.hTup_at, Ev.hSub_at, Ev.turns_nil, Ev.force_fz, Ev.force_ow, Ev.force_oo, Ev.force_mx, Ev.force_sl, Ev.norm_fz, Ev.norm_ow, Ev.norm_sl, Ev.argO_sl, Ev.own_at, Ev.setOwn_at, Ev.flatF, Ev.flatO, Ev.flatL, Ev.data_tm, Ev.data_sl, Ev.toD_fz, Ev.toD_ow, Ev.toD_ln, Ev.toD_oo, Ev.toD_mx, Ev.flat_fz, Ev.flat_ow, Ev.flat_sl, Ev.retP_fz, Ev.retP_ow, Ev.retP_oo, Ev.retP_sl, Ev.putP_fz, Ev.putP_ow, Ev.putP_oo, Ev.putP_mx, Ev.putP_sl, Ev.noLn_at, Ev.argOs_nil, Ev.argOs_cons, Ev.argO_fz, Ev.argO_ow, Ev.slots_nil, Ev.slots_tm, Ev.slots_sl, Ev.bOf_b, Ev.ownP_fz, Ev.ownP_ow, Ev.ownP_sl, Ev.ownPs_nil, Ev.ownPs_cons, Ev.putAll_nil, Ev.putAll_cons, Ev.mixI_nil, Ev.mixI_fz, Ev.mixI_ow, Ev.mixI_oo, Ev.ixD_list, Ev.ixD_tup, Ev.atI_0, Ev.atI_1, Ev.ixN_0, Ev.ixN_1, Ev.gt_ii, Ev.ge_ii, Ev.lt_ii, Ev.le_ii, Ev.add_ii, Ev.add_ll, Ev.sub_ii, Ev.mul_ii, Ev.fdv_ii, Ev.mod_ii, Ev.neg_i, Ev.int_i, Ev.abs_i, Ev.max2_ii, Ev.dvm_ii, Ev.len_l, Ev.len_t, Ev.listO_l, Ev.tupO_l, Ev.ints_map, Ev.intsD_map, Ev.sorted_l, Ev.sl_list, List.map_cons, List.map_nil, List.length_cons, List.length_nil, List.replicate_succ, List.replicate_zero, List.append_nil, List.nil_append, List.cons_append, List.getElem?_cons_zero, List.getElem?_cons_succ, List.getElem?_nil, List.set_cons_zero, List.set_cons_succ, List.set_nil, Option.bind_some, Option.bind_none, Option.map_some, Option.map_none, Nat.reduceAdd, Nat.reduceSub, Nat.reduceEqDiff, Nat.reduceLeDiff, if_true, if_false, reduceCtorEq, List.nodup_nil, Bool.false_eq_true, Bool.not_true, Bool.not_false, Bool.true_and, Bool.false_and, Bool.and_true, Bool.and_false, ↓reduceIte, id_eq, List.tail_cons, Nat.zero_add, List.all_cons, List.all_nil, ne_eq, not_false_eq_true, and_self, and_true, true_and, e2, ee, er, z2, pm10, nd10, eq_same]
end K30
end
section
set_option Elab.async false
set_option linter.all false
set_option maxRecDepth 100000
set_option maxHeartbeats 8000000
namespace K30
open PySem PySem.Spec PyProof.Rows L2 Vi Vf Vo Vp Vs Vt Vu Vv Vg Vw Vx Vy Va Vb Vc Ev
theorem right_run (a b c d : Int) : ∃ δ, m__law_right [some (.ow ([.int a, .int b])), some (.ow ([.int c, .int d])), none, none, none, none, none, none, none, none, none, none, none, none, none, none, none, none, none] = some (.rt (.fz (.bool true)) δ) := by
  obtain ⟨n, c1, d1, hn, e1⟩ := s1 a b c d
  obtain ⟨w, c2, d2, w1, w2, e2⟩ := s2 a b c1 d1 n
  have e3 := s3 a b c2 d2 n w w2
  have e4 := s4 a b c2 d2 n (L (List.replicate w 0))
  obtain ⟨t, a5, b5, ht, ft, e5⟩ := s5 a b c2 d2 n hn (L (List.replicate w 0)) [.bool true, .bool false]
  obtain ⟨o, f, c6, d6, ho, hf, ff, e6⟩ := s6 a5 b5 c2 d2 n hn (L (List.replicate w 0)) [.bool true, .bool false] t ht
  obtain ⟨p, k, c7, d7, hp, e7⟩ := s7 a5 b5 c6 d6 n hn (L (List.replicate w 0)) [.bool true, .bool false] o (f.map .int)
  obtain ⟨a8, b8, c8, d8, B8, u8, v8, hu8, hv8, e8⟩ := s8 a5 b5 c7 d7 n hn k (some (.fz (L (List.replicate w 0)))) (some (.ow (p.map .int))) [.bool true, .bool false] o t f ho ht hf ft ff
  obtain ⟨B9, u9, v9, hu9, hv9, e9⟩ := s9 (some (.ow [.int a8, .int b8])) (some (.ow [.int c8, .int d8])) (some (.fz (.int (n : Nat)))) (some (.fz (L (List.replicate w 0)))) (some (.ow (p.map .int))) (some (.fz (.int k))) u8 v8 B8 t f (by omega) (by omega)
  obtain ⟨x, y, exy, e10⟩ := s10 (some (.ow [.int a8, .int b8])) (some (.ow [.int c8, .int d8])) (some (.fz (.int (n : Nat)))) (some (.fz (L (List.replicate w 0)))) (some (.ow (p.map .int))) (some (.fz (.int k))) u8 v8 u9 v9 B9 t f (by omega) (by omega)
  have e11 := s11 (some (.ow [.int a8, .int b8])) (some (.ow [.int c8, .int d8])) (some (.fz (.int (n : Nat)))) (some (.fz (L (List.replicate w 0)))) (some (.ow (p.map .int))) (some (.fz (.int k))) u8 v8 u9 v9 t f x y exy
  have hn' : t.length ≤ 24 := by omega
  rw [m__law_right_eq, seq_nx e1, seq_nx e2, seq_nx e3, seq_nx e4, seq_nx e5, seq_nx e6, seq_nx e7, seq_nx e8, seq_nx e9, seq_nx e10, seq_nx e11]
  rw [seq_nx (s12 _ _ _ _ _ _ _ _ _ _ _ _ t ft hn'), seq_nx (s13 _ _ _ _ _ _ _ _ _ _ _ _ _ t hn'), seq_nx (s14 _ _ _ _ _ _ _ _ _ _ _ _ _ _ t ft hn'), seq_nx (s15 _ _ _ _ _ _ _ _ _ _ n t hn' ht), seq_nx (s16 _ _ _ _ _ _ _ _ _ _ _ _ _ _ t hn' _ _)]
  obtain ⟨s, es, e17⟩ := s17 (some (.ow [.int a8, .int b8])) (some (.ow [.int c8, .int d8])) (some (.fz (.int (n : Nat)))) (some (.fz (L (List.replicate w 0)))) (some (.fz (L f))) (some (.fz (.int k))) u8 u9 v9 (some (.fz (.list (CD t)))) (some (.fz (L (SZ t)))) v8 hv8 n t p hn ht ft hp
  obtain ⟨u18, v18, _, _, e18⟩ := s18 (some (.ow [.int a8, .int b8])) (some (.ow [.int c8, .int d8])) (some (.fz (.int (n : Nat)))) (some (.fz (L (List.replicate w 0)))) (some (.fz (L f))) (some (.fz (.int k))) u8 (some (.fz (.str s))) u9 v9 (some (.fz (.list (CD t)))) (some (.fz (L (SZ t)))) n t p ht hp
  rw [seq_nx e17, seq_nx e18, seq_nx (s19 _ _ _ _ _ _ _ _ _ _ _ _ _ n t p hn ht ft hp), seq_nx (s20 _ _ _ _ _ _ _ _ _ _ _ _ _ _ n t p hn ht hp), seq_nx (s21 _ _ _ _ _ _ _ _ _ _ _ _ _ _ _ n t p hn ht ft hp), seq_nx (s22 _ _ _ _ _ _ _ _ _ _ _ _ _ _ _ _ _ _ _ (by rw [List.length_map]; exact hn'))]
  exact ⟨_, seq_rt (s23 _ _ _ _ _ _ _ _ _ _ _ _ _ _ n t p s hn ht hp es)⟩
theorem v_right (a b c d : Int) : val f__law_right [.ow [.int a, .int b], .ow [.int c, .int d]] = some (.fz (.bool true), [none, none]) := by
  obtain ⟨δ, e⟩ := right_run a b c d
  have e : m__law_right (startΔ 19 [.ow [.int a, .int b], .ow [.int c, .int d]]) = some (.rt (.fz (.bool true)) δ) := e
  unfold val f__law_right
  rw [Ev.runM_at, if_pos (show [O.ow [.int a, .int b], .ow [.int c, .int d]].length = 2 from rfl), e]
  simp -implicitDefEqProofs only [Ev.nd1, Ev.nd2, Ev.lent_fz, Ev.lent_ow, Ev.lent_oo, Ev.lent_mx, Ev.lent_ln, Ev.lent_nil, Ev.back_nil, Ev.back_tm, Ev.back_sl, Ev.runM_at, Ev.start_at, Ev.seq_at, Ev.pass_at, Ev.brk_at, Ev.cnt_at, Ev.ret_at, Ev.retN_at, Ev.asg_at, Ev.if_at, Ev.drop_at, Ev.tgt_at, Ev.tup_at, Ev.for_at, Ev.P_at, Ev.F_at, Ev.var_at, Ev.c_at, Ev.op_at, Ev.opF_at, Ev.call_at, Ev.call1_at, Ev.un_at, Ev.isi_at, Ev.nil_at, Ev.cons_at, Ev.aNil_at, Ev.aCons_at, Ev.lst_at', Ev.tupE_at, Ev.mix_at, Ev.t_at, Ev.tru_at, Ev.and_at, Ev.or_at, Ev.not_at, Ev.andV_at, Ev.orV_at, Ev.notV_at, Ev.if2_at, Ev.ix_at', Ev.no_at, Ev.yes_at, Ev.sl_at, Ev.rep_at, Ev.fn_at, Ev.fnK_at, Ev.seqL_at, Ev.seqT_at, Ev.enum_at, Ev.zip_at, K30.rng1_D, K30.lr1_D, Ev.lc_at, Ev.lcE_at, Ev.yesT_at, Ev.meth_at, Ev.idx_at, Ev.subApp_at, Ev.sortSet_at, Ev.hName_at, Ev.hNil_at, Ev.hCons_at, Ev.hTup_at, Ev.hSub_at, Ev.turns_nil, Ev.force_fz, Ev.force_ow, Ev.force_oo, Ev.force_mx, Ev.force_sl, Ev.norm_fz, Ev.norm_ow, Ev.norm_sl, Ev.argO_sl, Ev.own_at, Ev.setOwn_at, Ev.flatF, Ev.flatO, Ev.flatL, Ev.data_tm, Ev.data_sl, Ev.toD_fz, Ev.toD_ow, Ev.toD_ln, Ev.toD_oo, Ev.toD_mx, Ev.flat_fz, Ev.flat_ow, Ev.flat_sl, Ev.retP_fz, Ev.retP_ow, Ev.retP_oo, Ev.retP_sl, Ev.putP_fz, Ev.putP_ow, Ev.putP_oo, Ev.putP_mx, Ev.putP_sl, Ev.noLn_at, Ev.argOs_nil, Ev.argOs_cons, Ev.argO_fz, Ev.argO_ow, Ev.slots_nil, Ev.slots_tm, Ev.slots_sl, Ev.bOf_b, Ev.ownP_fz, Ev.ownP_ow, Ev.ownP_sl, Ev.ownPs_nil, Ev.ownPs_cons, Ev.putAll_nil, Ev.putAll_cons, Ev.mixI_nil, Ev.mixI_fz, Ev.mixI_ow, Ev.mixI_oo, Ev.ixD_list, Ev.ixD_tup, Ev.atI_0, Ev.atI_1, Ev.ixN_0, Ev.ixN_1, Ev.gt_ii, Ev.ge_ii, Ev.lt_ii, Ev.le_ii, Ev.add_ii, Ev.add_ll, Ev.sub_ii, Ev.mul_ii, Ev.fdv_ii, Ev.mod_ii, Ev.neg_i, Ev.int_i, Ev.abs_i, Ev.max2_ii, Ev.dvm_ii, Ev.len_l, Ev.len_t, Ev.listO_l, Ev.tupO_l, Ev.ints_map, Ev.intsD_map, Ev.sorted_l, Ev.sl_list, List.map_cons, List.map_nil, List.length_cons, List.length_nil, List.replicate_succ, List.replicate_zero, List.append_nil, List.nil_append, List.cons_append, List.getElem?_cons_zero, List.getElem?_cons_succ, List.getElem?_nil, List.set_cons_zero, List.set_cons_succ, List.set_nil, Option.bind_some, Option.bind_none, Option.map_some, Option.map_none, Nat.reduceAdd, Nat.reduceSub, Nat.reduceEqDiff, Nat.reduceLeDiff, if_true, if_false, reduceCtorEq, List.nodup_nil, Bool.false_eq_true, Bool.not_true, Bool.not_false, Bool.true_and, Bool.false_and, Bool.and_true, Bool.and_false, ↓reduceIte, id_eq, List.tail_cons, Nat.zero_add, List.all_cons, List.all_nil, ne_eq, not_false_eq_true, and_self, and_true, true_and]
theorem v_law (ns : List Int) : val f_law [.fz (L ns)] = some (.fz (.bool true), [none]) := by
  obtain ⟨a, b, e1⟩ := v_pot ns 0 (by decide)
  obtain ⟨c, d, e2⟩ := v_pot ns 1 (by decide)
  have e3 := v_right a b c d
  unfold val f_law m_law
  simp -implicitDefEqProofs only [Ev.nd1, Ev.nd2, Ev.lent_fz, Ev.lent_ow, Ev.lent_oo, Ev.lent_mx, Ev.lent_ln, Ev.lent_nil, Ev.back_nil, Ev.back_tm, Ev.back_sl, Ev.runM_at, Ev.start_at, Ev.seq_at, Ev.pass_at, Ev.brk_at, Ev.cnt_at, Ev.ret_at, Ev.retN_at, Ev.asg_at, Ev.if_at, Ev.drop_at, Ev.tgt_at, Ev.tup_at, Ev.for_at, Ev.P_at, Ev.F_at, Ev.var_at, Ev.c_at, Ev.op_at, Ev.opF_at, Ev.call_at, Ev.call1_at, Ev.un_at, Ev.isi_at, Ev.nil_at, Ev.cons_at, Ev.aNil_at, Ev.aCons_at, Ev.lst_at', Ev.tupE_at, Ev.mix_at, Ev.t_at, Ev.tru_at, Ev.and_at, Ev.or_at, Ev.not_at, Ev.andV_at, Ev.orV_at, Ev.notV_at, Ev.if2_at, Ev.ix_at', Ev.no_at, Ev.yes_at, Ev.sl_at, Ev.rep_at, Ev.fn_at, Ev.fnK_at, Ev.seqL_at, Ev.seqT_at, Ev.enum_at, Ev.zip_at, K30.rng1_D, K30.lr1_D, Ev.lc_at, Ev.lcE_at, Ev.yesT_at, Ev.meth_at, Ev.idx_at, Ev.subApp_at, Ev.sortSet_at, Ev.hName_at, Ev.hNil_at, Ev.hCons_at, Ev.hTup_at, Ev.hSub_at, Ev.turns_nil, Ev.force_fz, Ev.force_ow, Ev.force_oo, Ev.force_mx, Ev.force_sl, Ev.norm_fz, Ev.norm_ow, Ev.norm_sl, Ev.argO_sl, Ev.own_at, Ev.setOwn_at, Ev.flatF, Ev.flatO, Ev.flatL, Ev.data_tm, Ev.data_sl, Ev.toD_fz, Ev.toD_ow, Ev.toD_ln, Ev.toD_oo, Ev.toD_mx, Ev.flat_fz, Ev.flat_ow, Ev.flat_sl, Ev.retP_fz, Ev.retP_ow, Ev.retP_oo, Ev.retP_sl, Ev.putP_fz, Ev.putP_ow, Ev.putP_oo, Ev.putP_mx, Ev.putP_sl, Ev.noLn_at, Ev.argOs_nil, Ev.argOs_cons, Ev.argO_fz, Ev.argO_ow, Ev.slots_nil, Ev.slots_tm, Ev.slots_sl, Ev.bOf_b, Ev.ownP_fz, Ev.ownP_ow, Ev.ownP_sl, Ev.ownPs_nil, Ev.ownPs_cons, Ev.putAll_nil, Ev.putAll_cons, Ev.mixI_nil, Ev.mixI_fz, Ev.mixI_ow, Ev.mixI_oo, Ev.ixD_list, Ev.ixD_tup, Ev.atI_0, Ev.atI_1, Ev.ixN_0, Ev.ixN_1, Ev.gt_ii, Ev.ge_ii, Ev.lt_ii, Ev.le_ii, Ev.add_ii, Ev.add_ll, Ev.sub_ii, Ev.mul_ii, Ev.fdv_ii, Ev.mod_ii, Ev.neg_i, Ev.int_i, Ev.abs_i, Ev.max2_ii, Ev.dvm_ii, Ev.len_l, Ev.len_t, Ev.listO_l, Ev.tupO_l, Ev.ints_map, Ev.intsD_map, Ev.sorted_l, Ev.sl_list, List.map_cons, List.map_nil, List.length_cons, List.length_nil, List.replicate_succ, List.replicate_zero, List.append_nil, List.nil_append, List.cons_append, List.getElem?_cons_zero, List.getElem?_cons_succ, List.getElem?_nil, List.set_cons_zero, List.set_cons_succ, List.set_nil, Option.bind_some, Option.bind_none, Option.map_some, Option.map_none, Nat.reduceAdd, Nat.reduceSub, Nat.reduceEqDiff, Nat.reduceLeDiff, if_true, if_false, reduceCtorEq, List.nodup_nil, Bool.false_eq_true, Bool.not_true, Bool.not_false, Bool.true_and, Bool.false_and, Bool.and_true, Bool.and_false, ↓reduceIte, id_eq, List.tail_cons, Nat.zero_add, List.all_cons, List.all_nil, ne_eq, not_false_eq_true, and_self, and_true, true_and, e1, e2, e3]
theorem law_true (ns : List Int) : ∃ δ, f_law [.fz (L ns)] = some (.fz (.bool true), δ) := by
  have e := v_law ns
  unfold val at e
  obtain ⟨⟨o, δ⟩, h1, h2⟩ := Option.map_eq_some_iff.mp e
  have : o = .fz (.bool true) := congrArg Prod.fst h2
  exact ⟨δ, by rw [h1, this]⟩
end K30
end
section
set_option Elab.async false
set_option linter.all false
set_option maxRecDepth 100000
set_option maxHeartbeats 0
namespace K30
open PySem PySem.Spec PyProof.Rows L2 Vi Vf Vo Vp Vs Vt Vu Vv Vg Vw Vx Vy Va Vb Vc Ev
theorem def_w {Pg : Program} {w : World} {K : Lay} {mg : Str → Option Value} {base : Heap} {x : Str} {st : Stmt} {f : Addr} {fd : FuncData} {N ps : List Str} {k : Nat} {m : Δ → Option Out} (Fd : FunD K.K x x (defArgs st) (defBody st) (defScope st) [] [] f fd) (hm : mg x = some (.ref f)) (S : FnScope N ps (defScope st)) (hn : ps.length ≤ N.length)
    (hb : ∀ (kV doc pm : Value) (an : Option Addr) (cdv ct : Value) (us : List Value), us.length = ps.length → bindArgs (PySem.W.fnOf x x (defArgs st) (defBody st) (defScope st) .none kV doc pm an cdv ct) ⟨us, []⟩ = pure (ps.zip us))
    (hbody : ∀ (cdv : Value) (B : Around) (es : List Env) (s : Shared) (H : Hp) (E : XK), (∃ oc od kV doc pm an ct osl, K.K.lookup f = some ⟨oc, od, .func (PySem.W.fnOf x x (defArgs st) (defBody st) (defScope st) .none kV doc pm an cdv ct), osl⟩ ∧ PySem.W.codeIn K.K cdv x = true) →
      Fits (cxOf CX0 Pg w K.K mg base N x (defScope st) f cdv B es s H E).nox K k → BXs (cxOf CX0 Pg w K.K mg base N x (defScope st) f cdv B es s H E).nox K (defBody st) m) :
    FnG Pg w K.K mg base CX0 (k + 1) f fd ps (SpV K (runM ps.length N.length m)) := by
  obtain ⟨oc, od, dV, kV, doc, pm, an, cdv, ct, osl, rfl, lk, hcd, hD, hK⟩ := Fd.ex
  have hdV : dV = .none := by
    rcases hD with ⟨_, e⟩ | ⟨e, _⟩
    · exact e
    · exact absurd rfl e
  subst hdV
  refine fnG_of lk hcd S (fun zs G R X h => spV_len h) fun B es t G zs R X hr hg h => ?_
  obtain ⟨T, hT, hs⟩ := hbody cdv B es t G X ⟨oc, od, kV, doc, pm, an, ct, osl, lk, hcd⟩ ⟨rfl, ⟨hr, hg⟩, rfl⟩
  refine ⟨T, hT.nox, ?_⟩
  obtain ⟨F, os, o, δ', e, r, q⟩ := h
  unfold runM at e
  split at e
  case isFalse => cases e
  rename_i hk
  have hn' : os.length ≤ N.length := by omega
  obtain ⟨r0, _⟩ := rep_start (N := N) r hn'
  split at e
  case h_1 o1 δ1 hm =>
    cases e
    refine hs _ _ hm _ F G r0 _ fun v σ' F' H' r1 g t1 n1 => ?_
    obtain ⟨b1, b2, b3⟩ := back_ok r hn' r1 g
    exact q v F' H' b1 b2 ⟨t1.ok, t1.nd, fun a ha z => t1.ap a ha (b3 a z)⟩ fun a ha => (n1 a ha).imp_left fun ⟨j, z⟩ => ⟨j, (rep_start r hn').2 j a z⟩
  case h_2 δ1 hm =>
    cases e
    refine hs _ _ hm _ F G r0 _ fun σ' F' H' r1 g => ?_
    obtain ⟨b1, b2, b3⟩ := back_ok r hn' r1 g
    exact q .non F' H' b1 b2 ⟨.non, by simp [O.fp], fun a ha => by cases ha⟩ fun a ha => by cases ha
  case h_3 => cases e
theorem ok_lawG {Pg : Program} {w : World} {K : Lay} {mg : Str → Option Value} {base : Heap} {fd : FuncData} (B : Bl mg) (G__law_pot : DefS Pg w K mg base 1 "_law_pot" s__law_pot ["_law_script", "_law_k"] f__law_pot) (G__law_right : DefS Pg w K mg base 5 "_law_right" s__law_right ["_law_pot_here", "_law_more"] f__law_right) (Fd : FunD K.K "law" "law" (defArgs s_law) (defBody s_law) (defScope s_law) [] [] (He.fAd K.K ("law", none)) fd) (hm : mg "law" = some (.ref (He.fAd K.K ("law", none)))) : FnG Pg w K.K mg base CX0 6 (He.fAd K.K ("law", none)) fd ["_law_script"] (SpV K f_law) :=
  def_w (k := 5) Fd hm sc_law (by decide) (fun _ _ _ _ _ _ us hl => match us, hl with | [_], _ => rfl) fun cdv Bk es s H E lk Z => by
    exact (bs_cons (b_ret (x_fn Z G__law_right (by decide) (as_cons (x_fn Z G__law_pot (by decide) (as_cons (EX.of (DX.of (x_var 0))) (as_cons (EX.of d_int) as_nil))) (as_cons (x_fn Z G__law_pot (by decide) (as_cons (EX.of (DX.of (x_var 0))) (as_cons (EX.of d_int) as_nil))) as_nil))))
  bs_nil)
def d_is_integer : He.DefD := ⟨("is_integer", none), "is_integer", "is_integer", defArgs s_is_integer, defBody s_is_integer, defScope s_is_integer, [], []⟩
def d_is_count : He.DefD := ⟨("is_count", none), "is_count", "is_count", defArgs s_is_count, defBody s_is_count, defScope s_is_count, [], []⟩
def d_back : He.DefD := ⟨("back", none), "back", "back", defArgs s_back, defBody s_back, defScope s_back, [], []⟩
def d_is_colouring : He.DefD := ⟨("is_colouring", none), "is_colouring", "is_colouring", defArgs s_is_colouring, defBody s_is_colouring, defScope s_is_colouring, [], []⟩
def d_cells_of : He.DefD := ⟨("cells_of", none), "cells_of", "cells_of", defArgs s_cells_of, defBody s_cells_of, defScope s_cells_of, [], []⟩
def d_trace_of : He.DefD := ⟨("trace_of", none), "trace_of", "trace_of", defArgs s_trace_of, defBody s_trace_of, defScope s_trace_of, [], []⟩
def d_is_discrete : He.DefD := ⟨("is_discrete", none), "is_discrete", "is_discrete", defArgs s_is_discrete, defBody s_is_discrete, defScope s_is_discrete, [], []⟩
def d_is_finer : He.DefD := ⟨("is_finer", none), "is_finer", "is_finer", defArgs s_is_finer, defBody s_is_finer, defScope s_is_finer, [], []⟩
def d_keeps_sequence : He.DefD := ⟨("keeps_sequence", none), "keeps_sequence", "keeps_sequence", defArgs s_keeps_sequence, defBody s_keeps_sequence, defScope s_keeps_sequence, [], []⟩
def d_colouring_led : He.DefD := ⟨("colouring_led", none), "colouring_led", "colouring_led", defArgs s_colouring_led, defBody s_colouring_led, defScope s_colouring_led, [], []⟩
def d__law_pot : He.DefD := ⟨("_law_pot", none), "_law_pot", "_law_pot", defArgs s__law_pot, defBody s__law_pot, defScope s__law_pot, [], []⟩
def d__law_draw : He.DefD := ⟨("_law_draw", none), "_law_draw", "_law_draw", defArgs s__law_draw, defBody s__law_draw, defScope s__law_draw, [], []⟩
def d__law_row : He.DefD := ⟨("_law_row", none), "_law_row", "_law_row", defArgs s__law_row, defBody s__law_row, defScope s__law_row, [], []⟩
def d__law_ranked : He.DefD := ⟨("_law_ranked", none), "_law_ranked", "_law_ranked", defArgs s__law_ranked, defBody s__law_ranked, defScope s__law_ranked, [], []⟩
def d__law_tint : He.DefD := ⟨("_law_tint", none), "_law_tint", "_law_tint", defArgs s__law_tint, defBody s__law_tint, defScope s__law_tint, [], []⟩
def d__law_cells : He.DefD := ⟨("_law_cells", none), "_law_cells", "_law_cells", defArgs s__law_cells, defBody s__law_cells, defScope s__law_cells, [], []⟩
def d__law_near : He.DefD := ⟨("_law_near", none), "_law_near", "_law_near", defArgs s__law_near, defBody s__law_near, defScope s__law_near, [], []⟩
def d__law_is_one : He.DefD := ⟨("_law_is_one", none), "_law_is_one", "_law_is_one", defArgs s__law_is_one, defBody s__law_is_one, defScope s__law_is_one, [], []⟩
def d__law_compared : He.DefD := ⟨("_law_compared", none), "_law_compared", "_law_compared", defArgs s__law_compared, defBody s__law_compared, defScope s__law_compared, [], []⟩
def d__law_coarser : He.DefD := ⟨("_law_coarser", none), "_law_coarser", "_law_coarser", defArgs s__law_coarser, defBody s__law_coarser, defScope s__law_coarser, [], []⟩
def d__law_right : He.DefD := ⟨("_law_right", none), "_law_right", "_law_right", defArgs s__law_right, defBody s__law_right, defScope s__law_right, [], []⟩
def d_law : He.DefD := ⟨("law", none), "law", "law", defArgs s_law, defBody s_law, defScope s_law, [], []⟩
def fn : List He.DefD := [d_is_integer, d_is_count, d_back, d_is_colouring, d_cells_of, d_trace_of, d_is_discrete, d_is_finer, d_keeps_sequence, d_colouring_led, d__law_pot, d__law_draw, d__law_row, d__law_ranked, d__law_tint, d__law_cells, d__law_near, d__law_is_one, d__law_compared, d__law_coarser, d__law_right, d_law]
def fa : List He.Fa := [.glo "is_integer", .glo "is_count", .glo "back", .glo "is_colouring", .glo "cells_of", .glo "trace_of", .glo "is_discrete", .glo "is_finer", .glo "keeps_sequence", .glo "colouring_led", .glo "_law_pot", .glo "_law_draw", .glo "_law_row", .glo "_law_ranked", .glo "_law_tint", .glo "_law_cells", .glo "_law_near", .glo "_law_is_one", .glo "_law_compared", .glo "_law_coarser", .glo "_law_right", .glo "law", .free "len", .free "set", .free "list", .free "tuple", .free "zip", .free "range", .free "enumerate", .free "sorted", .free "max", .free "abs", .free "int", .free "bool", .free "repr", .free "isinstance", .free "divmod", .free "all"]
def tf : List He.Defn := [("is_colouring", none)]
def lay (K : PySem.W.Frag) : Lay := ⟨K, tf.map fun p => (He.cT K p).2⟩
abbrev hk : PySem.W.Hook := He.hookX 4 fa fn [] tf fun _ => true
abbrev RR : PySem.W.OpenRow := PySem.W.OpenLaw.row PySem.Challenge.rw_webnames_k30_any_value_as_colouring
def ob (s : PySem.W.SharedT) : He.AlX := He.obsX 4 fa fn [] tf (fun _ => true) (HandSHeadRun.getT s)
theorem ob_eq (s : PySem.W.SharedT) : ob s = hk.obs s.abs := He.obsX_eq (HandSHeadRun.getT_eq s)
theorem says_d {w : World} {h : Heap} {K : PySem.W.Frag} (c : He.SaysX fa fn [] tf (fun _ => true) w h K) : He.SaysD fa fn K := congrArg (fun z : He.AlT => z.1) c.t
theorem bl_of {h : Heap} {K : PySem.W.Frag} {mg : Str → Option Value} (kin : K.In h) (G : h.Ns mainGlobals mg) (c : He.SaysD fa fn K) : Bl mg :=
  ⟨He.free_ok kin G (c.fact 22 (f := .free "len") rfl), He.free_ok kin G (c.fact 23 (f := .free "set") rfl), He.free_ok kin G (c.fact 24 (f := .free "list") rfl), He.free_ok kin G (c.fact 25 (f := .free "tuple") rfl), He.free_ok kin G (c.fact 26 (f := .free "zip") rfl), He.free_ok kin G (c.fact 27 (f := .free "range") rfl), He.free_ok kin G (c.fact 28 (f := .free "enumerate") rfl), He.free_ok kin G (c.fact 29 (f := .free "sorted") rfl), He.free_ok kin G (c.fact 30 (f := .free "max") rfl), He.free_ok kin G (c.fact 31 (f := .free "abs") rfl), He.free_ok kin G (c.fact 32 (f := .free "int") rfl), He.free_ok kin G (c.fact 33 (f := .free "bool") rfl), He.free_ok kin G (c.fact 34 (f := .free "repr") rfl), He.free_ok kin G (c.fact 35 (f := .free "isinstance") rfl), He.free_ok kin G (c.fact 36 (f := .free "divmod") rfl), He.free_ok kin G (c.fact 37 (f := .free "all") rfl)⟩
theorem all_ok {Pg : Program} {w : World} {h : Heap} {K : PySem.W.Frag} {mg : Str → Option Value} (hd : Head fa fn tf w h K) (G : h.Ns mainGlobals mg) :
    ∃ fd, (∀ (s : Shared) (u : Value), BindsTo s fd ⟨[u], []⟩ [("_law_script", u)]) ∧ mg "law" = some (.ref (He.fAd K ("law", none))) ∧ ∀ base : Heap, K.In base → base.Ns mainGlobals mg → (∀ p ∈ tf, GxR.TabB base mg (He.cT K p).1 (He.cT K p).2) →
      FnG Pg w K mg base CX0 6 (He.fAd K ("law", none)) fd ["_law_script"] (SpV (lay K) f_law) := by
  have c := says_d hd.x
  have B := bl_of hd.kin G c
  obtain ⟨f_0, F_0⟩ := c.def_ 0 (d := d_is_integer) rfl
  have m_0 : mg "is_integer" = some (.ref (He.fAd K ("is_integer", none))) := He.glo_ok hd.kin G (c.fact 0 (f := .glo "is_integer") rfl)
  obtain ⟨f_1, F_1⟩ := c.def_ 1 (d := d_is_count) rfl
  have m_1 : mg "is_count" = some (.ref (He.fAd K ("is_count", none))) := He.glo_ok hd.kin G (c.fact 1 (f := .glo "is_count") rfl)
  obtain ⟨f_2, F_2⟩ := c.def_ 2 (d := d_back) rfl
  have m_2 : mg "back" = some (.ref (He.fAd K ("back", none))) := He.glo_ok hd.kin G (c.fact 2 (f := .glo "back") rfl)
  obtain ⟨f_3, F_3⟩ := c.def_ 3 (d := d_is_colouring) rfl
  have m_3 : mg "is_colouring" = some (.ref (He.fAd K ("is_colouring", none))) := He.glo_ok hd.kin G (c.fact 3 (f := .glo "is_colouring") rfl)
  obtain ⟨f_4, F_4⟩ := c.def_ 4 (d := d_cells_of) rfl
  have m_4 : mg "cells_of" = some (.ref (He.fAd K ("cells_of", none))) := He.glo_ok hd.kin G (c.fact 4 (f := .glo "cells_of") rfl)
  obtain ⟨f_5, F_5⟩ := c.def_ 5 (d := d_trace_of) rfl
  have m_5 : mg "trace_of" = some (.ref (He.fAd K ("trace_of", none))) := He.glo_ok hd.kin G (c.fact 5 (f := .glo "trace_of") rfl)
  obtain ⟨f_6, F_6⟩ := c.def_ 6 (d := d_is_discrete) rfl
  have m_6 : mg "is_discrete" = some (.ref (He.fAd K ("is_discrete", none))) := He.glo_ok hd.kin G (c.fact 6 (f := .glo "is_discrete") rfl)
  obtain ⟨f_7, F_7⟩ := c.def_ 7 (d := d_is_finer) rfl
  have m_7 : mg "is_finer" = some (.ref (He.fAd K ("is_finer", none))) := He.glo_ok hd.kin G (c.fact 7 (f := .glo "is_finer") rfl)
  obtain ⟨f_8, F_8⟩ := c.def_ 8 (d := d_keeps_sequence) rfl
  have m_8 : mg "keeps_sequence" = some (.ref (He.fAd K ("keeps_sequence", none))) := He.glo_ok hd.kin G (c.fact 8 (f := .glo "keeps_sequence") rfl)
  obtain ⟨f_9, F_9⟩ := c.def_ 9 (d := d_colouring_led) rfl
  have m_9 : mg "colouring_led" = some (.ref (He.fAd K ("colouring_led", none))) := He.glo_ok hd.kin G (c.fact 9 (f := .glo "colouring_led") rfl)
  obtain ⟨f_10, F_10⟩ := c.def_ 10 (d := d__law_pot) rfl
  have m_10 : mg "_law_pot" = some (.ref (He.fAd K ("_law_pot", none))) := He.glo_ok hd.kin G (c.fact 10 (f := .glo "_law_pot") rfl)
  obtain ⟨f_11, F_11⟩ := c.def_ 11 (d := d__law_draw) rfl
  have m_11 : mg "_law_draw" = some (.ref (He.fAd K ("_law_draw", none))) := He.glo_ok hd.kin G (c.fact 11 (f := .glo "_law_draw") rfl)
  obtain ⟨f_12, F_12⟩ := c.def_ 12 (d := d__law_row) rfl
  have m_12 : mg "_law_row" = some (.ref (He.fAd K ("_law_row", none))) := He.glo_ok hd.kin G (c.fact 12 (f := .glo "_law_row") rfl)
  obtain ⟨f_13, F_13⟩ := c.def_ 13 (d := d__law_ranked) rfl
  have m_13 : mg "_law_ranked" = some (.ref (He.fAd K ("_law_ranked", none))) := He.glo_ok hd.kin G (c.fact 13 (f := .glo "_law_ranked") rfl)
  obtain ⟨f_14, F_14⟩ := c.def_ 14 (d := d__law_tint) rfl
  have m_14 : mg "_law_tint" = some (.ref (He.fAd K ("_law_tint", none))) := He.glo_ok hd.kin G (c.fact 14 (f := .glo "_law_tint") rfl)
  obtain ⟨f_15, F_15⟩ := c.def_ 15 (d := d__law_cells) rfl
  have m_15 : mg "_law_cells" = some (.ref (He.fAd K ("_law_cells", none))) := He.glo_ok hd.kin G (c.fact 15 (f := .glo "_law_cells") rfl)
  obtain ⟨f_16, F_16⟩ := c.def_ 16 (d := d__law_near) rfl
  have m_16 : mg "_law_near" = some (.ref (He.fAd K ("_law_near", none))) := He.glo_ok hd.kin G (c.fact 16 (f := .glo "_law_near") rfl)
  obtain ⟨f_17, F_17⟩ := c.def_ 17 (d := d__law_is_one) rfl
  have m_17 : mg "_law_is_one" = some (.ref (He.fAd K ("_law_is_one", none))) := He.glo_ok hd.kin G (c.fact 17 (f := .glo "_law_is_one") rfl)
  obtain ⟨f_18, F_18⟩ := c.def_ 18 (d := d__law_compared) rfl
  have m_18 : mg "_law_compared" = some (.ref (He.fAd K ("_law_compared", none))) := He.glo_ok hd.kin G (c.fact 18 (f := .glo "_law_compared") rfl)
  obtain ⟨f_19, F_19⟩ := c.def_ 19 (d := d__law_coarser) rfl
  have m_19 : mg "_law_coarser" = some (.ref (He.fAd K ("_law_coarser", none))) := He.glo_ok hd.kin G (c.fact 19 (f := .glo "_law_coarser") rfl)
  obtain ⟨f_20, F_20⟩ := c.def_ 20 (d := d__law_right) rfl
  have m_20 : mg "_law_right" = some (.ref (He.fAd K ("_law_right", none))) := He.glo_ok hd.kin G (c.fact 20 (f := .glo "_law_right") rfl)
  obtain ⟨f_21, F_21⟩ := c.def_ 21 (d := d_law) rfl
  have m_21 : mg "law" = some (.ref (He.fAd K ("law", none))) := He.glo_ok hd.kin G (c.fact 21 (f := .glo "law") rfl)
  have b := FunD.bindsA (ps := ["_law_script"]) F_21 fun _ _ _ _ _ _ us hl => match us, hl with | [_], _ => rfl
  refine ⟨f_21, fun s v => b s [v] rfl, m_21, fun base kb nb hT => ?_⟩
  have g_is_integer := ok_is_integer (Pg := Pg) (w := w) (K := lay K) (base := base) B F_0 m_0
  have g_is_count := ok_is_count (Pg := Pg) (w := w) (K := lay K) (base := base) B g_is_integer F_1 m_1
  have g_back := ok_back (Pg := Pg) (w := w) (K := lay K) (base := base) B F_2 m_2
  have g_is_colouring := ok_is_colouring (Pg := Pg) (w := w) (K := lay K) (base := base) B g_is_count (hT ("is_colouring", none) (by decide)) (List.mem_map.mpr ⟨("is_colouring", none), by decide, rfl⟩) F_3 m_3
  have g_cells_of := ok_cells_of (Pg := Pg) (w := w) (K := lay K) (base := base) B F_4 m_4
  have g_trace_of := ok_trace_of (Pg := Pg) (w := w) (K := lay K) (base := base) B g_cells_of F_5 m_5
  have g_is_discrete := ok_is_discrete (Pg := Pg) (w := w) (K := lay K) (base := base) B F_6 m_6
  have g_is_finer := ok_is_finer (Pg := Pg) (w := w) (K := lay K) (base := base) B F_7 m_7
  have g_keeps_sequence := ok_keeps_sequence (Pg := Pg) (w := w) (K := lay K) (base := base) B F_8 m_8
  have g_colouring_led := ok_colouring_led (Pg := Pg) (w := w) (K := lay K) (base := base) B g_back F_9 m_9
  have g__law_pot := ok__law_pot (Pg := Pg) (w := w) (K := lay K) (base := base) B F_10 m_10
  have g__law_draw := ok__law_draw (Pg := Pg) (w := w) (K := lay K) (base := base) B F_11 m_11
  have g__law_row := ok__law_row (Pg := Pg) (w := w) (K := lay K) (base := base) B g__law_draw F_12 m_12
  have g__law_ranked := ok__law_ranked (Pg := Pg) (w := w) (K := lay K) (base := base) B F_13 m_13
  have g__law_tint := ok__law_tint (Pg := Pg) (w := w) (K := lay K) (base := base) B g__law_draw g__law_ranked F_14 m_14
  have g__law_cells := ok__law_cells (Pg := Pg) (w := w) (K := lay K) (base := base) B F_15 m_15
  have g__law_near := ok__law_near (Pg := Pg) (w := w) (K := lay K) (base := base) B g__law_draw F_16 m_16
  have g__law_is_one := ok__law_is_one (Pg := Pg) (w := w) (K := lay K) (base := base) B F_17 m_17
  have g__law_compared := ok__law_compared (Pg := Pg) (w := w) (K := lay K) (base := base) B F_18 m_18
  have g__law_coarser := ok__law_coarser (Pg := Pg) (w := w) (K := lay K) (base := base) B g__law_draw g__law_ranked F_19 m_19
  have g__law_right := ok__law_right (Pg := Pg) (w := w) (K := lay K) (base := base) B g_is_colouring g_cells_of g_trace_of g_is_discrete g_is_finer g_keeps_sequence g_colouring_led g__law_draw g__law_row g__law_tint g__law_cells g__law_near g__law_is_one g__law_compared g__law_coarser F_20 m_20
  exact ok_lawG (Pg := Pg) (w := w) (K := lay K) (base := base) B g__law_pot g__law_right F_21 m_21
theorem dp_ints (K : PySem.W.Frag) (H : Hp) : ∀ ns : List Int, DpAll K H (ns.map V.int) (ns.map PyData.int)
  | [] => .nil
  | n :: ns => .cons (.int n) (dp_ints K H ns)
theorem sp_law (K : PySem.W.Frag) (H : Hp) (a : Addr) (ns : List Int) (hT : ∀ p ∈ tf, H (He.cT K p).2 = some (.tbl #[])) (hS : SqL K H a (ns.map V.int)) : SpV (lay K) f_law [.ref a] H (fun v _ => v = .bl true) E0 := by
  obtain ⟨δ, e⟩ := law_true ns
  have tb : ∀ T ∈ (lay K).T, GxR.TabG H T := fun T h => by
    obtain ⟨p, hp, rfl⟩ := List.mem_map.mp h
    exact ⟨#[], hT p hp, trivial⟩
  have r : Rep (lay K) H H (sm [.ref a]) (om [.fz (L ns)]) := by
    refine ⟨.rfl, rfl, fun i o h => ?_, fun i j b h => ?_, tb⟩
    · match i, h with
      | 0, h =>
        cases h
        exact ⟨.ref a, rfl, .lst hS (dp_ints K H ns), .nil⟩
      | i + 1, h => simp [om] at h
    · obtain ⟨v, o, e1, e2, e3⟩ := h
      match i, e2 with
      | 0, e2 =>
        cases e2
        cases e3
      | i + 1, e2 => simp [om] at e2
  refine ⟨H, [.fz (L ns)], .fz (.bool true), δ, e, r, fun v F' H' r' g t n => ?_⟩
  have := t.ok
  exact dp_bool this
theorem run (w : World) : HandSHeadRun.RunEq RR (PySem.W.view RR.prog [25]) hk ob 3000 ["is_integer", "is_count", "back", "is_colouring", "cells_of", "trace_of", "is_discrete", "is_finer", "keeps_sequence", "colouring_led", "_law_pot", "_law_draw", "_law_row", "_law_ranked", "_law_tint", "_law_cells", "_law_near", "_law_is_one", "_law_compared", "_law_coarser", "_law_right"] w := by
  intro os
  kernel_rfl
end K30
open PySem PySem.W PySem.Calls PyProof.Rows
theorem PySem.Challenge.cw_webnames_k30_any_value_as_colouring_holds : PySem.Challenge.rw_webnames_k30_any_value_as_colouring.Holds := by
  w_on; o_law
  refine HandSHeadRun.head_any (r := OpenLaw.row PySem.Challenge.rw_webnames_k30_any_value_as_colouring) (q := view (OpenLaw.row PySem.Challenge.rw_webnames_k30_any_value_as_colouring).prog [25]) (H := K30.hk) (ob := K30.ob) (M := 3000) (loose := ["is_integer", "is_count", "back", "is_colouring", "cells_of", "trace_of", "is_discrete", "is_finer", "keeps_sequence", "colouring_led", "_law_pot", "_law_draw", "_law_row", "_law_ranked", "_law_tint", "_law_cells", "_law_near", "_law_is_one", "_law_compared", "_law_coarser", "_law_right"]) (d := HandSHeadRun.topDef (OpenLaw.row PySem.Challenge.rw_webnames_k30_any_value_as_colouring).prog 25) (kwd := []) K30.ob_eq
    (by kernel_rfl) (fun s => by kernel_rfl) K30.run (by kernel_rfl) (by kernel_rfl) (by kernel_rfl) (by rfl) (by first | assumption | decide +kernel) (by decide +kernel) ⟨rfl, rfl, rfl, rfl, rfl, by decide +kernel⟩ ?hw ?hc
  case hw => w_witness2
  case hc =>
    refine Vc.walk_VX (l := PySem.Challenge.rw_webnames_k30_any_value_as_colouring) (n := 63) (k := 6) (x := "_law_script") rfl (by decide) (by kernel_rfl) ⟨rfl, by decide, by decide⟩ ?F
    intro w mg fa h K hd G hmg0
    have hmg : mg ("law" : PySem.Str) = some (.ref fa) := by
      have e : (HandSHeadRun.topDef (OpenLaw.row PySem.Challenge.rw_webnames_k30_any_value_as_colouring).prog 25).name = ("law" : PySem.Str) := by kernel_rfl
      rw [← e]
      exact hmg0
    obtain ⟨fd, hb, hl, hF⟩ := K30.all_ok (Pg := (PySem.Challenge.rw_webnames_k30_any_value_as_colouring).prog) (w := w) hd G
    have e := hmg.symm.trans hl
    cases e
    exact ⟨fd, _, hb, fun H a ns _ _ hT hS => K30.sp_law K H a ns hT hS, hF⟩
end
