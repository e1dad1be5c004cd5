import PyProof.Rows.All
import Wide.All
import OpenK.AllK
import Wide.FinOn
import HandS.ForMost
import HandS.IsInst
import HandS.SortInts
import HandS.AnyAll
import HandS.Lambda
import HandS.Walk
import HandS.TupAny
import HandS.Deep
import HandS.GenList
import HandS.Nested
import HandS.Defaults
import HandS.Wide
import HandS.WideBits
import HandS.Style
import HandS.Text
import HandS.SetFor
import HandS.Strs
import HandS.Set
import KE.KDictZip
import PyProof.ListNew
import PyProof.ZipIter
import PyProof.Rows.ZipForRows
import HandS.TupSets
import HandS.HeadHook4
import HandS.EndTab
import HandS.EndOwn
import HandS.Head2
import HandS.HeadEnd
import KE.SortKeyHeap
import HandS.Conv
import HandS.SortKw
import KE.KLam
import KE.DataCmp
import KE.SortData
import PyProof.ListStr
import HandS.DictComp
import HandS.Flow
import HandS.Zip
import KE.DataMinMax
import HandS.List
import HandS.TryOnly
import KE.DataAny
import HandS.WordsDict
import HandS.Exc
import HandS.ExcField
import HandS.ExcIs
import KE.KExcIs
import HandS.ExcInit
import HandS.MapJoin
import HandS.FStr
import HandS.Codes
import PyProof.ReprBulk
import PyProof.P3Eq
import KE.OsScanText
import KE.KStateDown
import HandS.Head0
import HandS.Head1
import HandS.HeadHook1
import HandS.HeadHook2
import HandS.HeadHook3
import PySem.Challenge.RW_webnames_k25_tokens_and_part_names
section
set_option Elab.async false
set_option linter.all false
set_option maxRecDepth 100000
set_option maxHeartbeats 1000000
/-! Values without a heap: what a slot owns, what is frozen, what a step may touch. -/
namespace Vi
open PySem PySem.Spec PyProof.Rows L2

abbrev D := PyData
/-- an object that stays, or a table of code objects that has grown -/
def Lq (o u : HO) : Prop := u = o ∨ ∃ ps qs, o = .tbl ps ∧ u = .tbl qs ∧ (TriplesOk ps.toList → TriplesOk qs.toList)
theorem Lq.rfl {o : HO} : Lq o o := .inl (Eq.refl o)
theorem Lq.trans {a b c : HO} (h : Lq a b) (g : Lq b c) : Lq a c := by
  rcases h with h | ⟨p, q, h1, h2, h3⟩
  · subst h; exact g
  · rcases g with g | ⟨p', q', g1, g2, g3⟩
    · subst g; exact .inr ⟨p, q, h1, h2, h3⟩
    · subst h2; cases g1
      exact .inr ⟨p, q', h1, g2, fun z => g3 (h3 z)⟩
theorem Lq.lst {xs : List V} {u : HO} (h : Lq (.lst xs) u) : u = .lst xs := by
  rcases h with h | ⟨p, q, h1, _⟩
  · exact h
  · cases h1
theorem Lq.tup {xs : List V} {u : HO} (h : Lq (.tup xs) u) : u = .tup xs := by
  rcases h with h | ⟨p, q, h1, _⟩
  · exact h
  · cases h1
theorem Lq.frz {o : Obj} {x u : HO} (h : Lq (.frz o x) u) : u = .frz o x := by
  rcases h with h | ⟨p, q, h1, _⟩
  · exact h
  · cases h1
theorem Lq.dk {xs : List (L2.Key × V)} {u : HO} (h : Lq (.dK xs) u) : u = .dK xs := by
  rcases h with h | ⟨p, q, h1, _⟩
  · exact h
  · cases h1
/-- a list or a dict -/
def Mut (u : HO) : Prop := (∃ xs, u = .lst xs) ∨ (∃ kvs, u = .dK kvs) ∨ ∃ xs, u = .tup xs
theorem Lq.mut {o u : HO} (m : Mut o) (h : Lq o u) : u = o := by
  rcases m with ⟨xs, rfl⟩ | ⟨xs, rfl⟩ | ⟨xs, rfl⟩
  · exact h.lst
  · exact h.dk
  · exact h.tup
def Kp (H G : Hp) : Prop := ∀ a o, H a = some o → ∃ u, G a = some u ∧ Lq o u
theorem Kp.rfl {H : Hp} : Kp H H := fun _ o h => ⟨o, h, .rfl⟩
theorem Kp.trans {A B C : Hp} (h : Kp A B) (g : Kp B C) : Kp A C := fun a o e => by
  obtain ⟨u, e1, l1⟩ := h a o e
  obtain ⟨v, e2, l2⟩ := g a u e1
  exact ⟨v, e2, l1.trans l2⟩
theorem Kp.lst {H G : Hp} (h : Kp H G) {a : Addr} {xs : List V} (e : H a = some (.lst xs)) : G a = some (.lst xs) := by
  obtain ⟨u, e1, l⟩ := h a _ e
  rw [l.lst] at e1; exact e1
theorem Kp.tup {H G : Hp} (h : Kp H G) {a : Addr} {xs : List V} (e : H a = some (.tup xs)) : G a = some (.tup xs) := by
  obtain ⟨u, e1, l⟩ := h a _ e
  rw [l.tup] at e1; exact e1
theorem Kp.frz {H G : Hp} (h : Kp H G) {a : Addr} {o : Obj} {x : HO} (e : H a = some (.frz o x)) : G a = some (.frz o x) := by
  obtain ⟨u, e1, l⟩ := h a _ e
  rw [l.frz] at e1; exact e1
theorem Kp.dt {H G : Hp} (h : Kp H G) {a : Addr} {kvs : List (List L2.Key × V)} (e : H a = some (.dT kvs)) : G a = some (.dT kvs) := by
  obtain ⟨u, h1, h2⟩ := h a _ e
  rcases h2 with z | ⟨ps, qs, z, _⟩
  · rw [h1, z]
  · cases z
theorem Kp.free {H G : Hp} (h : Kp H G) {a : Addr} (e : G a = none) : H a = none := by
  cases q : H a with
  | none => exact Eq.refl _
  | some o =>
    obtain ⟨u, e1, _⟩ := h a o q
    rw [e] at e1; cases e1
theorem Kp.new {H : Hp} {p : Addr} {o : HO} (h : H p = none) : Kp H (upd H p o) := fun a u e => by
  rw [upd_ne (ne_of_none e h)]; exact ⟨u, e, .rfl⟩
theorem Kp.tab {H G : Hp} (h : Kp H G) {P : Addr} (t : GxR.TabG H P) : GxR.TabG G P := by
  obtain ⟨ps, e, tr⟩ := t
  obtain ⟨u, e1, l⟩ := h P _ e
  rcases l with l | ⟨p, q, h1, h2, h3⟩
  · subst l; exact ⟨ps, e1, tr⟩
  · cases h1; subst h2; exact ⟨q, e1, h3 tr⟩
theorem Kp.sqL {K : PySem.W.Frag} {H G : Hp} {a : Addr} {xs : List V} (h : Kp H G) (s : SqL K H a xs) : SqL K G a xs := by
  rcases s with (s | ⟨o, s⟩) | s
  · exact .inl (.inl (h.lst s))
  · exact .inl (.inr ⟨o, h.frz s⟩)
  · exact .inr s
theorem Kp.sqT {K : PySem.W.Frag} {H G : Hp} {a : Addr} {xs : List V} (h : Kp H G) (s : SqT K H a xs) : SqT K G a xs := by
  rcases s with (s | ⟨o, s⟩) | s
  · exact .inl (.inl (h.tup s))
  · exact .inl (.inr ⟨o, h.frz s⟩)
  · exact .inr s
mutual
theorem dp_mono {K : PySem.W.Frag} {H G : Hp} (h : Kp H G) : ∀ {v : V} {d : D}, Dp K H v d → Dp K G v d
  | _, _, .non => .non
  | _, _, .bl b => .bl b
  | _, _, .int i => .int i
  | _, _, .str x => .str x
  | _, _, .lst s a => .lst (h.sqL s) (dpa_mono h a)
  | _, _, .tup s a => .tup (h.sqT s) (dpa_mono h a)
theorem dpa_mono {K : PySem.W.Frag} {H G : Hp} (h : Kp H G) : ∀ {vs : List V} {ds : List D}, DpAll K H vs ds → DpAll K G vs ds
  | _, _, .nil => .nil
  | _, _, .cons a b => .cons (dp_mono h a) (dpa_mono h b)
end
theorem dpa_len {K : PySem.W.Frag} {H : Hp} : ∀ {vs : List V} {ds : List D}, DpAll K H vs ds → vs.length = ds.length
  | _, _, .nil => rfl
  | _, _, .cons _ b => by rw [List.length_cons, List.length_cons, dpa_len b]
theorem dpa_get {K : PySem.W.Frag} {H : Hp} : ∀ {vs : List V} {ds : List D} {i : Nat} {d : D}, DpAll K H vs ds → ds[i]? = some d → ∃ v, vs[i]? = some v ∧ Dp K H v d
  | _, _, _, _, .nil, e => by simp at e
  | _, _, 0, _, .cons a _, e => by simp at e; subst e; exact ⟨_, rfl, a⟩
  | _, _, i + 1, d, .cons _ b, e => by
    obtain ⟨v, h1, h2⟩ := dpa_get (i := i) (d := d) b (by simpa using e)
    exact ⟨v, by simpa using h1, h2⟩
theorem dpa_getV {K : PySem.W.Frag} {H : Hp} : ∀ {vs : List V} {ds : List D} {i : Nat} {v : V}, DpAll K H vs ds → vs[i]? = some v → ∃ d, ds[i]? = some d ∧ Dp K H v d
  | _, _, _, _, .nil, e => by simp at e
  | _, _, 0, _, .cons a _, e => by simp at e; subst e; exact ⟨_, rfl, a⟩
  | _, _, i + 1, v, .cons _ b, e => by
    obtain ⟨d, h1, h2⟩ := dpa_getV (i := i) (v := v) b (by simpa using e)
    exact ⟨d, by simpa using h1, h2⟩
theorem dpa_app {K : PySem.W.Frag} {H : Hp} : ∀ {vs ws : List V} {ds es : List D}, DpAll K H vs ds → DpAll K H ws es → DpAll K H (vs ++ ws) (ds ++ es)
  | _, _, _, _, .nil, h => h
  | _, _, _, _, .cons a b, h => .cons a (dpa_app b h)
theorem dpa_set {K : PySem.W.Frag} {H : Hp} {v : V} {d : D} (h : Dp K H v d) : ∀ {vs : List V} {ds : List D} (n : Nat), DpAll K H vs ds → DpAll K H (vs.set n v) (ds.set n d)
  | _, _, _, .nil => .nil
  | _, _, 0, .cons _ b => .cons h b
  | _, _, n + 1, .cons a b => .cons a (dpa_set h n b)
theorem dp_list {K : PySem.W.Frag} {H : Hp} {v : V} {ds : List D} (h : Dp K H v (.list ds)) : ∃ p xs, v = .ref p ∧ SqL K H p xs ∧ DpAll K H xs ds := by
  cases h with
  | lst s a => exact ⟨_, _, rfl, s, a⟩
theorem dp_tuple {K : PySem.W.Frag} {H : Hp} {v : V} {ds : List D} (h : Dp K H v (.tuple ds)) : ∃ p xs, v = .ref p ∧ SqT K H p xs ∧ DpAll K H xs ds := by
  cases h with
  | tup s a => exact ⟨_, _, rfl, s, a⟩
theorem dp_int {K : PySem.W.Frag} {H : Hp} {v : V} {i : Int} (h : Dp K H v (.int i)) : v = .int i := by cases h; rfl
theorem dp_bool {K : PySem.W.Frag} {H : Hp} {v : V} {i : Bool} (h : Dp K H v (.bool i)) : v = .bl i := by cases h; rfl
theorem dp_str {K : PySem.W.Frag} {H : Hp} {v : V} {i : Str} (h : Dp K H v (.str i)) : v = .str i := by cases h; rfl
/-- an item of an own mixed list: frozen data, an own list of frozen things, an own list of own lists -/
inductive I where
  | fz (d : D) | ow (ds : List D) | oo (dss : List (List D)) | tl (ds es : List D)
def I.toD : I → D
  | .fz d => d
  | .ow ds => .list ds
  | .oo dss => .list (dss.map .list)
  | .tl ds es => .tuple (ds ++ [.list es])
/-- what a slot or a value on its way is: frozen data, an own list of frozen things, an own list of own lists, a lent list, an own mixed list, an own dict with numbers as keys, a dict that stays, with rows of numbers as keys -/
inductive O where
  | fz (d : D) | ow (ds : List D) | oo (dss : List (List D)) | ln (ds : List D) | mx (is : List I) | dc (ks : List Int) (is : List I) | dt (ks : List (List Int)) | tu (is : List I)
def O.toD : O → D
  | .fz d => d
  | .ow ds => .list ds
  | .oo dss => .list (dss.map .list)
  | .ln ds => .list ds
  | .mx is => .list (is.map I.toD)
  | .dc _ _ => .none
  | .dt _ => .none
  | .tu is => .tuple (is.map I.toD)
def isDc : O → Bool
  | .dc _ _ => true
  | .dt _ => true
  | _ => false
def addr? : V → Option Addr
  | .ref a => some a
  | _ => none
def kids (H : Hp) (p : Addr) : List Addr := match H p with
  | some (.lst xs) => xs.filterMap addr?
  | _ => []
/-- the last thing of a tuple, if it has an address -/
def lastA (H : Hp) (p : Addr) : List Addr := match H p with
  | some (.tup xs) => (match xs.getLast? with
    | some (.ref q) => [q]
    | _ => [])
  | _ => []
def I.fp (H : Hp) (v : V) : I → List Addr
  | .fz _ => []
  | .ow _ => match v with
    | .ref p => [p]
    | _ => []
  | .oo _ => match v with
    | .ref p => p :: kids H p
    | _ => []
  | .tl _ _ => match v with
    | .ref p => p :: lastA H p
    | _ => []
def fpI (H : Hp) : List V → List I → List Addr
  | v :: vs, i :: is => i.fp H v ++ fpI H vs is
  | _, _ => []
def mkids (H : Hp) (p : Addr) (is : List I) : List Addr := match H p with
  | some (.lst xs) => fpI H xs is
  | _ => []
def ukids (H : Hp) (p : Addr) (is : List I) : List Addr := match H p with
  | some (.tup xs) => fpI H xs is
  | _ => []
def dkids (H : Hp) (p : Addr) (is : List I) : List Addr := match H p with
  | some (.dK kvs) => fpI H (kvs.map (·.2)) is
  | _ => []
def O.fp (H : Hp) (v : V) : O → List Addr
  | .fz _ => []
  | .ow _ => match v with
    | .ref p => [p]
    | _ => []
  | .ln _ => match v with
    | .ref p => [p]
    | _ => []
  | .oo _ => match v with
    | .ref p => p :: kids H p
    | _ => []
  | .mx is => match v with
    | .ref p => p :: mkids H p is
    | _ => []
  | .dc _ is => match v with
    | .ref p => p :: dkids H p is
    | _ => []
  | .dt _ => []
  | .tu is => match v with
    | .ref p => p :: ukids H p is
    | _ => []
theorem lastA_at {H : Hp} {p q : Addr} {xs : List V} (h : H p = some (.tup (xs ++ [.ref q]))) : lastA H p = [q] := by
  unfold lastA; rw [h]
  simp
theorem ukids_at {H : Hp} {p : Addr} {xs : List V} {is : List I} (h : H p = some (.tup xs)) : ukids H p is = fpI H xs is := by
  unfold ukids; rw [h]
theorem kids_refs {H : Hp} {p : Addr} {qs : List Addr} (h : H p = some (.lst (qs.map V.ref))) : kids H p = qs := by
  unfold kids; rw [h]
  show (qs.map V.ref).filterMap addr? = qs
  induction qs generalizing H with
  | nil => rfl
  | cons q r ih =>
    have := ih (H := fun _ => some (.lst (r.map V.ref))) rfl
    show q :: (r.map V.ref).filterMap addr? = q :: r
    rw [this]
theorem mkids_at {H : Hp} {p : Addr} {xs : List V} {is : List I} (h : H p = some (.lst xs)) : mkids H p is = fpI H xs is := by
  unfold mkids; rw [h]
theorem dkids_at {H : Hp} {p : Addr} {kvs : List (L2.Key × V)} {is : List I} (h : H p = some (.dK kvs)) : dkids H p is = fpI H (kvs.map (·.2)) is := by
  unfold dkids; rw [h]
/-- an own list of frozen things at p -/
def OwL (K : PySem.W.Frag) (F H : Hp) (p : Addr) (ds : List D) : Prop := ∃ xs, H p = some (.lst xs) ∧ F p = none ∧ DpAll K F xs ds
inductive OwA (K : PySem.W.Frag) (F H : Hp) : List Addr → List (List D) → Prop
  | nil : OwA K F H [] []
  | cons {q : Addr} {qs : List Addr} {ds : List D} {dss : List (List D)} : OwL K F H q ds → OwA K F H qs dss → OwA K F H (q :: qs) (ds :: dss)
def OkI (K : PySem.W.Frag) (F H : Hp) (v : V) : I → Prop
  | .fz d => Dp K F v d
  | .ow ds => ∃ p, v = .ref p ∧ OwL K F H p ds
  | .oo dss => ∃ p qs, v = .ref p ∧ H p = some (.lst (qs.map V.ref)) ∧ F p = none ∧ OwA K F H qs dss
  | .tl ds es => ∃ p xs q, v = .ref p ∧ H p = some (.tup (xs ++ [.ref q])) ∧ F p = none ∧ DpAll K F xs ds ∧ OwL K F H q es
inductive OkIs (K : PySem.W.Frag) (F H : Hp) : List V → List I → Prop
  | nil : OkIs K F H [] []
  | cons {v : V} {vs : List V} {i : I} {is : List I} : OkI K F H v i → OkIs K F H vs is → OkIs K F H (v :: vs) (i :: is)
def Ok (K : PySem.W.Frag) (F H : Hp) (v : V) : O → Prop
  | .fz d => Dp K F v d
  | .ow ds => ∃ p, v = .ref p ∧ OwL K F H p ds
  | .ln ds => ∃ p, v = .ref p ∧ OwL K F H p ds
  | .oo dss => ∃ p qs, v = .ref p ∧ H p = some (.lst (qs.map V.ref)) ∧ F p = none ∧ OwA K F H qs dss
  | .mx is => ∃ p xs, v = .ref p ∧ H p = some (.lst xs) ∧ F p = none ∧ OkIs K F H xs is
  | .dc ks is => ∃ p kvs, v = .ref p ∧ H p = some (.dK kvs) ∧ F p = none ∧ kvs.map (·.1) = ks.map Sum.inl ∧ OkIs K F H (kvs.map (·.2)) is
  | .dt ks => ∃ (p : Addr) (kvs : List (List L2.Key × V)), v = .ref p ∧ F p = some (.dT kvs) ∧ kvs.map (·.1) = ks.map (·.map Sum.inl)
  | .tu is => ∃ p xs, v = .ref p ∧ H p = some (.tup xs) ∧ F p = none ∧ OkIs K F H xs is
theorem owl_frame {K : PySem.W.Frag} {F H F' H' : Hp} {p : Addr} {ds : List D} (kf : Kp F F') (h : OwL K F H p ds) (hh : H' p = H p) (hf : F' p = none) : OwL K F' H' p ds := by
  obtain ⟨xs, e1, e2, e3⟩ := h
  exact ⟨xs, hh.trans e1, hf, dpa_mono kf e3⟩
theorem owa_frame {K : PySem.W.Frag} {F H F' H' : Hp} (kf : Kp F F') : ∀ {qs : List Addr} {dss : List (List D)}, OwA K F H qs dss → (∀ a ∈ qs, H' a = H a ∧ F' a = none) → OwA K F' H' qs dss
  | _, _, .nil, _ => .nil
  | _, _, .cons a b, h => .cons (owl_frame kf a (h _ List.mem_cons_self).1 (h _ List.mem_cons_self).2) (owa_frame kf b fun q hq => h q (List.mem_cons_of_mem _ hq))
theorem owa_mem {K : PySem.W.Frag} {F H : Hp} : ∀ {qs : List Addr} {dss : List (List D)}, OwA K F H qs dss → ∀ a ∈ qs, ∃ ds, OwL K F H a ds
  | _, _, .nil, a, h => by cases h
  | _, _, .cons x y, a, h => by
    rcases List.mem_cons.mp h with e | e
    · subst e; exact ⟨_, x⟩
    · exact owa_mem y a e
theorem okI_fp {K : PySem.W.Frag} {F H : Hp} {v : V} {o : I} (h : OkI K F H v o) : ∀ a ∈ o.fp H v, (∃ u, H a = some u ∧ Mut u) ∧ F a = none := by
  intro a ha
  have lm : ∀ {xs : List V}, Mut (.lst xs) := fun {xs} => .inl ⟨xs, rfl⟩
  cases o with
  | fz d => cases ha
  | ow ds =>
    obtain ⟨p, rfl, xs, e1, e2, _⟩ := h
    have : a = p := by simpa [I.fp] using ha
    subst this; exact ⟨⟨_, e1, lm⟩, e2⟩
  | oo dss =>
    obtain ⟨p, qs, rfl, e1, e2, e3⟩ := h
    simp only [I.fp, kids_refs e1] at ha
    rcases List.mem_cons.mp ha with e | e
    · subst e; exact ⟨⟨_, e1, lm⟩, e2⟩
    · obtain ⟨ds, xs, q1, q2, _⟩ := owa_mem e3 a e
      exact ⟨⟨_, q1, lm⟩, q2⟩
  | tl ds es =>
    obtain ⟨p, xs, q, rfl, e1, e2, e3, ys, g1, g2, g3⟩ := h
    simp only [I.fp, lastA_at e1] at ha
    rcases List.mem_cons.mp ha with e | e
    · subst e; exact ⟨⟨_, e1, .inr (.inr ⟨_, rfl⟩)⟩, e2⟩
    · have : a = q := by simpa using e
      subst this
      exact ⟨⟨_, g1, lm⟩, g2⟩
theorem okIs_fp {K : PySem.W.Frag} {F H : Hp} : ∀ {vs : List V} {is : List I}, OkIs K F H vs is → ∀ a ∈ fpI H vs is, (∃ u, H a = some u ∧ Mut u) ∧ F a = none
  | _, _, .nil, a, h => by cases h
  | _, _, .cons x y, a, h => by
    rcases List.mem_append.mp h with e | e
    · exact okI_fp x a e
    · exact okIs_fp y a e
theorem fpI_frame1 {K : PySem.W.Frag} {F H H' : Hp} {v : V} {o : I} (h : OkI K F H v o) (hh : ∀ a ∈ o.fp H v, H' a = H a) : o.fp H' v = o.fp H v := by
  cases o with
  | fz d => rfl
  | ow ds => rfl
  | oo dss =>
    obtain ⟨p, qs, rfl, e1, e2, e3⟩ := h
    have hp : H' p = H p := hh p (by show p ∈ p :: kids H p; exact List.mem_cons_self)
    show p :: kids H' p = p :: kids H p
    rw [kids_refs e1, kids_refs (hp.trans e1)]
  | tl ds es =>
    obtain ⟨p, xs, q, rfl, e1, _⟩ := h
    have hp : H' p = H p := hh p (by show p ∈ p :: lastA H p; exact List.mem_cons_self)
    show p :: lastA H' p = p :: lastA H p
    rw [lastA_at e1, lastA_at (hp.trans e1)]
theorem fpI_frame {K : PySem.W.Frag} {F H H' : Hp} : ∀ {vs : List V} {is : List I}, OkIs K F H vs is → (∀ a ∈ fpI H vs is, H' a = H a) → fpI H' vs is = fpI H vs is
  | _, _, .nil, _ => rfl
  | _, _, .cons x y, h => by
    unfold fpI
    rw [fpI_frame1 x fun a ha => h a (List.mem_append_left _ ha), fpI_frame y fun a ha => h a (List.mem_append_right _ ha)]
theorem okI_frame {K : PySem.W.Frag} {F H F' H' : Hp} {v : V} {o : I} (kf : Kp F F') (h : OkI K F H v o) (hh : ∀ a ∈ o.fp H v, H' a = H a ∧ F' a = none) : OkI K F' H' v o := by
  cases o with
  | fz d => exact dp_mono kf h
  | ow ds =>
    obtain ⟨p, rfl, w⟩ := h
    have := hh p (by simp [I.fp])
    exact ⟨p, rfl, owl_frame kf w this.1 this.2⟩
  | oo dss =>
    obtain ⟨p, qs, rfl, e1, e2, e3⟩ := h
    have g : ∀ a ∈ p :: qs, H' a = H a ∧ F' a = none := fun a ha => hh a (by simp only [I.fp, kids_refs e1]; exact ha)
    exact ⟨p, qs, rfl, (g p List.mem_cons_self).1.trans e1, (g p List.mem_cons_self).2, owa_frame kf e3 fun a ha => g a (List.mem_cons_of_mem _ ha)⟩
  | tl ds es =>
    obtain ⟨p, xs, q, rfl, e1, e2, e3, e4⟩ := h
    have g : ∀ a ∈ p :: [q], H' a = H a ∧ F' a = none := fun a ha => hh a (by simp only [I.fp, lastA_at e1]; exact ha)
    exact ⟨p, xs, q, rfl, (g p List.mem_cons_self).1.trans e1, (g p List.mem_cons_self).2, dpa_mono kf e3, owl_frame kf e4 (g q (by simp)).1 (g q (by simp)).2⟩
theorem okIs_frame {K : PySem.W.Frag} {F H F' H' : Hp} (kf : Kp F F') : ∀ {vs : List V} {is : List I}, OkIs K F H vs is → (∀ a ∈ fpI H vs is, H' a = H a ∧ F' a = none) → OkIs K F' H' vs is
  | _, _, .nil, _ => .nil
  | _, _, .cons x y, h => .cons (okI_frame kf x fun a ha => h a (List.mem_append_left _ ha)) (okIs_frame kf y fun a ha => h a (List.mem_append_right _ ha))
/-- the addresses of an own thing: lists that are tracked and not frozen -/
theorem ok_fp {K : PySem.W.Frag} {F H : Hp} {v : V} {o : O} (h : Ok K F H v o) : ∀ a ∈ o.fp H v, (∃ u, H a = some u ∧ Mut u) ∧ F a = none := by
  intro a ha
  cases o with
  | fz d => cases ha
  | ow ds => exact okI_fp (o := .ow ds) h a ha
  | ln ds => exact okI_fp (o := .ow ds) h a ha
  | oo dss => exact okI_fp (o := .oo dss) h a ha
  | mx is =>
    obtain ⟨p, xs, rfl, e1, e2, e3⟩ := h
    simp only [O.fp, mkids_at e1] at ha
    rcases List.mem_cons.mp ha with e | e
    · subst e; exact ⟨⟨_, e1, .inl ⟨_, rfl⟩⟩, e2⟩
    · exact okIs_fp e3 a e
  | dc ks is =>
    obtain ⟨p, xs, rfl, e1, e2, _, e3⟩ := h
    simp only [O.fp, dkids_at e1] at ha
    rcases List.mem_cons.mp ha with e | e
    · subst e; exact ⟨⟨_, e1, .inr (.inl ⟨_, rfl⟩)⟩, e2⟩
    · exact okIs_fp e3 a e
  | dt ks => cases ha
  | tu is =>
    obtain ⟨p, xs, rfl, e1, e2, e3⟩ := h
    simp only [O.fp, ukids_at e1] at ha
    rcases List.mem_cons.mp ha with e | e
    · subst e; exact ⟨⟨_, e1, .inr (.inr ⟨_, rfl⟩)⟩, e2⟩
    · exact okIs_fp e3 a e
theorem fp_frame {K : PySem.W.Frag} {F H H' : Hp} {v : V} {o : O} (h : Ok K F H v o) (hh : ∀ a ∈ o.fp H v, H' a = H a) : o.fp H' v = o.fp H v := by
  cases o with
  | fz d => rfl
  | ow ds => rfl
  | ln ds => rfl
  | oo dss => exact fpI_frame1 (o := .oo dss) h hh
  | mx is =>
    obtain ⟨p, xs, rfl, e1, e2, e3⟩ := h
    have hp : H' p = H p := hh p (by show p ∈ p :: mkids H p is; exact List.mem_cons_self)
    show p :: mkids H' p is = p :: mkids H p is
    rw [mkids_at e1, mkids_at (hp.trans e1), fpI_frame e3 fun a ha => hh a (by show a ∈ p :: mkids H p is; rw [mkids_at e1]; exact List.mem_cons_of_mem _ ha)]
  | dc ks is =>
    obtain ⟨p, xs, rfl, e1, e2, _, e3⟩ := h
    have hp : H' p = H p := hh p (by show p ∈ p :: dkids H p is; exact List.mem_cons_self)
    show p :: dkids H' p is = p :: dkids H p is
    rw [dkids_at e1, dkids_at (hp.trans e1), fpI_frame e3 fun a ha => hh a (by show a ∈ p :: dkids H p is; rw [dkids_at e1]; exact List.mem_cons_of_mem _ ha)]
  | dt ks => rfl
  | tu is =>
    obtain ⟨p, xs, rfl, e1, e2, e3⟩ := h
    have hp : H' p = H p := hh p (by show p ∈ p :: ukids H p is; exact List.mem_cons_self)
    show p :: ukids H' p is = p :: ukids H p is
    rw [ukids_at e1, ukids_at (hp.trans e1), fpI_frame e3 fun a ha => hh a (by show a ∈ p :: ukids H p is; rw [ukids_at e1]; exact List.mem_cons_of_mem _ ha)]
theorem ok_frame {K : PySem.W.Frag} {F H F' H' : Hp} {v : V} {o : O} (kf : Kp F F') (h : Ok K F H v o) (hh : ∀ a ∈ o.fp H v, H' a = H a ∧ F' a = none) : Ok K F' H' v o := by
  cases o with
  | fz d => exact dp_mono kf h
  | ow ds => exact okI_frame (o := .ow ds) kf h hh
  | ln ds => exact okI_frame (o := .ow ds) kf h hh
  | oo dss => exact okI_frame (o := .oo dss) kf h hh
  | mx is =>
    obtain ⟨p, xs, rfl, e1, e2, e3⟩ := h
    have g : ∀ a ∈ p :: fpI H xs is, H' a = H a ∧ F' a = none := fun a ha => hh a (by simp only [O.fp, mkids_at e1]; exact ha)
    exact ⟨p, xs, rfl, (g p List.mem_cons_self).1.trans e1, (g p List.mem_cons_self).2, okIs_frame kf e3 fun a ha => g a (List.mem_cons_of_mem _ ha)⟩
  | dc ks is =>
    obtain ⟨p, xs, rfl, e1, e2, e4, e3⟩ := h
    have g : ∀ a ∈ p :: fpI H (xs.map (·.2)) is, H' a = H a ∧ F' a = none := fun a ha => hh a (by simp only [O.fp, dkids_at e1]; exact ha)
    exact ⟨p, xs, rfl, (g p List.mem_cons_self).1.trans e1, (g p List.mem_cons_self).2, e4, okIs_frame kf e3 fun a ha => g a (List.mem_cons_of_mem _ ha)⟩
  | dt ks =>
    obtain ⟨p, kvs, rfl, e1, e2⟩ := h
    exact ⟨p, kvs, rfl, kf.dt e1, e2⟩
  | tu is =>
    obtain ⟨p, xs, rfl, e1, e2, e3⟩ := h
    have g : ∀ a ∈ p :: fpI H xs is, H' a = H a ∧ F' a = none := fun a ha => hh a (by simp only [O.fp, ukids_at e1]; exact ha)
    exact ⟨p, xs, rfl, (g p List.mem_cons_self).1.trans e1, (g p List.mem_cons_self).2, okIs_frame kf e3 fun a ha => g a (List.mem_cons_of_mem _ ha)⟩

/-- the module's objects, and the tables of code objects that the defs hold -/
theorem _root_.LamX.Tabs.new {T : List (Addr × Str)} {H : Hp} {p : Addr} {o : HO} (t : LamX.Tabs T H) (h : H p = none) : LamX.Tabs T (upd H p o) := t.ext fun b u e => by rw [upd_ne (ne_of_none e h)]; exact e
theorem _root_.LamX.Tabs.overM {T : List (Addr × Str)} {H : Hp} {p : Addr} {o u : HO} (t : LamX.Tabs T H) (h : H p = some u) (m : Mut u) : LamX.Tabs T (upd H p o) := fun q hq => by
  obtain ⟨ps, h1, h2, h3⟩ := t q hq
  have n1 : q.1 ≠ p := fun z => by
    subst z; rw [h1] at h; cases h
    rcases m with ⟨_, z⟩ | ⟨_, z⟩ | ⟨_, z⟩ <;> cases z
  refine ⟨ps, by rw [upd_ne n1]; exact h1, h2, fun pos cv hc => ?_⟩
  obtain ⟨c, e1, e2⟩ := h3 pos cv hc
  refine ⟨c, e1, ?_⟩
  rw [upd_ne fun z => ?_]
  · exact e2
  · subst z; rw [e2] at h; cases h
    rcases m with ⟨_, z⟩ | ⟨_, z⟩ | ⟨_, z⟩ <;> (unfold LamX.CodeO at z; cases z)
theorem _root_.LamX.Tabs.over {T : List (Addr × Str)} {H : Hp} {p : Addr} {o : HO} {xs : List V} (t : LamX.Tabs T H) (h : H p = some (.lst xs)) : LamX.Tabs T (upd H p o) := t.overM h (.inl ⟨_, rfl⟩)
structure Lay where
  K : PySem.W.Frag
  T : List Addr
  /-- tables of defs that make lambdas, with the lambdas' names -/
  L : List (Addr × Str) := []
  dj : ∀ p ∈ L, p.1 ∉ T := by decide
instance : Coe Lay PySem.W.Frag := ⟨Lay.K⟩
abbrev Δ := List (Option O)
def Own (H : Hp) (σ : L2.St) (δ : Δ) (i : Nat) (a : Addr) : Prop := ∃ v o, σ[i]? = some (some v) ∧ δ[i]? = some (some o) ∧ a ∈ o.fp H v
def Held (H : Hp) (σ : L2.St) (δ : Δ) (a : Addr) : Prop := ∃ i, Own H σ δ i a
structure Rep (K : Lay) (F H : Hp) (σ : L2.St) (δ : Δ) : Prop where
  kp : Kp F H
  len : σ.length = δ.length
  ok : ∀ (i : Nat) (o : O), δ[i]? = some (some o) → ∃ v, σ[i]? = some (some v) ∧ Ok K F H v o ∧ (o.fp H v).Nodup
  ap : ∀ i j a, Own H σ δ i a → Own H σ δ j a → i = j
  tb : ∀ T ∈ K.T, GxR.TabG F T
  nm : LamX.Tabs K.L H
theorem Rep.tab {K : Lay} {F H : Hp} {σ : L2.St} {δ : Δ} (r : Rep K F H σ δ) {T : Addr} (h : T ∈ K.T) : GxR.TabG H T := r.kp.tab (r.tb T h)
theorem Rep.held {K : Lay} {F H : Hp} {σ : L2.St} {δ : Δ} (r : Rep K F H σ δ) {a : Addr} (h : Held H σ δ a) : (∃ u, H a = some u ∧ Mut u) ∧ F a = none := by
  obtain ⟨i, v, o, e1, e2, e3⟩ := h
  obtain ⟨v', e4, e5, _⟩ := r.ok i o e2
  rw [e1] at e4; cases e4
  exact ok_fp e5 a e3
/-- a value on its way, apart from the slots -/
structure Tmp (K : Lay) (F H : Hp) (σ : L2.St) (δ : Δ) (v : V) (o : O) : Prop where
  ok : Ok K F H v o
  nd : (o.fp H v).Nodup
  ap : ∀ a ∈ o.fp H v, ¬ Held H σ δ a
/-- from one state to another: what was frozen is frozen; what the slots do not hold is as it was; only new things and what the slots held was frozen or is held -/
structure Go (F H : Hp) (σ : L2.St) (δ : Δ) (F' H' : Hp) (σ' : L2.St) (δ' : Δ) : Prop where
  kf : Kp F F'
  kh : ∀ a o, H a = some o → ¬ Held H σ δ a → ∃ u, H' a = some u ∧ Lq o u
  nf : ∀ a, F' a ≠ none → F a ≠ none ∨ H a = none ∨ Held H σ δ a
  hd : ∀ a, Held H' σ' δ' a → Held H σ δ a ∨ H a = none
  st : ∀ a, H a ≠ none → H' a ≠ none
  ln : ∀ (i : Nat) (ds : List D), δ[i]? = some (some (O.ln ds)) → σ'[i]? = σ[i]? ∧ ∃ es, δ'[i]? = some (some (O.ln es))
theorem Go.rfl {F H : Hp} {σ : L2.St} {δ : Δ} : Go F H σ δ F H σ δ := ⟨.rfl, fun _ o e _ => ⟨o, e, .rfl⟩, fun _ h => .inl h, fun _ h => .inl h, fun _ h => h, fun _ ds h => ⟨Eq.refl _, ds, h⟩⟩
theorem Go.trans {F H F1 H1 F2 H2 : Hp} {σ σ1 σ2 : L2.St} {δ δ1 δ2 : Δ} (a : Go F H σ δ F1 H1 σ1 δ1) (b : Go F1 H1 σ1 δ1 F2 H2 σ2 δ2) : Go F H σ δ F2 H2 σ2 δ2 where
  kf := a.kf.trans b.kf
  kh := fun x o e n => by
    obtain ⟨u, e1, l1⟩ := a.kh x o e n
    obtain ⟨w, e2, l2⟩ := b.kh x u e1 fun h => by
      rcases a.hd x h with q | q
      · exact n q
      · rw [e] at q; cases q
    exact ⟨w, e2, l1.trans l2⟩
  nf := fun x h => by
    rcases b.nf x h with q | q | q
    · exact a.nf x q
    · by_cases z : H x = none
      · exact .inr (.inl z)
      · exact absurd q (a.st x z)
    · rcases a.hd x q with z | z
      · exact .inr (.inr z)
      · exact .inr (.inl z)
  hd := fun x h => by
    rcases b.hd x h with q | q
    · exact a.hd x q
    · by_cases z : H x = none
      · exact .inr z
      · exact absurd q (a.st x z)
  st := fun x h => b.st x (a.st x h)
  ln := fun i ds h => by
    obtain ⟨e1, es, e2⟩ := a.ln i ds h
    obtain ⟨e3, es', e4⟩ := b.ln i es e2
    exact ⟨e3.trans e1, es', e4⟩
theorem Tmp.frame {K : Lay} {F H F' H' : Hp} {σ σ' : L2.St} {δ δ' : Δ} {v : V} {o : O} (t : Tmp K F H σ δ v o) (g : Go F H σ δ F' H' σ' δ') : Tmp K F' H' σ' δ' v o ∧ o.fp H' v = o.fp H v := by
  have same : ∀ a ∈ o.fp H v, H' a = H a ∧ F' a = none := fun a ha => by
    obtain ⟨⟨xs, e1, m1⟩, e2⟩ := ok_fp t.ok a ha
    have nh := t.ap a ha
    obtain ⟨u, e3, l⟩ := g.kh a _ e1 nh
    refine ⟨?_, ?_⟩
    · rw [e3, l.mut m1, e1]
    · cases q : F' a with
      | none => rfl
      | some x =>
        rcases g.nf a (by rw [q]; simp) with z | z | z
        · exact absurd e2 z
        · rw [e1] at z; cases z
        · exact absurd z nh
  have fe := fp_frame t.ok fun a ha => (same a ha).1
  refine ⟨⟨ok_frame g.kf t.ok same, by rw [fe]; exact t.nd, fun a ha h => ?_⟩, fe⟩
  rw [fe] at ha
  obtain ⟨⟨xs, e1, _⟩, _⟩ := ok_fp t.ok a ha
  rcases g.hd a h with z | z
  · exact t.ap a ha z
  · rw [e1] at z; cases z
end Vi
end
section
set_option Elab.async false
set_option linter.all false
set_option maxRecDepth 100000
set_option maxHeartbeats 1000000
namespace Vi
open PySem PySem.Spec PyProof.Rows L2
inductive P where
  | tm (o : O) | sl (i : Nat)
def P.data (δ : Δ) : P → Option D
  | .tm (.dc _ _) => none
  | .tm (.dt _) => none
  | .tm o => some o.toD
  | .sl i => match δ[i]? with
    | some (some (.dc _ _)) => none
    | some (some (.dt _)) => none
    | some (some o) => some o.toD
    | _ => none
section
variable {K : Lay} {F H F' H' F0 H0 F1 H1 F2 H2 : Hp} {σ : L2.St} {δ δ' δ0 δ1 δ2 : Δ} {v x y : V} {p q : P} {o : O} {d e : D}
def PR (K : Lay) (F H : Hp) (σ : L2.St) (δ : Δ) (v : V) : P → Prop
  | .tm o => Tmp K F H σ δ v o
  | .sl i => σ[i]? = some (some v) ∧ ∃ o, δ[i]? = some (some o)
def P.fp (H : Hp) (v : V) : P → List Addr
  | .tm o => o.fp H v
  | .sl _ => []
/-- behind an expression -/
structure Aft (K : Lay) (F H : Hp) (σ : L2.St) (δ : Δ) (F' H' : Hp) (δ' : Δ) : Prop where
  rep : Rep K F' H' σ δ'
  go : Go F H σ δ F' H' σ δ'
  un : ∀ (i : Nat) (o : O), δ[i]? = some (some o) → ∃ o', δ'[i]? = some (some o')
  nl : ∀ (i : Nat) (es : List D), δ'[i]? = some (some (O.ln es)) → ∃ fs, δ[i]? = some (some (O.ln fs))
theorem Aft.rfl (r : Rep K F H σ δ) : Aft K F H σ δ F H δ := ⟨r, .rfl, fun _ o h => ⟨o, h⟩, fun _ es h => ⟨es, h⟩⟩
theorem Aft.trans (a : Aft K F H σ δ F1 H1 δ1) (b : Aft K F1 H1 σ δ1 F2 H2 δ2) : Aft K F H σ δ F2 H2 δ2 :=
  ⟨b.rep, a.go.trans b.go, fun i o h => let ⟨o1, h1⟩ := a.un i o h; b.un i o1 h1, fun i es h => let ⟨fs, h1⟩ := b.nl i es h; a.nl i fs h1⟩
def Nw (H : Hp) (σ : L2.St) (δ : Δ) (H' : Hp) (v : V) (p : P) : Prop := ∀ a ∈ p.fp H' v, Held H σ δ a ∨ H a = none
def SX (K : Lay) (te : TE) (f : Δ → Option (P × Δ)) : Prop := ∀ δ p δ', f δ = some (p, δ') → ∀ σ F H, Rep K F H σ δ → ∀ Q : VK,
  (∀ v F' H', Aft K F H σ δ F' H' δ' → PR K F' H' σ δ' v p → Nw H σ δ H' v p → Q v H') → te σ H Q
/-- frozen behind it -/
def SD (K : Lay) (te : TE) (g : Δ → Option (D × Δ)) : Prop := ∀ δ d δ', g δ = some (d, δ') → ∀ σ F H, Rep K F H σ δ → ∀ Q : VK,
  (∀ v F' H', Aft K F H σ δ F' H' δ' → Dp K F' v d → Q v H') → te σ H Q
def ST (K : Lay) (tt : TT) (g : Δ → Option (Bool × Δ)) : Prop := ∀ δ b δ', g δ = some (b, δ') → ∀ σ F H, Rep K F H σ δ → ∀ Q : Bool → Hp → Prop,
  (∀ F' H', Aft K F H σ δ F' H' δ' → Q b H') → tt σ H Q
/-- several, each frozen -/
def SDs (K : Lay) (ta : TA) (g : Δ → Option (List D × Δ)) : Prop := ∀ δ ds δ', g δ = some (ds, δ') → ∀ σ F H, Rep K F H σ δ → ∀ Q : List V → Hp → Prop,
  (∀ vs F' H', Aft K F H σ δ F' H' δ' → DpAll K F' vs ds → Q vs H') → ta σ H Q
theorem owa_dp (kp : Kp F H) : ∀ {qs : List Addr} {dss : List (List D)}, OwA K F H qs dss → DpAll K H (qs.map V.ref) (dss.map .list)
  | _, _, .nil => .nil
  | _, _, .cons ⟨xs, a1, a2, a3⟩ b => .cons (.lst (SqL.of a1) (dpa_mono kp a3)) (owa_dp kp b)
theorem okI_dp (kp : Kp F H) {i : I} (h : OkI K F H v i) : Dp K H v i.toD := by
  cases i with
  | fz d => exact dp_mono kp h
  | ow ds =>
    obtain ⟨p, rfl, xs, e1, _, e3⟩ := h
    exact .lst (SqL.of e1) (dpa_mono kp e3)
  | oo dss =>
    obtain ⟨p, qs, rfl, e1, _, e3⟩ := h
    exact .lst (SqL.of e1) (owa_dp kp e3)
  | tl ds es =>
    obtain ⟨p, xs, q, rfl, e1, _, e3, ys, g1, _, g3⟩ := h
    exact .tup (.inl (.inl e1)) (dpa_app (dpa_mono kp e3) (.cons (.lst (SqL.of g1) (dpa_mono kp g3)) .nil))
theorem okIs_dp (kp : Kp F H) : ∀ {vs : List V} {is : List I}, OkIs K F H vs is → DpAll K H vs (is.map I.toD)
  | _, _, .nil => .nil
  | _, _, .cons a b => .cons (okI_dp kp a) (okIs_dp kp b)
theorem ok_dp (kp : Kp F H) (h : Ok K F H v o) (hc : isDc o = false) : Dp K H v o.toD := by
  cases o with
  | dc ks is => cases hc
  | dt ks => cases hc
  | fz d => exact dp_mono kp h
  | ow ds =>
    obtain ⟨p, rfl, xs, e1, _, e3⟩ := h
    exact .lst (SqL.of e1) (dpa_mono kp e3)
  | ln ds =>
    obtain ⟨p, rfl, xs, e1, _, e3⟩ := h
    exact .lst (SqL.of e1) (dpa_mono kp e3)
  | oo dss =>
    obtain ⟨p, qs, rfl, e1, _, e3⟩ := h
    exact .lst (SqL.of e1) (owa_dp kp e3)
  | mx is =>
    obtain ⟨p, xs, rfl, e1, _, e3⟩ := h
    exact .lst (SqL.of e1) (okIs_dp kp e3)
  | tu is =>
    obtain ⟨p, xs, rfl, e1, _, e3⟩ := h
    exact .tup (.inl (.inl e1)) (okIs_dp kp e3)
theorem pr_dp (r : Rep K F H σ δ) (h : PR K F H σ δ v p) (e : p.data δ = some d) : Dp K H v d := by
  cases p with
  | tm o =>
    have ho : isDc o = false ∧ d = o.toD := by cases o <;> simp_all [P.data, isDc]
    rw [ho.2]; exact ok_dp r.kp h.ok ho.1
  | sl i =>
    obtain ⟨h1, o, h2⟩ := h
    have ho : isDc o = false ∧ d = o.toD := by cases o <;> simp_all [P.data, isDc]
    obtain ⟨v', e1, e2, _⟩ := r.ok i o h2
    rw [h1] at e1; cases e1
    rw [ho.2]; exact ok_dp r.kp e2 ho.1
theorem PR.step (h : PR K F H σ δ v p) (a : Aft K F H σ δ F' H' δ') : PR K F' H' σ δ' v p ∧ p.fp H' v = p.fp H v := by
  cases p with
  | tm o => exact Tmp.frame h a.go
  | sl i =>
    obtain ⟨h1, o, h2⟩ := h
    exact ⟨⟨h1, a.un i o h2⟩, rfl⟩
theorem Nw.step (n : Nw H σ δ H1 v p) (a : Aft K F1 H1 σ δ1 F2 H2 δ2) (h : PR K F1 H1 σ δ1 v p) : Nw H σ δ H2 v p := fun z hz => n z (by rw [← (h.step a).2]; exact hz)
theorem Nw.from (g : Go F H σ δ F1 H1 σ δ1) (n : Nw H1 σ δ1 H2 v p) : Nw H σ δ H2 v p := fun z hz => by
  rcases n z hz with q | q
  · exact g.hd z q
  · by_cases w : H z = none
    · exact .inr w
    · exact absurd q (g.st z w)
/-! ### freezing -/
def frz (F H : Hp) (A : List Addr) : Hp := fun a => if a ∈ A then H a else F a
theorem frz_in {A : List Addr} {a : Addr} (h : a ∈ A) : frz F H A a = H a := if_pos h
theorem frz_out {A : List Addr} {a : Addr} (h : a ∉ A) : frz F H A a = F a := if_neg h
theorem frz_kp {A : List Addr} (h : ∀ a ∈ A, F a = none) : Kp F (frz F H A) := fun a o e => ⟨o, by
  rw [frz_out (fun ha => by rw [h a ha] at e; cases e)]; exact e, .rfl⟩
theorem frz_up {A : List Addr} (kp : Kp F H) : Kp (frz F H A) H := fun a o e => by
  by_cases ha : a ∈ A
  · rw [frz_in ha] at e; exact ⟨o, e, .rfl⟩
  · rw [frz_out ha] at e; exact kp a o e
theorem owa_frz {A : List Addr} (kf : Kp F (frz F H A)) : ∀ {qs : List Addr} {dss : List (List D)}, OwA K F H qs dss → (∀ a ∈ qs, a ∈ A) → DpAll K (frz F H A) (qs.map V.ref) (dss.map .list)
  | _, _, .nil, _ => .nil
  | _, _, .cons ⟨xs, a1, a2, a3⟩ b, h => .cons (.lst (SqL.of (by rw [frz_in (h _ List.mem_cons_self)]; exact a1)) (dpa_mono kf a3)) (owa_frz kf b fun a ha => h a (List.mem_cons_of_mem _ ha))
theorem okI_frz {A : List Addr} (kf : Kp F (frz F H A)) {i : I} (h : OkI K F H v i) (hA : ∀ a ∈ i.fp H v, a ∈ A) : Dp K (frz F H A) v i.toD := by
  cases i with
  | fz d => exact dp_mono kf h
  | ow ds =>
    obtain ⟨p, rfl, xs, e1, _, e3⟩ := h
    exact .lst (SqL.of (by rw [frz_in (hA p (by simp [I.fp]))]; exact e1)) (dpa_mono kf e3)
  | oo dss =>
    obtain ⟨p, qs, rfl, e1, _, e3⟩ := h
    have ek : I.fp H (.ref p) (.oo dss) = p :: qs := by show p :: kids H p = _; rw [kids_refs e1]
    exact .lst (SqL.of (by rw [frz_in (hA p (by rw [ek]; exact List.mem_cons_self))]; exact e1)) (owa_frz kf e3 fun a ha => hA a (by rw [ek]; exact List.mem_cons_of_mem _ ha))
  | tl ds es =>
    obtain ⟨p, xs, q, rfl, e1, _, e3, ys, g1, _, g3⟩ := h
    have ek : I.fp H (.ref p) (.tl ds es) = p :: [q] := by show p :: lastA H p = _; rw [lastA_at e1]
    exact .tup (.inl (.inl (by rw [frz_in (hA p (by rw [ek]; exact List.mem_cons_self))]; exact e1))) (dpa_app (dpa_mono kf e3) (.cons (.lst (SqL.of (by rw [frz_in (hA q (by rw [ek]; simp))]; exact g1)) (dpa_mono kf g3)) .nil))
theorem okIs_frz {A : List Addr} (kf : Kp F (frz F H A)) : ∀ {vs : List V} {is : List I}, OkIs K F H vs is → (∀ a ∈ fpI H vs is, a ∈ A) → DpAll K (frz F H A) vs (is.map I.toD)
  | _, _, .nil, _ => .nil
  | _, _, .cons a b, h => .cons (okI_frz kf a fun x hx => h x (List.mem_append_left _ hx)) (okIs_frz kf b fun x hx => h x (List.mem_append_right _ hx))
theorem ok_frz (h : Ok K F H v o) (hc : isDc o = false) : Dp K (frz F H (o.fp H v)) v o.toD := by
  have kf : Kp F (frz F H (o.fp H v)) := frz_kp fun a ha => (ok_fp h a ha).2
  cases o with
  | dc ks is => cases hc
  | dt ks => cases hc
  | fz d => exact dp_mono kf h
  | ow ds =>
    obtain ⟨p, rfl, xs, e1, _, e3⟩ := h
    exact .lst (SqL.of (by rw [frz_in (by simp [O.fp])]; exact e1)) (dpa_mono kf e3)
  | ln ds =>
    obtain ⟨p, rfl, xs, e1, _, e3⟩ := h
    exact .lst (SqL.of (by rw [frz_in (by simp [O.fp])]; exact e1)) (dpa_mono kf e3)
  | oo dss =>
    obtain ⟨p, qs, rfl, e1, _, e3⟩ := h
    have ek : O.fp H (.ref p) (.oo dss) = p :: qs := by show p :: kids H p = _; rw [kids_refs e1]
    exact .lst (SqL.of (by rw [frz_in (by rw [ek]; exact List.mem_cons_self)]; exact e1)) (owa_frz kf e3 fun a ha => by rw [ek]; exact List.mem_cons_of_mem _ ha)
  | mx is =>
    obtain ⟨p, xs, rfl, e1, _, e3⟩ := h
    have ek : O.fp H (.ref p) (.mx is) = p :: fpI H xs is := by show p :: mkids H p is = _; rw [mkids_at e1]
    exact .lst (SqL.of (by rw [frz_in (by rw [ek]; exact List.mem_cons_self)]; exact e1)) (okIs_frz kf e3 fun a ha => by rw [ek]; exact List.mem_cons_of_mem _ ha)
  | tu is =>
    obtain ⟨p, xs, rfl, e1, _, e3⟩ := h
    have ek : O.fp H (.ref p) (.tu is) = p :: fpI H xs is := by show p :: ukids H p is = _; rw [ukids_at e1]
    exact .tup (.inl (.inl (by rw [frz_in (by rw [ek]; exact List.mem_cons_self)]; exact e1))) (okIs_frz kf e3 fun a ha => by rw [ek]; exact List.mem_cons_of_mem _ ha)
/-- freezing what no slot holds -/
theorem Rep.frzA (r : Rep K F H σ δ) {A : List Addr} (hA : ∀ a ∈ A, F a = none) (nh : ∀ a ∈ A, ¬ Held H σ δ a) : Rep K (frz F H A) H σ δ := by
  refine ⟨frz_up r.kp, r.len, fun i o h => ?_, r.ap, fun T hT => (frz_kp hA).tab (r.tb T hT), r.nm⟩
  obtain ⟨v, e1, e2, e3⟩ := r.ok i o h
  exact ⟨v, e1, ok_frame (frz_kp hA) e2 fun a ha => ⟨rfl, by rw [frz_out (fun z => nh a z ⟨i, v, o, e1, h, ha⟩)]; exact (ok_fp e2 a ha).2⟩, e3⟩
theorem set_get_ne {α : Type} {l : List α} {i j : Nat} {a : α} (h : i ≠ j) : (l.set i a)[j]? = l[j]? := List.getElem?_set_ne h
theorem set_get_eq {α : Type} {l : List α} {i : Nat} {a b : α} (h : l[i]? = some b) : (l.set i a)[i]? = some a := by
  rw [List.getElem?_set_self]; exact (List.getElem?_eq_some_iff.mp h).1
/-- lent things and dicts are never frozen -/
def isLn : O → Bool
  | .ln _ => true
  | .dc _ _ => true
  | .dt _ => true
  | _ => false
theorem isLn_dc (h : isLn o = false) : isDc o = false := by cases o <;> first | rfl | cases h
/-- a slot's own thing frozen -/
theorem Rep.frzSlot (r : Rep K F H σ δ) {i : Nat} (h : δ[i]? = some (some o)) (hv : σ[i]? = some (some v)) (hn : isLn o = false) :
    Rep K (frz F H (o.fp H v)) H σ (δ.set i (some (.fz o.toD))) ∧ Go F H σ δ (frz F H (o.fp H v)) H σ (δ.set i (some (.fz o.toD))) ∧ Dp K (frz F H (o.fp H v)) v o.toD := by
  obtain ⟨v', e1, e2, e3⟩ := r.ok i o h
  rw [hv] at e1; cases e1
  have hA : ∀ a ∈ o.fp H v, F a = none := fun a ha => (ok_fp e2 a ha).2
  have own_of : ∀ j a, Own H σ (δ.set i (some (.fz o.toD))) j a → j ≠ i ∧ Own H σ δ j a := fun j a ⟨w, u, q1, q2, q3⟩ => by
    by_cases hj : i = j
    · subst hj
      rw [set_get_eq h] at q2; cases q2; cases q3
    · rw [set_get_ne hj] at q2
      exact ⟨fun z => hj z.symm, w, u, q1, q2, q3⟩
  refine ⟨⟨frz_up r.kp, by rw [List.length_set]; exact r.len, fun j u hj => ?_, fun j k a hj hk => r.ap j k a (own_of j a hj).2 (own_of k a hk).2, fun T hT => (frz_kp hA).tab (r.tb T hT), r.nm⟩, ⟨frz_kp hA, fun a o e _ => ⟨o, e, .rfl⟩, fun a ha => ?_, fun a ⟨j, hj⟩ => .inl ⟨j, (own_of j a hj).2⟩, fun _ z => z, fun j ds hj => ⟨rfl, ds, ?_⟩⟩, ok_frz e2 (isLn_dc hn)⟩
  · by_cases hij : i = j
    · subst hij
      rw [set_get_eq h] at hj; cases hj
      exact ⟨v, hv, ok_frz e2 (isLn_dc hn), by simp [O.fp]⟩
    · rw [set_get_ne hij] at hj
      obtain ⟨w, q1, q2, q3⟩ := r.ok j u hj
      refine ⟨w, q1, ok_frame (frz_kp hA) q2 fun a ha => ⟨rfl, ?_⟩, q3⟩
      rw [frz_out fun z => hij (r.ap i j a ⟨v, o, hv, h, z⟩ ⟨w, u, q1, hj, ha⟩)]
      exact (ok_fp q2 a ha).2
  · by_cases z : a ∈ o.fp H v
    · exact .inr (.inr ⟨i, v, o, hv, h, z⟩)
    · rw [frz_out z] at ha; exact .inl ha
  · by_cases hij : i = j
    · subst hij
      rw [h] at hj; cases hj; cases hn
    · rw [set_get_ne hij]; exact hj
def force : P → Δ → Option (D × Δ)
  | .tm (.ln _), _ => none
  | .tm (.dc _ _), _ => none
  | .tm (.dt _), _ => none
  | .tm o, δ => some (o.toD, δ)
  | .sl i, δ => match δ[i]? with
    | some (some (.ln _)) => none
    | some (some (.dc _ _)) => none
    | some (some (.dt _)) => none
    | some (some o) => some (o.toD, δ.set i (some (.fz o.toD)))
    | _ => none
theorem force_ok (a : Aft K F0 H0 σ δ0 F H δ) (h : PR K F H σ δ v p) (n : Nw H0 σ δ0 H v p) (e : force p δ = some (d, δ1)) :
    ∃ F', Aft K F0 H0 σ δ0 F' H δ1 ∧ Dp K F' v d ∧ Kp F F' ∧ ∀ z, F' z ≠ none → F z ≠ none ∨ z ∈ p.fp H v ∨ Held H σ δ z := by
  cases p with
  | tm o =>
    have ho : isLn o = false ∧ d = o.toD ∧ δ1 = δ := by cases o <;> simp_all [force, isLn]
    obtain ⟨hl0, rfl, rfl⟩ := ho
    have hA : ∀ z ∈ o.fp H v, F z = none := fun z hz => (ok_fp h.ok z hz).2
    refine ⟨frz F H (o.fp H v), ⟨a.rep.frzA hA h.ap, ⟨a.go.kf.trans (frz_kp hA), a.go.kh, fun z hz => ?_, a.go.hd, a.go.st, a.go.ln⟩, a.un, a.nl⟩, ok_frz h.ok (isLn_dc hl0), frz_kp hA, fun z hz => ?_⟩
    · by_cases hm : z ∈ o.fp H v
      · rcases n z hm with w | w
        · exact .inr (.inr w)
        · exact .inr (.inl w)
      · rw [frz_out hm] at hz; exact a.go.nf z hz
    · by_cases hm : z ∈ o.fp H v
      · exact .inr (.inl hm)
      · rw [frz_out hm] at hz; exact .inl hz
  | sl i =>
    obtain ⟨h1, o, h2⟩ := h
    have ho : isLn o = false ∧ d = o.toD ∧ δ1 = δ.set i (some (.fz o.toD)) := by
      cases o <;> simp only [force, h2] at e <;> cases e <;> exact ⟨rfl, rfl, rfl⟩
    obtain ⟨hl, rfl, rfl⟩ := ho
    obtain ⟨r1, g1, d1⟩ := a.rep.frzSlot h2 h1 hl
    refine ⟨_, ⟨r1, a.go.trans g1, fun j u hj => ?_, fun j es hj => ?_⟩, d1, g1.kf, fun z hz => ?_⟩
    · obtain ⟨u1, q1⟩ := a.un j u hj
      by_cases hij : i = j
      · subst hij; exact ⟨_, set_get_eq h2⟩
      · exact ⟨u1, by rw [set_get_ne hij]; exact q1⟩
    · by_cases hij : i = j
      · subst hij; rw [set_get_eq h2] at hj; cases hj
      · rw [set_get_ne hij] at hj; exact a.nl j es hj
    · by_cases hm : z ∈ o.fp H v
      · exact .inr (.inr ⟨i, v, o, h1, h2, hm⟩)
      · rw [frz_out hm] at hz; exact .inl hz
/-! ### forms -/
def eF (f : Δ → Option (P × Δ)) : Δ → Option (D × Δ) := fun δ => (f δ).bind fun r => force r.1 r.2
theorem sd_of {te : TE} {f : Δ → Option (P × Δ)} (h : SX K te f) : SD K te (eF f) := fun δ d δ' e σ F H r Q k => by
  obtain ⟨⟨p, δ1⟩, e1, e2⟩ := Option.bind_eq_some_iff.mp e
  refine h δ p δ1 e1 σ F H r Q fun v F' H' a hp n => ?_
  obtain ⟨F2, a2, d2, _⟩ := force_ok a hp n e2
  exact k v F2 H' a2 d2
def eP (g : Δ → Option (D × Δ)) : Δ → Option (P × Δ) := fun δ => (g δ).map fun r => (.tm (.fz r.1), r.2)
theorem sx_of {te : TE} {g : Δ → Option (D × Δ)} (h : SD K te g) : SX K te (eP g) := fun δ p δ' e σ F H r Q k => by
  obtain ⟨⟨d, δ1⟩, e1, e2⟩ := Option.map_eq_some_iff.mp e
  cases e2
  exact h δ d δ1 e1 σ F H r Q fun v F' H' a hd => k v F' H' a ⟨hd, by simp [O.fp], fun z hz => by cases hz⟩ fun z hz => by cases hz
def eVar (i : Nat) : Δ → Option (P × Δ) := fun δ => match δ[i]? with
  | some (some (.fz d)) => some (.tm (.fz d), δ)
  | some (some _) => some (.sl i, δ)
  | _ => none
theorem sx_var {i : Nat} : SX K (tVar i) (eVar i) := fun δ p δ' e σ F H r Q k => by
  unfold eVar at e
  split at e
  · rename_i d hd
    cases e
    obtain ⟨v, e1, e2, _⟩ := r.ok i _ hd
    exact ⟨v, e1, k v F H (.rfl r) ⟨e2, by simp [O.fp], fun z hz => by cases hz⟩ fun z hz => by cases hz⟩
  · rename_i o hn hd
    cases e
    obtain ⟨v, e1, e2, _⟩ := r.ok i _ hd
    exact ⟨v, e1, k v F H (.rfl r) ⟨e1, o, hd⟩ fun z hz => by cases hz⟩
  · cases e
def eC (d : D) : Δ → Option (D × Δ) := fun δ => some (d, δ)
theorem sd_int {i : Int} : SD K (tC (.int i)) (eC (.int i)) := fun δ d δ' e σ F H r Q k => by
  cases e; exact k _ F H (.rfl r) (.int i)
theorem sd_bl {i : Bool} : SD K (tC (.bl i)) (eC (.bool i)) := fun δ d δ' e σ F H r Q k => by
  cases e; exact k _ F H (.rfl r) (.bl i)
theorem sd_str {i : Str} : SD K (tC (.str i)) (eC (.str i)) := fun δ d δ' e σ F H r Q k => by
  cases e; exact k _ F H (.rfl r) (.str i)
theorem sd_non : SD K (tC .non) (eC .none) := fun δ d δ' e σ F H r Q k => by
  cases e; exact k _ F H (.rfl r) .non
/-! ### several operands -/
def eNil : Δ → Option (List D × Δ) := fun δ => some ([], δ)
def eCons (g : Δ → Option (D × Δ)) (h : Δ → Option (List D × Δ)) : Δ → Option (List D × Δ) := fun δ => (g δ).bind fun r => (h r.2).map fun s => (r.1 :: s.1, s.2)
theorem sds_nil : SDs K tNil eNil := fun δ ds δ' e σ F H r Q k => by
  cases e; exact k [] F H (.rfl r) .nil
theorem sds_cons {te : TE} {ta : TA} {g : Δ → Option (D × Δ)} {h : Δ → Option (List D × Δ)} (hg : SD K te g) (hh : SDs K ta h) : SDs K (tCons te ta) (eCons g h) := fun δ ds δ' e σ F H r Q k => by
  obtain ⟨⟨d, δ1⟩, e1, e2⟩ := Option.bind_eq_some_iff.mp e
  obtain ⟨⟨ds, δ2⟩, e3, e4⟩ := Option.map_eq_some_iff.mp e2
  cases e4
  refine hg δ d δ1 e1 σ F H r _ fun v F1 H1 a1 d1 => ?_
  exact hh δ1 ds δ2 e3 σ F1 H1 a1.rep _ fun vs F2 H2 a2 d2 => k _ F2 H2 (a1.trans a2) (.cons (dp_mono a2.go.kf d1) d2)
/-- two operands, both on their way -/
theorem pair_ok {ta tb : TE} {f g : Δ → Option (P × Δ)} {R : V → V → Hp → Prop} (hf : SX K ta f) (hg : SX K tb g) (e1 : f δ = some (p, δ1)) (e2 : g δ1 = some (q, δ2)) (r : Rep K F H σ δ)
    (k : ∀ x y F' H', Aft K F H σ δ F' H' δ2 → PR K F' H' σ δ2 x p → PR K F' H' σ δ2 y q → Nw H σ δ H' x p → Nw H σ δ H' y q → R x y H') : ta σ H fun x H1 => tb σ H1 fun y H2 => R x y H2 :=
  hf δ p δ1 e1 σ F H r _ fun x F1 H1 a1 p1 n1 => hg δ1 q δ2 e2 σ F1 H1 a1.rep _ fun y F2 H2 a2 p2 n2 =>
    k x y F2 H2 (a1.trans a2) (p1.step a2).1 p2 (n1.step a2 p1) (n2.from a1.go)
/-- scalars -/
def sv : D → Option V
  | .none => some .non
  | .bool b => some (.bl b)
  | .int i => some (.int i)
  | .str x => some (.str x)
  | _ => none
theorem sv_dp {v : V} (h : sv d = some v) : Dp K F v d := by
  cases d <;> cases h <;> constructor
/-- an operator that reads its operands and gives a scalar -/
def ScR (K : Lay) (r : R2) (g : D → D → Option D) : Prop := ∀ H x y d e z, Dp K H x d → Dp K H y e → g d e = some z → ∃ w, sv z = some w ∧ ∀ Q : VK, Q w H → r x y H Q
def eOp (g : D → D → Option D) (f h : Δ → Option (P × Δ)) : Δ → Option (D × Δ) := fun δ => (f δ).bind fun r => (h r.2).bind fun s => (r.1.data s.2).bind fun d => (s.1.data s.2).bind fun e => (g d e).map fun z => (z, s.2)
theorem sd_op {r : R2} {g : D → D → Option D} {ta tb : TE} {f h : Δ → Option (P × Δ)} (hr : ScR K r g) (hf : SX K ta f) (hh : SX K tb h) : SD K (tOp r ta tb) (eOp g f h) := fun δ d δ' e σ F H rp Q k => by
  obtain ⟨⟨p, δ1⟩, e1, e⟩ := Option.bind_eq_some_iff.mp e
  obtain ⟨⟨q, δ2⟩, e2, e⟩ := Option.bind_eq_some_iff.mp e
  obtain ⟨dx, e3, e⟩ := Option.bind_eq_some_iff.mp e
  obtain ⟨dy, e4, e⟩ := Option.bind_eq_some_iff.mp e
  obtain ⟨z, e5, e⟩ := Option.map_eq_some_iff.mp e
  cases e
  refine pair_ok hf hh e1 e2 rp fun x y F' H' a px py _ _ => ?_
  obtain ⟨w, hw, hq⟩ := hr H' x y dx dy d (pr_dp a.rep px e3) (pr_dp a.rep py e4) e5
  exact hq Q (k w F' H' a (sv_dp hw))
end
end Vi
end
section
set_option Elab.async false
set_option linter.all false
set_option maxRecDepth 100000
set_option maxHeartbeats 1000000
namespace Vi
open PySem PySem.Spec PyProof.Rows L2
section
variable {K : Lay} {F H F' H' F0 H0 F1 H1 F2 H2 : Hp} {σ : L2.St} {δ δ' δ0 δ1 δ2 : Δ} {v x y : V} {p q : P} {o : O} {d e : D}
/-- only new things: they may be frozen -/
structure New (K : Lay) (F H F' H' : Hp) : Prop where
  kf : Kp F F'
  up : Kp F' H'
  kh : Kp H H'
  nf : ∀ a, F' a ≠ none → F a ≠ none ∨ H a = none
  nm : LamX.Tabs K.L H → LamX.Tabs K.L H'
theorem New.rfl (h : Kp F H) : New K F H F H := ⟨.rfl, h, .rfl, fun _ z => .inl z, fun z => z⟩
theorem kp_st (h : Kp H H') {a : Addr} (n : H a ≠ none) : H' a ≠ none := by
  cases e : H a with
  | none => exact absurd e n
  | some o => obtain ⟨u, e1, _⟩ := h a o e; rw [e1]; simp
theorem Kp.mut {A B : Hp} (h : Kp A B) {a : Addr} {u : HO} (e : A a = some u) (m : Mut u) : B a = some u := by
  obtain ⟨w, e1, l⟩ := h a _ e
  rw [l.mut m] at e1; exact e1
theorem New.held (r : Rep K F H σ δ) (n : New K F H F' H') {i : Nat} {a : Addr} (h : Own H' σ δ i a) : Own H σ δ i a := by
  obtain ⟨v, o, e1, e2, e3⟩ := h
  obtain ⟨w, q1, q2, _⟩ := r.ok i o e2
  rw [e1] at q1; cases q1
  have same : ∀ b ∈ o.fp H v, H' b = H b := fun b hb => by
    obtain ⟨⟨xs, z, m⟩, _⟩ := ok_fp q2 b hb
    rw [n.kh.mut z m, z]
  rw [fp_frame q2 same] at e3
  exact ⟨v, o, e1, e2, e3⟩
theorem New.rep (r : Rep K F H σ δ) (n : New K F H F' H') : Rep K F' H' σ δ := by
  refine ⟨n.up, r.len, fun i o h => ?_, fun i j a h1 h2 => r.ap i j a (n.held r h1) (n.held r h2), fun T hT => n.kf.tab (r.tb T hT), n.nm r.nm⟩
  obtain ⟨v, e1, e2, e3⟩ := r.ok i o h
  have same : ∀ a ∈ o.fp H v, H' a = H a ∧ F' a = none := fun a ha => by
    obtain ⟨⟨xs, z, m⟩, zf⟩ := ok_fp e2 a ha
    refine ⟨by rw [n.kh.mut z m, z], ?_⟩
    cases q : F' a with
    | none => exact Eq.refl _
    | some u =>
      rcases n.nf a (by rw [q]; simp) with w | w
      · exact absurd zf w
      · rw [z] at w; cases w
  exact ⟨v, e1, ok_frame n.kf e2 same, by rw [fp_frame e2 fun a ha => (same a ha).1]; exact e3⟩
theorem New.aft (r : Rep K F H σ δ) (n : New K F H F' H') : Aft K F H σ δ F' H' δ :=
  ⟨n.rep r, ⟨n.kf, fun a o e _ => n.kh a o e, fun a z => (n.nf a z).elim .inl fun w => .inr (.inl w), fun a ⟨i, h⟩ => .inl ⟨i, n.held r h⟩, fun a z => kp_st n.kh z, fun i ds h => ⟨Eq.refl _, ds, h⟩⟩, fun _ o h => ⟨o, h⟩, fun _ es h => ⟨es, h⟩⟩
/-- what is given is new -/
def Gives (K : Lay) (F H : Hp) (o : O) (Q : VK) : Prop := ∀ v F' H', New K F H F' H' → Ok K F' H' v o → (o.fp H' v).Nodup → (∀ a ∈ o.fp H' v, H a = none) → Q v H'
theorem gives_of {Q : VK} (r : Rep K F H σ δ) (k : ∀ v F' H', Aft K F H σ δ F' H' δ → PR K F' H' σ δ v (.tm o) → Nw H σ δ H' v (.tm o) → Q v H') : Gives K F H o Q := fun v F' H' n ok nd fr =>
  k v F' H' (n.aft r) ⟨ok, nd, fun a ha ⟨i, h⟩ => by
    obtain ⟨⟨xs, z, _⟩, _⟩ := r.held ⟨i, n.held r h⟩
    rw [fr a ha] at z; cases z⟩ fun a ha => .inr (fr a ha)
theorem Gives.sc {Q : VK} {w : V} (g : Gives K F H (.fz d) Q) (kp : Kp F H) (h : sv d = some w) : Q w H := g w F H (.rfl kp) (sv_dp h) (by simp [O.fp]) fun a ha => by cases ha
theorem Gives.fz {Q : VK} (g : Gives K F H (.fz d) Q) (kp : Kp F H) (h : Dp K F v d) : Q v H := g v F H (.rfl kp) h (by simp [O.fp]) fun a ha => by cases ha
theorem Gives.lst {Q : VK} {ds : List D} {xs : List V} (g : Gives K F H (.ow ds) Q) (kp : Kp F H) (h : DpAll K F xs ds) {p : Addr} (hp : H p = none) : Q (.ref p) (upd H p (.lst xs)) :=
  g (.ref p) F (upd H p (.lst xs)) ⟨.rfl, kp.trans (.new hp), .new hp, fun _ z => .inl z, fun z => z.new hp⟩ ⟨p, Eq.refl _, xs, upd_same, kp.free hp, h⟩ (by simp [O.fp]) fun a ha => by
    have : a = p := by simpa [O.fp] using ha
    subst this; exact hp
theorem kp_up2 {p : Addr} {u : HO} (kp : Kp F H) : Kp (upd F p u) (upd H p u) := fun a o e => by
  by_cases h : a = p
  · subst h; rw [upd_same] at e; exact ⟨o, by rw [upd_same]; exact e, .rfl⟩
  · rw [upd_ne h] at e; rw [upd_ne h]; exact kp a o e
theorem Gives.tup {Q : VK} {ds : List D} {xs : List V} (g : Gives K F H (.fz (.tuple ds)) Q) (kp : Kp F H) (h : DpAll K F xs ds) {p : Addr} (hp : H p = none) : Q (.ref p) (upd H p (.tup xs)) :=
  g (.ref p) (upd F p (.tup xs)) (upd H p (.tup xs)) ⟨.new (kp.free hp), kp_up2 kp, .new hp, fun a z => by
    by_cases ha : a = p
    · subst ha; exact .inr hp
    · rw [upd_ne ha] at z; exact .inl z, fun z => z.new hp⟩ (.tup (SqT.of upd_same) (dpa_mono (.new (kp.free hp)) h)) (by simp [O.fp]) fun a ha => by cases ha
/-! ### rules by frozen operands -/
def FdR (K : Lay) (r : R2) (g : D → D → Option O) : Prop := ∀ F H x y d e o, Kp F H → Dp K F x d → Dp K F y e → g d e = some o → ∀ Q : VK, Gives K F H o Q → r x y H Q
def CdR (K : Lay) (r : List V → Hp → VK → Prop) (g : List D → Option O) : Prop := ∀ F H vs ds o, Kp F H → DpAll K F vs ds → g ds = some o → ∀ Q : VK, Gives K F H o Q → r vs H Q
def eOpF (g : D → D → Option O) (a b : Δ → Option (D × Δ)) : Δ → Option (P × Δ) := fun δ => (a δ).bind fun r => (b r.2).bind fun s => (g r.1 s.1).map fun o => (.tm o, s.2)
theorem sx_opF {r : R2} {g : D → D → Option O} {ta tb : TE} {a b : Δ → Option (D × Δ)} (hr : FdR K r g) (ha : SD K ta a) (hb : SD K tb b) : SX K (tOp r ta tb) (eOpF g a b) := fun δ p δ' e σ F H rp Q k => by
  obtain ⟨⟨d1, δ1⟩, e1, e⟩ := Option.bind_eq_some_iff.mp e
  obtain ⟨⟨d2, δ2⟩, e2, e⟩ := Option.bind_eq_some_iff.mp e
  obtain ⟨o, e3, e⟩ := Option.map_eq_some_iff.mp e
  cases e
  refine ha δ d1 δ1 e1 σ F H rp _ fun x F1 H1 a1 p1 => hb δ1 d2 δ2 e2 σ F1 H1 a1.rep _ fun y F2 H2 a2 p2 => ?_
  exact hr F2 H2 x y d1 d2 o a2.rep.kp (dp_mono a2.go.kf p1) p2 e3 Q (gives_of a2.rep fun v F' H' a3 p3 n3 => k v F' H' ((a1.trans a2).trans a3) p3 (n3.from (a1.trans a2).go))
def eCall (g : List D → Option O) (a : Δ → Option (List D × Δ)) : Δ → Option (P × Δ) := fun δ => (a δ).bind fun r => (g r.1).map fun o => (.tm o, r.2)
theorem sx_call {r : List V → Hp → VK → Prop} {g : List D → Option O} {ta : TA} {a : Δ → Option (List D × Δ)} (hr : CdR K r g) (ha : SDs K ta a) : SX K (tCB r ta) (eCall g a) := fun δ p δ' e σ F H rp Q k => by
  obtain ⟨⟨ds, δ1⟩, e1, e⟩ := Option.bind_eq_some_iff.mp e
  obtain ⟨o, e3, e⟩ := Option.map_eq_some_iff.mp e
  cases e
  refine ha δ ds δ1 e1 σ F H rp _ fun vs F1 H1 a1 p1 => ?_
  exact hr F1 H1 vs ds o a1.rep.kp p1 e3 Q (gives_of a1.rep fun v F' H' a3 p3 n3 => k v F' H' (a1.trans a3) p3 (n3.from a1.go))
/-- a call that reads one thing and gives a scalar -/
def CrR (K : Lay) (r : List V → Hp → VK → Prop) (g : D → Option D) : Prop := ∀ H x d z, Dp K H x d → g d = some z → ∃ w, sv z = some w ∧ ∀ Q : VK, Q w H → r [x] H Q
def eCall1 (g : D → Option D) (f : Δ → Option (P × Δ)) : Δ → Option (D × Δ) := fun δ => (f δ).bind fun r => (r.1.data r.2).bind fun d => (g d).map fun z => (z, r.2)
theorem sd_call1 {r : List V → Hp → VK → Prop} {g : D → Option D} {te : TE} {f : Δ → Option (P × Δ)} (hr : CrR K r g) (hf : SX K te f) : SD K (tCB r (tCons te tNil)) (eCall1 g f) := fun δ d δ' e σ F H rp Q k => by
  obtain ⟨⟨p, δ1⟩, e1, e⟩ := Option.bind_eq_some_iff.mp e
  obtain ⟨dx, e3, e⟩ := Option.bind_eq_some_iff.mp e
  obtain ⟨z, e5, e⟩ := Option.map_eq_some_iff.mp e
  cases e
  refine hf δ p δ1 e1 σ F H rp _ fun x F' H' a px _ => ?_
  obtain ⟨w, hw, hq⟩ := hr H' x dx d (pr_dp a.rep px e3) e5
  exact hq Q (k w F' H' a (sv_dp hw))
/-! ### unary, displays -/
def eUn (g : D → Option D) (a : Δ → Option (D × Δ)) : Δ → Option (D × Δ) := fun δ => (a δ).bind fun r => (g r.1).map fun z => (z, r.2)
def eLst (a : Δ → Option (List D × Δ)) : Δ → Option (P × Δ) := fun δ => (a δ).bind fun r => if r.1.length ≤ sizeLine then some (.tm (.ow r.1), r.2) else none
theorem sx_lst {ta : TA} {a : Δ → Option (List D × Δ)} (ha : SDs K ta a) : SX K (tLst ta) (eLst a) := fun δ p δ' e σ F H rp Q k => by
  obtain ⟨⟨ds, δ1⟩, e1, e⟩ := Option.bind_eq_some_iff.mp e
  split at e
  · rename_i hz
    cases e
    refine ha δ ds δ1 e1 σ F H rp _ fun vs F1 H1 a1 p1 => ⟨by rw [dpa_len p1]; exact hz, fun b hb => ?_⟩
    exact (gives_of a1.rep fun v F' H' a3 p3 n3 => k v F' H' (a1.trans a3) p3 (n3.from a1.go)).lst a1.rep.kp p1 hb
  · cases e
def eTup (a : Δ → Option (List D × Δ)) : Δ → Option (D × Δ) := fun δ => (a δ).bind fun r => if r.1.length ≤ sizeLine then some (.tuple r.1, r.2) else none
theorem sd_tup {ta : TA} {a : Δ → Option (List D × Δ)} (ha : SDs K ta a) : SD K (tTup ta) (eTup a) := fun δ d δ' e σ F H rp Q k => by
  obtain ⟨⟨ds, δ1⟩, e1, e⟩ := Option.bind_eq_some_iff.mp e
  split at e
  · rename_i hz
    cases e
    refine ha δ ds δ1 e1 σ F H rp _ fun vs F1 H1 a1 p1 => ⟨by rw [dpa_len p1]; exact hz, fun b hb => ?_⟩
    exact (show Gives K F1 H1 (.fz (.tuple ds)) Q from fun v F' H' n ok _ _ => k v F' H' (a1.trans (n.aft a1.rep)) ok).tup a1.rep.kp p1 hb
  · cases e
/-! ### tests -/
def bOf : D → Option Bool
  | .bool b => some b
  | _ => none
def eT (a : Δ → Option (D × Δ)) : Δ → Option (Bool × Δ) := fun δ => (a δ).bind fun r => (bOf r.1).map fun b => (b, r.2)
theorem st_testOf {te : TE} {a : Δ → Option (D × Δ)} (ha : SD K te a) : ST K (tTest te) (eT a) := fun δ b δ' e σ F H rp Q k => by
  obtain ⟨⟨d, δ1⟩, e1, e⟩ := Option.bind_eq_some_iff.mp e
  obtain ⟨z, e5, e⟩ := Option.map_eq_some_iff.mp e
  cases e
  have hd : d = .bool b := by cases d <;> cases e5; rfl
  subst hd
  exact ha δ _ δ1 e1 σ F H rp _ fun v F' H' a p => ⟨b, dp_bool p, k F' H' a⟩
theorem st_bOf {te : TE} {a : Δ → Option (D × Δ)} (ha : SD K te a) : ST K (tB te) (eT a) := fun δ b δ' e σ F H rp Q k => by
  obtain ⟨⟨d, δ1⟩, e1, e⟩ := Option.bind_eq_some_iff.mp e
  obtain ⟨z, e5, e⟩ := Option.map_eq_some_iff.mp e
  cases e
  have hd : d = .bool b := by cases d <;> cases e5; rfl
  subst hd
  exact ha δ _ δ1 e1 σ F H rp _ fun v F' H' a p => ⟨b, dp_bool p, k F' H' a⟩
/-- a bool's and a number's truth, a text's, a list's -/
def truD : D → Option Bool
  | .none => some false
  | .bool b => some b
  | .int i => some (i != 0)
  | .str s => if s.length ≤ sizeLine then some ((s.length : Int) != 0) else none
  | .list ds => some (!ds.isEmpty)
  | .tuple ds => some (!ds.isEmpty)
  | _ => none
def tTruV (K : Lay) (te : TE) : TT := fun σ H Q => te σ H fun x H1 => ∃ k, TruV K x H1 k ∧ Q k H1
def eTru (f : Δ → Option (P × Δ)) : Δ → Option (Bool × Δ) := fun δ => (f δ).bind fun r => (r.1.data r.2).bind fun d => (truD d).map fun b => (b, r.2)
theorem tru_dp (h : Dp K H x d) {b : Bool} (e : truD d = some b) : TruV K x H b := by
  cases h with
  | non => cases e; rfl
  | bl b => cases e; rfl
  | int i => cases e; rfl
  | str s =>
    simp only [truD] at e
    split at e
    · rename_i hz
      cases e; exact ⟨hz, rfl⟩
    · cases e
  | lst s a =>
    cases e
    exact .inl ⟨_, s, by cases a <;> rfl⟩
  | tup s a =>
    cases e
    exact .inr (.inl ⟨_, s, by cases a <;> rfl⟩)
theorem st_tru {te : TE} {f : Δ → Option (P × Δ)} (hf : SX K te f) : ST K (tTruV K te) (eTru f) := fun δ b δ' e σ F H rp Q k => by
  obtain ⟨⟨p, δ1⟩, e1, e⟩ := Option.bind_eq_some_iff.mp e
  obtain ⟨d, e3, e⟩ := Option.bind_eq_some_iff.mp e
  obtain ⟨z, e5, e⟩ := Option.map_eq_some_iff.mp e
  cases e
  exact hf δ p δ1 e1 σ F H rp _ fun x F' H' a px _ => ⟨b, tru_dp (pr_dp a.rep px e3) e5, k F' H' a⟩
def eAnd (a b : Δ → Option (Bool × Δ)) : Δ → Option (Bool × Δ) := fun δ => (a δ).bind fun r => if r.1 = true then b r.2 else some (false, r.2)
def eOr (a b : Δ → Option (Bool × Δ)) : Δ → Option (Bool × Δ) := fun δ => (a δ).bind fun r => if r.1 = true then some (true, r.2) else b r.2
def eNot (a : Δ → Option (Bool × Δ)) : Δ → Option (Bool × Δ) := fun δ => (a δ).map fun r => (!r.1, r.2)
theorem st_and {t u : TT} {a b : Δ → Option (Bool × Δ)} (ha : ST K t a) (hb : ST K u b) : ST K (tAnd t u) (eAnd a b) := fun δ c δ' e σ F H rp Q k => by
  obtain ⟨⟨c1, δ1⟩, e1, e⟩ := Option.bind_eq_some_iff.mp e
  refine ha δ c1 δ1 e1 σ F H rp _ fun F1 H1 a1 => ?_
  cases c1 with
  | true => exact hb δ1 c δ' e σ F1 H1 a1.rep _ fun F2 H2 a2 => k F2 H2 (a1.trans a2)
  | false =>
    cases e
    exact k F1 H1 a1
theorem st_or {t u : TT} {a b : Δ → Option (Bool × Δ)} (ha : ST K t a) (hb : ST K u b) : ST K (tOr t u) (eOr a b) := fun δ c δ' e σ F H rp Q k => by
  obtain ⟨⟨c1, δ1⟩, e1, e⟩ := Option.bind_eq_some_iff.mp e
  refine ha δ c1 δ1 e1 σ F H rp _ fun F1 H1 a1 => ?_
  cases c1 with
  | false => exact hb δ1 c δ' e σ F1 H1 a1.rep _ fun F2 H2 a2 => k F2 H2 (a1.trans a2)
  | true =>
    cases e
    exact k F1 H1 a1
theorem st_not {t : TT} {a : Δ → Option (Bool × Δ)} (ha : ST K t a) : ST K (tNot t) (eNot a) := fun δ c δ' e σ F H rp Q k => by
  obtain ⟨⟨c1, δ1⟩, e1, e⟩ := Option.map_eq_some_iff.mp e
  cases e
  exact ha δ c1 δ1 e1 σ F H rp _ fun F1 H1 a1 => k F1 H1 a1
/-- and, or, not as values; if as an expression -/
def eAndV (a b : Δ → Option (D × Δ)) : Δ → Option (D × Δ) := fun δ => (a δ).bind fun r => (bOf r.1).bind fun c => if c = true then b r.2 else some (.bool false, r.2)
def eOrV (a b : Δ → Option (D × Δ)) : Δ → Option (D × Δ) := fun δ => (a δ).bind fun r => (bOf r.1).bind fun c => if c = true then some (.bool true, r.2) else b r.2
def eNotV (a : Δ → Option (D × Δ)) : Δ → Option (D × Δ) := fun δ => (a δ).bind fun r => (bOf r.1).map fun c => (.bool (!c), r.2)
theorem bOf_eq {b : Bool} (e : bOf d = some b) : d = .bool b := by cases d <;> cases e; rfl
theorem sd_andV {ta tb : TE} {a b : Δ → Option (D × Δ)} (ha : SD K ta a) (hb : SD K tb b) : SD K (tAndV ta tb) (eAndV a b) := fun δ d δ' e σ F H rp Q k => by
  obtain ⟨⟨d1, δ1⟩, e1, e⟩ := Option.bind_eq_some_iff.mp e
  obtain ⟨c, e2, e⟩ := Option.bind_eq_some_iff.mp e
  cases bOf_eq e2
  refine ha δ _ δ1 e1 σ F H rp _ fun x F1 H1 a1 p1 => ⟨c, dp_bool p1, ?_⟩
  cases c with
  | true => exact hb δ1 d δ' e σ F1 H1 a1.rep _ fun y F2 H2 a2 p2 => k y F2 H2 (a1.trans a2) p2
  | false =>
    cases e
    exact k _ F1 H1 a1 (.bl false)
theorem sd_orV {ta tb : TE} {a b : Δ → Option (D × Δ)} (ha : SD K ta a) (hb : SD K tb b) : SD K (tOrV ta tb) (eOrV a b) := fun δ d δ' e σ F H rp Q k => by
  obtain ⟨⟨d1, δ1⟩, e1, e⟩ := Option.bind_eq_some_iff.mp e
  obtain ⟨c, e2, e⟩ := Option.bind_eq_some_iff.mp e
  cases bOf_eq e2
  refine ha δ _ δ1 e1 σ F H rp _ fun x F1 H1 a1 p1 => ⟨c, dp_bool p1, ?_⟩
  cases c with
  | false => exact hb δ1 d δ' e σ F1 H1 a1.rep _ fun y F2 H2 a2 p2 => k y F2 H2 (a1.trans a2) p2
  | true =>
    cases e
    exact k _ F1 H1 a1 (.bl true)
theorem sd_notV {ta : TE} {a : Δ → Option (D × Δ)} (ha : SD K ta a) : SD K (tNotV ta) (eNotV a) := fun δ d δ' e σ F H rp Q k => by
  obtain ⟨⟨d1, δ1⟩, e1, e⟩ := Option.bind_eq_some_iff.mp e
  obtain ⟨c, e2, e⟩ := Option.map_eq_some_iff.mp e
  cases bOf_eq e2
  cases e
  exact ha δ _ δ1 e1 σ F H rp _ fun x F1 H1 a1 p1 => ⟨c, dp_bool p1, k _ F1 H1 a1 (.bl _)⟩
def eIf (t : Δ → Option (Bool × Δ)) (a b : Δ → Option (P × Δ)) : Δ → Option (P × Δ) := fun δ => (t δ).bind fun r => if r.1 = true then a r.2 else b r.2
theorem sx_if {t : TT} {ta tb : TE} {c : Δ → Option (Bool × Δ)} {a b : Δ → Option (P × Δ)} (hc : ST K t c) (ha : SX K ta a) (hb : SX K tb b) : SX K (tIf t ta tb) (eIf c a b) := fun δ p δ' e σ F H rp Q k => by
  obtain ⟨⟨c1, δ1⟩, e1, e⟩ := Option.bind_eq_some_iff.mp e
  refine hc δ c1 δ1 e1 σ F H rp _ fun F1 H1 a1 => ?_
  cases c1 with
  | true => exact ha δ1 p δ' e σ F1 H1 a1.rep _ fun y F2 H2 a2 p2 n2 => k y F2 H2 (a1.trans a2) p2 (n2.from a1.go)
  | false => exact hb δ1 p δ' e σ F1 H1 a1.rep _ fun y F2 H2 a2 p2 n2 => k y F2 H2 (a1.trans a2) p2 (n2.from a1.go)
/-! ### subscripts, slices: what the items are -/
/-- the items, each frozen; an own list of lists is frozen first -/
def norm : P → Δ → Option (P × Δ)
  | .tm (.oo dss), δ => (force (.tm (.oo dss)) δ).map fun r => (.tm (.fz r.1), r.2)
  | .tm (.mx is), δ => (force (.tm (.mx is)) δ).map fun r => (.tm (.fz r.1), r.2)
  | .tm (.tu is), δ => (force (.tm (.tu is)) δ).map fun r => (.tm (.fz r.1), r.2)
  | .sl i, δ => match δ[i]? with
    | some (some (.oo _)) => (force (.sl i) δ).map fun r => (.tm (.fz r.1), r.2)
    | some (some (.mx _)) => (force (.sl i) δ).map fun r => (.tm (.fz r.1), r.2)
    | some (some (.tu _)) => (force (.sl i) δ).map fun r => (.tm (.fz r.1), r.2)
    | some (some (.dc _ _)) => none
    | some (some (.dt _)) => none
    | _ => some (.sl i, δ)
  | .tm (.dc _ _), _ => none
  | .tm (.dt _), _ => none
  | p, δ => some (p, δ)
def isOO : O → Bool
  | .oo _ => true
  | .mx _ => true
  | .tu _ => true
  | .dc _ _ => true
  | .dt _ => true
  | _ => false
def flat (δ : Δ) : P → Bool
  | .tm o => !isOO o
  | .sl i => match δ[i]? with
    | some (some o) => !isOO o
    | _ => false
theorem norm_ok (a : Aft K F0 H0 σ δ0 F H δ) (h : PR K F H σ δ v p) (n : Nw H0 σ δ0 H v p) (e : norm p δ = some (q, δ1)) :
    ∃ F', Aft K F0 H0 σ δ0 F' H δ1 ∧ PR K F' H σ δ1 v q ∧ Nw H0 σ δ0 H v q ∧ flat δ1 q = true := by
  have fin : ∀ {d δ2}, force p δ = some (d, δ2) → (P.tm (.fz d), δ2) = (q, δ1) → ∃ F', Aft K F0 H0 σ δ0 F' H δ1 ∧ PR K F' H σ δ1 v q ∧ Nw H0 σ δ0 H v q ∧ flat δ1 q = true := fun {d δ2} e1 e2 => by
    cases e2
    obtain ⟨F', a1, d1, _⟩ := force_ok a h n e1
    exact ⟨F', a1, ⟨d1, by simp [O.fp], (fun z hz => by cases hz)⟩, (fun z hz => by cases hz), Eq.refl _⟩
  cases p with
  | tm o =>
    cases o with
    | oo dss =>
      simp only [norm] at e
      obtain ⟨⟨d, δ2⟩, e1, e2⟩ := Option.map_eq_some_iff.mp e
      exact fin e1 e2
    | mx is =>
      simp only [norm] at e
      obtain ⟨⟨d, δ2⟩, e1, e2⟩ := Option.map_eq_some_iff.mp e
      exact fin e1 e2
    | tu is =>
      simp only [norm] at e
      obtain ⟨⟨d, δ2⟩, e1, e2⟩ := Option.map_eq_some_iff.mp e
      exact fin e1 e2
    | dc ks is => cases e
    | dt ks => cases e
    | fz d => cases e; exact ⟨F, a, h, n, rfl⟩
    | ow d => cases e; exact ⟨F, a, h, n, rfl⟩
    | ln d => cases e; exact ⟨F, a, h, n, rfl⟩
  | sl i =>
    obtain ⟨h1, o, h2⟩ := h
    cases o with
    | oo dss =>
      simp only [norm, h2] at e
      obtain ⟨⟨d, δ2⟩, e1, e2⟩ := Option.map_eq_some_iff.mp e
      exact fin e1 e2
    | mx is =>
      simp only [norm, h2] at e
      obtain ⟨⟨d, δ2⟩, e1, e2⟩ := Option.map_eq_some_iff.mp e
      exact fin e1 e2
    | tu is =>
      simp only [norm, h2] at e
      obtain ⟨⟨d, δ2⟩, e1, e2⟩ := Option.map_eq_some_iff.mp e
      exact fin e1 e2
    | dc ks is => simp only [norm, h2] at e; cases e
    | dt ks => simp only [norm, h2] at e; cases e
    | fz d => simp only [norm, h2] at e; cases e; exact ⟨F, a, ⟨h1, _, h2⟩, n, by simp [flat, h2, isOO]⟩
    | ow d => simp only [norm, h2] at e; cases e; exact ⟨F, a, ⟨h1, _, h2⟩, n, by simp [flat, h2, isOO]⟩
    | ln d => simp only [norm, h2] at e; cases e; exact ⟨F, a, ⟨h1, _, h2⟩, n, by simp [flat, h2, isOO]⟩
/-- frozen items of a sequence -/
def Items (K : Lay) (F H : Hp) (v : V) (d : D) : Prop := match d with
  | .list ds => ∃ p xs, v = .ref p ∧ SqL K H p xs ∧ DpAll K F xs ds
  | .tuple ds => ∃ p xs, v = .ref p ∧ SqT K H p xs ∧ DpAll K F xs ds
  | .str s => v = .str s
  | _ => True
theorem ok_items (kp : Kp F H) (h : Ok K F H v o) (hf : isOO o = false) : Items K F H v o.toD := by
  cases o with
  | fz d =>
    cases h with
    | lst s a => exact ⟨_, _, rfl, kp.sqL s, a⟩
    | tup s a => exact ⟨_, _, rfl, kp.sqT s, a⟩
    | str s => exact Eq.refl _
    | _ => trivial
  | ow ds =>
    obtain ⟨p, rfl, xs, e1, _, e3⟩ := h
    exact ⟨p, xs, rfl, SqL.of e1, e3⟩
  | ln ds =>
    obtain ⟨p, rfl, xs, e1, _, e3⟩ := h
    exact ⟨p, xs, rfl, SqL.of e1, e3⟩
  | oo dss => cases hf
  | mx is => cases hf
  | tu is => cases hf
  | dc ks is => cases hf
  | dt ks => cases hf
theorem pr_items (r : Rep K F H σ δ) (h : PR K F H σ δ v p) (hf : flat δ p = true) (e : p.data δ = some d) : Items K F H v d := by
  cases p with
  | tm o =>
    have ho : isOO o = false := by simpa [flat] using hf
    have hd : d = o.toD := by cases o <;> simp_all [P.data, isOO]
    rw [hd]; exact ok_items r.kp h.ok ho
  | sl i =>
    obtain ⟨h1, o, h2⟩ := h
    simp only [flat, h2] at hf
    have hd : d = o.toD := by cases o <;> simp_all [P.data, isOO]
    subst hd
    obtain ⟨v', e1, e2, _⟩ := r.ok i o h2
    rw [h1] at e1; cases e1
    exact ok_items r.kp e2 (by simpa using hf)
/-- x[i] -/
def ixD (d : D) (e : D) : Option D := match d, e with
  | .list ds, .int i => atI ds i
  | .tuple ds, .int i => atI ds i
  | .str s, .int i => if s.length ≤ sizeLine then (atI s.cps.toList i).map fun c => .str ⟨#[c]⟩ else none
  | _, _ => none
def eIx (f : Δ → Option (P × Δ)) (g : Δ → Option (D × Δ)) : Δ → Option (D × Δ) := fun δ => (f δ).bind fun r => (norm r.1 r.2).bind fun s => (g s.2).bind fun t => (s.1.data t.2).bind fun d => (ixD d t.1).bind fun z => if flat t.2 s.1 = true then some (z, t.2) else none
theorem dpa_at {xs : List V} {ds : List D} (h : DpAll K F xs ds) {i : Int} (e : atI ds i = some d) : ∃ v, atI xs i = some v ∧ Dp K F v d := by
  unfold atI at e ⊢
  rw [dpa_len h]
  cases q : ixN ds.length i with
  | none => rw [q] at e; cases e
  | some j =>
    rw [q] at e
    obtain ⟨v, e1, e2⟩ := dpa_get (i := j) h (by simpa using e)
    exact ⟨v, by simpa using e1, e2⟩
theorem sd_ix {ta tb : TE} {f : Δ → Option (P × Δ)} {g : Δ → Option (D × Δ)} (hf : SX K ta f) (hg : SD K tb g) : SD K (tOp (rIx K) ta tb) (eIx f g) := fun δ d δ' e σ F H rp Q k => by
  obtain ⟨⟨p, δ1⟩, e1, e⟩ := Option.bind_eq_some_iff.mp e
  obtain ⟨⟨q, δ2⟩, e2, e⟩ := Option.bind_eq_some_iff.mp e
  obtain ⟨⟨i, δ3⟩, e3, e⟩ := Option.bind_eq_some_iff.mp e
  obtain ⟨c, e4, e⟩ := Option.bind_eq_some_iff.mp e
  obtain ⟨z, e5, e⟩ := Option.bind_eq_some_iff.mp e
  split at e
  case isFalse => cases e
  rename_i hfl
  cases e
  refine hf δ p δ1 e1 σ F H rp _ fun x F1 H1 a1 p1 n1 => ?_
  obtain ⟨F2, a2, p2, n2, _⟩ := norm_ok a1 p1 n1 e2
  refine hg δ2 i δ3 e3 σ F2 H1 a2.rep _ fun y F3 H3 a3 p3 => ?_
  have it := pr_items a3.rep (p2.step a3).1 hfl e4
  have fin := fun v (hv : Dp K F3 v d) => k v F3 H3 (a2.trans a3) hv
  cases i with
  | int i =>
    obtain rfl := dp_int p3
    cases c with
    | str s =>
      simp only [ixD] at e5
      split at e5
      · rename_i hz
        obtain ⟨c, h1, h2⟩ := Option.map_eq_some_iff.mp e5
        subst h2
        exact .inr (.inr ⟨s, i, c, it, rfl, hz, h1, fin _ (.str _)⟩)
      · cases e5
    | list ds =>
      obtain ⟨b, xs, rfl, h1, h2⟩ := it
      obtain ⟨w, w1, w2⟩ := dpa_at h2 (show atI ds i = some d from e5)
      exact .inl ⟨b, xs, i, w, rfl, rfl, h1, w1, fin _ w2⟩
    | tuple ds =>
      obtain ⟨b, xs, rfl, h1, h2⟩ := it
      obtain ⟨w, w1, w2⟩ := dpa_at h2 (show atI ds i = some d from e5)
      exact .inr (.inl ⟨b, xs, i, w, rfl, rfl, h1, w1, fin _ w2⟩)
    | _ => cases e5
  | _ => cases c <;> cases e5
/-- a part of a slice -/
def SO (K : Lay) (to : TO) (g : Δ → Option (Option Int × Δ)) : Prop := ∀ δ d δ', g δ = some (d, δ') → ∀ σ F H, Rep K F H σ δ → ∀ Q : Option Int → Hp → Prop,
  (∀ F' H', Aft K F H σ δ F' H' δ' → Q d H') → to σ H Q
def eNo : Δ → Option (Option Int × Δ) := fun δ => some (none, δ)
def eYes (g : Δ → Option (D × Δ)) : Δ → Option (Option Int × Δ) := fun δ => (g δ).bind fun r => match r.1 with
  | .int i => some (some i, r.2)
  | _ => none
theorem so_no : SO K tNoPart eNo := fun δ d δ' e σ F H rp Q k => by cases e; exact k F H (.rfl rp)
theorem so_yes {te : TE} {g : Δ → Option (D × Δ)} (h : SD K te g) : SO K (tPart te) (eYes g) := fun δ d δ' e σ F H rp Q k => by
  obtain ⟨⟨z, δ1⟩, e1, e⟩ := Option.bind_eq_some_iff.mp e
  cases z with
  | int i => cases e; exact h δ _ _ e1 σ F H rp _ fun v F' H' a p => ⟨_, dp_int p, k F' H' a⟩
  | _ => cases e
def cutD (xs : List D) (lo hi : Option Int) : List D := (xs.drop (HT.sIx xs.length 0 lo)).take (HT.sIx xs.length xs.length hi - HT.sIx xs.length 0 lo)
def slD (d : D) (lo hi : Option Int) : Option O := match d with
  | .list ds => some (.ow (cutD ds lo hi))
  | .tuple ds => some (.fz (.tuple (cutD ds lo hi)))
  | .str s => if s.length ≤ sizeLine then some (.fz (.str (cutS s lo hi))) else none
  | _ => none
def eSl (f : Δ → Option (P × Δ)) (a b : Δ → Option (Option Int × Δ)) : Δ → Option (P × Δ) := fun δ => (f δ).bind fun r => (norm r.1 r.2).bind fun s => (a s.2).bind fun t => (b t.2).bind fun u => (s.1.data u.2).bind fun d => (slD d t.1 u.1).bind fun z => if flat u.2 s.1 = true then some (.tm z, u.2) else none
end
end Vi
end
section
set_option Elab.async false
set_option linter.all false
set_option maxRecDepth 100000
set_option maxHeartbeats 1000000
/-! Statements over values: slots, loops, comprehensions. -/
namespace Vi
open PySem PySem.Spec PyProof.Rows L2
inductive Out where
  | nx (δ : Δ) | bk (δ : Δ) | ct (δ : Δ) | rt (o : O) (δ : Δ)
section
variable {K : Lay} {F H F' H' F0 H0 F1 H1 F2 H2 : Hp} {σ σ' σ1 : L2.St} {δ δ' δ0 δ1 δ2 : Δ} {v x y : V} {p q : P} {o : O} {d e : D}
/-- what an end asks -/
def Rch (K : Lay) (F H : Hp) (σ : L2.St) (δ δ' : Δ) (R : L2.St → Hp → Prop) : Prop := ∀ σ' F' H', Rep K F' H' σ' δ' → Go F H σ δ F' H' σ' δ' → R σ' H'
def Fin (K : Lay) (F H : Hp) (σ : L2.St) (δ : Δ) (E : Ends) : Out → Prop
  | .nx δ' => Rch K F H σ δ δ' E.nx
  | .bk δ' => Rch K F H σ δ δ' E.bk
  | .ct δ' => Rch K F H σ δ δ' E.ct
  | .rt o δ' => ∀ v σ' F' H', Rep K F' H' σ' δ' → Go F H σ δ F' H' σ' δ' → Tmp K F' H' σ' δ' v o → Nw H σ δ H' v (.tm o) → E.rt v H'
def SS (K : Lay) (ts : TS) (m : Δ → Option Out) : Prop := ∀ δ out, m δ = some out → ∀ σ F H, Rep K F H σ δ → ∀ E : Ends, Fin K F H σ δ E out → ts E σ H
theorem Fin.from {out : Out} {E : Ends} (g : Go F H σ δ F1 H1 σ1 δ1) (h : Fin K F H σ δ E out) : Fin K F1 H1 σ1 δ1 E out := by
  cases out with
  | nx δ' => exact fun σ' F' H' r g' => h σ' F' H' r (g.trans g')
  | bk δ' => exact fun σ' F' H' r g' => h σ' F' H' r (g.trans g')
  | ct δ' => exact fun σ' F' H' r g' => h σ' F' H' r (g.trans g')
  | rt o δ' =>
    intro v σ' F' H' r g' t n
    refine h v σ' F' H' r (g.trans g') t fun z hz => ?_
    rcases n z hz with w | w
    · exact g.hd z w
    · by_cases q : H z = none
      · exact .inr q
      · exact absurd w (g.st z q)
/-! ### blocks -/
def mSeq (a b : Δ → Option Out) : Δ → Option Out := fun δ => (a δ).bind fun r => match r with
  | .nx δ1 => b δ1
  | r => some r
theorem ss_seq {t u : TS} {a b : Δ → Option Out} (ha : SS K t a) (hb : SS K u b) : SS K (tSeq t u) (mSeq a b) := fun δ out e σ F H r E k => by
  obtain ⟨o1, e1, e2⟩ := Option.bind_eq_some_iff.mp e
  refine ha δ o1 e1 σ F H r _ ?_
  cases o1 with
  | nx δ1 => exact fun σ1 F1 H1 r1 g1 => hb δ1 out e2 σ1 F1 H1 r1 E (k.from g1)
  | bk δ1 => cases e2; exact k
  | ct δ1 => cases e2; exact k
  | rt o δ1 => cases e2; exact k
def mPass : Δ → Option Out := fun δ => some (.nx δ)
def mBrk : Δ → Option Out := fun δ => some (.bk δ)
def mCnt : Δ → Option Out := fun δ => some (.ct δ)
theorem ss_pass : SS K tNext mPass := fun δ out e σ F H r E k => by cases e; exact k σ F H r .rfl
def mIf (c : Δ → Option (Bool × Δ)) (a b : Δ → Option Out) : Δ → Option Out := fun δ => (c δ).bind fun r => if r.1 = true then a r.2 else b r.2
theorem ss_if {t : TT} {u w : TS} {c : Δ → Option (Bool × Δ)} {a b : Δ → Option Out} (hc : ST K t c) (ha : SS K u a) (hb : SS K w b) : SS K (tIfS t u w) (mIf c a b) := fun δ out e σ F H r E k => by
  obtain ⟨⟨c1, δ1⟩, e1, e2⟩ := Option.bind_eq_some_iff.mp e
  refine hc δ c1 δ1 e1 σ F H r _ fun F1 H1 a1 => ?_
  cases c1 with
  | true => exact ha δ1 out e2 σ F1 H1 a1.rep E (k.from a1.go)
  | false => exact hb δ1 out e2 σ F1 H1 a1.rep E (k.from a1.go)
def mDrop (f : Δ → Option (P × Δ)) : Δ → Option Out := fun δ => (f δ).map fun r => .nx r.2
theorem ss_drop {te : TE} {f : Δ → Option (P × Δ)} (hf : SX K te f) : SS K (tDrop te) (mDrop f) := fun δ out e σ F H r E k => by
  obtain ⟨⟨p, δ1⟩, e1, e2⟩ := Option.map_eq_some_iff.mp e
  cases e2
  exact hf δ p δ1 e1 σ F H r _ fun v F1 H1 a1 _ _ => k σ F1 H1 a1.rep a1.go
/-- return e: an own thing goes out, a slot's own thing with its slot -/
def retP : P → Δ → Option (O × Δ)
  | .tm (.ln _), _ => none
  | .tm o, δ => some (o, δ)
  | .sl i, δ => match δ[i]? with
    | some (some (.ln _)) => none
    | some (some o) => some (o, δ.set i none)
    | _ => none
def mRet (f : Δ → Option (P × Δ)) : Δ → Option Out := fun δ => (f δ).bind fun r => (retP r.1 r.2).map fun s => .rt s.1 s.2
theorem Rep.drop (r : Rep K F H σ δ) (i : Nat) : Rep K F H σ (δ.set i none) ∧ ∀ j a, Own H σ (δ.set i none) j a → j ≠ i ∧ Own H σ δ j a := by
  have own_of : ∀ j a, Own H σ (δ.set i none) j a → j ≠ i ∧ Own H σ δ j a := fun j a ⟨w, u, q1, q2, q3⟩ => by
    by_cases hj : i = j
    · subst hj
      by_cases hi : i < δ.length
      · rw [List.getElem?_set_self hi] at q2; cases q2
      · rw [List.getElem?_eq_none (by simpa using hi)] at q2; cases q2
    · rw [set_get_ne hj] at q2
      exact ⟨fun z => hj z.symm, w, u, q1, q2, q3⟩
  refine ⟨⟨r.kp, by rw [List.length_set]; exact r.len, fun j u hj => ?_, fun j k a hj hk => r.ap j k a (own_of j a hj).2 (own_of k a hk).2, r.tb, r.nm⟩, own_of⟩
  by_cases hij : i = j
  · subst hij
    by_cases hi : i < δ.length
    · rw [List.getElem?_set_self hi] at hj; cases hj
    · rw [List.getElem?_eq_none (by simpa using hi)] at hj; cases hj
  · rw [set_get_ne hij] at hj
    exact r.ok j u hj
theorem ss_ret {te : TE} {f : Δ → Option (P × Δ)} (hf : SX K te f) : SS K (tRet te) (mRet f) := fun δ out e σ F H r E k => by
  obtain ⟨⟨p, δ1⟩, e1, e⟩ := Option.bind_eq_some_iff.mp e
  obtain ⟨⟨o, δ2⟩, e2, e⟩ := Option.map_eq_some_iff.mp e
  cases e
  refine hf δ p δ1 e1 σ F H r _ fun v F1 H1 a1 p1 n1 => ?_
  cases p with
  | tm u =>
    have : u = o ∧ δ1 = δ2 := by cases u <;> cases e2 <;> exact ⟨rfl, rfl⟩
    obtain ⟨rfl, rfl⟩ := this
    exact k v σ F1 H1 a1.rep a1.go p1 n1
  | sl i =>
    obtain ⟨h1, u, h2⟩ := p1
    have : (∀ ds, u ≠ .ln ds) ∧ u = o ∧ δ2 = δ1.set i none := by
      cases u <;> simp only [retP, h2] at e2 <;> cases e2 <;> exact ⟨(fun _ z => by cases z), rfl, rfl⟩
    obtain ⟨hl, rfl, rfl⟩ := this
    obtain ⟨v', e4, e5, e6⟩ := a1.rep.ok i _ h2
    rw [h1] at e4; cases e4
    obtain ⟨r2, ow2⟩ := a1.rep.drop i
    refine k v σ F1 H1 r2 ⟨a1.go.kf, a1.go.kh, a1.go.nf, fun a ⟨j, hj⟩ => a1.go.hd a ⟨j, (ow2 j a hj).2⟩, a1.go.st, fun j ds hj => ?_⟩ ⟨e5, e6, fun a ha ⟨j, hj⟩ => (ow2 j a hj).1 (a1.rep.ap j i a (ow2 j a hj).2 ⟨v, u, h1, h2, ha⟩)⟩ fun a ha => a1.go.hd a ⟨i, v, u, h1, h2, ha⟩
    obtain ⟨q1, es, q2⟩ := a1.go.ln j ds hj
    refine ⟨q1, es, ?_⟩
    by_cases hij : i = j
    · subst hij
      rw [h2] at q2; cases q2; exact absurd rfl (hl _)
    · rw [set_get_ne hij]; exact q2
def mRetN : Δ → Option Out := fun δ => some (.rt (.fz .none) δ)
/-! ### a slot is given a value -/
def noLn (δ : Δ) (i : Nat) : Bool := match δ[i]? with
  | some (some (.ln _)) => false
  | some _ => true
  | none => false
theorem Rep.put (r : Rep K F H σ δ) (t : Tmp K F H σ δ v o) {i : Nat} (hi : noLn δ i = true) (n : ∀ a ∈ o.fp H v, Held H0 σ δ0 a ∨ H0 a = none) (g : Go F0 H0 σ δ0 F H σ δ) :
    Rep K F H (σ.set i (some v)) (δ.set i (some o)) ∧ Go F0 H0 σ δ0 F H (σ.set i (some v)) (δ.set i (some o)) := by
  have hlt : i < δ.length := by
    cases q : δ[i]? with
    | none => simp [noLn, q] at hi
    | some z => exact (List.getElem?_eq_some_iff.mp q).1
  have own_of : ∀ j a, Own H (σ.set i (some v)) (δ.set i (some o)) j a → (j = i ∧ a ∈ o.fp H v) ∨ (j ≠ i ∧ Own H σ δ j a) := fun j a ⟨w, u, q1, q2, q3⟩ => by
    by_cases hj : i = j
    · subst hj
      rw [List.getElem?_set_self hlt] at q2
      rw [List.getElem?_set_self (by rw [r.len]; exact hlt)] at q1
      cases q1; cases q2
      exact .inl ⟨rfl, q3⟩
    · rw [set_get_ne hj] at q1 q2
      exact .inr ⟨fun z => hj z.symm, w, u, q1, q2, q3⟩
  refine ⟨⟨r.kp, by rw [List.length_set, List.length_set]; exact r.len, fun j u hj => ?_, fun j k a hj hk => ?_, r.tb, r.nm⟩, ⟨g.kf, g.kh, g.nf, fun a ⟨j, hj⟩ => ?_, g.st, fun j ds hj => ?_⟩⟩
  · by_cases hij : i = j
    · subst hij
      rw [List.getElem?_set_self hlt] at hj; cases hj
      exact ⟨v, List.getElem?_set_self (by rw [r.len]; exact hlt), t.ok, t.nd⟩
    · rw [set_get_ne hij] at hj
      obtain ⟨w, q1, q2, q3⟩ := r.ok j u hj
      exact ⟨w, by rw [set_get_ne hij]; exact q1, q2, q3⟩
  · rcases own_of j a hj with ⟨rfl, h1⟩ | ⟨n1, h1⟩
    · rcases own_of k a hk with ⟨rfl, h2⟩ | ⟨n2, h2⟩
      · rfl
      · exact absurd ⟨k, h2⟩ (t.ap a h1)
    · rcases own_of k a hk with ⟨rfl, h2⟩ | ⟨n2, h2⟩
      · exact absurd ⟨j, h1⟩ (t.ap a h2)
      · exact r.ap j k a h1 h2
  · rcases own_of j a hj with ⟨rfl, h1⟩ | ⟨n1, h1⟩
    · exact n a h1
    · exact g.hd a ⟨j, h1⟩
  · obtain ⟨q1, es, q2⟩ := g.ln j ds hj
    by_cases hij : i = j
    · subst hij
      simp [noLn, q2] at hi
    · exact ⟨(set_get_ne hij).trans q1, es, (set_get_ne hij).trans q2⟩
/-- a value goes into a slot: a slot's own thing is frozen first -/
def putP (i : Nat) : P → Δ → Option Δ
  | .tm (.ln _), _ => none
  | .tm o, δ => if noLn δ i = true then some (δ.set i (some o)) else none
  | .sl j, δ => (force (.sl j) δ).bind fun r => if noLn r.2 i = true then some (r.2.set i (some (.fz r.1))) else none
theorem put_ok {i : Nat} (a : Aft K F0 H0 σ δ0 F H δ) (h : PR K F H σ δ v p) (n : Nw H0 σ δ0 H v p) (e : putP i p δ = some δ1) :
    ∃ F', Rep K F' H (σ.set i (some v)) δ1 ∧ Go F0 H0 σ δ0 F' H (σ.set i (some v)) δ1 := by
  cases p with
  | tm o =>
    have : noLn δ i = true ∧ δ1 = δ.set i (some o) := by
      cases o <;> simp only [putP] at e
      case ln => cases e
      all_goals (split at e <;> cases e; exact ⟨by assumption, rfl⟩)
    obtain ⟨hi, rfl⟩ := this
    exact ⟨F, a.rep.put h hi n a.go⟩
  | sl j =>
    obtain ⟨⟨d, δ2⟩, e1, e2⟩ := Option.bind_eq_some_iff.mp e
    split at e2
    · rename_i hi
      cases e2
      obtain ⟨F', a1, d1, _⟩ := force_ok a h n e1
      exact ⟨F', a1.rep.put (v := v) (o := .fz d) ⟨d1, by simp [O.fp], fun z hz => by cases hz⟩ hi (fun z hz => by cases hz) a1.go⟩
    · cases e2
def mAsg (i : Nat) (f : Δ → Option (P × Δ)) : Δ → Option Out := fun δ => (f δ).bind fun r => (putP i r.1 r.2).map .nx
theorem ss_asg {te : TE} {i : Nat} {f : Δ → Option (P × Δ)} (hf : SX K te f) : SS K (tAsg te (gName i)) (mAsg i f) := fun δ out e σ F H r E k => by
  obtain ⟨⟨p, δ1⟩, e1, e⟩ := Option.bind_eq_some_iff.mp e
  obtain ⟨δ2, e2, e⟩ := Option.map_eq_some_iff.mp e
  cases e
  refine hf δ p δ1 e1 σ F H r _ fun v F1 H1 a1 p1 n1 => ?_
  obtain ⟨F2, r2, g2⟩ := put_ok a1 p1 n1 e2
  exact k _ F2 H1 r2 g2
/-- i op= e, numbers (and texts) -/
def mAug (i : Nat) (g : D → D → Option D) (a : Δ → Option (D × Δ)) : Δ → Option Out := fun δ => match δ[i]? with
  | some (some (.fz d)) => (a δ).bind fun r => (g d r.1).bind fun z => if noLn r.2 i = true then some (.nx (r.2.set i (some (.fz z)))) else none
  | _ => none
def AuR (K : Lay) (ti : TIp) (g : D → D → Option D) : Prop := ∀ H x y d e z, Dp K H x d → Dp K H y e → g d e = some z → ∃ w, sv z = some w ∧ ∀ Q : VK, Q w H → ti x y H Q
theorem ss_aug {te : TE} {i : Nat} {ti : TIp} {g : D → D → Option D} {a : Δ → Option (D × Δ)} (hr : AuR K ti g) (ha : SD K te a) : SS K (tAug i te ti) (mAug i g a) := fun δ out e σ F H r E k => by
  unfold mAug at e
  split at e
  · rename_i d hd
    obtain ⟨⟨d2, δ1⟩, e1, e⟩ := Option.bind_eq_some_iff.mp e
    obtain ⟨z, e2, e⟩ := Option.bind_eq_some_iff.mp e
    split at e
    · rename_i hi
      cases e
      obtain ⟨v, q1, q2, _⟩ := r.ok i _ hd
      refine ⟨v, q1, ha δ d2 δ1 e1 σ F H r _ fun y F1 H1 a1 p1 => ?_⟩
      obtain ⟨w, hw, hq⟩ := hr H1 v y d d2 z (dp_mono (a1.go.kf.trans a1.rep.kp) q2) (dp_mono a1.rep.kp p1) e2
      refine hq _ ?_
      have pp := a1.rep.put (i := i) (v := w) (o := .fz z) (H0 := H) (δ0 := δ) (F0 := F) ⟨sv_dp hw, by simp [O.fp], fun z hz => by cases hz⟩ hi (fun z hz => by cases hz) a1.go
      exact k _ F1 H1 pp.1 pp.2
    · cases e
  · cases e
/-! ### targets -/
/-- a target takes frozen data into slots -/
structure SG (K : Lay) (g : TG) (ix : List Nat) (h : D → Δ → Option Δ) : Prop where
  run : ∀ d δ δ', h d δ = some δ' → ∀ σ F H v, Rep K F H σ δ → Dp K F v d → ∀ Q : L2.St → Hp → Prop,
    (∀ σ', Rep K F H σ' δ' → Go F H σ δ F H σ' δ' → σ'.length = σ.length → (∀ j, j ∉ ix → σ'[j]? = σ[j]?) → (∀ j, j ∉ ix → δ'[j]? = δ[j]?) → (∀ (j : Nat) (es : List D), δ'[j]? = some (some (O.ln es)) → ∃ fs, δ[j]? = some (some (O.ln fs))) → Q σ' H) → g v σ H Q
structure SGs (K : Lay) (g : TGs) (ix : List Nat) (h : List D → Δ → Option Δ) : Prop where
  run : ∀ ds δ δ', h ds δ = some δ' → ∀ σ F H vs, Rep K F H σ δ → DpAll K F vs ds → ∀ Q : L2.St → Hp → Prop,
    (∀ σ', Rep K F H σ' δ' → Go F H σ δ F H σ' δ' → σ'.length = σ.length → (∀ j, j ∉ ix → σ'[j]? = σ[j]?) → (∀ j, j ∉ ix → δ'[j]? = δ[j]?) → (∀ (j : Nat) (es : List D), δ'[j]? = some (some (O.ln es)) → ∃ fs, δ[j]? = some (some (O.ln fs))) → Q σ' H) → g vs σ H Q
def hName (i : Nat) : D → Δ → Option Δ := fun d δ => if noLn δ i = true then some (δ.set i (some (.fz d))) else none
theorem sg_name {i : Nat} : SG K (gName i) [i] (hName i) := ⟨fun d δ δ' e σ F H v r hd Q k => by
  unfold hName at e
  split at e
  · rename_i hi
    cases e
    have pp := r.put (i := i) (v := v) (o := .fz d) (H0 := H) (δ0 := δ) (F0 := F) ⟨hd, by simp [O.fp], fun z hz => by cases hz⟩ hi (fun z hz => by cases hz) .rfl
    exact k _ pp.1 pp.2 (by rw [List.length_set]) (fun j hj => set_get_ne fun z => hj (by simp [z])) (fun j hj => set_get_ne fun z => hj (by simp [z])) fun j es hj => by
      by_cases hij : i = j
      · subst hij
        rw [List.getElem?_set] at hj
        split at hj
        · split at hj <;> cases hj
        · exact ⟨es, hj⟩
      · rw [set_get_ne hij] at hj; exact ⟨es, hj⟩
  · cases e⟩
def hNil : List D → Δ → Option Δ := fun ds δ => match ds with
  | [] => some δ
  | _ => none
def hCons (a : D → Δ → Option Δ) (b : List D → Δ → Option Δ) : List D → Δ → Option Δ := fun ds δ => match ds with
  | d :: r => (a d δ).bind (b r)
  | [] => none
theorem sgs_nil : SGs K gNil [] hNil := ⟨fun ds δ δ' e σ F H vs r hd Q k => by
  cases ds with
  | nil => cases e; cases hd; exact ⟨rfl, k σ r .rfl rfl (fun _ _ => rfl) (fun _ _ => rfl) fun _ es h => ⟨es, h⟩⟩
  | cons d ds => cases e⟩
theorem sgs_cons {g : TG} {gs : TGs} {ix jx : List Nat} {a : D → Δ → Option Δ} {b : List D → Δ → Option Δ} (ha : SG K g ix a) (hb : SGs K gs jx b) : SGs K (gCons g gs) (ix ++ jx) (hCons a b) := ⟨fun ds δ δ' e σ F H vs r hd Q k => by
  cases ds with
  | nil => cases e
  | cons d ds =>
    obtain ⟨δ1, e1, e2⟩ := Option.bind_eq_some_iff.mp e
    cases hd with
    | cons h1 h2 =>
      refine ⟨_, _, rfl, ha.run d δ δ1 e1 σ F H _ r h1 _ fun σ1 r1 g1 l1 s1 t1 u1 => ?_⟩
      refine hb.run ds δ1 δ' e2 σ1 F H _ r1 h2 _ fun σ2 r2 g2 l2 s2 t2 u2 => ?_
      refine k σ2 r2 (g1.trans g2) (l2.trans l1) (fun j hj => ?_) (fun j hj => ?_) fun j es hj => (let ⟨fs, q⟩ := u2 j es hj; u1 j fs q)
      · rw [s2 j fun z => hj (by simp [z]), s1 j fun z => hj (by simp [z])]
      · rw [t2 j fun z => hj (by simp [z]), t1 j fun z => hj (by simp [z])]⟩
def hTup (n : Nat) (b : List D → Δ → Option Δ) : D → Δ → Option Δ := fun d δ => match d with
  | .tuple ds => if ds.length = n then b ds δ else none
  | _ => none
theorem sg_tup {n : Nat} {gs : TGs} {ix : List Nat} {b : List D → Δ → Option Δ} (hb : SGs K gs ix b) : SG K (gTup K n gs) ix (hTup n b) := ⟨fun d δ δ' e σ F H v r hd Q k => by
  cases d with
  | tuple ds =>
    simp only [hTup] at e
    split at e
    · rename_i hl
      obtain ⟨a, xs, rfl, h1, h2⟩ := dp_tuple hd
      exact ⟨a, xs, rfl, r.kp.sqT h1, by rw [dpa_len h2]; exact hl, hb.run ds δ δ' e σ F H xs r h2 Q k⟩
    · cases e
  | _ => cases e⟩
def mTgt (f : Δ → Option (D × Δ)) (h : D → Δ → Option Δ) : Δ → Option Out := fun δ => (f δ).bind fun r => (h r.1 r.2).map .nx
/-! ### what a loop walks: frozen items -/
def SI (K : Lay) (wi : TI) (g : Δ → Option (List D × Δ)) : Prop := ∀ δ ds δ', g δ = some (ds, δ') → ∀ σ F H, Rep K F H σ δ → ∀ R : It → Hp → Prop,
  (∀ J F' H', Aft K F H σ δ F' H' δ' → (∃ G Y, Walk J ds.length G Y ∧ (∀ H2, Kp F' H2 → G H2) ∧
    ∀ i H2 x H3 F2, i < ds.length → Kp F' F2 → Kp F2 H2 → Y i H2 x H3 → ∃ d F3, ds[i]? = some d ∧ New K F2 H2 F3 H3 ∧ Dp K F3 x d) → R J H') → wi σ H R
def eSeq (f : Δ → Option (D × Δ)) : Δ → Option (List D × Δ) := fun δ => (f δ).bind fun r => match r.1 with
  | .list ds => some (ds, r.2)
  | _ => none
def eSeqT (f : Δ → Option (D × Δ)) : Δ → Option (List D × Δ) := fun δ => (f δ).bind fun r => match r.1 with
  | .tuple ds => some (ds, r.2)
  | _ => none
theorem si_list {te : TE} {f : Δ → Option (D × Δ)} (hf : SD K te f) : SI K (iList K te) (eSeq f) := fun δ ds δ' e σ F H r R k => by
  obtain ⟨⟨d, δ1⟩, e1, e⟩ := Option.bind_eq_some_iff.mp e
  cases d with
  | list es =>
    cases e
    refine hf δ _ δ1 e1 σ F H r _ fun v F1 H1 a1 p1 => ?_
    obtain ⟨a, xs, rfl, h1, h2⟩ := dp_list p1
    refine ⟨a, rfl, ⟨xs, a1.rep.kp.sqL h1⟩, k _ F1 H1 a1 ⟨_, _, dpa_len h2 ▸ walk_list (xs := xs), fun H2 k2 => k2.sqL h1, fun i H2 x H3 F2 hi k1 k2 y => ?_⟩⟩
    obtain ⟨rfl, y2⟩ := y
    obtain ⟨d, z1, z2⟩ := dpa_getV h2 y2
    exact ⟨d, F2, z1, .rfl k2, dp_mono k1 z2⟩
  | _ => cases e
def rangeD (lo : Int) (n : Nat) : List D := (List.range n).map fun (i : Nat) => .int (lo + (i : Int))
theorem rangeD_len (lo : Int) (n : Nat) : (rangeD lo n).length = n := by simp [rangeD]
theorem rangeD_get {lo : Int} {n i : Nat} (h : i < n) : (rangeD lo n)[i]? = some (.int (lo + (i : Int))) := by simp [rangeD, h]
def rgOk (i : Int) : Bool := decide (-(2 ^ 62) ≤ i) && decide (i < 2 ^ 62)
theorem rgOk_iff {i : Int} (h : rgOk i = true) : -(2 ^ 62) ≤ i ∧ i < 2 ^ 62 := by
  unfold rgOk at h
  rw [Bool.and_eq_true] at h
  exact ⟨of_decide_eq_true h.1, of_decide_eq_true h.2⟩
def eRng1 (a : Δ → Option (List D × Δ)) : Δ → Option (List D × Δ) := fun δ => (a δ).bind fun r => match r.1 with
  | [.int j] => if rgOk j = true then some (rangeD 0 j.toNat, r.2) else none
  | _ => none
def eRng2 (a : Δ → Option (List D × Δ)) : Δ → Option (List D × Δ) := fun δ => (a δ).bind fun r => match r.1 with
  | [.int i, .int j] => if rgOk i = true ∧ rgOk j = true then some (rangeD i (j - i).toNat, r.2) else none
  | _ => none
theorem walk_rg {lo : Int} {n : Nat} : ∃ G Y, Walk (Itr lo n) (rangeD lo n).length G Y ∧ (∀ H2, Kp F' H2 → G H2) ∧
    ∀ i H2 x H3 F2, i < (rangeD lo n).length → Kp F' F2 → Kp F2 H2 → Y i H2 x H3 → ∃ d F3, (rangeD lo n)[i]? = some d ∧ New K F2 H2 F3 H3 ∧ Dp K F3 x d :=
  ⟨_, _, (by rw [rangeD_len]; exact walk_range (lo := lo) (n := n)), fun _ _ => trivial, fun i H2 x H3 F2 hi _ k2 y => by
    obtain ⟨rfl, rfl⟩ := y
    rw [rangeD_len] at hi
    exact ⟨_, F2, rangeD_get hi, .rfl k2, .int _⟩⟩
theorem si_rng1 {ta : TA} {a : Δ → Option (List D × Δ)} (ha : SDs K ta a) : SI K (iRng1 ta) (eRng1 a) := fun δ ds δ' e σ F H r R k => by
  obtain ⟨⟨es, δ1⟩, e1, e⟩ := Option.bind_eq_some_iff.mp e
  simp only at e
  split at e
  · rename_i j
    split at e
    · rename_i hj
      cases e
      refine ha δ _ _ e1 σ F H r _ fun vs F1 H1 a1 p1 => ?_
      cases p1 with
      | cons z1 z2 =>
        cases z2
        obtain rfl := dp_int z1
        exact ⟨j, rfl, (rgOk_iff hj).1, (rgOk_iff hj).2, k _ F1 H1 a1 walk_rg⟩
    · cases e
  · cases e
theorem dp_pair {T : Addr} {a b : V} {d e : D} (kp : Kp F H) (hT : H T = none) (ha : Dp K F a d) (hb : Dp K F b e) : New K F H (upd F T (.tup [a, b])) (upd H T (.tup [a, b])) ∧ Dp K (upd F T (.tup [a, b])) (.ref T) (.tuple [d, e]) := by
  refine ⟨⟨.new (kp.free hT), kp_up2 kp, .new hT, fun a z => ?_, fun z => z.new hT⟩, .tup (SqT.of upd_same) (.cons (dp_mono (.new (kp.free hT)) ha) (.cons (dp_mono (.new (kp.free hT)) hb) .nil))⟩
  by_cases h : a = T
  · subst h; exact .inr hT
  · rw [upd_ne h] at z; exact .inl z
def enumD : List D → List D := fun ds => (ds.zipIdx 0).map fun p => .tuple [.int (p.2 : Nat), p.1]
theorem enumD_len (ds : List D) : (enumD ds).length = ds.length := by simp [enumD]
theorem enumD_get {ds : List D} {i : Nat} {d : D} (h : ds[i]? = some d) : (enumD ds)[i]? = some (.tuple [.int (i : Nat), d]) := by
  simp [enumD, List.getElem?_zipIdx, h]
def eEnum (a : Δ → Option (List D × Δ)) : Δ → Option (List D × Δ) := fun δ => (a δ).bind fun r => match r.1 with
  | [.list ds] => some (enumD ds, r.2)
  | _ => none
theorem si_enum {ta : TA} {a : Δ → Option (List D × Δ)} (ha : SDs K ta a) : SI K (iEnum K ta) (eEnum a) := fun δ ds δ' e σ F H r R k => by
  obtain ⟨⟨es, δ1⟩, e1, e⟩ := Option.bind_eq_some_iff.mp e
  simp only at e
  split at e
  · rename_i es
    cases e
    refine ha δ _ _ e1 σ F H r _ fun vs F1 H1 a1 p1 => ?_
    cases p1 with
    | cons z1 z2 =>
      cases z2
      obtain ⟨b, xs, rfl, h1, h2⟩ := dp_list z1
      refine ⟨b, xs, rfl, a1.rep.kp.sqL h1, k _ F1 H1 a1 ⟨_, _, (by rw [enumD_len, ← dpa_len h2]; exact walk_enum (xs := xs)), fun H2 k2 => k2.sqL h1, fun i H2 x H3 F2 hi k1 k2 y => ?_⟩⟩
      obtain ⟨T, a, b, rfl, hT, rfl, y1, y2⟩ := y
      cases y1
      obtain ⟨d, w1, w2⟩ := dpa_getV h2 y2
      obtain ⟨n1, n2⟩ := dp_pair (d := .int (i : Nat)) k2 hT (.int _) (dp_mono k1 w2)
      exact ⟨_, _, enumD_get w1, n1, n2⟩
  · cases e
def zipD : List D → List D → List D := fun ds es => (ds.zip es).map fun p => .tuple [p.1, p.2]
def eZip (a : Δ → Option (List D × Δ)) : Δ → Option (List D × Δ) := fun δ => (a δ).bind fun r => match r.1 with
  | [.list ds, .list es] => some (zipD ds es, r.2)
  | _ => none
def strD (s : Str) : List D := s.cps.toList.map fun c => .str ⟨#[c]⟩
def eStr (f : Δ → Option (D × Δ)) : Δ → Option (List D × Δ) := fun δ => (f δ).bind fun r => match r.1 with
  | .str s => some (strD s, r.2)
  | _ => none
theorem si_str {te : TE} {f : Δ → Option (D × Δ)} (hf : SD K te f) : SI K (iStr te) (eStr f) := fun δ ds δ' e σ F H r R k => by
  obtain ⟨⟨d, δ1⟩, e1, e⟩ := Option.bind_eq_some_iff.mp e
  cases d with
  | str s =>
    cases e
    refine hf δ _ δ1 e1 σ F H r _ fun v F1 H1 a1 p1 => ?_
    obtain rfl := dp_str p1
    refine ⟨s, rfl, k _ F1 H1 a1 ⟨_, _, (by simp only [strD, List.length_map, Array.length_toList]; exact walk_str (z := s)), fun _ _ => trivial, fun i H2 x H3 F2 hi k1 k2 y => ?_⟩⟩
    obtain ⟨rfl, c, hc, rfl⟩ := y
    exact ⟨_, F2, by simp [strD, hc], .rfl k2, .str _⟩
  | _ => cases e
/-! ### for -/
/-- the turns -/
def turns (h : D → Δ → Option Δ) (b : Δ → Option Out) : List D → Δ → Option Out
  | [], δ => some (.nx δ)
  | d :: ds, δ => (h d δ).bind fun δ1 => (b δ1).bind fun r => match r with
    | .nx δ2 => turns h b ds δ2
    | .ct δ2 => turns h b ds δ2
    | .bk δ2 => some (.nx δ2)
    | .rt o δ2 => some (.rt o δ2)
def mFor (g : Δ → Option (List D × Δ)) (h : D → Δ → Option Δ) (b : Δ → Option Out) : Δ → Option Out := fun δ => (g δ).bind fun r => turns h b r.1 r.2
theorem ss_for {wi : TI} {g : TG} {tb : TS} {ix : List Nat} {c : Δ → Option (List D × Δ)} {h : D → Δ → Option Δ} {b : Δ → Option Out} (hi : SI K wi c) (hg : SG K g ix h) (hb : SS K tb b) : SS K (tFor wi g tb) (mFor c h b) := fun δ out e σ F H r E k => by
  obtain ⟨⟨ds, δ1⟩, e1, e⟩ := Option.bind_eq_some_iff.mp e
  refine hi δ ds δ1 e1 σ F H r _ fun J F1 H1 a1 w => ?_
  obtain ⟨G, Y, wk, hG, hY⟩ := w
  let Pv : Nat → L2.St → Hp → Prop := fun i σ2 H2 => ∃ F2 δ2, Rep K F2 H2 σ2 δ2 ∧ Go F H σ δ F2 H2 σ2 δ2 ∧ Kp F1 F2 ∧ turns h b (ds.drop i) δ2 = some out
  -- a turn that has ended: the loop's own end
  have fin : ∀ {F2 H2 σ2 δ2}, Rep K F2 H2 σ2 δ2 → Go F H σ δ F2 H2 σ2 δ2 → out = .nx δ2 → E.nx σ2 H2 := fun r2 g2 eo => by subst eo; exact k _ _ _ r2 g2
  refine for_it wk Pv ⟨F1, δ1, a1.rep, a1.go, .rfl, by simpa using e⟩ (fun i σ2 H2 _ ⟨F2, δ2, r2, _, k2, _⟩ => hG H2 (k2.trans r2.kp)) (fun i x σ2 H2 H3 hlt ⟨F2, δ2, r2, g2, k2, e2⟩ y => ?_) (fun σ2 H2 ⟨F2, δ2, r2, g2, k2, e2⟩ => ?_)
  · obtain ⟨d, F3, q1, n3, d3⟩ := hY i H2 x H3 F2 hlt k2 r2.kp y
    have a3 := n3.aft r2
    have ed : ds.drop i = d :: ds.drop (i + 1) := by
      obtain ⟨q2, q3⟩ := List.getElem?_eq_some_iff.mp q1
      rw [List.drop_eq_getElem_cons q2, q3]
    rw [ed] at e2
    obtain ⟨δ3, e3, e4⟩ := Option.bind_eq_some_iff.mp e2
    obtain ⟨o3, e5, e6⟩ := Option.bind_eq_some_iff.mp e4
    refine hg.run d δ2 δ3 e3 σ2 F3 H3 x a3.rep d3 _ fun σ3 r3 g3 _ _ _ _ => ?_
    have gg := (g2.trans a3.go).trans g3
    have kk := k2.trans a3.go.kf
    refine hb δ3 o3 e5 σ3 F3 H3 r3 _ ?_
    cases o3 with
    | nx δ4 => exact fun σ4 F4 H4 r4 g4 => ⟨F4, δ4, r4, gg.trans g4, kk.trans g4.kf, e6⟩
    | ct δ4 => exact fun σ4 F4 H4 r4 g4 => ⟨F4, δ4, r4, gg.trans g4, kk.trans g4.kf, e6⟩
    | bk δ4 =>
      cases e6
      exact fun σ4 F4 H4 r4 g4 => k σ4 F4 H4 r4 (gg.trans g4)
    | rt o δ4 =>
      cases e6
      exact Fin.from gg k
  · rw [List.drop_length] at e2
    cases e2
    exact k σ2 F2 H2 r2 g2
/-! ### while, by fuel -/
def mWhile (c : Δ → Option (Bool × Δ)) (b : Δ → Option Out) : Nat → Δ → Option Out
  | 0, _ => none
  | n + 1, δ => (c δ).bind fun r => if r.1 = true then (b r.2).bind fun s => match s with
      | .nx δ2 => mWhile c b n δ2
      | .ct δ2 => mWhile c b n δ2
      | .bk δ2 => some (.nx δ2)
      | .rt o δ2 => some (.rt o δ2)
    else some (.nx r.2)
theorem ss_while {t : TT} {tb : TS} {c : Δ → Option (Bool × Δ)} {b : Δ → Option Out} (hc : ST K t c) (hb : SS K tb b) (n : Nat) : SS K (tWhile t tb) (mWhile c b n) := fun δ out e σ F H r E k => by
  refine ⟨fun m σ2 H2 => ∃ F2 δ2, Rep K F2 H2 σ2 δ2 ∧ Go F H σ δ F2 H2 σ2 δ2 ∧ mWhile c b m δ2 = some out, ⟨n, F, δ, r, .rfl, e⟩, ?_⟩
  rintro m σ2 H2 ⟨F2, δ2, r2, g2, e2⟩
  cases m with
  | zero => cases e2
  | succ m =>
    obtain ⟨⟨c1, δ3⟩, e3, e4⟩ := Option.bind_eq_some_iff.mp e2
    refine hc δ2 c1 δ3 e3 σ2 F2 H2 r2 _ fun F3 H3 a3 => ?_
    cases c1 with
    | false =>
      cases e4
      exact k σ2 F3 H3 a3.rep (g2.trans a3.go)
    | true =>
      obtain ⟨s, e5, e6⟩ := Option.bind_eq_some_iff.mp e4
      refine ⟨fun σ4 H4 => ∃ F4 δ4, Rep K F4 H4 σ4 δ4 ∧ Go F H σ δ F4 H4 σ4 δ4 ∧ mWhile c b m δ4 = some out, fun σ' H' hN => ⟨m, Nat.lt_succ_self m, hN⟩, ?_⟩
      have gg := g2.trans a3.go
      refine hb δ3 s e5 σ2 F3 H3 a3.rep _ ?_
      cases s with
      | nx δ4 => exact fun σ4 F4 H4 r4 g4 => ⟨F4, δ4, r4, gg.trans g4, e6⟩
      | ct δ4 => exact fun σ4 F4 H4 r4 g4 => ⟨F4, δ4, r4, gg.trans g4, e6⟩
      | bk δ4 =>
        cases e6
        exact fun σ4 F4 H4 r4 g4 => k σ4 F4 H4 r4 (gg.trans g4)
      | rt o δ4 =>
        cases e6
        exact Fin.from gg k
end
end Vi
end
section
set_option Elab.async false
set_option linter.all false
set_option maxRecDepth 100000
set_option maxHeartbeats 1000000
/-! List comprehensions over values; methods that change an own list. -/
namespace Vi
open PySem PySem.Spec PyProof.Rows L2
def wipeΔ (δ : Δ) : List Nat → Δ
  | [] => δ
  | v :: vs => (wipeΔ δ vs).set v none
section
variable {K : Lay} {F H F' H' F0 H0 F1 H1 F2 H2 : Hp} {σ σ' σ1 σ2 : L2.St} {δ δ' δ0 δ1 δ2 : Δ} {v x y : V} {p q : P} {o : O} {d e : D} {vs : List Nat}
theorem wipeΔ_len : ∀ vs : List Nat, (wipeΔ δ vs).length = δ.length
  | [] => rfl
  | v :: vs => by unfold wipeΔ; rw [List.length_set, wipeΔ_len vs]
theorem wipeΔ_out {i : Nat} : ∀ {vs : List Nat}, i ∉ vs → (wipeΔ δ vs)[i]? = δ[i]?
  | [], _ => rfl
  | v :: vs, h => by
    unfold wipeΔ
    rw [List.getElem?_set_ne (fun e => h (by simp [e])), wipeΔ_out fun z => h (List.mem_cons_of_mem _ z)]
theorem wipeΔ_in {i : Nat} {o : O} : ∀ {vs : List Nat}, (wipeΔ δ vs)[i]? = some (some o) → i ∉ vs
  | [], _ => by simp
  | v :: vs, h => by
    unfold wipeΔ at h
    by_cases hi : v = i
    · subst hi
      by_cases hv : v < (wipeΔ δ vs).length
      · rw [List.getElem?_set_self hv] at h; cases h
      · rw [List.getElem?_eq_none (by simpa using hv)] at h; cases h
    · rw [List.getElem?_set_ne hi] at h
      have := wipeΔ_in h
      simp only [List.mem_cons, not_or]
      exact ⟨fun z => hi z.symm, this⟩
theorem wipe_get {i : Nat} (h : i ∉ vs) : (L2.wipe σ vs)[i]? = σ[i]? := wipe_out h
/-- slots forgotten: in the frame σ', which is σ but for those -/
theorem Rep.forget (r : Rep K F H σ δ) (hl : σ'.length = σ.length) (hs : ∀ j, j ∉ vs → σ'[j]? = σ[j]?) : Rep K F H σ' (wipeΔ δ vs) ∧ ∀ j a, Own H σ' (wipeΔ δ vs) j a → Own H σ δ j a := by
  have own_of : ∀ j a, Own H σ' (wipeΔ δ vs) j a → Own H σ δ j a := fun j a ⟨w, u, q1, q2, q3⟩ => by
    have hj := wipeΔ_in q2
    rw [wipeΔ_out hj] at q2
    rw [hs j hj] at q1
    exact ⟨w, u, q1, q2, q3⟩
  refine ⟨⟨r.kp, by rw [hl, wipeΔ_len]; exact r.len, fun j u hj => ?_, fun i j a hi hj => r.ap i j a (own_of i a hi) (own_of j a hj), r.tb, r.nm⟩, own_of⟩
  have hm := wipeΔ_in hj
  rw [wipeΔ_out hm] at hj
  obtain ⟨w, q1, q2, q3⟩ := r.ok j u hj
  exact ⟨w, by rw [hs j hm]; exact q1, q2, q3⟩
theorem wipe_ext (hl : σ'.length = σ.length) (hs : ∀ j, j ∉ vs → σ'[j]? = σ[j]?) : L2.wipe σ' vs = L2.wipe σ vs := by
  apply List.ext_getElem?
  intro i
  by_cases h : i ∈ vs
  · have none_of : ∀ {τ : L2.St} {us : List Nat}, i ∈ us → i < τ.length → (L2.wipe τ us)[i]? = some none := by
      intro τ us
      induction us with
      | nil => intro z; cases z
      | cons u us ih =>
        intro z hi
        unfold L2.wipe
        by_cases e : u = i
        · subst e; rw [List.getElem?_set_self (by rw [wipe_length]; exact hi)]
        · rw [List.getElem?_set_ne e]
          exact ih ((List.mem_cons.mp z).resolve_left fun q => e q.symm) hi
    by_cases hi : i < σ.length
    · rw [none_of h (by rw [hl]; exact hi), none_of h hi]
    · rw [List.getElem?_eq_none (by rw [wipe_length, hl]; omega), List.getElem?_eq_none (by rw [wipe_length]; omega)]
  · rw [wipe_get h, wipe_get h, hs i h]
/-- the turns of a comprehension -/
def lcGo (vs : List Nat) (h : D → Δ → Option Δ) (t : Δ → Option (Bool × Δ)) (f : Δ → Option (D × Δ)) : List D → Δ → Option (List D × Δ)
  | [], δ => some ([], δ)
  | d :: ds, δ => (h d δ).bind fun δ1 => (t δ1).bind fun r => if r.1 = true then (f r.2).bind fun s => (lcGo vs h t f ds (wipeΔ s.2 vs)).map fun z => (s.1 :: z.1, z.2) else lcGo vs h t f ds (wipeΔ r.2 vs)
/-- a comprehension's own slot: it held nothing, or frozen data, which it holds again behind it -/
def okv (δ : Δ) (j : Nat) : Bool := match δ[j]? with
  | some none => true
  | some (some (.fz _)) => true
  | _ => false
def restΔ (δ1 η : Δ) : List Nat → Δ
  | [] => η
  | v :: vs => (restΔ δ1 η vs).set v (δ1[v]?.getD none)
theorem okv_noLn {j : Nat} (h : okv δ j = true) : noLn δ j = true := by
  unfold okv at h
  unfold noLn
  split at h <;> simp_all
theorem okv_all (h : vs.all (okv δ) = true) : vs.all (noLn δ) = true := by
  rw [List.all_eq_true] at h ⊢
  exact fun j hj => okv_noLn (h j hj)
theorem restΔ_len {η : Δ} : ∀ vs : List Nat, (restΔ δ η vs).length = η.length
  | [] => rfl
  | v :: vs => by unfold restΔ; rw [List.length_set, restΔ_len vs]
theorem restΔ_out {η : Δ} {i : Nat} : ∀ {vs : List Nat}, i ∉ vs → (restΔ δ η vs)[i]? = η[i]?
  | [], _ => rfl
  | v :: vs, h => by
    unfold restΔ
    rw [List.getElem?_set_ne (fun e => h (by simp [e])), restΔ_out fun z => h (List.mem_cons_of_mem _ z)]
theorem restΔ_in {η : Δ} {i : Nat} (hl : η.length = δ.length) : ∀ {vs : List Nat}, i ∈ vs → i < δ.length → (restΔ δ η vs)[i]? = δ[i]?
  | v :: vs, h, hi => by
    unfold restΔ
    by_cases e : v = i
    · subst e
      rw [List.getElem?_set_self (by rw [restΔ_len, hl]; exact hi), List.getElem?_eq_getElem hi]; rfl
    · rw [List.getElem?_set_ne e]
      exact restΔ_in hl ((List.mem_cons.mp h).resolve_left fun q => e q.symm) hi
/-- behind it -/
theorem rest_ok {η : Δ} (r1 : Rep K F1 H1 σ δ1) (r : Rep K F H σ η) (g : Go F0 H0 σ δ0 F H σ η) (kf : Kp F1 F) (hv : vs.all (okv δ1) = true) (hn : ∀ j ∈ vs, ∀ es : List D, η[j]? ≠ some (some (O.ln es))) :
    Rep K F H σ (restΔ δ1 η vs) ∧ Go F0 H0 σ δ0 F H σ (restΔ δ1 η vs) ∧ ∀ a, Held H σ (restΔ δ1 η vs) a → Held H σ η a := by
  have hl : η.length = δ1.length := by rw [← r.len, r1.len]
  have fz_of : ∀ j ∈ vs, ∀ o, (restΔ δ1 η vs)[j]? = some (some o) → ∃ d, o = .fz d ∧ δ1[j]? = some (some (.fz d)) := fun j hj o e => by
    have h1 := List.all_eq_true.mp hv j hj
    have hlt : j < δ1.length := by
      unfold okv at h1
      cases q : δ1[j]? with
      | none => rw [q] at h1; cases h1
      | some z => exact (List.getElem?_eq_some_iff.mp q).1
    rw [restΔ_in hl hj hlt] at e
    unfold okv at h1
    rw [e] at h1
    cases o with
    | fz d => exact ⟨d, rfl, e⟩
    | _ => cases h1
  have own_of : ∀ j a, Own H σ (restΔ δ1 η vs) j a → Own H σ η j a := fun j a ⟨w, u, q1, q2, q3⟩ => by
    by_cases hj : j ∈ vs
    · obtain ⟨d, rfl, _⟩ := fz_of j hj u q2
      cases q3
    · rw [restΔ_out hj] at q2
      exact ⟨w, u, q1, q2, q3⟩
  refine ⟨⟨r.kp, by rw [restΔ_len]; exact r.len, fun j o e => ?_, fun i j a hi hj => r.ap i j a (own_of i a hi) (own_of j a hj), r.tb, r.nm⟩, ⟨g.kf, g.kh, g.nf, fun a ⟨j, hj⟩ => g.hd a ⟨j, own_of j a hj⟩, g.st, fun i ds e => ?_⟩, fun a ⟨j, hj⟩ => ⟨j, own_of j a hj⟩⟩
  · by_cases hj : j ∈ vs
    · obtain ⟨d, rfl, e1⟩ := fz_of j hj o e
      obtain ⟨w, q1, q2, _⟩ := r1.ok j _ e1
      exact ⟨w, q1, dp_mono kf q2, by simp [O.fp]⟩
    · rw [restΔ_out hj] at e
      exact r.ok j o e
  · obtain ⟨z, es, q⟩ := g.ln i ds e
    refine ⟨z, es, ?_⟩
    by_cases hj : i ∈ vs
    · exact absurd q (hn i hj es)
    · rw [restΔ_out hj]; exact q
def eLc (vs : List Nat) (c : Δ → Option (List D × Δ)) (h : D → Δ → Option Δ) (t : Δ → Option (Bool × Δ)) (f : Δ → Option (D × Δ)) : Δ → Option (P × Δ) := fun δ => (c δ).bind fun r => if r.1.length ≤ sizeLine ∧ vs.all (okv r.2) = true then (lcGo vs h t f r.1 (wipeΔ r.2 vs)).map fun z => (.tm (.ow z.1), restΔ r.2 z.2 vs) else none
theorem noLn_ln {i : Nat} {ds : List D} (h : δ[i]? = some (some (.ln ds))) (hv : vs.all (noLn δ) = true) : i ∉ vs := fun z => by
  have := List.all_eq_true.mp hv i z
  simp [noLn, h] at this
/-- forgetting as a step -/
theorem Go.forget (r : Rep K F H σ δ) (hl : σ'.length = σ.length) (hs : ∀ j, j ∉ vs → σ'[j]? = σ[j]?) (hv : vs.all (noLn δ) = true) : Go F H σ δ F H σ' (wipeΔ δ vs) :=
  ⟨.rfl, fun _ o e _ => ⟨o, e, .rfl⟩, fun _ h => .inl h, fun a ⟨j, hj⟩ => .inl ⟨j, (r.forget hl hs).2 j a hj⟩, fun _ h => h, fun i ds h => ⟨hs i (noLn_ln h hv), ds, by rw [wipeΔ_out (noLn_ln h hv)]; exact h⟩⟩
/-- a thing that was not there at the start may change -/
theorem Go.late {L : Addr} {u : HO} (g : Go F H σ δ F1 H1 σ1 δ1) (hL : H L = none) (hh : ∀ a, Held (upd H1 L u) σ1 δ1 a → Held H1 σ1 δ1 a) : Go F H σ δ F1 (upd H1 L u) σ1 δ1 :=
  ⟨g.kf, fun a o e n => by rw [upd_ne (show a ≠ L by intro z; subst z; rw [hL] at e; cases e)]; exact g.kh a o e n, g.nf, fun a h => g.hd a (hh a h), fun a z => by
    by_cases q : a = L
    · subst q; rw [upd_same]; simp
    · rw [upd_ne q]; exact g.st a z, g.ln⟩
/-- known slots stay known, lent ones come from lent ones -/
structure Un2 (vs : List Nat) (δ δ' : Δ) : Prop where
  un : ∀ (i : Nat) (o : O), i ∉ vs → δ[i]? = some (some o) → ∃ o', δ'[i]? = some (some o')
  nl : ∀ (i : Nat) (es : List D), δ'[i]? = some (some (O.ln es)) → ∃ fs, δ[i]? = some (some (O.ln fs))
theorem Un2.rfl : Un2 vs δ δ := ⟨fun _ o _ h => ⟨o, h⟩, fun _ es h => ⟨es, h⟩⟩
theorem Un2.wipe (u : Un2 vs δ δ') : Un2 vs δ (wipeΔ δ' vs) :=
  ⟨fun i o n h => by rw [wipeΔ_out n]; exact u.un i o n h, fun i es h => u.nl i es (by rw [← wipeΔ_out (wipeΔ_in h)]; exact h)⟩
theorem Un2.tgt {ix : List Nat} (u : Un2 vs δ δ1) (hix : ∀ j ∈ ix, j ∈ vs) (t : ∀ j, j ∉ ix → δ2[j]? = δ1[j]?) (n : ∀ (j : Nat) (es : List D), δ2[j]? = some (some (O.ln es)) → ∃ fs, δ1[j]? = some (some (O.ln fs))) : Un2 vs δ δ2 :=
  ⟨fun i o h e => by rw [t i fun z => h (hix i z)]; exact u.un i o h e, fun i es h => let ⟨fs, z⟩ := n i es h; u.nl i fs z⟩
theorem Un2.aft (u : Un2 vs δ δ1) (a : ∀ (i : Nat) (o : O), δ1[i]? = some (some o) → ∃ o', δ2[i]? = some (some o')) (n : ∀ (j : Nat) (es : List D), δ2[j]? = some (some (O.ln es)) → ∃ fs, δ1[j]? = some (some (O.ln fs))) : Un2 vs δ δ2 :=
  ⟨fun i o h e => let ⟨o1, z⟩ := u.un i o h e; a i o1 z, fun i es h => let ⟨fs, z⟩ := n i es h; u.nl i fs z⟩
/-- the new list at L, apart from all -/
structure Lst (K : Lay) (F H : Hp) (σ : L2.St) (δ : Δ) (L : Addr) (acc : List D) : Prop where
  tm : Tmp K F H σ δ (.ref L) (.ow acc)
theorem lst_at (l : Lst K F H σ δ v' acc) : ∃ xs, H v' = some (.lst xs) ∧ DpAll K F xs acc ∧ F v' = none := by
  obtain ⟨p, e, xs, e1, e2, e3⟩ := l.tm.ok
  cases e
  exact ⟨xs, e1, e3, e2⟩
/-- a list that nothing else holds may change -/
theorem Rep.upd (r : Rep K F H σ δ) {L : Addr} (hF : F L = none) (nh : ¬ Held H σ δ L) {u : HO} (hH : H L = none ∨ ∃ ys, H L = some (.lst ys)) : Rep K F (upd H L u) σ δ := by
  have same : ∀ i a, Own H σ δ i a → (L2.upd H L u) a = H a := fun i a h => by
    rw [upd_ne]; intro z; subst z; exact nh ⟨i, h⟩
  have own_of : ∀ i a, Own (L2.upd H L u) σ δ i a → Own H σ δ i a := fun i a ⟨w, o, q1, q2, q3⟩ => by
    obtain ⟨w', z1, z2, _⟩ := r.ok i o q2
    rw [q1] at z1; cases z1
    rw [fp_frame z2 fun b hb => same i b ⟨w, o, q1, q2, hb⟩] at q3
    exact ⟨w, o, q1, q2, q3⟩
  refine ⟨fun a o e => ?_, r.len, fun i o hi => ?_, fun i j a hi hj => r.ap i j a (own_of i a hi) (own_of j a hj), r.tb, hH.elim (fun z => r.nm.new z) fun ⟨_, z⟩ => r.nm.over z⟩
  · rw [upd_ne (show a ≠ L by intro z; subst z; rw [hF] at e; cases e)]
    exact r.kp a o e
  · obtain ⟨w, q1, q2, q3⟩ := r.ok i o hi
    refine ⟨w, q1, ok_frame .rfl q2 fun a ha => ⟨same i a ⟨w, o, q1, hi, ha⟩, (ok_fp q2 a ha).2⟩, ?_⟩
    rw [fp_frame q2 fun a ha => same i a ⟨w, o, q1, hi, ha⟩]; exact q3
theorem held_upd (r : Rep K F H σ δ) {L : Addr} {u : HO} (nh : ¬ Held H σ δ L) {a : Addr} (h : Held (upd H L u) σ δ a) : Held H σ δ a := by
  obtain ⟨i, w, o, q1, q2, q3⟩ := h
  obtain ⟨w', z1, z2, _⟩ := r.ok i o q2
  rw [q1] at z1; cases z1
  have same : ∀ b ∈ o.fp H w, (L2.upd H L u) b = H b := fun b hb => by
    rw [upd_ne]; intro z; subst z; exact nh ⟨i, w, o, q1, q2, hb⟩
  rw [fp_frame z2 same] at q3
  exact ⟨i, w, o, q1, q2, q3⟩
theorem sx_lc {wi : TI} {g : TG} {tt : TT} {te : TE} {ix : List Nat} {c : Δ → Option (List D × Δ)} {h : D → Δ → Option Δ} {t : Δ → Option (Bool × Δ)} {f : Δ → Option (D × Δ)} (hi : SI K wi c) (hg : SG K g ix h) (ht : ST K tt t) (hf : SD K te f)
    (hix : ∀ j ∈ ix, j ∈ vs := by decide) : SX K (tLc wi g tt te vs) (eLc vs c h t f) := fun δ p δ' e σ F H r Q k => by
  obtain ⟨⟨ds, δ1⟩, e1, e⟩ := Option.bind_eq_some_iff.mp e
  split at e
  case isFalse => cases e
  rename_i hc
  obtain ⟨hsz, hok⟩ := hc
  have hvs := okv_all hok
  have hsz : ds.length ≤ sizeLine := hsz
  obtain ⟨⟨zs, δ9⟩, e2, e⟩ := Option.map_eq_some_iff.mp e
  cases e
  refine hi δ ds δ1 e1 σ F H r _ fun J F1 H1 a1 w => ?_
  obtain ⟨G, Y, wk, hG, hY⟩ := w
  intro L hL
  have hLH : H L = none := by
    cases q : H L with
    | none => rfl
    | some z => exact absurd hL (a1.go.st L (by rw [q]; simp))
  have hF1 : F1 L = none := a1.rep.kp.free hL
  have nh1 : ¬ Held H1 σ δ1 L := fun z => by obtain ⟨⟨xs, w, _⟩, _⟩ := a1.rep.held z; rw [hL] at w; cases w
  let Pv : Nat → Hp → Prop := fun i H2 => ∃ F2 δ2 acc rest, Rep K F2 H2 σ δ2 ∧ Go F H σ δ F2 H2 σ δ2 ∧ Kp F1 F2 ∧ Lst K F2 H2 σ δ2 L acc ∧ acc.length ≤ i ∧ δ2 = wipeΔ δ2 vs ∧ (lcGo vs h t f (ds.drop i) δ2 = some (rest, δ9) ∧ zs = acc ++ rest) ∧ Un2 vs δ1 δ2
  have wself : ∀ {η : Δ}, wipeΔ (wipeΔ η vs) vs = wipeΔ η vs := fun {η} => by
    apply List.ext_getElem?
    intro i
    by_cases z : i ∈ vs
    · have none_of : ∀ {τ : Δ} {us : List Nat}, i ∈ us → i < τ.length → (wipeΔ τ us)[i]? = some none := by
        intro τ us
        induction us with
        | nil => intro z; cases z
        | cons u us ih =>
          intro z hi
          unfold wipeΔ
          by_cases e : u = i
          · subst e; rw [List.getElem?_set_self (by rw [wipeΔ_len]; exact hi)]
          · rw [List.getElem?_set_ne e]
            exact ih ((List.mem_cons.mp z).resolve_left fun q => e q.symm) hi
      by_cases hi : i < η.length
      · rw [none_of z (by rw [wipeΔ_len]; exact hi), none_of z hi]
      · rw [List.getElem?_eq_none (by rw [wipeΔ_len, wipeΔ_len]; omega), List.getElem?_eq_none (by rw [wipeΔ_len]; omega)]
    · rw [wipeΔ_out z]
  have gw : Go F1 H1 σ δ1 F1 H1 σ (wipeΔ δ1 vs) := Go.forget a1.rep rfl (fun _ _ => rfl) hvs
  have rw1 := (a1.rep.forget (σ' := σ) (vs := vs) rfl fun _ _ => rfl)
  have nhw : ¬ Held H1 σ (wipeΔ δ1 vs) L := fun ⟨j, hj⟩ => nh1 ⟨j, rw1.2 j L hj⟩
  refine lc_it wk Pv ?_ (fun i H2 _ ⟨F2, δ2, acc, rest, r2, _, k2, _⟩ => hG H2 (k2.trans r2.kp)) (fun i x H2 H3 hlt ⟨F2, δ2, acc, rest, r2, g2, k2, l2, hacc, hw2, ⟨e3, ez⟩, uu⟩ y => ?_) (fun H2 ⟨F2, δ2, acc, rest, r2, g2, k2, l2, hacc, hw2, ⟨e3, ez⟩, uu⟩ => ?_)
  · -- the start
    have ru := rw1.1.upd (L := L) (u := .lst []) hF1 nhw (.inl hL)
    refine ⟨F1, wipeΔ δ1 vs, [], zs, ru, (a1.go.trans gw).trans ⟨.rfl, fun a o e _ => ⟨o, by rw [upd_ne (ne_of_none e hL)]; exact e, .rfl⟩, fun _ z => .inl z, fun a z => .inl (held_upd rw1.1 nhw z), fun a z => ?_, fun i ds z => ⟨rfl, ds, z⟩⟩, .rfl, ⟨⟨⟨L, rfl, [], upd_same, hF1, .nil⟩, by simp [O.fp], fun a ha z => ?_⟩⟩, Nat.le_refl _, wself.symm, ⟨by simpa using e2, by simp⟩, (Un2.rfl).wipe⟩
    · by_cases q : a = L
      · subst q; rw [upd_same]; simp
      · rw [upd_ne q]; exact z
    · have : a = L := by simpa [O.fp] using ha
      subst this
      exact nhw (held_upd rw1.1 nhw z)
  · -- a turn
    obtain ⟨d, F3, q1, n3, d3⟩ := hY i H2 x H3 F2 hlt k2 r2.kp y
    have a3 := n3.aft r2
    have ed : ds.drop i = d :: ds.drop (i + 1) := by
      obtain ⟨q2, q3⟩ := List.getElem?_eq_some_iff.mp q1
      rw [List.drop_eq_getElem_cons q2, q3]
    rw [ed] at e3
    obtain ⟨δ4, e4, e5⟩ := Option.bind_eq_some_iff.mp e3
    obtain ⟨⟨b, δ5⟩, e6, e7⟩ := Option.bind_eq_some_iff.mp e5
    -- into the block
    have l3 := (Tmp.frame l2.tm a3.go).1
    have fw := a3.rep.forget (σ' := L2.wipe σ vs) (vs := vs) (wipe_length σ vs) (fun j hj => wipe_get hj)
    -- the comprehension's own slots are there, and hold nothing at a turn's start
    have vin : ∀ j ∈ vs, ∀ {δx : Δ}, δx.length = δ1.length → j < δx.length := fun j hj δx hl => by
      have hj1 := List.all_eq_true.mp hvs j hj
      unfold noLn at hj1
      cases q : δ1[j]? with
      | none => rw [q] at hj1; cases hj1
      | some z => rw [hl]; exact (List.getElem?_eq_some_iff.mp q).1
    have no2 : ∀ j ∈ vs, ∀ es : List D, δ2[j]? ≠ some (some (O.ln es)) := fun j hj es q => by
      rw [hw2] at q
      exact wipeΔ_in q hj
    have lnv : ∀ {δx : Δ}, δx.length = δ1.length → (∀ (j : Nat) (es : List D), δx[j]? = some (some (O.ln es)) → ∃ fs, δ2[j]? = some (some (O.ln fs))) → vs.all (noLn δx) = true := fun {δx} hl hx => by
      rw [List.all_eq_true]
      intro j hj
      have hlen := vin j hj hl
      unfold noLn
      rw [List.getElem?_eq_getElem hlen]
      cases q : δx[j] with
      | none => rfl
      | some o =>
        cases o with
        | ln es =>
          obtain ⟨fs, z⟩ := hx j es (by rw [List.getElem?_eq_getElem hlen, q])
          exact absurd z (no2 j hj fs)
        | _ => rfl
    have len2 : δ2.length = δ1.length := by rw [← r2.len, a1.rep.len]
    have hv2 : vs.all (noLn δ2) = true := lnv len2 fun _ es h => ⟨es, h⟩
    have gfw := Go.forget (σ' := L2.wipe σ vs) a3.rep (wipe_length σ vs) (fun j hj => wipe_get hj) hv2
    rw [← hw2] at fw gfw
    have l4 := (Tmp.frame l3 gfw).1
    refine hg.run d δ2 δ4 e4 (L2.wipe σ vs) F3 H3 x fw.1 d3 _ fun σ4 r4 g4 ln4 s4 t4 u4 => ?_
    have sj : ∀ j, j ∉ vs → σ4[j]? = σ[j]? := fun j hj => (s4 j fun z => hj (hix j z)).trans (wipe_get hj)
    have ls : σ4.length = σ.length := ln4.trans (wipe_length σ vs)
    refine ⟨wipe_ext ls sj, ?_⟩
    have l5 := (Tmp.frame l4 g4).1
    have gi := gfw.trans g4
    refine ht δ4 b δ5 e6 σ4 F3 H3 r4 _ fun F5 H5 a5 => ?_
    have l6 := (Tmp.frame l5 a5.go).1
    -- back out of the block
    have back : ∀ {F6 H6 δ6}, Aft K F3 H3 σ4 δ4 F6 H6 δ6 → Kp F3 F6 → vs.all (noLn δ6) = true → Rep K F6 H6 σ (wipeΔ δ6 vs) ∧ Go F H σ δ F6 H6 σ (wipeΔ δ6 vs) ∧ Kp F1 F6 ∧ Go F6 H6 σ4 δ6 F6 H6 σ (wipeΔ δ6 vs) := fun {F6 H6 δ6} a6 k6 hv6 => by
      have f6 := a6.rep.forget (σ' := σ) (vs := vs) ls.symm fun j hj => (sj j hj).symm
      have g6 := Go.forget (σ' := σ) a6.rep ls.symm (fun j hj => (sj j hj).symm) hv6
      exact ⟨f6.1, (((g2.trans a3.go).trans gi).trans a6.go).trans g6, (k2.trans a3.go.kf).trans k6, g6⟩
    cases b with
    | false =>
      show Pv (i + 1) H5
      have len5 : δ5.length = δ1.length := by rw [← a5.rep.len, ls, a1.rep.len]
      obtain ⟨b1, b2, b3, b4⟩ := back a5 a5.go.kf (lnv len5 fun j es q => let ⟨fs, z⟩ := a5.nl j es q; u4 j fs z)
      exact ⟨F5, wipeΔ δ5 vs, acc, rest, b1, b2, b3, ⟨(Tmp.frame l6 b4).1⟩, Nat.le_succ_of_le hacc, wself.symm, ⟨e7, ez⟩, ((uu.tgt hix t4 u4).aft a5.un a5.nl).wipe⟩
    | true =>
      obtain ⟨⟨z, δ7⟩, e8, e9⟩ := Option.bind_eq_some_iff.mp e7
      obtain ⟨⟨zs2, δ8⟩, e10, e11⟩ := Option.map_eq_some_iff.mp e9
      cases e11
      show te σ4 H5 _
      refine hf δ5 z δ7 e8 σ4 F5 H5 a5.rep _ fun y F7 H7 a7 p7 => ?_
      have a57 := a5.trans a7
      have len7 : δ7.length = δ1.length := by rw [← a57.rep.len, ls, a1.rep.len]
      obtain ⟨b1, b2, b3, b4⟩ := back a57 a57.go.kf (lnv len7 fun j es q => let ⟨fs, z⟩ := a57.nl j es q; u4 j fs z)
      have l7 := (Tmp.frame (Tmp.frame l6 a7.go).1 b4).1
      obtain ⟨xs, x1, x2, x3⟩ := lst_at ⟨l7⟩
      have nh7 : ¬ Held H7 σ (wipeΔ δ7 vs) L := l7.ap L (by simp [O.fp])
      have hz : xs.length < sizeLine := by rw [dpa_len x2]; omega
      refine ⟨xs, x1, hz, F7, wipeΔ δ7 vs, acc ++ [z], zs2, b1.upd x3 nh7 (.inr ⟨xs, x1⟩), b2.late hLH fun a => held_upd b1 nh7, b3, ⟨⟨⟨L, rfl, xs ++ [y], upd_same, x3, dpa_app x2 (.cons p7 .nil)⟩, by simp [O.fp], fun a ha q => ?_⟩⟩, by rw [List.length_append]; simpa using hacc, wself.symm, ⟨e10, by simpa using ez⟩, ((uu.tgt hix t4 u4).aft a57.un a57.nl).wipe⟩
      have : a = L := by simpa [O.fp] using ha
      subst this
      exact nh7 (held_upd b1 nh7 q)
  · rw [List.drop_length] at e3
    cases e3
    rw [List.append_nil] at ez
    subst ez
    obtain ⟨q1, q2, q3⟩ := rest_ok a1.rep r2 g2 k2 hok fun j hj es q => by
      rw [hw2] at q; exact wipeΔ_in q hj
    have hl9 : δ9.length = δ1.length := by rw [← r2.len, a1.rep.len]
    have lt_of : ∀ {j : Nat} {o : O}, δ1[j]? = some (some o) → j < δ1.length := fun e => (List.getElem?_eq_some_iff.mp e).1
    refine k (.ref L) F2 H2 ⟨q1, q2, fun i o e => ?_, fun i es e => ?_⟩ ⟨l2.tm.ok, l2.tm.nd, fun a ha z => l2.tm.ap a ha (q3 a z)⟩ fun a ha => ?_
    · obtain ⟨o1, e1⟩ := a1.un i o e
      by_cases hi : i ∈ vs
      · exact ⟨o1, by rw [restΔ_in hl9 hi (lt_of e1)]; exact e1⟩
      · obtain ⟨o2, e2⟩ := uu.un i o1 hi e1
        exact ⟨o2, by rw [restΔ_out hi]; exact e2⟩
    · by_cases hi : i ∈ vs
      · have h1 := List.all_eq_true.mp hok i hi
        by_cases hlt : i < δ1.length
        · rw [restΔ_in hl9 hi hlt] at e
          exact a1.nl i es e
        · rw [List.getElem?_eq_none (by rw [restΔ_len, hl9]; omega)] at e; cases e
      · rw [restΔ_out hi] at e
        obtain ⟨fs, z⟩ := uu.nl i es e
        exact a1.nl i fs z
    · have : a = L := by simpa [P.fp, O.fp] using ha
      subst this
      exact .inr hLH
end
end Vi
end
section
set_option Elab.async false
set_option linter.all false
set_option maxRecDepth 100000
set_option maxHeartbeats 1000000
/-! Calls of defs over values. -/
namespace Vi
open PySem PySem.Spec PyProof.Rows L2
section
variable {K : Lay} {F H F' H' F0 H0 F1 H1 F2 H2 : Hp} {σ σ' σ1 σ2 : L2.St} {δ δ' δ0 δ1 δ2 : Δ} {v x y : V} {p q : P} {o : O} {d e : D} {vs : List V} {os : List O} {ps : List P} {n k : Nat}
def startΔ (n : Nat) (os : List O) : Δ := os.map some ++ List.replicate (n - os.length) none
/-- a def's value: k parameters, n slots -/
def runM (k n : Nat) (m : Δ → Option Out) (os : List O) : Option (O × Δ) := if os.length = k then
    match m (startΔ n os) with
    | some (.rt o δ) => some (o, δ)
    | some (.nx δ) => some (.fz .none, δ)
    | _ => none
  else none
/-- what was lent, behind the call -/
def lent : List O → Δ → Δ
  | .ln _ :: os, u :: δ => u :: lent os δ
  | _ :: os, _ :: δ => none :: lent os δ
  | _ :: os, [] => none :: lent os []
  | [], _ => []
theorem lent_len : ∀ (os : List O) (δ : Δ), (lent os δ).length = os.length
  | [], _ => by simp [lent]
  | o :: os, [] => by cases o <;> simp [lent, lent_len os []]
  | o :: os, u :: δ => by cases o <;> simp [lent, lent_len os δ]
theorem lent_get : ∀ {os : List O} {δ : Δ} {j : Nat} {o : O}, (lent os δ)[j]? = some (some o) → ∃ ds, os[j]? = some (.ln ds) ∧ δ[j]? = some (some o)
  | [], δ, j, o, h => by simp [lent] at h
  | a :: os, [], 0, o, h => by cases a <;> simp [lent] at h
  | a :: os, [], j + 1, o, h => by
    have h' : (lent os [])[j]? = some (some o) := by cases a <;> simpa [lent] using h
    obtain ⟨ds, _, q⟩ := lent_get h'
    simp at q
  | a :: os, u :: δ, 0, o, h => by
    cases a <;> simp [lent] at h
    case ln ds => exact ⟨ds, rfl, by simp [h]⟩
  | a :: os, u :: δ, j + 1, o, h => by
    have h' : (lent os δ)[j]? = some (some o) := by cases a <;> simpa [lent] using h
    obtain ⟨ds, q1, q2⟩ := lent_get h'
    exact ⟨ds, by simpa using q1, by simpa using q2⟩
theorem lent_put : ∀ {os : List O} {δ : Δ} {j : Nat} {ds : List D} {o : O}, os[j]? = some (.ln ds) → δ[j]? = some (some o) → (lent os δ)[j]? = some (some o)
  | [], δ, j, ds, o, h, _ => by simp at h
  | a :: os, [], j, ds, o, _, h => by simp at h
  | a :: os, u :: δ, 0, ds, o, h, h2 => by
    simp at h h2
    subst h h2
    simp [lent]
  | a :: os, u :: δ, j + 1, ds, o, h, h2 => by
    have := lent_put (os := os) (δ := δ) (j := j) (ds := ds) (o := o) (by simpa using h) (by simpa using h2)
    cases a <;> simpa [lent] using this
abbrev sm (vs : List V) : L2.St := vs.map some
abbrev om (os : List O) : Δ := os.map some
/-- a def's promise -/
def SpV (K : Lay) (f : List O → Option (O × Δ)) : Sp := fun vs H Q _ => ∃ F os o δ', f os = some (o, δ') ∧ Rep K F H (sm vs) (om os) ∧
  ∀ v F' H', Rep K F' H' (sm vs) (lent os δ') → Go F H (sm vs) (om os) F' H' (sm vs) (lent os δ') → Tmp K F' H' (sm vs) (lent os δ') v o → Nw H (sm vs) (om os) H' v (.tm o) → Q v H'
theorem start_get {N : List Str} {i : Nat} (h : i < vs.length) : (L2.start N vs)[i]? = (sm vs)[i]? := by
  unfold L2.start; rw [List.getElem?_append_left (by simpa using h)]
theorem startΔ_get {i : Nat} (h : i < os.length) : (startΔ n os)[i]? = (om os)[i]? := by
  unfold startΔ; rw [List.getElem?_append_left (by simpa using h)]
theorem startΔ_some {i : Nat} {o : O} (h : (startΔ n os)[i]? = some (some o)) : i < os.length ∧ os[i]? = some o := by
  by_cases hi : i < os.length
  · rw [startΔ_get hi] at h
    refine ⟨hi, ?_⟩
    simpa using h
  · unfold startΔ at h
    rw [List.getElem?_append_right (by simpa using hi), List.getElem?_replicate] at h
    split at h <;> cases h
theorem om_get {i : Nat} {o : O} : (om os)[i]? = some (some o) ↔ os[i]? = some o := by simp
theorem sm_get {i : Nat} {v : V} : (sm vs)[i]? = some (some v) ↔ vs[i]? = some v := by simp
theorem rep_len (r : Rep K F H (sm vs) (om os)) : vs.length = os.length := by simpa using r.len
/-- the slots at a def's start -/
theorem rep_start {N : List Str} (r : Rep K F H (sm vs) (om os)) (hn : os.length ≤ N.length) : Rep K F H (L2.start N vs) (startΔ N.length os) ∧ ∀ j a, Own H (L2.start N vs) (startΔ N.length os) j a → Own H (sm vs) (om os) j a := by
  have hl := rep_len r
  have own_of : ∀ j a, Own H (L2.start N vs) (startΔ N.length os) j a → Own H (sm vs) (om os) j a := fun j a ⟨w, u, q1, q2, q3⟩ => by
    obtain ⟨hj, q4⟩ := startΔ_some q2
    rw [start_get (by omega)] at q1
    exact ⟨w, u, q1, om_get.mpr q4, q3⟩
  refine ⟨⟨r.kp, by simp [L2.start, startΔ]; omega, fun j u hj => ?_, fun i j a hi hj => r.ap i j a (own_of i a hi) (own_of j a hj), r.tb, r.nm⟩, own_of⟩
  obtain ⟨hj1, q4⟩ := startΔ_some hj
  obtain ⟨w, q1, q2, q3⟩ := r.ok j u (om_get.mpr q4)
  exact ⟨w, by rw [start_get (by omega)]; exact q1, q2, q3⟩
theorem own_start {N : List Str} {j : Nat} {a : Addr} (hl : vs.length = os.length) (h : Own H (sm vs) (om os) j a) : Own H (L2.start N vs) (startΔ n os) j a := by
  obtain ⟨w, u, q1, q2, q3⟩ := h
  have hj : j < os.length := (List.getElem?_eq_some_iff.mp (om_get.mp q2)).1
  exact ⟨w, u, by rw [start_get (by omega)]; exact q1, by rw [startΔ_get hj]; exact q2, q3⟩
/-- behind the body: what was lent -/
theorem back_ok {N : List Str} (r : Rep K F H (sm vs) (om os)) (hn : os.length ≤ N.length) (r1 : Rep K F' H' σ' δ') (g : Go F H (L2.start N vs) (startΔ N.length os) F' H' σ' δ') :
    Rep K F' H' (sm vs) (lent os δ') ∧ Go F H (sm vs) (om os) F' H' (sm vs) (lent os δ') ∧ ∀ a, Held H' (sm vs) (lent os δ') a → Held H' σ' δ' a := by
  have hl := rep_len r
  have at_ : ∀ (j : Nat) (ds : List D), os[j]? = some (O.ln ds) → σ'[j]? = (sm vs)[j]? ∧ ∃ es, δ'[j]? = some (some (O.ln es)) := fun j ds h => by
    have hj : j < os.length := (List.getElem?_eq_some_iff.mp h).1
    obtain ⟨q1, q2⟩ := g.ln j ds (by rw [startΔ_get hj]; exact om_get.mpr h)
    exact ⟨by rw [q1, start_get (by omega)], q2⟩
  have own_of : ∀ j a, Own H' (sm vs) (lent os δ') j a → Own H' σ' δ' j a := fun j a ⟨w, u, q1, q2, q3⟩ => by
    obtain ⟨ds, z1, z2⟩ := lent_get q2
    exact ⟨w, u, by rw [(at_ j ds z1).1]; exact q1, z2, q3⟩
  have held_of : ∀ a, Held H (L2.start N vs) (startΔ N.length os) a → Held H (sm vs) (om os) a := fun a ⟨j, h⟩ => ⟨j, (rep_start r hn).2 j a h⟩
  have held_to : ∀ a, Held H (sm vs) (om os) a → Held H (L2.start N vs) (startΔ N.length os) a := fun a ⟨j, h⟩ => ⟨j, own_start hl h⟩
  refine ⟨⟨r1.kp, by rw [lent_len]; simpa using hl, fun j u hj => ?_, fun i j a hi hj => r1.ap i j a (own_of i a hi) (own_of j a hj), r1.tb, r1.nm⟩,
    ⟨g.kf, fun a o e z => g.kh a o e fun w => z (held_of a w), fun a z => (g.nf a z).imp_right fun w => w.imp_right (held_of a), fun a ⟨j, h⟩ => (g.hd a ⟨j, own_of j a h⟩).imp_left (held_of a), g.st, fun i ds h => ⟨rfl, ?_⟩⟩, fun a ⟨j, h⟩ => ⟨j, own_of j a h⟩⟩
  · obtain ⟨ds, z1, z2⟩ := lent_get hj
    obtain ⟨w, q1, q2, q3⟩ := r1.ok j u z2
    exact ⟨w, by rw [← (at_ j ds z1).1]; exact q1, q2, q3⟩
  · obtain ⟨_, es, q⟩ := at_ i ds (om_get.mp h)
    exact ⟨es, lent_put (om_get.mp h) q⟩
theorem spV_len {m : Δ → Option Out} {ws : List V} {Q : VK} {E : XK} (h : SpV K (runM k n m) ws H Q E) : ws.length = k := by
  obtain ⟨F, os, o, δ', e, r, _⟩ := h
  unfold runM at e
  split at e
  · rename_i hk; rw [rep_len r]; exact hk
  · cases e
end
section
variable {Pg : Program} {w : World} {K : Lay} {mg : Str → Option Value} {base : Heap}
end
/-! ### calls -/
section
variable {K : Lay} {F H F' H' F0 H0 F1 H1 F2 H2 : Hp} {σ σ' σ1 σ2 : L2.St} {δ δ' δ0 δ1 δ2 : Δ} {v x y : V} {p q : P} {o : O} {d e : D} {vs : List V} {os : List O} {ps : List P} {n k : Nat}
def fpA (H : Hp) : List V → List P → List Addr
  | v :: vs, p :: ps => p.fp H v ++ fpA H vs ps
  | _, _ => []
inductive PRs (K : Lay) (F H : Hp) (σ : L2.St) (δ : Δ) : List V → List P → Prop
  | nil : PRs K F H σ δ [] []
  | cons {a : V} {b : P} {as : List V} {bs : List P} : PR K F H σ δ a b → PRs K F H σ δ as bs → PRs K F H σ δ (a :: as) (b :: bs)
/-- several on their way, apart from one another -/
def SXs (K : Lay) (ta : TA) (g : Δ → Option (List P × Δ)) : Prop := ∀ δ ps δ', g δ = some (ps, δ') → ∀ σ F H, Rep K F H σ δ → ∀ Q : List V → Hp → Prop,
  (∀ vs F' H', Aft K F H σ δ F' H' δ' → PRs K F' H' σ δ' vs ps → (fpA H' vs ps).Nodup → (∀ a ∈ fpA H' vs ps, Held H σ δ a ∨ H a = none) → Q vs H') → ta σ H Q
def aNil : Δ → Option (List P × Δ) := fun δ => some ([], δ)
def aCons (f : Δ → Option (P × Δ)) (g : Δ → Option (List P × Δ)) : Δ → Option (List P × Δ) := fun δ => (f δ).bind fun r => (g r.2).map fun s => (r.1 :: s.1, s.2)
theorem sxs_nil : SXs K tNil aNil := fun δ ps δ' e σ F H r Q k => by
  cases e
  exact k [] F H (.rfl r) .nil (by simp [fpA]) fun a ha => by simp [fpA] at ha
theorem pr_fp (h : PR K F H σ δ v p) : ∀ a ∈ p.fp H v, (∃ u, H a = some u ∧ Mut u) ∧ F a = none ∧ ¬ Held H σ δ a := fun a ha => by
  cases p with
  | tm o => exact ⟨(ok_fp h.ok a ha).1, (ok_fp h.ok a ha).2, h.ap a ha⟩
  | sl i => cases ha
theorem pr_nd (h : PR K F H σ δ v p) : (p.fp H v).Nodup := by
  cases p with
  | tm o => exact h.nd
  | sl i => simp [P.fp]
theorem sxs_cons {te : TE} {ta : TA} {f : Δ → Option (P × Δ)} {g : Δ → Option (List P × Δ)} (hf : SX K te f) (hg : SXs K ta g) : SXs K (tCons te ta) (aCons f g) := fun δ ps δ' e σ F H r Q k => by
  obtain ⟨⟨p, δ1⟩, e1, e2⟩ := Option.bind_eq_some_iff.mp e
  obtain ⟨⟨ps, δ2⟩, e3, e4⟩ := Option.map_eq_some_iff.mp e2
  cases e4
  refine hf δ p δ1 e1 σ F H r _ fun v F1 H1 a1 p1 n1 => ?_
  refine hg δ1 ps δ2 e3 σ F1 H1 a1.rep _ fun vs F2 H2 a2 p2 nd2 n2 => ?_
  obtain ⟨p1', fe⟩ := p1.step a2
  refine k (v :: vs) F2 H2 (a1.trans a2) (.cons p1' p2) ?_ fun a ha => ?_
  · show (p.fp H2 v ++ fpA H2 vs ps).Nodup
    rw [List.nodup_append]
    refine ⟨pr_nd p1', nd2, fun a ha b hb e => ?_⟩
    subst e
    rw [fe] at ha
    obtain ⟨⟨xs, z1, _⟩, _, z2⟩ := pr_fp p1 a ha
    rcases n2 a hb with w | w
    · exact z2 w
    · rw [z1] at w; cases w
  · rcases List.mem_append.mp (show a ∈ p.fp H2 v ++ fpA H2 vs ps from ha) with w | w
    · exact n1.step a2 p1 a w
    · exact (n2 a w).elim (a1.go.hd a) fun z => by
        by_cases q : H a = none
        · exact .inr q
        · exact absurd z (a1.go.st a q)
/-- what the def is given: an own thing is handed over, a slot's own list is lent -/
def argO (δ : Δ) : P → Option O
  | .tm (.ln _) => none
  | .tm o => some o
  | .sl i => match δ[i]? with
    | some (some (.ow ds)) => some (.ln ds)
    | some (some (.ln ds)) => some (.ln ds)
    | _ => none
def argOs (δ : Δ) : List P → Option (List O)
  | [] => some []
  | p :: ps => (argO δ p).bind fun o => (argOs δ ps).map (o :: ·)
def slots : List P → List Nat
  | [] => []
  | .sl i :: ps => i :: slots ps
  | _ :: ps => slots ps
theorem argOs_get : ∀ {ps : List P} {os : List O}, argOs δ ps = some os → os.length = ps.length ∧ ∀ (j : Nat) (o : O), os[j]? = some o → ∃ p, ps[j]? = some p ∧ argO δ p = some o
  | [], os, e => by cases e; exact ⟨rfl, fun j o h => by simp at h⟩
  | p :: ps, os, e => by
    obtain ⟨o, e1, e2⟩ := Option.bind_eq_some_iff.mp e
    obtain ⟨os', e3, e4⟩ := Option.map_eq_some_iff.mp e2
    subst e4
    obtain ⟨l, h⟩ := argOs_get e3
    refine ⟨by simp [l], fun j u hj => ?_⟩
    cases j with
    | zero => simp at hj; subst hj; exact ⟨p, rfl, e1⟩
    | succ j => obtain ⟨q, h1, h2⟩ := h j u (by simpa using hj); exact ⟨q, by simpa using h1, h2⟩
theorem prs_get : ∀ {vs : List V} {ps : List P}, PRs K F H σ δ vs ps → vs.length = ps.length ∧ ∀ (j : Nat) (p : P), ps[j]? = some p → ∃ v, vs[j]? = some v ∧ PR K F H σ δ v p
  | _, _, .nil => ⟨rfl, fun j p h => by simp at h⟩
  | _, _, .cons a b => by
    obtain ⟨l, h⟩ := prs_get b
    refine ⟨by simp [l], fun j u hj => ?_⟩
    cases j with
    | zero => simp at hj; subst hj; exact ⟨_, rfl, a⟩
    | succ j => obtain ⟨q, h1, h2⟩ := h j u (by simpa using hj); exact ⟨q, by simpa using h1, h2⟩
theorem fpA_get : ∀ {vs : List V} {ps : List P} {j : Nat} {v : V} {p : P} {a : Addr}, vs[j]? = some v → ps[j]? = some p → a ∈ p.fp H v → a ∈ fpA H vs ps
  | [], _, j, v, p, a, h, _, _ => by simp at h
  | _ :: _, [], j, v, p, a, _, h, _ => by simp at h
  | w :: vs, q :: ps, 0, v, p, a, h1, h2, h3 => by
    simp at h1 h2; subst h1 h2
    exact List.mem_append_left _ h3
  | w :: vs, q :: ps, j + 1, v, p, a, h1, h2, h3 => List.mem_append_right _ (fpA_get (j := j) (by simpa using h1) (by simpa using h2) h3)
theorem fpA_inj : ∀ {vs : List V} {ps : List P} {i j : Nat} {v w : V} {p q : P} {a : Addr}, (fpA H vs ps).Nodup → vs[i]? = some v → ps[i]? = some p → vs[j]? = some w → ps[j]? = some q → a ∈ p.fp H v → a ∈ q.fp H w → i = j
  | [], _, _, _, _, _, _, _, _, _, h, _, _, _, _, _ => by simp at h
  | _ :: _, [], _, _, _, _, _, _, _, _, _, h, _, _, _, _ => by simp at h
  | z :: vs, u :: ps, 0, 0, _, _, _, _, _, _, _, _, _, _, _, _ => rfl
  | z :: vs, u :: ps, 0, j + 1, v, w, p, q, a, nd, h1, h2, h3, h4, h5, h6 => by
    simp at h1 h2; subst h1 h2
    have := (List.nodup_append.mp (show (u.fp H z ++ fpA H vs ps).Nodup from nd)).2.2 a h5 a (fpA_get (j := j) (by simpa using h3) (by simpa using h4) h6)
    exact absurd rfl this
  | z :: vs, u :: ps, i + 1, 0, v, w, p, q, a, nd, h1, h2, h3, h4, h5, h6 => by
    simp at h3 h4; subst h3 h4
    have := (List.nodup_append.mp (show (u.fp H z ++ fpA H vs ps).Nodup from nd)).2.2 a h6 a (fpA_get (j := i) (by simpa using h1) (by simpa using h2) h5)
    exact absurd rfl this
  | z :: vs, u :: ps, i + 1, j + 1, v, w, p, q, a, nd, h1, h2, h3, h4, h5, h6 => by
    have := fpA_inj (i := i) (j := j) (List.nodup_append.mp (show (u.fp H z ++ fpA H vs ps).Nodup from nd)).2.1 (by simpa using h1) (by simpa using h2) (by simpa using h3) (by simpa using h4) h5 h6
    omega
theorem slots_mem : ∀ {ps : List P} {j i : Nat}, ps[j]? = some (.sl i) → i ∈ slots ps
  | [], j, i, h => by simp at h
  | p :: ps, 0, i, h => by simp at h; subst h; simp [slots]
  | p :: ps, j + 1, i, h => by
    have := slots_mem (ps := ps) (j := j) (i := i) (by simpa using h)
    cases p <;> simp [slots, this]
theorem slots_inj : ∀ {ps : List P} {j k i : Nat}, (slots ps).Nodup → ps[j]? = some (.sl i) → ps[k]? = some (.sl i) → j = k
  | [], _, _, _, _, h, _ => by simp at h
  | p :: ps, 0, 0, _, _, _, _ => rfl
  | p :: ps, 0, k + 1, i, nd, h1, h2 => by
    simp at h1; subst h1
    exact absurd (slots_mem (ps := ps) (j := k) (by simpa using h2)) (List.nodup_cons.mp nd).1
  | p :: ps, j + 1, 0, i, nd, h1, h2 => by
    simp at h2; subst h2
    exact absurd (slots_mem (ps := ps) (j := j) (by simpa using h1)) (List.nodup_cons.mp nd).1
  | p :: ps, j + 1, k + 1, i, nd, h1, h2 => by
    have nd' : (slots ps).Nodup := by
      cases p with
      | sl i => exact (List.nodup_cons.mp nd).2
      | tm o => exact nd
    have := slots_inj (j := j) (k := k) nd' (by simpa using h1) (by simpa using h2)
    omega
/-- the addresses that the call may touch -/
theorem arg_fp (r : Rep K F H σ δ) (hp : PR K F H σ δ v p) (ho : argO δ p = some o) : Ok K F H v o ∧ (o.fp H v).Nodup ∧ ((∃ u, p = .tm u ∧ o = u) ∨ ∃ i, p = .sl i ∧ ∀ a ∈ o.fp H v, Own H σ δ i a) := by
  cases p with
  | tm u =>
    have : o = u := by cases u <;> cases ho <;> rfl
    subst this
    exact ⟨hp.ok, hp.nd, .inl ⟨_, rfl, rfl⟩⟩
  | sl i =>
    obtain ⟨h1, u, h2⟩ := hp
    obtain ⟨v', q1, q2, q3⟩ := r.ok i u h2
    rw [h1] at q1; cases q1
    cases u with
    | ow ds => simp only [argO, h2] at ho; cases ho; exact ⟨q2, q3, .inr ⟨i, rfl, fun a ha => ⟨v, _, h1, h2, ha⟩⟩⟩
    | ln ds => simp only [argO, h2] at ho; cases ho; exact ⟨q2, q3, .inr ⟨i, rfl, fun a ha => ⟨v, _, h1, h2, ha⟩⟩⟩
    | fz d => simp only [argO, h2] at ho; cases ho
    | oo d => simp only [argO, h2] at ho; cases ho
    | mx d => simp only [argO, h2] at ho; cases ho
    | tu d => simp only [argO, h2] at ho; cases ho
    | dc _ _ => simp only [argO, h2] at ho; cases ho
    | dt _ => simp only [argO, h2] at ho; cases ho
theorem args_rep (r : Rep K F H σ δ) (hp : PRs K F H σ δ vs ps) (nd : (fpA H vs ps).Nodup) (ns : (slots ps).Nodup) (ho : argOs δ ps = some os) : Rep K F H (sm vs) (om os) := by
  obtain ⟨l1, g1⟩ := prs_get hp
  obtain ⟨l2, g2⟩ := argOs_get ho
  have at_ : ∀ i o, os[i]? = some o → ∃ v p, vs[i]? = some v ∧ ps[i]? = some p ∧ PR K F H σ δ v p ∧ argO δ p = some o := fun i o h => by
    obtain ⟨p, h1, h2⟩ := g2 i o h
    obtain ⟨v, h3, h4⟩ := g1 i p h1
    exact ⟨v, p, h3, h1, h4, h2⟩
  refine ⟨r.kp, by simp [l1, l2], fun i o h => ?_, fun i j a ⟨v, o, z1, z2, z3⟩ ⟨w, u, y1, y2, y3⟩ => ?_, r.tb, r.nm⟩
  · obtain ⟨v, p, h1, _, h2, h3⟩ := at_ i o (om_get.mp h)
    obtain ⟨k1, k2, _⟩ := arg_fp r h2 h3
    exact ⟨v, sm_get.mpr h1, k1, k2⟩
  · obtain ⟨v', p, h1, h2, h3, h4⟩ := at_ i o (om_get.mp z2)
    obtain ⟨w', q, k1, k2, k3, k4⟩ := at_ j u (om_get.mp y2)
    rw [sm_get.mp z1] at h1; cases h1
    rw [sm_get.mp y1] at k1; cases k1
    obtain ⟨_, _, c1⟩ := arg_fp r h3 h4
    obtain ⟨_, _, c2⟩ := arg_fp r k3 k4
    rcases c1 with ⟨u1, rfl, rfl⟩ | ⟨i1, rfl, c1⟩
    · rcases c2 with ⟨u2, rfl, rfl⟩ | ⟨i2, rfl, c2⟩
      · exact fpA_inj nd (sm_get.mp z1) h2 (sm_get.mp y1) k2 z3 y3
      · exact absurd ⟨i2, c2 a y3⟩ (h3.ap a z3)
    · rcases c2 with ⟨u2, rfl, rfl⟩ | ⟨i2, rfl, c2⟩
      · exact absurd ⟨i1, c1 a z3⟩ (k3.ap a y3)
      · have := r.ap i1 i2 a (c1 a z3) (c2 a y3)
        subst this
        exact slots_inj ns h2 k2
/-- the lent slots behind the call -/
def back1 (p : P) (u : Option O) (δ : Δ) : Δ := match p, u with
  | .sl i, some (.ln es) => δ.set i (match δ[i]? with
      | some (some (.ln _)) => some (.ln es)
      | _ => some (.ow es))
  | _, _ => δ
def backΔ : List P → Δ → Δ → Δ
  | p :: ps, u :: us, δ => backΔ ps us (back1 p u δ)
  | _, _, δ => δ
theorem back1_len {u : Option O} : (back1 p u δ).length = δ.length := by
  unfold back1; split <;> simp
theorem back1_out {u : Option O} {i : Nat} (h : ∀ j, p = .sl j → j ≠ i) : (back1 p u δ)[i]? = δ[i]? := by
  unfold back1
  split
  · rw [List.getElem?_set_ne (h _ rfl)]
  · rfl
theorem backΔ_len : ∀ (ps : List P) (us δ : Δ), (backΔ ps us δ).length = δ.length
  | [], _, δ => by simp [backΔ]
  | p :: ps, [], δ => by simp [backΔ]
  | p :: ps, u :: us, δ => by
    show (backΔ ps us (back1 p u δ)).length = _
    rw [backΔ_len ps us, back1_len]
theorem slots_tail {i : Nat} (h : i ∉ slots (p :: ps)) : i ∉ slots ps ∧ ∀ j, p = .sl j → j ≠ i := by
  refine ⟨fun z => h (by cases p <;> simp [slots, z]), fun j e z => h (by subst e z; simp [slots])⟩
theorem backΔ_out : ∀ {ps : List P} {us δ : Δ} {i : Nat}, i ∉ slots ps → (backΔ ps us δ)[i]? = δ[i]?
  | [], us, δ, i, _ => by simp [backΔ]
  | p :: ps, [], δ, i, _ => by simp [backΔ]
  | p :: ps, u :: us, δ, i, h => by
    show (backΔ ps us (back1 p u δ))[i]? = _
    rw [backΔ_out (slots_tail h).1, back1_out (slots_tail h).2]
/-- ow or ln -/
def sameC (o : O) (es : List D) : O := match o with
  | .ln _ => .ln es
  | _ => .ow es
theorem backΔ_in : ∀ {ps : List P} {us δ : Δ} {i j : Nat} {es : List D} {o : O}, (slots ps).Nodup → ps[j]? = some (.sl i) → us[j]? = some (some (.ln es)) → δ[i]? = some (some o) → (backΔ ps us δ)[i]? = some (some (sameC o es))
  | [], us, δ, i, j, es, o, _, h, _, _ => by simp at h
  | p :: ps, [], δ, i, j, es, o, _, _, h, _ => by simp at h
  | p :: ps, u :: us, δ, i, 0, es, o, nd, h1, h2, h3 => by
    simp at h1 h2; subst h1 h2
    show (backΔ ps us (back1 (.sl i) (some (.ln es)) δ))[i]? = _
    rw [backΔ_out (List.nodup_cons.mp nd).1]
    show (δ.set i _)[i]? = _
    rw [set_get_eq h3, h3]
    cases o <;> rfl
  | p :: ps, u :: us, δ, i, j + 1, es, o, nd, h1, h2, h3 => by
    have h1' : ps[j]? = some (.sl i) := by simpa using h1
    have h2' : us[j]? = some (some (.ln es)) := by simpa using h2
    have nd' : (slots ps).Nodup := by
      cases p with
      | sl i => exact (List.nodup_cons.mp nd).2
      | tm o => exact nd
    show (backΔ ps us (back1 p u δ))[i]? = _
    refine backΔ_in nd' h1' h2' ?_
    rw [back1_out fun k e z => ?_]; exact h3
    subst e z
    exact (List.nodup_cons.mp nd).1 (slots_mem h1')
theorem slots_ix : ∀ {ps : List P} {i : Nat}, i ∈ slots ps → ∃ j : Nat, ps[j]? = some (P.sl i)
  | [], i, h => by simp [slots] at h
  | .tm o :: ps, i, h => by
    obtain ⟨j, e⟩ := slots_ix (ps := ps) h
    exact ⟨j + 1, by simpa using e⟩
  | .sl k :: ps, i, h => by
    rcases List.mem_cons.mp h with e | e
    · subst e; exact ⟨0, rfl⟩
    · obtain ⟨j, e⟩ := slots_ix (ps := ps) e
      exact ⟨j + 1, by simpa using e⟩
/-- f(..) -/
def eFn (f : List O → Option (O × Δ)) (g : Δ → Option (List P × Δ)) : Δ → Option (P × Δ) := fun δ => (g δ).bind fun r => (argOs r.2 r.1).bind fun os => if (slots r.1).Nodup then (f os).map fun s => (.tm s.1, backΔ r.1 (lent os s.2) r.2) else none
theorem call_ok (a : Aft K F0 H0 σ δ0 F H δ) (hp : PRs K F H σ δ vs ps) (nd : (fpA H vs ps).Nodup) (nw : ∀ z ∈ fpA H vs ps, Held H0 σ δ0 z ∨ H0 z = none) (ns : (slots ps).Nodup) (ho : argOs δ ps = some os)
    {us : Δ} (hus : us = lent os δ') (r1 : Rep K F' H' (sm vs) us) (g : Go F H (sm vs) (om os) F' H' (sm vs) us) (t1 : Tmp K F' H' (sm vs) us v o) (n1 : Nw H (sm vs) (om os) H' v (.tm o)) :
    Aft K F0 H0 σ δ0 F' H' (backΔ ps us δ) ∧ PR K F' H' σ (backΔ ps us δ) v (.tm o) ∧ Nw H0 σ δ0 H' v (.tm o) := by
  have r0 := args_rep a.rep hp nd ns ho
  obtain ⟨l1, g1⟩ := prs_get hp
  obtain ⟨l2, g2⟩ := argOs_get ho
  have at_ : ∀ (i : Nat) (o : O), os[i]? = some o → ∃ v p, vs[i]? = some v ∧ ps[i]? = some p ∧ PR K F H σ δ v p ∧ argO δ p = some o := fun i o h => by
    obtain ⟨p, h1, h2⟩ := g2 i o h
    obtain ⟨v, h3, h4⟩ := g1 i p h1
    exact ⟨v, p, h3, h1, h4, h2⟩
  -- what the call may touch was new, or held at the start
  have own_arg : ∀ z i, Own H (sm vs) (om os) i z → z ∈ fpA H vs ps ∨ ∃ k, ps[i]? = some (.sl k) ∧ Own H σ δ k z := fun z i ⟨w, u, q1, q2, q3⟩ => by
    obtain ⟨v', p, h1, h2, h3, h4⟩ := at_ i u (om_get.mp q2)
    rw [sm_get.mp q1] at h1; cases h1
    obtain ⟨_, _, c⟩ := arg_fp a.rep h3 h4
    rcases c with ⟨u', rfl, rfl⟩ | ⟨k, rfl, c⟩
    · exact .inl (fpA_get (sm_get.mp q1) h2 q3)
    · exact .inr ⟨k, h2, c z q3⟩
  have old : ∀ z, Held H (sm vs) (om os) z → Held H0 σ δ0 z ∨ H0 z = none := fun z ⟨i, h⟩ => by
    rcases own_arg z i h with w | ⟨k, _, w⟩
    · exact nw z w
    · exact a.go.hd z ⟨k, w⟩
  have fresh0 : ∀ z, H z = none → H0 z = none := fun z w => by
    by_cases q : H0 z = none
    · exact q
    · exact absurd w (a.go.st z q)
  -- a slot that was not lent is as it was
  have keep : ∀ i u w, δ[i]? = some (some u) → σ[i]? = some (some w) → i ∉ slots ps → Ok K F' H' w u ∧ u.fp H' w = u.fp H w ∧ ∀ z ∈ u.fp H w, ¬ Held H (sm vs) (om os) z := fun i u w h1 h2 h3 => by
    obtain ⟨w', q1, q2, _⟩ := a.rep.ok i u h1
    rw [h2] at q1; cases q1
    have nh : ∀ z ∈ u.fp H w, ¬ Held H (sm vs) (om os) z := fun z hz ⟨j, hj⟩ => by
      rcases own_arg z j hj with y | ⟨k, y1, y2⟩
      · -- an own thing on its way
        obtain ⟨w2, u2, x1, x2, x3⟩ := hj
        obtain ⟨v', p, k1, k2, k3, k4⟩ := at_ j u2 (om_get.mp x2)
        rw [sm_get.mp x1] at k1; cases k1
        obtain ⟨_, _, c⟩ := arg_fp a.rep k3 k4
        rcases c with ⟨u', rfl, rfl⟩ | ⟨k, rfl, c⟩
        · exact k3.ap z x3 ⟨i, w, u, h2, h1, hz⟩
        · have := a.rep.ap i k z ⟨w, u, h2, h1, hz⟩ (c z x3)
          subst this
          exact h3 (slots_mem k2)
      · have := a.rep.ap i k z ⟨w, u, h2, h1, hz⟩ y2
        subst this
        exact h3 (slots_mem y1)
    have same : ∀ z ∈ u.fp H w, H' z = H z ∧ F' z = none := fun z hz => by
      obtain ⟨⟨xs, e1, m1⟩, e2⟩ := ok_fp q2 z hz
      obtain ⟨x, e3, l⟩ := g.kh z _ e1 (nh z hz)
      refine ⟨by rw [e3, l.mut m1, e1], ?_⟩
      cases q : F' z with
      | none => rfl
      | some y =>
        rcases g.nf z (by rw [q]; simp) with c | c | c
        · exact absurd e2 c
        · rw [e1] at c; cases c
        · exact absurd c (nh z hz)
    exact ⟨ok_frame g.kf q2 same, fp_frame q2 fun z hz => (same z hz).1, nh⟩
  -- a lent slot
  have lentE : ∀ i, i ∈ slots ps → ∃ (j : Nat) (es : List D) (w : V) (u0 : O), ps[j]? = some (P.sl i) ∧ us[j]? = some (some (O.ln es)) ∧ vs[j]? = some w ∧ σ[i]? = some (some w) ∧ δ[i]? = some (some u0) ∧ (backΔ ps us δ)[i]? = some (some (sameC u0 es)) ∧ ∃ ds, u0 = .ow ds ∨ u0 = .ln ds := fun i hi => by
    obtain ⟨j, hj⟩ := slots_ix hi
    have hjo : j < os.length := by rw [l2]; exact (List.getElem?_eq_some_iff.mp hj).1
    obtain ⟨w, p, h1, h2, h3, h4⟩ := at_ j os[j] (List.getElem?_eq_getElem hjo)
    rw [hj] at h2; cases h2
    obtain ⟨q1, u0, q2⟩ := h3
    have hds : ∃ ds, os[j]? = some (.ln ds) ∧ (u0 = .ow ds ∨ u0 = .ln ds) := by
      cases u0 with
      | ow ds => simp only [argO, q2, Option.some.injEq] at h4; exact ⟨ds, by rw [List.getElem?_eq_getElem hjo, ← h4], .inl rfl⟩
      | ln ds => simp only [argO, q2, Option.some.injEq] at h4; exact ⟨ds, by rw [List.getElem?_eq_getElem hjo, ← h4], .inr rfl⟩
      | fz d => simp only [argO, q2] at h4; cases h4
      | oo d => simp only [argO, q2] at h4; cases h4
      | mx d => simp only [argO, q2] at h4; cases h4
      | tu d => simp only [argO, q2] at h4; cases h4
      | dc _ _ => simp only [argO, q2] at h4; cases h4
      | dt _ => simp only [argO, q2] at h4; cases h4
    obtain ⟨ds, e1, e2⟩ := hds
    obtain ⟨_, es, e3⟩ := g.ln j ds (om_get.mpr e1)
    exact ⟨j, es, w, u0, hj, e3, h1, q1, q2, backΔ_in ns hj e3 q2, ds, e2⟩
  have ownB : ∀ i z, Own H' σ (backΔ ps us δ) i z → (i ∉ slots ps ∧ Own H σ δ i z ∧ ¬ Held H (sm vs) (om os) z) ∨ (i ∈ slots ps ∧ ∃ j : Nat, ps[j]? = some (P.sl i) ∧ Own H' (sm vs) us j z) := fun i z ⟨w, u, q1, q2, q3⟩ => by
    by_cases hi : i ∈ slots ps
    · obtain ⟨j, es, w', u0, e1, e2, e3, e4, e5, e6, ds, e7⟩ := lentE i hi
      rw [q1] at e4; cases e4
      rw [q2] at e6
      have eu : u = sameC u0 es := by simpa using e6
      refine .inr ⟨hi, j, e1, w, .ln es, sm_get.mpr e3, e2, ?_⟩
      rw [eu] at q3
      rcases e7 with rfl | rfl <;> exact q3
    · rw [backΔ_out hi] at q2
      obtain ⟨_, e2, e3⟩ := keep i u w q2 q1 hi
      rw [e2] at q3
      exact .inl ⟨hi, ⟨w, u, q1, q2, q3⟩, e3 z q3⟩
  have notBoth : ∀ i j z, Own H σ δ i z → ¬ Held H (sm vs) (om os) z → ¬ Own H' (sm vs) us j z := fun i j z h1 h2 h3 => by
    rcases g.hd z ⟨j, h3⟩ with c | c
    · exact h2 c
    · obtain ⟨⟨xs, e, _⟩, _⟩ := a.rep.held ⟨i, h1⟩
      rw [c] at e; cases e
  refine ⟨⟨⟨r1.kp, by rw [backΔ_len]; exact a.rep.len, fun i u hu => ?_, fun i j z h1 h2 => ?_, r1.tb, r1.nm⟩, ⟨a.go.kf.trans g.kf, fun z x e n => ?_, fun z hz => ?_, fun z ⟨i, hz⟩ => ?_, fun z hz => g.st z (a.go.st z hz), fun i ds h => ?_⟩, fun i x h => ?_, fun i es h => ?_⟩, ⟨t1.ok, t1.nd, fun z hz ⟨i, hi⟩ => ?_⟩, fun z hz => ?_⟩
  · by_cases hi : i ∈ slots ps
    · obtain ⟨j, es, w, u0, e1, e2, e3, e4, e5, e6, ds, e7⟩ := lentE i hi
      rw [hu] at e6
      have eu : u = sameC u0 es := by simpa using e6
      obtain ⟨w', k1, k2, k3⟩ := r1.ok j _ e2
      rw [sm_get.mpr e3] at k1
      cases k1
      refine ⟨w, e4, ?_⟩
      rw [eu]
      rcases e7 with rfl | rfl <;> exact ⟨k2, k3⟩
    · rw [backΔ_out hi] at hu
      obtain ⟨w, k1, _, k3⟩ := a.rep.ok i u hu
      obtain ⟨e1, e2, _⟩ := keep i u w hu k1 hi
      exact ⟨w, k1, e1, by rw [e2]; exact k3⟩
  · rcases ownB i z h1 with ⟨a1, a2, a3⟩ | ⟨a1, k, a2, a3⟩
    · rcases ownB j z h2 with ⟨b1, b2, b3⟩ | ⟨b1, l, b2, b3⟩
      · exact a.rep.ap i j z a2 b2
      · exact absurd b3 (notBoth i l z a2 a3)
    · rcases ownB j z h2 with ⟨b1, b2, b3⟩ | ⟨b1, l, b2, b3⟩
      · exact absurd a3 (notBoth j k z b2 b3)
      · have := r1.ap k l z a3 b3
        subst this
        rw [a2] at b2
        simpa using b2
  · obtain ⟨u, e1, k1⟩ := a.go.kh z x e n
    obtain ⟨w, e2, k2⟩ := g.kh z u e1 fun c => by
      rcases old z c with y | y
      · exact n y
      · rw [e] at y; cases y
    exact ⟨w, e2, k1.trans k2⟩
  · rcases g.nf z hz with c | c | c
    · exact a.go.nf z c
    · exact .inr (.inl (fresh0 z c))
    · exact (old z c).elim (fun y => .inr (.inr y)) fun y => .inr (.inl y)
  · rcases ownB i z hz with ⟨_, c, _⟩ | ⟨_, k, _, c⟩
    · exact a.go.hd z ⟨i, c⟩
    · rcases g.hd z ⟨k, c⟩ with y | y
      · exact old z y
      · exact .inr (fresh0 z y)
  · obtain ⟨e1, es, e2⟩ := a.go.ln i ds h
    refine ⟨rfl, ?_⟩
    by_cases hi : i ∈ slots ps
    · obtain ⟨j, fs, w, u0, k1, k2, k3, k4, k5, k6, _⟩ := lentE i hi
      rw [e2] at k5; cases k5
      exact ⟨fs, k6⟩
    · exact ⟨es, by rw [backΔ_out hi]; exact e2⟩
  · obtain ⟨x', e⟩ := a.un i x h
    by_cases hi : i ∈ slots ps
    · obtain ⟨j, fs, w, u0, k1, k2, k3, k4, k5, k6, _⟩ := lentE i hi
      exact ⟨_, k6⟩
    · exact ⟨x', by rw [backΔ_out hi]; exact e⟩
  · by_cases hi : i ∈ slots ps
    · obtain ⟨j, fs, w, u0, k1, k2, k3, k4, k5, k6, ds, k7⟩ := lentE i hi
      rw [h] at k6
      rcases k7 with rfl | rfl
      · cases k6
      · exact a.nl i ds k5
    · rw [backΔ_out hi] at h
      exact a.nl i es h
  · rcases ownB i z hi with ⟨_, c1, c2⟩ | ⟨_, k, _, c⟩
    · rcases n1 z hz with y | y
      · exact c2 y
      · obtain ⟨⟨xs, e, _⟩, _⟩ := a.rep.held ⟨i, c1⟩
        rw [y] at e; cases e
    · exact t1.ap z hz ⟨k, c⟩
  · rcases n1 z hz with y | y
    · exact old z y
    · exact .inr (fresh0 z y)
/-- a call of a def, as an expression -/
theorem sx_fn {ta : TA} {f : List O → Option (O × Δ)} {g : Δ → Option (List P × Δ)} (hg : SXs K ta g) : SX K (tCall (SpV K f) [] E0 ta) (eFn f g) := fun δ p δ' e σ F H r Q k => by
  obtain ⟨⟨ps, δ1⟩, e1, e2⟩ := Option.bind_eq_some_iff.mp e
  obtain ⟨os, e3, e4⟩ := Option.bind_eq_some_iff.mp e2
  dsimp only at e4
  split at e4
  case isFalse => cases e4
  rename_i ns
  obtain ⟨⟨o, δ2⟩, e5, e6⟩ := Option.map_eq_some_iff.mp e4
  cases e6
  refine hg δ ps δ1 e1 σ F H r _ fun vs F1 H1 a1 p1 nd n1 => ?_
  show SpV K f (vs ++ []) H1 Q E0
  rw [List.append_nil]
  refine ⟨F1, os, o, δ2, e5, args_rep a1.rep p1 nd ns e3, fun v F' H' r1 g t1 n2 => ?_⟩
  obtain ⟨c1, c2, c3⟩ := call_ok a1 p1 nd n1 ns e3 rfl r1 g t1 n2
  exact k v F' H' c1 c2 c3
end
end Vi
end
section
set_option Elab.async false
set_option linter.all false
set_option maxRecDepth 100000
set_option maxHeartbeats 1000000
/-! A generator expression that any or all walks, whose element may call defs. -/
namespace Vg
open PySem PySem.Spec PyProof.Rows L2 GenW NdefX
/-- an expression's own scope of names over a caller's -/
def gxOf (X : Cx) (N : List Str) (scope : Scope) (s : Shared) (H : Hp) (code : Value) (fp : List Addr) : Cx where
  prog := X.prog
  w := X.w
  K := X.K
  mg := X.mg
  base := X.base
  A := X.A.in1.in1.deeper (genEnv scope (cloFrom X.env.cells scope.names []) s.heap.objs.size code builtinsNs X.env)
  N := N
  s_0 := s
  H_0 := H
  env := genEnv scope (cloFrom X.env.cells scope.names []) s.heap.objs.size code builtinsNs X.env
  outer := X.stack
  stack := genEnv scope (cloFrom X.env.cells scope.names []) s.heap.objs.size code builtinsNs X.env :: X.stack
  ex := fp
  calm := true
  fn := fun _ => false
  pn := []
  xe := fun _ _ => False
theorem over_loopC {A : Around} {cenv : Env} {elt : Expr} {gs : List Comprehension} {sc : Scope} {pos : Pos} {it : Value} (hf : A.handled = none) : A.over (.compLoop (.GeneratorExp elt gs sc pos) 0 it .none cenv) [] = A.deeper cenv := by
  cases A with
  | mk hd d fr gd u =>
    cases hf
    cases fr <;> cases gd <;> rfl
theorem room_gx {X : Cx} {k : Nat} {N : List Str} {scope : Scope} {s : Shared} {H : Hp} {code : Value} {fp : List Addr} (r : Room (k + 1) X.A) : Room k (gxOf X N scope s H code fp).A :=
  ⟨r.hd, by have := r.dp; show X.A.depth + 1 + 3 * k + 5 < _; omega, by have := r.un; show X.A.units + 1 + 1 + 3 + 16 * k + 200 < _; omega⟩
/-- the scope of a generator expression: its targets (and «.0») are local, the rest is captured -/
structure GSc (X : Cx) (scope : Scope) : Prop where
  kind : scope.kind = .function
  co : scope.isCoroutine = false
  cell : ∀ y ∈ scope.names, y.2 ≠ .cell
  dot : scope.names.lookup (".0" : Str) = some NameKind.local
  free : ∀ y ∈ scope.names, y.2 = .free → ∃ c, X.env.cells.lookup y.1 = some c
/-- what stands in the slots at the beginning: captured values -/
def Capt (X : Cx) (N : List Str) (scope : Scope) (σ σg : L2.St) : Prop :=
  ∀ (i : Nat) (y : Str) (v : V), N[i]? = some y → σg[i]? = some (some v) → scope.names.lookup y = some .free ∧ (X.env.kindOf y = some .cell ∨ X.env.kindOf y = some .free) ∧ Vis X.env.scope y ∧ ∃ j : Nat, X.N[j]? = some y ∧ σ[j]? = some (some v)
section
variable {X : Cx} {pins : List (Addr × Obj)} {σ σg : L2.St} {H : Hp} {s s5 : Shared} {N : List Str} {scope : Scope} {code : Value} {fp : List Addr}
theorem ok_gx (J : Inv X pins σ H s) (hr : X.A.handled = none) (S : GSc X scope) (hfp : ∀ b ∈ fp, FpOk X pins H b) (hlt : ∀ b ∈ fp, b < s.heap.objs.size) : (gxOf X N scope s H code fp).Ok where
  mod := J.ok.mod
  kind := S.kind
  glob := J.ok.glob
  blt := rfl
  above := Nat.le_refl _
  inj := fun x y c h1 h2 => J.ok.inj x y c (clo_cm S.free h1) (clo_cm S.free h2)
  has := fun x h => by
    have h' : scope.names.lookup x = some .cell ∨ scope.names.lookup x = some .free := h
    rcases h' with h' | h'
    · exact absurd rfl (S.cell _ (PySem.mem_of_lookup h'))
    · have hm := PySem.mem_of_lookup h'
      obtain ⟨c, hc⟩ := S.free _ hm rfl
      exact ⟨c, clo_has S.free hm hc⟩
  cab := fun x c h => by cases h
  hd := fun _ => hr
  frames := by
    have e := J.ok.frames
    exact Around.frames_deeper (A := X.A.in1.in1) e
  stk := .inr ⟨rfl, rfl⟩
  exf := fun b hb => by
    obtain ⟨_, _, _, _, h5, _⟩ := hfp b hb
    exact ⟨Nat.ne_of_lt (hlt b hb), fun x c e => h5 x c (clo_cm S.free e)⟩
  bs := J.bs
  bsz := Nat.le_trans J.ok.bsz J.sz
  noex := fun b o e hb => by
    obtain ⟨_, _, _, h4, _⟩ := hfp b hb
    rcases h4 with z | z
    · exact J.ok.noex b o e z
    · exact absurd (Nat.lt_of_lt_of_le (Heap.lt_size e) (Nat.le_trans J.ok.bsz z)) (Nat.lt_irrefl _)
  exfs := fun b hb hm => by
    obtain ⟨_, h2, h3, _⟩ := hfp b hb
    rcases List.mem_cons.mp (J.stkSub b hm) with z | z
    · exact h2 z
    · exact h3 z
  funs := J.stack
  frf := J.stkFree
theorem inv_gx (J : Inv X pins σ H s) (hr : X.A.handled = none) (S : GSc X scope) (hfp : ∀ b ∈ fp, FpOk X pins H b) (hlt : ∀ b ∈ fp, b < s.heap.objs.size) (hc : Capt X N scope σ σg) (hl : σg.length = N.length)
    (hos : s5.os = s.os) (hb : AllBare s5.gens) (hk : ∀ b o, s.heap.get? b = some o → s5.heap.get? b = some o) {m : Str → Option Value} (hn : s5.heap.Ns s.heap.objs.size m) :
    Inv (gxOf X N scope s H code fp) [] σg H s5 where
  ok := ok_gx J hr S hfp hlt
  os := hos
  bare := hb
  base := Un.kept hk
  loc := ⟨m, hn, fun i y v h1 h2 _ => by
    obtain ⟨k1, k2, k3, j, k4, k5⟩ := hc i y v h1 h2
    obtain ⟨mX, _, g⟩ := J.loc
    obtain ⟨u, ru, lk⟩ := g j y v k4 k5 k3
    refine ⟨u, ru, .inr ⟨.inr ?_, ?_⟩⟩
    · exact k1
    · rcases lk with ⟨q1, _⟩ | ⟨_, c, q1, q2⟩
      · rcases k2 with z | z <;> (rw [q1] at z; cases z)
      · exact ⟨c, clo_has S.free (PySem.mem_of_lookup k1) q1, q2.keeps hk⟩⟩
  cell := fun x c e => by
    obtain ⟨v, q⟩ := J.cell x c (clo_cm S.free e)
    exact ⟨v, q.keeps hk⟩
  free := J.hok.fresh (Nat.le_refl _)
  freeC := fun x c e => J.freeC x c (clo_cm S.free e)
  pin := fun p hp => by cases hp
  hok := J.hok.kept hk
  len := hl
end
/-! ### the turns -/
/-- nothing but the table of generators has changed -/
def Same (s s' : Shared) : Prop := s'.heap = s.heap ∧ s'.os = s.os ∧ AllBare s'.gens
/-- at its end -/
def EndG (Z : Cx) (pins : List (Addr × Obj)) (Qd : Hp → Prop) (s1 : Shared) : Prop := ∃ σ H, Inv Z pins σ H s1 ∧ Qd H
/-- a truth value handed out: the walk ends at e -/
def YieldG (Z : Cx) (pins : List (Addr × Obj)) (e : Bool) (Qs : Hp → Prop) : Protocol := fun _ _ v s kap =>
  ∃ b σ H, v = Value.bool b ∧ Inv Z pins σ H s ∧ (b = e → Qs H) ∧ (b ≠ e → ∀ s', Same s s' → kap (.send .none) s')
abbrev RG (Z : Cx) (pins : List (Addr × Obj)) (Qd : Hp → Prop) : GenEnd := fun n s₀ r s₁ =>
  ((r = .ok (.ret .none) ∨ r = .ok .next) ∧ (fun (_ : Nat) (_ : Shared) (t : Shared) => EndG Z pins Qd t) n s₀ s₁) ∨ ∃ x, r = .error x ∧ (fun (_ : Value) (_ : Shared) => False) x s₁
theorem inv_same {Z : Cx} {pins : List (Addr × Obj)} {σ : L2.St} {H : Hp} {s s' : Shared} (I : Inv Z pins σ H s) (h : Same s s') : Inv Z pins σ H s' := by
  obtain ⟨h1, h2, h3⟩ := h
  refine ⟨I.ok, h2.trans I.os, h3, ?_, ?_, ?_, I.free, I.freeC, ?_, ?_, I.len⟩
  · rw [h1]; exact I.base
  · rw [h1]; exact I.loc
  · rw [h1]; exact I.cell
  · rw [h1]; exact I.pin
  · rw [h1]; exact I.hok
/-- what each turn asks -/
def TurnG (J : It) (g : TG) (te : TE) (e : Bool) (Qs Qd : Hp → Prop) (W : Nat → Nat → L2.St → Hp → Prop) : Prop := ∀ i m σ H, W i m σ H →
  (J.stop i H ∧ Qd H) ∨ (J.go i H ∧ ∀ x H', J.yld i H x H' → g x σ H' fun σ2 H2 => te σ2 H2 fun v H3 => ∃ b, v = V.bl b ∧ (b = e → Qs H3) ∧ (b ≠ e → ∃ m', m' < m ∧ W (i + 1) m' σ2 H3))
theorem seg_turns {Z : Cx} {A : Around} {pins : List (Addr × Obj)} {elt tg iter : Expr} {scope : Scope} {pos : Pos} {fp : List Addr} {it : Addr} {tn : Nat → Heap → Prop} {J : It} {g : TG} {te : TE} {e : Bool} {Qs Qd : Hp → Prop} {W : Nat → Nat → L2.St → Hp → Prop}
    (hh : A.handled = none) (hA : Z.A = A.deeper Z.env) (hco : Z.env.scope.isCoroutine = false) (hcalm : Z.calm = true) (hxe : ∀ x s, ¬ Z.xe x s) (T : Turn Z.prog Z.w Z.K tg J fp it tn) (hg : PG Z tg g) (he : PE Z elt te) (hT : TurnG J g te e Qs Qd W)
    (stat : ∀ {H' : Hp}, (∀ b ∈ fp, H' b = none) → ∀ b ∈ fp, FpOk Z pins H' b) :
    ∀ (n m i : Nat) (σ : L2.St) (H : Hp) (s₀ s : Shared), m < n → W i m σ H → Inv Z pins σ H s → tn i s.heap → (∀ b ∈ fp, H b = none) →
      Seg (model Z.prog Z.w) A (RG Z pins Qd) (YieldG Z pins e Qs) n s₀ (.compLoop (.GeneratorExp elt [⟨tg, iter, [], 0⟩] scope pos) 0 (.ref it) .none Z.env)
        ((model Z.prog Z.w).den (.compLoop (.GeneratorExp elt [⟨tg, iter, [], 0⟩] scope pos) 0 (.ref it) .none Z.env)) [] s := by
  intro n
  induction n with
  | zero => intro m i σ H s₀ s hm; exact absurd hm (Nat.not_lt_zero _)
  | succ n ih =>
    intro m i σ H s₀ s hm w I st fr
    show Seg _ A _ _ _ _ _ ((compTurn (.GeneratorExp elt [⟨tg, iter, [], 0⟩] scope pos) 0 (.ref it) .none Z.env).onRaise (leaving Z.env)) _ _
    rw [compTurn_gen]
    rw [Sem.onRaise_eq_wrap]
    refine seg_bind_wrap ?_
    refine wpAny_standAt ?_
    refine seg_bind_wrap ?_
    rw [over_loopC hh, ← hA]
    rcases hT i m σ H w with ⟨stop, qd⟩ | ⟨go, step⟩
    · refine thn (T.done Z rfl rfl rfl hcalm i pins s σ H _ I (stat fr) st stop) fun r s1 ⟨hr, I1⟩ => ?_
      subst hr
      exact seg_end (.ok .next) (.inl ⟨.inr rfl, σ, H, I1, qd⟩)
    · refine thn (T.item Z rfl rfl rfl hcalm i pins s σ H _ I (stat fr) st go) fun r s1 ⟨u, hr, h1⟩ => ?_
      subst hr
      refine seg_bind_wrap ?_
      rw [over_loopC hh, ← hA]
      refine thn h1 fun _ s2 ⟨x, H2, I2, r2, y2, st2, fr2⟩ => ?_
      have I2' := I2.pinned (stat fr2) (T.obj _ _ st2)
      refine seg_bind_wrap ?_
      rw [over_loopC hh, ← hA]
      refine wpAny_mono (hg.run _ s2 σ H2 x u _ I2' r2 (step x H2 y2)) (fun _ s3 h3 => ?_) fun y s' z => absurd z (hxe y s')
      obtain ⟨σ3, H3, I3, q3⟩ := h3
      refine seg_bind_wrap ?_
      simp only [List.forIn_nil]
      refine wpAny_pure ?_
      simp only [if_true]
      have hy : ∀ z, yieldOut Z.env z = yieldValue z := fun z => by unfold yieldOut; rw [hco]; rfl
      simp only [hy]
      rw [Sem.bind_eq_wrap', Sem.bind_eq_wrap', Sem.wrap_wrap, Sem.wrap_wrap]
      refine seg_wrap ?_
      rw [over_loopC hh, ← hA]
      refine wpAny_mono (he.run _ s3 σ3 H3 _ I3 q3) (fun yv s4 h4 => ?_) fun y s' z => absurd z (hxe y s')
      obtain ⟨v4, H4, I4, r4, b, e4, qs, nx⟩ := h4
      subst e4
      have e5 : yv = Value.bool b := r4
      subst e5
      refine seg_at (seg_yield rfl rfl rfl ⟨b, σ3, H4, rfl, I4.unpinned, qs, fun nb s' hs => ?_⟩)
      obtain ⟨m', hm', w'⟩ := nx nb
      have pk : ∀ c ∈ fp, ∀ o, s2.heap.get? c = some o → s4.heap.get? c = some o ∧ H4 c = none := fun c hc o ho =>
        let q := I4.pin (c, o) (List.mem_append_right _ (List.mem_append_right _ (mem_pinsAt hc ho)))
        ⟨q.1, q.2.1⟩
      refine seg_again rfl (ih m' (i + 1) σ3 H4 s' s' (by omega) w' (inv_same I4.unpinned hs) ?_ fun c hc => ?_)
      · rw [hs.1]; exact T.keep _ _ _ st2 fun c hc o ho => (pk c hc o ho).1
      · obtain ⟨o, ho, _⟩ := T.obj _ _ st2 c hc
        exact (pk c hc o ho).2
theorem seg_begin {Z : Cx} {A : Around} {pins : List (Addr × Obj)} {elt tg iter : Expr} {scope : Scope} {pos : Pos} {fp : List Addr} {it : Addr} {tn : Nat → Heap → Prop} {J : It} {g : TG} {te : TE} {e : Bool} {Qs Qd : Hp → Prop} {W : Nat → Nat → L2.St → Hp → Prop}
    (hh : A.handled = none) (hA : Z.A = A.deeper Z.env) (hco : Z.env.scope.isCoroutine = false) (hcalm : Z.calm = true) (hxe : ∀ x s, ¬ Z.xe x s) (T : Turn Z.prog Z.w Z.K tg J fp it tn) (hg : PG Z tg g) (he : PE Z elt te) (hT : TurnG J g te e Qs Qd W)
    (stat : ∀ {H' : Hp}, (∀ b ∈ fp, H' b = none) → ∀ b ∈ fp, FpOk Z pins H' b) {n m : Nat} {σ : L2.St} {H : Hp} {s₀ s : Shared} (hm : m < n) (w : W 0 m σ H) (I : Inv Z pins σ H s) (st : tn 0 s.heap) (fr : ∀ b ∈ fp, H b = none) :
      Seg (model Z.prog Z.w) A (RG Z pins Qd) (YieldG Z pins e Qs) n s₀ (.compStart (.GeneratorExp elt [⟨tg, iter, [], 0⟩] scope pos) 0 (.ref it) .none Z.env)
        ((model Z.prog Z.w).den (.compStart (.GeneratorExp elt [⟨tg, iter, [], 0⟩] scope pos) 0 (.ref it) .none Z.env)) [] s := by
  have loop := seg_turns (iter := iter) (scope := scope) (pos := pos) hh hA hco hcalm hxe T hg he hT stat n m 0 σ H s₀ s hm w I st fr
  show Seg _ _ _ _ _ _ _ ((compStart (.GeneratorExp elt [⟨tg, iter, [], 0⟩] scope pos) 0 (.ref it) .none Z.env).onRaise (leaving Z.env)) _ _
  unfold compStart
  rw [Sem.onRaise_eq_wrap]
  show Seg _ _ _ _ _ _ _ ((ask >>= _).wrap _ _ _ _) _ _
  refine seg_bind_wrap ?_
  refine wpAny_askSetting ?_
  split
  · exact seg_again rfl loop
  · refine seg_bind_wrap (wpAny_rule ?_)
    show Seg _ _ _ _ _ _ _ ((standAt iter.pos >>= _).wrap _ _ _ _) _ _
    refine seg_bind_wrap (wpAny_standAt ?_)
    exact seg_bind_wrap (T.self _ 0 s _ _ st (seg_again rfl loop))
/-- the generator at a, its object ob among the pins, wakes in s -/
structure Wakes1 (Z : Cx) (pins : List (Addr × Obj)) (A : Around) (a : Addr) (g : Nat) (e : Bool) (Qs Qd : Hp → Prop) (n : Nat) (s : Shared) : Prop where
  gen : s.heap.IsGen a g
  lim : s.heap.NoLimit
  go : ∃ gs, s.gens[g]? = some gs ∧ gs.Goes (model Z.prog Z.w) A (RG Z pins Qd) (YieldG Z pins e Qs) n (.send .none) (s.setGen g .running)
theorem next_walk {Z : Cx} {pins : List (Addr × Obj)} {A : Around} {a : Addr} {g n : Nat} {e : Bool} {Qs Qd : Hp → Prop} {s : Shared} {Q : Option Value → Shared → Prop} {E : Value → Shared → Prop} (hh : A.handled = none) (hd : A.depth < recursionLimit)
    (hgen : ∀ σ H t, Inv Z pins σ H t → t.heap.IsGen a g) (wk : Wakes1 Z pins A.in1 a g e Qs Qd n s)
    (hend : ∀ t σ H, Inv Z pins σ H t → Qd H → Q none t) (hstop : ∀ t σ H, Inv Z pins σ H t → Qs H → Q (some (.bool e)) t)
    (hgo : ∀ m t, m < n → Wakes1 Z pins A.in1 a g e Qs Qd m t → Q (some (.bool (!e))) t) :
    wpAny (model Z.prog Z.w) A (pyNext (.ref a)) Q E s := by
  obtain ⟨hg, hl, gs, hgs, go⟩ := wk
  have hgl : g < s.gens.size := (Array.getElem?_eq_some_iff.mp hgs).1
  refine wpAny_gsz (n := g + 1) hgl (next_genG hh hl hd hg hgs go (fun v t gs' hb hv => ?_) (fun t ht h' hk => ?_) fun x t ht => ht.elim)
  · intro hsz
    obtain ⟨b, σ, H, e1, I, qs, nx⟩ := hv
    subst e1
    have I' : Inv Z pins σ H (t.setGen g gs') := inv_same I ⟨rfl, rfl, allBare_setGen I.bare hb⟩
    by_cases h : b = e
    · subst h
      exact hstop _ σ H I' (qs rfl)
    · have hb2 : b = !e := by cases b <;> cases e <;> simp_all
      subst hb2
      have sz : g < t.gens.size := by
        have q : (t.setGen g gs').gens.size = t.gens.size := setGen_size _ _ _
        rw [q] at hsz
        exact hsz
      have k := nx h ((t.setGen g gs').setGen g .running) ⟨rfl, rfl, allBare_setGen I'.bare rfl⟩
      cases n with
      | zero => exact False.elim k
      | succ n => exact hgo n _ (Nat.lt_succ_self n) ⟨hgen σ H _ I', I'.nolimit, gs', setGen_at sz, k⟩
  · intro _
    obtain ⟨σ, H, I, qd⟩ := ht
    have I1 : Inv Z pins σ H (t.setGen g .finished) := inv_same I ⟨rfl, rfl, allBare_setGen I.bare rfl⟩
    exact hend _ σ H (I1.kept (t' := (t.setGen g .finished).toks) hk) qd
theorem all_walk {Z : Cx} {pins : List (Addr × Obj)} {A : Around} {a : Addr} {g : Nat} {Qs Qd : Hp → Prop} {R : Result → Shared → Prop} (hh : A.handled = none) (hd : A.depth < recursionLimit)
    (hgen : ∀ σ H t, Inv Z pins σ H t → t.heap.IsGen a g) (hend : ∀ t σ H, Inv Z pins σ H t → Qd H → R (.ok (.ret (.bool true))) t) (hstop : ∀ t σ H, Inv Z pins σ H t → Qs H → R (.ok (.ret (.bool false))) t) :
    ∀ (n : Nat) (s : Shared), Wakes1 Z pins A.in1.in1 a g false Qs Qd n s → codeAny (model Z.prog Z.w) A (.builtin "all.loop" ⟨[.ref a], []⟩) R s := by
  intro n
  induction n using Nat.strongRecOn with
  | ind n ih =>
    intro s wk
    refine codeAny_builtin F.entry_all_loop ?_
    rw [Around.under_plainId F.plain_all_loop _]
    show wpAny _ A.in1 (pyNext (.ref a) >>= _) _ _ _
    refine wpAny_bind ?_
    refine next_walk (A := A.in1) hh hd hgen wk (fun t σ H I q => ?_) (fun t σ H I q => ?_) fun m t hm wk' => ?_
    · exact wpAny_bind (wpAny_rule (wpAny_pure (hend t σ H I q)))
    · refine wpAny_bind (wpAny_holding (wpAny_truthy_bool ?_))
      refine wpAny_bind (wpAny_letGo ?_)
      simp only [Bool.false_eq_true, if_false]
      exact wpAny_bind (wpAny_rule (wpAny_pure (hstop t σ H I q)))
    · refine wpAny_bind (wpAny_holding (wpAny_truthy_bool ?_))
      refine wpAny_bind (wpAny_letGo ?_)
      simp only [Bool.not_false, if_true]
      exact wpAny_pure ⟨plainId_quiet F.plain_all_loop _, ih m hm t wk'⟩
theorem call_all {Z : Cx} {pins : List (Addr × Obj)} {A : Around} {a : Addr} {g n : Nat} {Qs Qd : Hp → Prop} {Q : Value → Shared → Prop} {E : Value → Shared → Prop} {s : Shared} (hh : A.handled = none) (hd : A.depth < recursionLimit)
    (hgen : ∀ σ H t, Inv Z pins σ H t → t.heap.IsGen a g) (wk : Wakes1 Z pins A.in1.in1 a g false Qs Qd n s)
    (hend : ∀ t σ H, Inv Z pins σ H t → Qd H → Q (.bool true) t) (hstop : ∀ t σ H, Inv Z pins σ H t → Qs H → Q (.bool false) t) : wpAny (model Z.prog Z.w) A (call (.builtin "all") [.ref a]) Q E s := by
  refine call_function_tree F.kind_all F.plain_all F.entry_all (F.args_all1 _) ?_
  unfold Builtin.«all»
  refine wpAny_bind (m := oneArg "all" _) (wpAny_pure (wpAny_bind (wpAny_pyIter_gen wk.gen ?_)))
  exact wpAny_pure ⟨plainId_quiet F.plain_all_loop _, all_walk hh hd hgen (fun t σ H I q => hend t σ H I q) (fun t σ H I q => hstop t σ H I q) n s wk⟩
/-! ### the generator is made -/
section
variable {X : Cx} {pins : List (Addr × Obj)} {σ σg : L2.St} {H : Hp} {s : Shared}
structure Made (X : Cx) (pins : List (Addr × Obj)) (σ : L2.St) (scope : Scope) (N : List Str) (elt tg iter : Expr) (gpos : Pos) (P : Addr) (J : It) (H2 H3 : Hp) (a : Addr) (g : Nat) (s3 s5 : Shared) (code : Value) (fp : List Addr) (it : Addr) (tn : Nat → Heap → Prop) : Prop where
  inv : Inv X pins σ H3 s3
  tab : GxR.Tabbed P H2 H3
  turn : Turn X.prog X.w X.K tg J fp it tn
  at0 : tn 0 s5.heap
  fpk : ∀ b ∈ fp, FpOk X pins H3 b
  flt : ∀ b ∈ fp, b < s3.heap.objs.size
  os : s5.os = s3.os
  bare : AllBare s5.gens
  keep : ∀ b o, s3.heap.get? b = some o → s5.heap.get? b = some o
  ns : ∃ m, s5.heap.Ns s3.heap.objs.size m
  alt : s3.heap.objs.size < a
  gen : s5.heap.IsGen a g
  fresh : s5.gens[g]? = some (.fresh (.compStart (.GeneratorExp elt [⟨tg, iter, [], 0⟩] scope gpos) 0 (.ref it) .none (gxOf X N scope s3 H3 code fp).env))
theorem gen_made {c P : Addr} {elt tg iter : Expr} {scope : Scope} {N : List Str} {gpos : Pos} {wi : TI} {k : Nat} {Q' : Value → Shared → Prop} {R : It → Hp → Prop}
    (hr : Room k X.A) (TB : GxR.TabB X.base X.mg c P) (hcode : X.env.code = .ref c) (S : GSc X scope) (hi : PI X tg iter wi) (hs : ∀ v, genFold iter X.env v = pure v) (I : Inv X pins σ H s)
    (h : wi σ H fun J H1 => GxR.TabG H1 P ∧ R J H1) (hQ : ∀ J H2 H3 a g s3 s5 code fp it tn, R J H2 → Made X pins σ scope N elt tg iter gpos P J H2 H3 a g s3 s5 code fp it tn → Q' (.ref a) s5) :
    wpAny (model X.prog X.w) X.A (eval (.GeneratorExp elt [⟨tg, iter, [], 0⟩] scope gpos) X.env) Q' X.xe s := by
  refine wpAny_GeneratorExp_make S.co (closure_ok S.free) S.cell S.dot S.kind hr.depth ?_ hs
  refine thn (hi.run pins s σ H _ I h) fun xv s1 h1 => thn h1 fun itv s2 h2 => ?_
  obtain ⟨it, fp, tn, J, H2, rfl, I2, T, st2, f2, ⟨ps, hP, ht⟩, q2⟩ := h2
  refine ⟨I2.nolimit, ?_⟩
  have hPs : s2.heap.get? P = some { cls := .none, data := .fields ps } := I2.hok P _ hP
  have nP : ∀ b, H2 b = none → b ≠ P := fun b e z => by rw [z, hP] at e; cases e
  have cd : PySem.W.CodeHd s2.heap c P := TB.code.keeps fun b u e => I2.bk b u e
  have cont : ∀ (code : Value) (h3 : Heap) (tk : Nat) (ps' : Array Value), Heap.ExtBut P s2.heap h3 → s2.heap.objs.size ≤ h3.objs.size → h3.get? P = some { cls := .none, data := .fields ps' } → (∃ more, ps' = ps ++ more) → TriplesOk ps'.toList →
      wpAny (model X.prog X.w) X.A (builtinsFor X.env.globals X.env.builtins) (fun bi s₄ => ∀ h', h'.Ns s₄.heap.objs.size (fun y => if y = ".0" then some (.ref it) else none) → Heap.SameBut s₄.heap.objs.size (s₄.heap.push { cls := .type "frame", data := .dict #[] }) h' →
          Q' (.ref h'.objs.size) { s₄ with
            gens := s₄.gens.push (.fresh (.compStart (.GeneratorExp elt [⟨tg, iter, [], 0⟩] scope gpos) 0 (.ref it) .none (genEnv scope (cloFrom X.env.cells scope.names []) s₄.heap.objs.size code bi X.env))),
            toks := s₄.toks + 1 + 1 + 1,
            heap := h'.push { cls := .type "generator", data := .fields #[.int s₄.gens.size 0, .str "<genexpr>" (s₄.toks + 1), .str (X.env.qual ++ "<genexpr>") (s₄.toks + 1 + 1)] } }) X.xe { s2 with heap := h3, toks := tk } := by
    intro code h3 tk ps' hx hsz hP3 ⟨more, em⟩ ht3
    have keep3 : ∀ b u, b ≠ P → s2.heap.get? b = some u → h3.get? b = some u := fun b u hb e => hx b u hb e
    obtain ⟨bm, ob, e1, e2, e3, e4, e5, e6, e7, e8⟩ := TB.bm
    refine wpAny_builtinsFor (m := X.mg) (by rw [I2.ok.glob]; exact (I2.mod.glob.keeps I2.bk).extBut hx TB.gP) e1 e2 (keep3 _ _ e4 (I2.bk _ _ e5)) e6 e7 e8 ?_
    intro h' hn' hs'
    subst em
    have I3 : Inv X pins σ (upd H2 P (.tbl (ps ++ more))) { s2 with heap := h3, toks := tk } := GxR.inv_tab (g' := s2.gens) (d' := s2.drawn) I2 hP (fun b o hb e => keep3 b o hb e) hP3 I2.bare
    have f3 : ∀ b ∈ fp, FpOk X pins (upd H2 P (.tbl (ps ++ more))) b := fun b hb => ⟨by rw [upd_ne (nP b (f2 b hb).1)]; exact (f2 b hb).1, (f2 b hb).2⟩
    have flt : ∀ b ∈ fp, b < h3.objs.size := fun b hb => by
      obtain ⟨o, e, _⟩ := T.obj _ _ st2 b hb
      exact Nat.lt_of_lt_of_le (Heap.lt_size e) hsz
    have hsz' : h'.objs.size = h3.objs.size + 1 := by rw [hs'.1]; exact Heap.size_push ..
    have kp : ∀ (gob : Obj) b o, h3.get? b = some o → (h'.push gob).get? b = some o := fun gob b o e => by
      refine Heap.get?_push_of_some _ ?_
      rw [hs'.2 b (Nat.ne_of_lt (Heap.lt_size e))]
      exact Heap.get?_push_of_some _ e
    refine hQ J H2 (upd H2 P (.tbl (ps ++ more))) h'.objs.size s2.gens.size { s2 with heap := h3, toks := tk } _ code fp it tn q2 ⟨I3, ⟨⟨ps ++ more, upd_same, ht3⟩, fun b hb => upd_ne hb⟩, T, ?_, f3, flt, rfl, I2.bare.push rfl, kp _, ⟨_, hn'.keeps fun b o e => Heap.get?_push_of_some _ e⟩, ?_, ?_, ?_⟩
    · exact T.keep _ _ _ st2 fun b hb o e => kp _ b o (keep3 b o (nP b (f2 b hb).1) e)
    · show h3.objs.size < h'.objs.size
      omega
    · exact ⟨_, _, _, Heap.get?_push_size _ rfl, rfl, rfl, rfl⟩
    · show (s2.gens.push _)[s2.gens.size]? = _
      simp [gxOf]
  cases hf : codeAmong gpos ps.toList with
  | none =>
    refine wpAny_genexprCodeX hcode (cd.code hPs ht) (cd.tab hPs) hf fun c' h' tk hx hge hlt hco' _ htab' _ => ?_
    obtain ⟨o1, vs, f1, tf, fl, tg', inF, tx, tt, op, _, _, _, _, _, _, _, _, _, htr, _⟩ := hco'
    exact cont _ h' tk _ hx (Nat.le_trans hge (Nat.le_of_lt hlt)) htab'.2 ⟨_, rfl⟩ htr
  | some cv =>
    refine wpAny_genexprCode_hit hcode (cd.code hPs ht) hf ?_
    exact cont cv s2.heap s2.toks ps (Heap.ExtBut.refl _ _) (Nat.le_refl _) hPs ⟨#[], by simp⟩ ht
end
section
variable {X : Cx} {N : List Str} {scope : Scope}
/-- the slots of a generator expression hold what it captures -/
def Takes1 (X : Cx) (N : List Str) (scope : Scope) (cg : L2.St → L2.St) : Prop := ∀ σ, σ.length = X.N.length → Capt X N scope σ (cg σ) ∧ (cg σ).length = N.length
/-- any (e = true), all (e = false): the walk ends at the first e -/
def tWalk (e : Bool) (P : Addr) (cg : L2.St → L2.St) (wi : TI) (g : TG) (te : TE) : TE := fun σ H Q => wi σ H fun J H1 => GxR.TabG H1 P ∧ ∀ H2, GxR.Tabbed P H1 H2 →
  ∃ (W : Nat → Nat → L2.St → Hp → Prop) (m : Nat), W 0 m (cg σ) H2 ∧ TurnG J g te e (fun H3 => Q (.bl e) H3) (fun H3 => Q (.bl (!e)) H3) W
variable {pins : List (Addr × Obj)} {σ : L2.St} {H : Hp} {s : Shared}
theorem made_wakes {P : Addr} {elt tg iter : Expr} {gpos : Pos} {g : TG} {te : TE} {cg : L2.St → L2.St} {k : Nat} {e : Bool} {J : It} {H2 H3 : Hp} {a : Addr} {n : Nat} {s3 s5 : Shared} {code : Value} {fp : List Addr} {it : Addr} {tn : Nat → Heap → Prop} {Q : VK} {W : Nat → Nat → L2.St → Hp → Prop} {m : Nat}
    (hr : Room k X.A) (S : GSc X scope) (hcg : Takes1 X N scope cg) (hg : ∀ s H code fp, PG (gxOf X N scope s H code fp) tg g) (he : ∀ s H code fp, PE (gxOf X N scope s H code fp) elt te)
    (M : Made X pins σ scope N elt tg iter gpos P J H2 H3 a n s3 s5 code fp it tn) (w0 : W 0 m (cg σ) H3) (hT : TurnG J g te e (fun H3 => Q (.bl e) H3) (fun H3 => Q (.bl (!e)) H3) W) :
    ∃ ob, (∀ σ' H' t, Inv (gxOf X N scope s3 H3 code fp) [(a, ob)] σ' H' t → t.heap.IsGen a n) ∧
      (∀ σ' H' t v u, Inv (gxOf X N scope s3 H3 code fp) [(a, ob)] σ' H' t → RelV v u → Q v H' → EP X pins σ Q u t) ∧
      Wakes1 (gxOf X N scope s3 H3 code fp) [(a, ob)] X.A.in1.in1 a n e (fun H3 => Q (.bl e) H3) (fun H3 => Q (.bl (!e)) H3) (m + 1) s5 := by
  obtain ⟨ob, nm, qn, ho, hc, hd, hsl⟩ := M.gen
  obtain ⟨mm, hn⟩ := M.ns
  obtain ⟨cap, hl⟩ := hcg σ M.inv.len
  have J5 : ∀ t, Same s5 t → Inv (gxOf X N scope s3 H3 code fp) [(a, ob)] (cg σ) H3 t := fun t ht => by
    have I := inv_gx (code := code) (s5 := t) M.inv hr.hd S M.fpk M.flt cap hl (ht.2.1.trans M.os) ht.2.2 (fun b o e => by rw [ht.1]; exact M.keep b o e) (m := mm) (by rw [ht.1]; exact hn)
    refine I.pins_of fun p hp => ?_
    have ep : p = (a, ob) := by simpa using hp
    subst ep
    refine ⟨by rw [ht.1]; exact ho, M.inv.hok.fresh (Nat.le_of_lt M.alt), Nat.ne_of_gt M.alt, fun hm => ?_, fun v z => by rw [hd] at z; cases z⟩
    obtain ⟨_, o, e, _⟩ := M.inv.stack.mem hm
    exact absurd (Nat.lt_trans (Heap.lt_size e) M.alt) (Nat.lt_irrefl _)
  have fpz : ∀ {H' : Hp}, (∀ b ∈ fp, H' b = none) → ∀ b ∈ fp, FpOk (gxOf X N scope s3 H3 code fp) [(a, ob)] H' b := fun {H'} z b hb => by
    obtain ⟨k1, k2, k3, k4, k5, k6⟩ := M.fpk b hb
    refine ⟨z b hb, Nat.ne_of_lt (M.flt b hb), fun hm => ?_, .inl hb, fun x c e => k5 x c (clo_cm S.free e), fun p hp => ?_⟩
    · rcases List.mem_cons.mp (M.inv.stkSub b hm) with y | y
      · exact k2 y
      · exact k3 y
    · have ep : p = (a, ob) := by simpa [gxOf] using hp
      subst ep
      exact Nat.ne_of_gt (Nat.lt_trans (M.flt b hb) M.alt)
  refine ⟨ob, fun σ' H' t I => ?_, fun σ' H' t v u I rv q => ?_, ⟨M.gen, ?_, _, M.fresh, rfl, ?_⟩⟩
  · exact ⟨ob, nm, qn, (I.pin (a, ob) (by simp)).1, hc, hd, hsl⟩
  · exact ⟨v, H', M.inv.call' (ch := fp) I.os I.base I.hok I.bare fun b hb => let f := M.fpk b hb; ⟨f.2.2.2.1, f.2.1, f.2.2.2.2.1, f.2.2.2.2.2⟩, rv, q⟩
  · exact (J5 s5 ⟨rfl, rfl, M.bare⟩).nolimit
  · refine seg_begin (Z := gxOf X N scope s3 H3 code fp) (A := X.A.in1.in1) hr.hd rfl S.co rfl (fun _ _ z => z) M.turn (hg _ _ _ _) (he _ _ _ _) hT fpz (m := m) (Nat.lt_succ_self m) w0 (J5 _ ⟨rfl, rfl, allBare_setGen M.bare rfl⟩) M.at0 fun b hb => (M.fpk b hb).1
theorem pe_allG {c P : Addr} {elt tg iter : Expr} {p pos gpos : Pos} {wi : TI} {g : TG} {te : TE} {cg : L2.St → L2.St} {k : Nat}
    (hr : Room k X.A) (hgl : Gl X "all") (hm : X.mg "all" = none) (TB : GxR.TabB X.base X.mg c P) (hcode : X.env.code = .ref c) (S : GSc X scope) (hcg : Takes1 X N scope cg) (hi : PI X tg iter wi)
    (hg : ∀ s H code fp, PG (gxOf X N scope s H code fp) tg g) (he : ∀ s H code fp, PE (gxOf X N scope s H code fp) elt te) (hs : ∀ v, genFold iter X.env v = pure v)
    (hb : bootBuiltins "all" = some (.builtin "all") := by rfl)
    (hst : starEach [.GeneratorExp elt [⟨tg, iter, [], 0⟩] scope gpos] X.env = (false, eval (.GeneratorExp elt [⟨tg, iter, [], 0⟩] scope gpos) X.env) :: starEach [] X.env := by rfl) :
    PE X (.Call (.Name "all" p) [.GeneratorExp elt [⟨tg, iter, [], 0⟩] scope gpos] [] pos) (tWalk false P cg wi g te) := by
  refine ⟨fun pins s σ H Q I h => ?_⟩
  refine wpAny_Call_Name_kw (ld_blt I hgl hm hb ?_)
  refine PyProof.Rows.callWith_builtin1 ?_ hst (by rfl)
  rw [hst]
  show wpAny _ _ (spliced ((false, eval (.GeneratorExp elt [⟨tg, iter, [], 0⟩] scope gpos) X.env) :: backTo pos (starEach [] X.env))) _ _ _
  refine Calls.spliced_cons (gen_made (N := N) hr TB hcode S hi hs I h fun J H2 H3 a n s3 s5 code fp it tn q M => ?_)
  refine Calls.spliced_nil ?_
  obtain ⟨W, m, w0, hT⟩ := q H3 M.tab
  obtain ⟨ob, k1, k2, wk⟩ := made_wakes hr S hcg hg he M w0 hT
  exact call_all (Z := gxOf X N scope s3 H3 code fp) hr.hd hr.depth k1 wk (fun t σ' H' I' q => k2 σ' H' t (.bl true) _ I' rfl q) fun t σ' H' I' q => k2 σ' H' t (.bl false) _ I' rfl q
end
end Vg
end
section
set_option Elab.async false
set_option linter.all false
set_option maxRecDepth 100000
set_option maxHeartbeats 1000000
/-! Defs' promises where it is known that no repr is under way. -/
namespace Vf
open PySem PySem.Spec PyProof.Rows L2
/-- as FnOk, where no guard is on the stack -/
structure FnG (Pg : Program) (w : World) (K : PySem.W.Frag) (mg : Str → Option Value) (base : Heap) (CX : CXT) (k : Nat) (f : Addr) (fd : FuncData) (ps : List Str) (sp : Sp) : Prop where
  len : ∀ zs G R X, sp zs G R X → zs.length = ps.length
  run : ∀ (B : Around) (es : List Env) (t : Shared) (G : Hp) (ar : Args) (us : List Value) (zs : List V) (R : VK) (X : XK), Room k B → B.guards = some [] → Env0 Pg w K mg base B es t G → BindsTo t fd ar (ps.zip us) → Vals zs us → sp zs G R X →
    codeAny (model Pg w) B (.call (.ref f) ar) (CR CX es Pg w G t R X) t
section
variable {Pg : Program} {w : World} {K : PySem.W.Frag} {mg : Str → Option Value} {base : Heap} {CX : CXT} {k j : Nat} {f : Addr} {fd : FuncData} {ps : List Str} {sp sp' : Sp}
theorem FnG.of (F : FnOk Pg w K mg base CX k f fd ps sp) : FnG Pg w K mg base CX k f fd ps sp := ⟨F.len, fun B es t G ar us zs R X hr _ => F.run B es t G ar us zs R X hr⟩
theorem FnG.up (F : FnG Pg w K mg base CX j f fd ps sp) (h : j ≤ k) : FnG Pg w K mg base CX k f fd ps sp := ⟨F.len, fun B es t G ar us zs R X hr => F.run B es t G ar us zs R X (hr.mono h)⟩
/-- a def of the text, by its body -/
theorem fnG_of {x qual : Str} {pa : Arguments} {body : List Stmt} {sc : Scope} {dV kV doc pm cdv ct oc : Value} {an od : Option Addr} {osl : Array (Option Value)} {N : List Str}
    (lk : K.lookup f = some ⟨oc, od, .func (PySem.W.fnOf x qual pa body sc dV kV doc pm an cdv ct), osl⟩) (hcd : PySem.W.codeIn K cdv qual = true) (S : FnScope N ps sc) (len : ∀ zs G R X, sp zs G R X → zs.length = ps.length)
    (hbody : ∀ (B : Around) (es : List Env) (t : Shared) (G : Hp) (zs : List V) (R : VK) (X : XK), Room k (B.deeper (envOfC qual sc t.heap.objs.size f cdv)) → B.guards = some [] → sp zs G R X →
      ∃ T, PSs (cxOf CX Pg w K mg base N qual sc f cdv B es t G X) body T ∧ T { nx := fun _ G' => R .non G', rt := R } (start N zs) G) :
    FnG Pg w K mg base CX (k + 1) f (PySem.W.fnOf x qual pa body sc dV kV doc pm an cdv ct) ps sp where
  len := len
  run := by
    intro B es t G ar us zs R X hr hgu e0 hb rv hq
    have kin : K.In t.heap := e0.mod.kin.keeps fun c o e => (e0.bs c o e).1
    have nl : t.heap.NoLimit := e0.mod.nolimit.keeps fun c o e => (e0.bs c o e).1
    refine codeAny_call_function hr.depth (kin _ _ lk) rfl S.co S.gen rfl ?_ ?_
    · exact PySem.W.codeRec_of kin hcd
    refine hb _ _ _ _ ?_
    refine wpAny_newFunctionEnv_cells S.kind ?_ ?_
    · rintro ⟨n, v⟩ hy
      rcases S.par n (List.of_mem_zip hy).1 with q | q
      · exact Or.inl q
      · exact Or.inr ⟨q, PySem.W.cellsFrom_some _ _ _ (.inl q)⟩
    rintro env rfl t1 inC
    refine ⟨nl.keeps inC.toInCall.keep, ?_⟩
    refine codeAny_func ?_
    obtain ⟨T, hT, tq⟩ := hbody B es t G zs R X (hr.deeper _) hgu hq
    have I := inv_start (CX := CX) (E := X) (H := G) S hr.hd e0 (len _ _ _ _ hq) rv inC
    refine wpAny_mono (hT.run [] t1 (start N zs) G _ I tq) ?_ fun _ _ z => z
    intro fl t2 h2
    cases fl with
    | next =>
      obtain ⟨σ2, G2, J, q⟩ := h2
      exact ⟨V.non, G2, J.os, J.bare, J.base, J.hok, (show RelV V.non Value.none from rfl), q⟩
    | ret u =>
      obtain ⟨v, σ2, G2, J, ru, q⟩ := h2
      exact ⟨v, G2, J.os, J.bare, J.base, J.hok, ru, q⟩
    | brk => obtain ⟨_, _, _, q⟩ := h2; exact q.elim
    | cont => obtain ⟨_, _, _, q⟩ := h2; exact q.elim
end
/-! ### calls -/
section
variable {X : Cx} {CX : CXT} {k : Nat} {f : Addr} {fd : FuncData} {ps : List Str} {sp : Sp} {dvs : List V} {ds : List Value} {E : XK} {x : Str} {p pos : Pos} {e : Expr} {es : List Expr} {t : TA}
/-- the running frame may call such a def -/
structure Can (X : Cx) (k : Nat) : Prop where
  room : Room k X.A
  gd : X.A.guards = some []
theorem run_fnG {pins : List (Addr × Obj)} {σ : L2.St} {H : Hp} {s : Shared} {Q : VK} {ar : Args} {us : List Value} {vs : List V} (F : FnG X.prog X.w X.K X.mg X.base CX k f fd ps sp) (hr : Can X k) (hx : Passes CX X E) (I : Inv X pins σ H s)
    (hb : BindsTo s fd ar (ps.zip us)) (r : Vals vs us) (h : sp vs H Q E) : wpAny (model X.prog X.w) X.A (call (.ref f) ar.pos ar.kw) (EP X pins σ Q) X.xe s := by
  refine wpAny_call (codeAny_mono (F.run X.A X.stack s H ar us vs Q E hr.room hr.gd I.env0 hb r h) ?_)
  intro r' s' hq
  match r', hq with
  | .ok (.ret u), hq => exact I.after hq
  | .error e, hq => exact hx pins σ H s e s' I hq
  | .ok .next, hq => exact False.elim hq
  | .ok .brk, hq => exact False.elim hq
  | .ok .cont, hq => exact False.elim hq
/-- f(e, ..) -/
theorem pe_callG (F : FnG X.prog X.w X.K X.mg X.base CX k f fd ps sp) (hr : Can X k) (hg : Gl X x) (hm : X.mg x = some (.ref f)) (hk : PySem.W.keepIn X.K (.ref f) = true) (hb : Binds X.K fd ps []) (hx : Passes CX X E) (ha : PA X (e :: es) t)
    (hdb : (x == ("__debug__" : Str)) = false := by decide) (he : starEach (e :: es) X.env = (false, eval e X.env) :: starEach es X.env := by rfl) (hpl : (backTo pos (starEach es X.env)).any (·.1) = false := by rfl) : PE X (.Call (.Name x p) (e :: es) [] pos) (tCall sp [] E t) := by
  refine ⟨fun pins s σ H Q I h => wpAny_Call_Name_kw (ld_glob I hg hm ?_ hdb)⟩
  refine PySem.W.callWith_K (h₀ := X.base) I.ok.mod.kin hk (thn (ha.run pos pins s σ H _ I h) ?_) he hpl
  rintro us s1 ⟨vs, H1, I1, r, q⟩
  have q' : sp vs H1 Q E := by simpa using q
  have hl : (us ++ []).length = ps.length := by rw [List.append_nil, ← r.length]; exact F.len _ _ _ _ q'
  have hb' := hb s1 us I1.kIn hl
  rw [List.append_nil] at hb'
  exact ⟨I1.kIn, run_fnG (ar := ⟨us, []⟩) F hr hx I1 hb' r q'⟩
/-- keywords alone: their values in the parameters' order -/
def BindsK (K : PySem.W.Frag) (fd : FuncData) (ps ks : List Str) (pm : {α : Type} → List α → List α) : Prop := ∀ (s : Shared) (ws : List Value), K.In s.heap → ws.length = ks.length → BindsTo s fd ⟨[], ks.zip ws⟩ (ps.zip (pm ws))
def tCallK (sp : Sp) (n : Nat) (pm : {α : Type} → List α → List α) (E : XK) (t : TA) : TE := fun σ H Q => t σ H fun zs H1 => zs.length = n ∧ sp (pm zs) H1 Q E
theorem pe_callGK {kws : List Keyword} {ks : List Str} {pm : {α : Type} → List α → List α} (F : FnG X.prog X.w X.K X.mg X.base CX k f fd ps sp) (hr : Can X k) (hg : Gl X x) (hm : X.mg x = some (.ref f)) (hk : PySem.W.keepIn X.K (.ref f) = true)
    (hb : BindsK X.K fd ps ks pm) (hpm : ∀ {zs : List V} {ws : List Value}, Vals zs ws → Vals (pm zs) (pm ws)) (hx : Passes CX X E) (hkw : PK X kws t)
    (hall : (backToKw pos (keywordEach kws X.env)).all (·.1.isSome) = true := by rfl) (hks : (backToKw pos (keywordEach kws X.env)).filterMap (·.1) = ks := by rfl)
    (hdb : (x == ("__debug__" : Str)) = false := by decide) (hpl : ((backTo pos (starEach [] X.env)).any (·.1) || (backToKw pos (keywordEach kws X.env)).any (·.1.isNone)) = false := by rfl) : PE X (.Call (.Name x p) [] kws pos) (tCallK sp ks.length pm E t) := by
  refine ⟨fun pins s σ H Q I h => wpAny_Call_Name_kw (ld_glob I hg hm ?_ hdb)⟩
  refine PySem.W.callWith_KW0 (h₀ := X.base) I.ok.mod.kin hk hall ?_ hpl
  refine thn (hkw.run pos pins s σ H _ I h) ?_
  rintro ws s1 ⟨zs, H1, I1, r, l, q⟩
  rw [hks]
  exact ⟨I1.kIn, run_fnG (ar := ⟨[], ks.zip ws⟩) F hr hx I1 (hb s1 ws I1.kIn (by rw [← r.length]; exact l)) (hpm r) q⟩
end
section
open Vi
variable {Pg : Program} {w : World} {K : Lay} {mg : Str → Option Value} {base : Heap}
/-! ### keywords alone: the values in the parameters' order -/
def pmI (ix : List Nat) {α : Type} (l : List α) : List α := ix.filterMap fun i => l[i]?
section
variable {F H F' H' : Hp} {σ : L2.St} {δ δ' : Δ} {vs : List V} {ps : List P} {ix : List Nat}
theorem pmI_cons {α : Type} {l : List α} {i : Nat} {a : α} (h : l[i]? = some a) : pmI (i :: ix) l = a :: pmI ix l := by
  show (i :: ix).filterMap _ = _
  rw [List.filterMap_cons_some h]; rfl
theorem pmI_none {α : Type} {l : List α} {i : Nat} (h : l[i]? = none) : pmI (i :: ix) l = pmI ix l := by
  show (i :: ix).filterMap _ = _
  rw [List.filterMap_cons_none h]; rfl
theorem prs_both {i : Nat} (h : PRs K F H σ δ vs ps) : (∃ v p, vs[i]? = some v ∧ ps[i]? = some p ∧ PR K F H σ δ v p) ∨ (vs[i]? = none ∧ ps[i]? = none) := by
  obtain ⟨l, g⟩ := prs_get h
  cases q : ps[i]? with
  | none => exact .inr ⟨List.getElem?_eq_none (by rw [l]; exact List.getElem?_eq_none_iff.mp q), rfl⟩
  | some p => obtain ⟨v, h1, h2⟩ := g i p q; exact .inl ⟨v, p, h1, rfl, h2⟩
theorem prs_pm (h : PRs K F H σ δ vs ps) : ∀ ix : List Nat, PRs K F H σ δ (pmI ix vs) (pmI ix ps)
  | [] => .nil
  | i :: ix => by
    rcases prs_both (i := i) h with ⟨v, p, h1, h2, h3⟩ | ⟨h1, h2⟩
    · rw [pmI_cons h1, pmI_cons h2]; exact .cons h3 (prs_pm h ix)
    · rw [pmI_none h1, pmI_none h2]; exact prs_pm h ix
theorem fpA_pm (h : PRs K F H σ δ vs ps) : ∀ (ix : List Nat) (a : Addr), a ∈ fpA H (pmI ix vs) (pmI ix ps) → ∃ i ∈ ix, ∃ v p, vs[i]? = some v ∧ ps[i]? = some p ∧ a ∈ p.fp H v
  | [], a, hm => by cases hm
  | i :: ix, a, hm => by
    rcases prs_both (i := i) h with ⟨v, p, h1, h2, h3⟩ | ⟨h1, h2⟩
    · rw [pmI_cons h1, pmI_cons h2] at hm
      rcases List.mem_append.mp (show a ∈ p.fp H v ++ fpA H (pmI ix vs) (pmI ix ps) from hm) with z | z
      · exact ⟨i, List.mem_cons_self, v, p, h1, h2, z⟩
      · obtain ⟨j, hj, r⟩ := fpA_pm h ix a z
        exact ⟨j, List.mem_cons_of_mem _ hj, r⟩
    · rw [pmI_none h1, pmI_none h2] at hm
      obtain ⟨j, hj, r⟩ := fpA_pm h ix a hm
      exact ⟨j, List.mem_cons_of_mem _ hj, r⟩
theorem nd_pm (h : PRs K F H σ δ vs ps) (nd : (fpA H vs ps).Nodup) : ∀ ix : List Nat, ix.Nodup → (fpA H (pmI ix vs) (pmI ix ps)).Nodup
  | [], _ => by simp [pmI, fpA]
  | i :: ix, ni => by
    obtain ⟨n1, n2⟩ := List.nodup_cons.mp ni
    rcases prs_both (i := i) h with ⟨v, p, h1, h2, h3⟩ | ⟨h1, h2⟩
    · rw [pmI_cons h1, pmI_cons h2]
      show (p.fp H v ++ fpA H (pmI ix vs) (pmI ix ps)).Nodup
      rw [List.nodup_append]
      refine ⟨pr_nd h3, nd_pm h nd ix n2, fun a ha b hb e => ?_⟩
      subst e
      obtain ⟨j, hj, w, q, k1, k2, k3⟩ := fpA_pm h ix a hb
      have := fpA_inj nd h1 h2 k1 k2 ha k3
      subst this
      exact n1 hj
    · rw [pmI_none h1, pmI_none h2]; exact nd_pm h nd ix n2
theorem vals_pm {zs : List V} {ws : List Value} (h : Vals zs ws) : ∀ ix : List Nat, Vals (pmI ix zs) (pmI ix ws)
  | [] => .nil
  | i :: ix => by
    cases q : zs[i]? with
    | none =>
      have q2 : ws[i]? = none := List.getElem?_eq_none (by rw [← h.length]; exact List.getElem?_eq_none_iff.mp q)
      rw [pmI_none q, pmI_none q2]; exact vals_pm h ix
    | some v =>
      obtain ⟨u, h1, h2⟩ := h.get q
      rw [pmI_cons q, pmI_cons h1]; exact .cons h2 (vals_pm h ix)
end
def eFnK (n : Nat) (ix : List Nat) (f : List O → Option (O × Δ)) (g : Δ → Option (List P × Δ)) : Δ → Option (P × Δ) := fun δ => (g δ).bind fun r => if r.1.length = n ∧ ix.Nodup then
  (argOs r.2 (pmI ix r.1)).bind fun os => if (slots (pmI ix r.1)).Nodup then (f os).map fun s => (.tm s.1, backΔ (pmI ix r.1) (lent os s.2) r.2) else none else none
theorem sx_fnK {ta : TA} {f : List O → Option (O × Δ)} {g : Δ → Option (List P × Δ)} {n : Nat} {ix : List Nat} (hg : SXs K ta g) : SX K (tCallK (SpV K f) n (fun l => pmI ix l) E0 ta) (eFnK n ix f g) := fun δ p δ' e σ F H r Q k => by
  obtain ⟨⟨ps, δ1⟩, e1, e2⟩ := Option.bind_eq_some_iff.mp e
  dsimp only at e2
  split at e2
  case isFalse => cases e2
  rename_i hc
  obtain ⟨hn, hix⟩ := hc
  obtain ⟨os, e3, e4⟩ := Option.bind_eq_some_iff.mp e2
  split at e4
  case isFalse => cases e4
  rename_i ns
  obtain ⟨⟨o, δ2⟩, e5, e6⟩ := Option.map_eq_some_iff.mp e4
  cases e6
  refine hg δ ps δ1 e1 σ F H r _ fun vs F1 H1 a1 p1 nd n1 => ⟨by rw [(prs_get p1).1]; exact hn, ?_⟩
  have p2 := prs_pm p1 ix
  have nd2 := nd_pm p1 nd ix hix
  have n2 : ∀ z ∈ fpA H1 (pmI ix vs) (pmI ix ps), Held H σ δ z ∨ H z = none := fun z hz => by
    obtain ⟨i, _, v, q, k1, k2, k3⟩ := fpA_pm p1 ix z hz
    exact n1 z (fpA_get k1 k2 k3)
  refine ⟨F1, os, o, δ2, e5, args_rep a1.rep p2 nd2 ns e3, fun v F' H' r1 g t1 n3 => ?_⟩
  obtain ⟨c1, c2, c3⟩ := call_ok a1 p2 nd2 n2 ns e3 rfl r1 g t1 n3
  exact k v F' H' c1 c2 c3
end
end Vf
end
section
set_option Elab.async false
set_option linter.all false
set_option maxRecDepth 100000
set_option maxHeartbeats 1000000
/-! Expressions in one term: the rule and what it does to values, both at once; operators. -/
namespace Vo
open PySem PySem.Spec PyProof.Rows L2 Vi Vf
/-! ### both at once -/
structure Fits (X : Cx) (K : Lay) (k : Nat) : Prop where
  K : X.K = K.K
  can : Can X k
  calm : X.calm = true
def EX (X : Cx) (K : Lay) (e : Expr) (f : Δ → Option (P × Δ)) : Prop := ∃ te, PE X e te ∧ SX K te f
def DX (X : Cx) (K : Lay) (e : Expr) (f : Δ → Option (D × Δ)) : Prop := ∃ te, PE X e te ∧ SD K te f
def TX (X : Cx) (K : Lay) (e : Expr) (f : Δ → Option (Bool × Δ)) : Prop := ∃ tt, PT X e tt ∧ ST K tt f
def AX (X : Cx) (K : Lay) (es : List Expr) (f : Δ → Option (List D × Δ)) : Prop := ∃ ta, PA X es ta ∧ SDs K ta f
def ASX (X : Cx) (K : Lay) (es : List Expr) (f : Δ → Option (List P × Δ)) : Prop := ∃ ta, PA X es ta ∧ SXs K ta f
def KSX (X : Cx) (K : Lay) (es : List Keyword) (f : Δ → Option (List P × Δ)) : Prop := ∃ ta, PK X es ta ∧ SXs K ta f
def BX (X : Cx) (K : Lay) (s : Stmt) (m : Δ → Option Out) : Prop := ∃ t, PS X s t ∧ SS K t m
def BXs (X : Cx) (K : Lay) (s : List Stmt) (m : Δ → Option Out) : Prop := ∃ t, PSs X s t ∧ SS K t m
section
variable {X : Cx} {K : Lay} {k : Nat}
theorem DX.of {e : Expr} {f : Δ → Option (P × Δ)} (h : EX X K e f) : DX X K e (eF f) := let ⟨t, p, s⟩ := h; ⟨t, p, sd_of s⟩
theorem EX.of {e : Expr} {f : Δ → Option (D × Δ)} (h : DX X K e f) : EX X K e (eP f) := let ⟨t, p, s⟩ := h; ⟨t, p, sx_of s⟩
/-! ### names and constants -/
theorem x_var (i : Nat) {x : Str} {pos : Pos} (hN : X.N[i]? = some x := by rfl) (hv : Vis X.env.scope x := by first | exact Or.inl rfl | exact Or.inr (Or.inl rfl) | exact Or.inr (Or.inr rfl)) (hd : (x == ("__debug__" : Str)) = false := by decide)
    (hcd : (x == ("__classdict__" : Str)) = false := by decide) : EX X K (.Name x pos) (eVar i) := ⟨_, pe_var hN hv hd hcd, sx_var⟩
theorem d_int {i : Int} {j : Nat} {pos : Pos} : DX X K (.Constant (.int i) j pos) (eC (.int i)) := ⟨_, pe_int, sd_int⟩
theorem d_str {i : Str} {j : Nat} {pos : Pos} : DX X K (.Constant (.str i) j pos) (eC (.str i)) := ⟨_, pe_str, sd_str⟩
theorem d_bl {i : Bool} {j : Nat} {pos : Pos} : DX X K (.Constant (.bool i) j pos) (eC (.bool i)) := ⟨_, pe_bl, sd_bl⟩
theorem d_non {j : Nat} {pos : Pos} : DX X K (.Constant .none j pos) (eC .none) := ⟨_, pe_non, sd_non⟩
/-! ### argument lists -/
theorem a_nil : AX X K [] eNil := ⟨_, pa_nil, sds_nil⟩
theorem a_cons {e : Expr} {es : List Expr} {f : Δ → Option (D × Δ)} {g : Δ → Option (List D × Δ)} (h : DX X K e f) (hs : AX X K es g) (hst : starEach (e :: es) X.env = (false, eval e X.env) :: starEach es X.env := by rfl) : AX X K (e :: es) (eCons f g) :=
  let ⟨_, p, s⟩ := h; let ⟨_, ps, ss⟩ := hs; ⟨_, pa_cons p ps hst, sds_cons s ss⟩
theorem as_nil : ASX X K [] aNil := ⟨_, pa_nil, sxs_nil⟩
theorem as_cons {e : Expr} {es : List Expr} {f : Δ → Option (P × Δ)} {g : Δ → Option (List P × Δ)} (h : EX X K e f) (hs : ASX X K es g) (hst : starEach (e :: es) X.env = (false, eval e X.env) :: starEach es X.env := by rfl) : ASX X K (e :: es) (aCons f g) :=
  let ⟨_, p, s⟩ := h; let ⟨_, ps, ss⟩ := hs; ⟨_, pa_cons p ps hst, sxs_cons s ss⟩
theorem ks_nil : KSX X K [] aNil := ⟨_, pk_nil, sxs_nil⟩
theorem ks_cons {nm : Option Str} {e : Expr} {kpos : Pos} {es : List Keyword} {f : Δ → Option (P × Δ)} {g : Δ → Option (List P × Δ)} (h : EX X K e f) (hs : KSX X K es g) : KSX X K (⟨nm, e, kpos⟩ :: es) (aCons f g) :=
  let ⟨_, p, s⟩ := h; let ⟨_, ps, ss⟩ := hs; ⟨_, pk_cons p ps, sxs_cons s ss⟩
/-! ### operators -/
/-- an operator that reads its operands -/
def OpS (X : Cx) (K : Lay) (f : Value → Value → Sem Value) (g : D → D → Option D) : Prop := ∃ r, OpR X f r ∧ ScR K r g
/-- an operator of frozen operands -/
def OpF (X : Cx) (K : Lay) (f : Value → Value → Sem Value) (g : D → D → Option O) : Prop := ∃ r, OpR X f r ∧ FdR K r g
theorem d_bin {op : Operator} {a b : Expr} {pos : Pos} {g : D → D → Option D} {f h : Δ → Option (P × Δ)} (ho : OpS X K (binaryOp op) g) (ha : EX X K a f) (hb : EX X K b h) : DX X K (.BinOp a op b pos) (eOp g f h) :=
  let ⟨_, o, so⟩ := ho; let ⟨_, p, s⟩ := ha; let ⟨_, q, t⟩ := hb; ⟨_, pe_op o p q, sd_op so s t⟩
theorem x_bin {op : Operator} {a b : Expr} {pos : Pos} {g : D → D → Option O} {f h : Δ → Option (D × Δ)} (ho : OpF X K (binaryOp op) g) (ha : DX X K a f) (hb : DX X K b h) : EX X K (.BinOp a op b pos) (eOpF g f h) :=
  let ⟨_, o, so⟩ := ho; let ⟨_, p, s⟩ := ha; let ⟨_, q, t⟩ := hb; ⟨_, pe_op o p q, sx_opF so s t⟩
theorem d_cmp {op : CmpOp} {a b : Expr} {pos : Pos} {g : D → D → Option D} {f h : Δ → Option (P × Δ)} (ho : OpS X K (compareOp op) g) (ha : EX X K a f) (hb : EX X K b h) (hm : behindInMarks op b = false := by first | exact nomark _ | rfl) : DX X K (.Compare a [op] [b] pos) (eOp g f h) :=
  let ⟨_, o, so⟩ := ho; let ⟨_, p, s⟩ := ha; let ⟨_, q, t⟩ := hb; ⟨_, pe_cmpR o p q hm, sd_op so s t⟩
theorem t_cmp {op : CmpOp} {a b : Expr} {pos : Pos} {g : D → D → Option D} {f h : Δ → Option (P × Δ)} (ho : OpS X K (compareOp op) g) (ha : EX X K a f) (hb : EX X K b h) (hm : behindInMarks op b = false := by first | exact nomark _ | rfl) : TX X K (.Compare a [op] [b] pos) (eT (eOp g f h)) :=
  let ⟨_, o, so⟩ := ho; let ⟨_, p, s⟩ := ha; let ⟨_, q, t⟩ := hb; ⟨_, pt_cmpR o p q hm, st_testOf (sd_op so s t)⟩
/-! whole numbers -/
def intO (g : Int → Int → Option D) : D → D → Option D
  | .int i, .int j => g i j
  | _, _ => none
theorem intO_eq {g : Int → Int → Option D} {d e z : D} (h : intO g d e = some z) : ∃ i j, d = .int i ∧ e = .int j ∧ g i j = some z := by
  unfold intO at h
  split at h
  · exact ⟨_, _, rfl, rfl, h⟩
  · cases h
theorem sc_I {C : Int → Int → Prop} {r : Int → Int → V} {g : Int → Int → Option D} (h : ∀ i j z, g i j = some z → C i j ∧ sv z = some (r i j)) : ScR K (rI C r) (intO g) := fun H x y d e z hx hy hg => by
  obtain ⟨i, j, rfl, rfl, hz⟩ := intO_eq hg
  obtain ⟨c, s⟩ := h i j z hz
  exact ⟨_, s, fun Q q => ⟨i, j, dp_int hx, dp_int hy, c, q⟩⟩
theorem sc_I0 {r : Int → Int → V} {g : Int → Int → Option D} (h : ∀ i j z, g i j = some z → sv z = some (r i j)) : ScR K (rI0 r) (intO g) := fun H x y d e z hx hy hg => by
  obtain ⟨i, j, rfl, rfl, hz⟩ := intO_eq hg
  exact ⟨_, h i j z hz, fun Q q => ⟨i, j, dp_int hx, dp_int hy, q⟩⟩
def subI : D → D → Option D := intO fun i j => some (.int (i - j))
def in64 (i : Int) : Bool := decide (-(2 ^ 64) < i) && decide (i < 2 ^ 64)
def mulI : D → D → Option D := intO fun i j => if in64 i || in64 j then some (.int (i * j)) else none
def fdvI : D → D → Option D := intO fun i j => if j ≠ 0 ∧ j.natAbs < 1073741824 then some (.int (i.fdiv j)) else none
def modI : D → D → Option D := intO fun i j => if j ≠ 0 then some (.int (i.fmod j)) else none
def powI : D → D → Option D := intO fun i j => if 0 ≤ j ∧ j ≤ 1000000 ∧ i.natAbs < 2 ^ 64 then some (.int (i ^ j.toNat)) else none
def ltI : D → D → Option D := intO fun i j => some (.bool (decide (i < j)))
def leI : D → D → Option D := intO fun i j => some (.bool (decide (i ≤ j)))
def gtI : D → D → Option D := intO fun i j => some (.bool (decide (j < i)))
def geI : D → D → Option D := intO fun i j => some (.bool (decide (j ≤ i)))
theorem in64_iff {i : Int} (h : in64 i = true) : -(2 ^ 64) < i ∧ i < 2 ^ 64 := by
  unfold in64 at h
  rw [Bool.and_eq_true, decide_eq_true_eq, decide_eq_true_eq] at h
  exact h
theorem o_subI : OpS X K (binaryOp .Sub) subI := ⟨_, op_sub, sc_I0 fun i j z e => by cases e; rfl⟩
theorem o_mulI : OpS X K (binaryOp .Mult) mulI := ⟨_, op_mul, sc_I fun i j z e => by
  split at e
  · rename_i h
    cases e
    exact ⟨(Bool.or_eq_true _ _ ▸ h).imp in64_iff in64_iff, rfl⟩
  · cases e⟩
theorem o_fdvI : OpS X K (binaryOp .FloorDiv) fdvI := ⟨_, op_fdivN, sc_I fun i j z e => by
  split at e
  · rename_i h; cases e; exact ⟨h, rfl⟩
  · cases e⟩
theorem o_modI : OpS X K (binaryOp .Mod) modI := ⟨_, op_modN, sc_I fun i j z e => by
  split at e
  · rename_i h; cases e; exact ⟨h, rfl⟩
  · cases e⟩
theorem o_powI : OpS X K (binaryOp .Pow) powI := ⟨_, op_pow, sc_I fun i j z e => by
  split at e
  · rename_i h; cases e; exact ⟨h, rfl⟩
  · cases e⟩
theorem o_ltI : OpS X K (compareOp .Lt) ltI := ⟨_, op_lt, sc_I0 fun i j z e => by cases e; rfl⟩
theorem o_leI : OpS X K (compareOp .LtE) leI := ⟨_, op_le, sc_I0 fun i j z e => by cases e; rfl⟩
theorem o_gtI : OpS X K (compareOp .Gt) gtI := ⟨_, op_gt, sc_I0 fun i j z e => by cases e; rfl⟩
theorem o_geI : OpS X K (compareOp .GtE) geI := ⟨_, op_ge, sc_I0 fun i j z e => by cases e; rfl⟩
/-! equality, membership -/
def eqD (d e : D) : Option D := if SeqAt.shaped d = true ∧ SeqAt.shaped e = true then some (.bool (PyData.eqv d e)) else none
def neD (d e : D) : Option D := if SeqAt.shaped d = true ∧ SeqAt.shaped e = true then some (.bool (!PyData.eqv d e)) else none
theorem o_eqD (F : Fits X K k) : OpS X K (compareOp .Eq) eqD := ⟨rEqD X.K, op_eqD F.can.room.units, fun H x y d e z hx hy hg => by
  unfold eqD at hg
  split at hg
  · rename_i h; cases hg
    rw [F.K]
    exact ⟨_, rfl, fun Q q => ⟨d, e, hx, hy, h.1, h.2, q⟩⟩
  · cases hg⟩
theorem o_neD (F : Fits X K k) : OpS X K (compareOp .NotEq) neD := ⟨rNeD X.K, op_neD F.can.room.units, fun H x y d e z hx hy hg => by
  unfold neD at hg
  split at hg
  · rename_i h; cases hg
    rw [F.K]
    exact ⟨_, rfl, fun Q q => ⟨d, e, hx, hy, h.1, h.2, q⟩⟩
  · cases hg⟩
theorem room65 (F : Fits X K k) : X.A.units + 65 < cLine := by have := F.can.room.un; omega
end
end Vo
end
section
set_option Elab.async false
set_option linter.all false
set_option maxRecDepth 100000
set_option maxHeartbeats 1000000
/-! Membership, sums of sequences, built-ins, over values. -/
namespace Vp
open PySem PySem.Spec PyProof.Rows L2 Vi Vf Vo
section
variable {X : Cx} {K : Lay} {k : Nat} {F H : Hp}
/-! ### in, not in -/
def rInA (K : PySem.W.Frag) (neg : Bool) : R2 := fun x y H Q => ∃ d e ds, Dp K H x d ∧ Dp K H y e ∧ (e = .list ds ∨ e = .tuple ds) ∧ SeqAt.shaped d = true ∧ SeqAt.shaped e = true ∧ Q (.bl (if neg then !(ds.any fun z => PyData.eqv z d) else ds.any fun z => PyData.eqv z d)) H
theorem op_inA (hu : X.A.units + 65 < cLine) : OpR X (compareOp .In) (rInA X.K false) := fun pins s σ H x y v u Q I rx ry h => by
  obtain ⟨d, e, ds, hd, he, hc, sd, se, q⟩ := h
  obtain ⟨as, r1⟩ := Dp.reads I d x v hd rx
  obtain ⟨bs, r2⟩ := Dp.reads I e y u he ry
  rcases hc with rfl | rfl
  · exact SeqAt.in_list_reads r2 r1 (SeqAt.canLay_of_shaped se) (SeqAt.canLay_of_shaped sd) (room_in_shaped sd hu) ⟨.bl _, H, I, rfl, q⟩
  · exact SeqAt.in_tuple_reads r2 r1 (SeqAt.canLay_of_shaped se) (SeqAt.canLay_of_shaped sd) (room_in_shaped sd hu) ⟨.bl _, H, I, rfl, q⟩
def itemsOf : D → Option (List D)
  | .list ds => some ds
  | .tuple ds => some ds
  | _ => none
def inD (neg : Bool) (d e : D) : Option D := (itemsOf e).bind fun ds => if SeqAt.shaped d = true ∧ SeqAt.shaped e = true then some (.bool (if neg then !(ds.any fun z => PyData.eqv z d) else ds.any fun z => PyData.eqv z d)) else none
theorem sc_inA {neg : Bool} : ScR K (rInA K neg) (inD neg) := fun H x y d e z hx hy hg => by
  obtain ⟨ds, e1, e2⟩ := Option.bind_eq_some_iff.mp hg
  split at e2
  · rename_i h
    cases e2
    refine ⟨_, rfl, fun Q q => ⟨d, e, ds, hx, hy, ?_, h.1, h.2, q⟩⟩
    cases e <;> cases e1
    · exact .inl rfl
    · exact .inr rfl
  · cases e2
theorem o_inD (Z : Fits X K k) : OpS X K (compareOp .In) (inD false) := ⟨rInA X.K false, op_inA (room65 Z), by rw [Z.K]; exact sc_inA⟩
/-! ### + of sequences -/
def rCatL (K : PySem.W.Frag) : R2 := fun x y H Q => ∃ a b xs ys, x = .ref a ∧ y = .ref b ∧ SqL K H a xs ∧ SqL K H b ys ∧ xs.length + ys.length ≤ sizeLine ∧ ∀ p, H p = none → Q (.ref p) (upd H p (.lst (xs ++ ys)))
theorem op_catL : OpR X (binaryOp .Add) (rCatL X.K) := fun pins s σ H x y v u Q I rx ry h => by
  obtain ⟨a, b, xs, ys, rfl, rfl, ha, hb, hz, q⟩ := h
  cases rx; cases ry
  obtain ⟨its, r1, p1, _⟩ := I.list ha
  obtain ⟨jts, r2, p2, _⟩ := I.list hb
  obtain ⟨⟨cls, dd, data, sl⟩, n, ho, hc, hd, hs⟩ := id p1
  obtain ⟨⟨cls2, dd2, data2, sl2⟩, n2, ho2, hc2, hd2, hs2⟩ := id p2
  simp only at hc hs hc2 hs2
  subst hc hs hc2 hs2
  refine concat_meets (T := "list") ⟨_, ho, rfl⟩ ⟨_, ho2, rfl⟩ noFill_list_add seq_list_add PySem.F.slot_list_add PySem.F.entry_list_add (PySem.F.args_list_add_2 _ _) (list_addW a b its.toArray jts.toArray n n2 dd dd2 sl sl2 ?_) ⟨ho, ho2, ?_⟩
  · rw [List.size_toArray, List.size_toArray, ← r1.length, ← r2.length]; exact hz
  · have ea : its.toArray ++ jts.toArray = (its ++ jts).toArray := by simp
    rw [ea]
    exact ⟨.ref _, _, I.lnew (t' := s.toks) (r1.append r2) (by rw [List.length_append]; exact hz), rfl, q _ I.fresh⟩
def addO : D → D → Option O
  | .int i, .int j => some (.fz (.int (i + j)))
  | .str i, .str j => if i.length + j.length ≤ sizeLine then some (.fz (.str (i ++ j))) else none
  | .list xs, .list ys => if xs.length + ys.length ≤ sizeLine then some (.ow (xs ++ ys)) else none
  | .tuple xs, .tuple ys => if xs.length + ys.length ≤ sizeLine then some (.fz (.tuple (xs ++ ys))) else none
  | _, _ => none
def rAddS : R2 := fun x y H Q => ∃ i j, x = .str i ∧ y = .str j ∧ i.length + j.length ≤ sizeLine ∧ Q (.str (i ++ j)) H
def rAddU (K : PySem.W.Frag) : R2 := fun x y H Q => rI0 (fun i j => .int (i + j)) x y H Q ∨ rAddS x y H Q ∨ rCatL K x y H Q ∨ rCatA K x y H Q
theorem fd_add : FdR K (rAddU K) addO := fun F H x y d e o kp hx hy hg Q gv => by
  unfold addO at hg
  split at hg
  · cases hg
    exact .inl ⟨_, _, dp_int hx, dp_int hy, gv.sc kp rfl⟩
  · split at hg
    · rename_i h; cases hg
      exact .inr (.inl ⟨_, _, dp_str hx, dp_str hy, h, gv.sc kp rfl⟩)
    · cases hg
  · split at hg
    · rename_i xs ys h; cases hg
      obtain ⟨p, vs, rfl, s1, a1⟩ := dp_list hx
      obtain ⟨q, ws, rfl, s2, a2⟩ := dp_list hy
      exact .inr (.inr (.inl ⟨p, q, vs, ws, rfl, rfl, kp.sqL s1, kp.sqL s2, by rw [dpa_len a1, dpa_len a2]; exact h, fun l hl => gv.lst kp (dpa_app a1 a2) hl⟩))
    · cases hg
  · split at hg
    · rename_i xs ys h; cases hg
      obtain ⟨p, vs, rfl, s1, a1⟩ := dp_tuple hx
      obtain ⟨q, ws, rfl, s2, a2⟩ := dp_tuple hy
      refine .inr (.inr (.inr ⟨p, q, vs, ws, rfl, rfl, kp.sqT s1, kp.sqT s2, by rw [dpa_len a1, dpa_len a2]; exact h, fun e1 => ?_, fun _ e2 => ?_, fun _ _ l hl => gv.tup kp (dpa_app a1 a2) hl⟩))
      · subst e1
        cases a1
        exact gv.fz kp hy
      · subst e2
        cases a2
        exact gv.fz kp (by rw [List.append_nil]; exact hx)
    · cases hg
  · cases hg
theorem o_add (Z : Fits X K k) : OpF X K (binaryOp .Add) addO := ⟨rAddU X.K, OpR.or op_add (OpR.or op_add_str (OpR.or op_catL op_catA)), by rw [Z.K]; exact fd_add⟩
/-! ### a new list, times a number -/
def repP (p : P) (d : D) : Option O := match p, d with
  | .tm (.ow ds), .int i => if -(2 ^ 63) ≤ i ∧ i < 2 ^ 63 ∧ ds.length * i.toNat ≤ sizeLine then some (.ow (List.replicate i.toNat ds).flatten) else none
  | _, _ => none
def eRep (f : Δ → Option (P × Δ)) (g : Δ → Option (D × Δ)) : Δ → Option (P × Δ) := fun δ => (f δ).bind fun r => (g r.2).bind fun s => (repP r.1 s.1).map fun o => (.tm o, s.2)
/-! ### calls of built-ins -/
/-- a built-in that reads its one argument -/
theorem d_call1 {x id : Str} {e : Expr} {p pos : Pos} {r : List V → Hp → VK → Prop} {g : D → Option D} {f : Δ → Option (P × Δ)} {i : String} (hc : CallR X (.builtin i) r) (hr : CrR K r g) (he : EX X K e f) (hm : X.mg x = none) (hg : Gl X x := by rfl) (hv : bootBuiltins x = some (.builtin i) := by rfl)
    (hn : x ≠ "__name__" := by decide) (hdb : (x == ("__debug__" : Str)) = false := by decide) (hst : starEach [e] X.env = (false, eval e X.env) :: starEach [] X.env := by rfl) (hpl : (backTo pos (starEach [] X.env)).any (·.1) = false := by rfl) : DX X K (.Call (.Name x p) [e] [] pos) (eCall1 g f) :=
  let ⟨_, q, s⟩ := he; ⟨_, pe_callB hc hg hm hv (pa_cons q pa_nil hst) hn hdb hst hpl, sd_call1 hr s⟩
theorem d_callT1 {x : Str} {e : Expr} {p pos : Pos} {r : List V → Hp → VK → Prop} {g : D → Option D} {f : Δ → Option (P × Δ)} {i : String} (hc : CallR X (.type i) r) (hr : CrR K r g) (he : EX X K e f) (hm : X.mg x = none) (hg : Gl X x := by rfl) (hv : bootBuiltins x = some (.type i) := by rfl)
    (hn : x ≠ "__name__" := by decide) (hdb : (x == ("__debug__" : Str)) = false := by decide) (hst : starEach [e] X.env = (false, eval e X.env) :: starEach [] X.env := by rfl) (hpl : (backTo pos (starEach [] X.env)).any (·.1) = false := by rfl) : DX X K (.Call (.Name x p) [e] [] pos) (eCall1 g f) :=
  let ⟨_, q, s⟩ := he; ⟨_, pe_callTy hc hg hm hv (pa_cons q pa_nil hst) hn hdb hst hpl, sd_call1 hr s⟩
/-- a built-in of frozen arguments -/
theorem x_call {x : Str} {e : Expr} {es : List Expr} {p pos : Pos} {r : List V → Hp → VK → Prop} {g : List D → Option O} {f : Δ → Option (List D × Δ)} {i : String} (hc : CallR X (.builtin i) r) (hr : CdR K r g) (he : AX X K (e :: es) f) (hm : X.mg x = none) (hg : Gl X x := by rfl) (hv : bootBuiltins x = some (.builtin i) := by rfl)
    (hn : x ≠ "__name__" := by decide) (hdb : (x == ("__debug__" : Str)) = false := by decide) (hst : starEach (e :: es) X.env = (false, eval e X.env) :: starEach es X.env := by rfl) (hpl : (backTo pos (starEach es X.env)).any (·.1) = false := by rfl) : EX X K (.Call (.Name x p) (e :: es) [] pos) (eCall g f) :=
  let ⟨_, q, s⟩ := he; ⟨_, pe_callB hc hg hm hv q hn hdb hst hpl, sx_call hr s⟩
theorem x_callT {x : Str} {e : Expr} {es : List Expr} {p pos : Pos} {r : List V → Hp → VK → Prop} {g : List D → Option O} {f : Δ → Option (List D × Δ)} {i : String} (hc : CallR X (.type i) r) (hr : CdR K r g) (he : AX X K (e :: es) f) (hm : X.mg x = none) (hg : Gl X x := by rfl) (hv : bootBuiltins x = some (.type i) := by rfl)
    (hn : x ≠ "__name__" := by decide) (hdb : (x == ("__debug__" : Str)) = false := by decide) (hst : starEach (e :: es) X.env = (false, eval e X.env) :: starEach es X.env := by rfl) (hpl : (backTo pos (starEach es X.env)).any (·.1) = false := by rfl) : EX X K (.Call (.Name x p) (e :: es) [] pos) (eCall g f) :=
  let ⟨_, q, s⟩ := he; ⟨_, pe_callTy hc hg hm hv q hn hdb hst hpl, sx_call hr s⟩
/-! len -/
def rLen (K : PySem.W.Frag) : List V → Hp → VK → Prop := fun xs H Q => ∃ x n, xs = [x] ∧ LenV K x H n ∧ Q (.int n) H
def lenD : D → Option D
  | .list ds => some (.int (ds.length : Nat))
  | .tuple ds => some (.int (ds.length : Nat))
  | .str s => if s.length ≤ sizeLine then some (.int (s.length : Nat)) else none
  | _ => none
theorem cr_len : CrR K (rLen K) lenD := fun H x d z hx hg => by
  unfold lenD at hg
  split at hg
  · cases hg
    obtain ⟨p, xs, rfl, s, a⟩ := dp_list hx
    exact ⟨_, rfl, fun Q q => ⟨_, _, rfl, .inl ⟨xs, s, rfl⟩, by rw [dpa_len a]; exact q⟩⟩
  · cases hg
    obtain ⟨p, xs, rfl, s, a⟩ := dp_tuple hx
    exact ⟨_, rfl, fun Q q => ⟨_, _, rfl, .inr ⟨xs, s, rfl⟩, by rw [dpa_len a]; exact q⟩⟩
  · split at hg
    · rename_i h; cases hg
      obtain rfl := dp_str hx
      exact ⟨_, rfl, fun Q q => ⟨_, _, rfl, ⟨h, rfl⟩, q⟩⟩
    · cases hg
  · cases hg
theorem d_len (Z : Fits X K k) {e : Expr} {p pos : Pos} {f : Δ → Option (P × Δ)} (he : EX X K e f) (hm : X.mg "len" = none) (hg : Gl X "len" := by rfl) (hst : starEach [e] X.env = (false, eval e X.env) :: starEach [] X.env := by rfl) (hpl : (backTo pos (starEach [] X.env)).any (·.1) = false := by rfl) :
    DX X K (.Call (.Name "len" p) [e] [] pos) (eCall1 lenD f) := d_call1 (id := "len") (r := rLen X.K) call_len (by rw [Z.K]; exact cr_len) he hm hg PySem.boot_len (by decide) (by decide) hst hpl
/-! abs, int, max, min of two -/
def absD : D → Option D
  | .int i => some (.int (if i < 0 then -i else i))
  | _ => none
def intD : D → Option D
  | .int i => some (.int i)
  | .bool b => some (.int (if b then 1 else 0))
  | _ => none
theorem cr_abs : CrR K (fun xs H Q => ∃ i, xs = [.int i] ∧ Q (.int (if i < 0 then -i else i)) H) absD := fun H x d z hx hg => by
  unfold absD at hg
  split at hg
  · cases hg
    obtain rfl := dp_int hx
    exact ⟨_, rfl, fun Q q => ⟨_, rfl, q⟩⟩
  · cases hg
theorem cr_int : CrR K (fun xs H Q => (∃ i, xs = [.int i] ∧ Q (.int i) H) ∨ ∃ k, xs = [.bl k] ∧ Q (.int (if k then 1 else 0)) H) intD := fun H x d z hx hg => by
  unfold intD at hg
  split at hg
  · cases hg
    obtain rfl := dp_int hx
    exact ⟨_, rfl, fun Q q => .inl ⟨_, rfl, q⟩⟩
  · cases hg
    obtain rfl := dp_bool hx
    exact ⟨_, rfl, fun Q q => .inr ⟨_, rfl, q⟩⟩
  · cases hg
theorem d_abs {e : Expr} {p pos : Pos} {f : Δ → Option (P × Δ)} (he : EX X K e f) (hm : X.mg "abs" = none) (hg : Gl X "abs" := by rfl) (hst : starEach [e] X.env = (false, eval e X.env) :: starEach [] X.env := by rfl) (hpl : (backTo pos (starEach [] X.env)).any (·.1) = false := by rfl) :
    DX X K (.Call (.Name "abs" p) [e] [] pos) (eCall1 absD f) := d_call1 (id := "abs") call_abs cr_abs he hm hg (by decide +kernel) (by decide) (by decide) hst hpl
theorem d_intc {e : Expr} {p pos : Pos} {f : Δ → Option (P × Δ)} (he : EX X K e f) (hm : X.mg "int" = none) (hg : Gl X "int" := by rfl) (hst : starEach [e] X.env = (false, eval e X.env) :: starEach [] X.env := by rfl) (hpl : (backTo pos (starEach [] X.env)).any (·.1) = false := by rfl) :
    DX X K (.Call (.Name "int" p) [e] [] pos) (eCall1 intD f) := d_callT1 call_int1 cr_int he hm hg (by decide +kernel) (by decide) (by decide) hst hpl
def max2D : List D → Option O
  | [.int i, .int j] => some (.fz (.int (if j > i then j else i)))
  | _ => none
theorem two_int {vs : List V} {i j : Int} (h : DpAll K F vs [.int i, .int j]) : vs = [.int i, .int j] := by
  cases h with
  | cons a b => cases b with
    | cons c d => cases d; rw [dp_int a, dp_int c]
theorem cd_max2 : CdR K (fun xs H Q => ∃ i j, xs = [.int i, .int j] ∧ Q (.int (if j > i then j else i)) H) max2D := fun F H vs ds o kp hx hg Q gv => by
  unfold max2D at hg
  split at hg
  · cases hg; exact ⟨_, _, two_int hx, gv.sc kp rfl⟩
  · cases hg
theorem x_max2 (Z : Fits X K k) {a b : Expr} {p pos : Pos} {f : Δ → Option (List D × Δ)} (he : AX X K [a, b] f) (hm : X.mg "max" = none) (hg : Gl X "max" := by rfl) (hst : starEach [a, b] X.env = (false, eval a X.env) :: starEach [b] X.env := by rfl) (hpl : (backTo pos (starEach [b] X.env)).any (·.1) = false := by rfl) :
    EX X K (.Call (.Name "max" p) [a, b] [] pos) (eCall max2D f) := x_call (call_max2 Z.calm) cd_max2 he hm hg (by decide +kernel) (by decide) (by decide) hst hpl
/-! max, min, sorted, sum of a list of whole numbers -/
def intsOf : List D → Option (List Int)
  | [] => some []
  | .int i :: r => (intsOf r).map (i :: ·)
  | _ => none
theorem intsOf_map : ∀ ns : List Int, intsOf (ns.map .int) = some ns
  | [] => rfl
  | n :: r => by show (intsOf (r.map .int)).map (n :: ·) = _; rw [intsOf_map r]; rfl
def intsD : D → Option (List Int)
  | .list ds => intsOf ds
  | _ => none
/-- a list of numbers, rising: the one that is sorted -/
def sortI (ns : List Int) : List Int := ns.mergeSort (fun a b => decide (a ≤ b))
def sortedO : List D → Option O
  | [d] => (intsD d).map fun ns => .ow ((sortI ns).map .int)
  | _ => none
end
end Vp
end
section
set_option Elab.async false
set_option linter.all false
set_option maxRecDepth 100000
set_option maxHeartbeats 3000000
/-! set(xs) of a list of whole numbers; its length; sorted. -/
namespace Vs
open PySem PySem.Spec PyProof.Rows L2 Vi Vf Vo Vp
section
variable {P : Program} {w : World} {A : Around} {E : Value → Shared → Prop} {s : Shared}
end
end Vs
end
section
set_option Elab.async false
set_option linter.all false
set_option maxRecDepth 100000
set_option maxHeartbeats 3000000
/-! repr, isinstance, list, tuple, sets, divmod: rules over values. -/
namespace Vt
open PySem PySem.Spec PyProof.Rows L2 Vi Vf Vo Vp Vs
section
variable {X : Cx} {K : Lay} {k : Nat} {F H : Hp}
/-! ### repr -/
def rRepr (K : PySem.W.Frag) : List V → Hp → VK → Prop := fun xs H Q => ∃ x d, xs = [x] ∧ Dp K H x d ∧ d.showable = true ∧ d.hasDict = false ∧ d.depth ≤ 100 ∧ d.shown.length ≤ sizeLine ∧ Q (.str d.shown) H
theorem call_repr (hr : Can X k) : CallR X (.builtin "repr") (rRepr X.K) := fun pins s σ H xs us Q I r h => by
  obtain ⟨x, d, rfl, hd, h1, h2, h3, h4, q⟩ := h
  obtain ⟨u, rfl, ru⟩ := vals1 r
  have fin : ∀ tk tk', EP X pins σ Q (.str d.shown tk') { s with toks := tk } := fun tk tk' => ⟨.str d.shown, H, I.tok tk, ⟨tk', rfl⟩, q⟩
  have heapy : ∀ a, u = .ref a → wpAny (model X.prog X.w) X.A (call (.builtin "repr") [u]) (EP X pins σ Q) X.xe s := fun a e => by
    subst e
    obtain ⟨as, rd⟩ := Dp.reads I d x _ hd ru
    refine PySem.repr_of_reads' (h₀ := s.heap) rd h1 (fun z => by rw [h2] at z; cases z) hr.gd (by have := hr.room.un; omega) (fun b o e => e) (fun h' u tk hk => ?_) h4
    exact ⟨.str d.shown, H, I.kept (t' := tk) hk, ⟨u, rfl⟩, q⟩
  cases hd with
  | non => cases ru; exact PySem.P.repr_of_none (fin _ _)
  | bl b => cases ru; exact PySem.P.repr_of_bool (fin _ _)
  | int i =>
    obtain ⟨t, rfl⟩ := ru
    exact PySem.P.repr_of_int (by simpa [PyData.showable] using h1) (fin _ _)
  | str z =>
    obtain ⟨t, rfl⟩ := ru
    exact PySem.P.repr_of_str (fin _ _) h4
  | lst s' a => cases ru; exact heapy _ rfl
  | tup s' a => cases ru; exact heapy _ rfl
def reprD (d : D) : Option D := if d.showable = true ∧ d.hasDict = false ∧ d.depth ≤ 100 ∧ d.shown.length ≤ sizeLine then some (.str d.shown) else none
theorem cr_reprD : CrR K (rRepr K) reprD := fun H x d z hx hg => by
  unfold reprD at hg
  split at hg
  · rename_i h; cases hg
    exact ⟨_, rfl, fun Q q => ⟨x, d, rfl, hx, h.1, h.2.1, h.2.2.1, h.2.2.2, q⟩⟩
  · cases hg
theorem d_repr (Z : Fits X K k) {e : Expr} {p pos : Pos} {f : Δ → Option (P × Δ)} (he : EX X K e f) (hm : X.mg "repr" = none) (hg : Gl X "repr" := by rfl) (hst : starEach [e] X.env = (false, eval e X.env) :: starEach [] X.env := by rfl) (hpl : (backTo pos (starEach [] X.env)).any (·.1) = false := by rfl) :
    DX X K (.Call (.Name "repr" p) [e] [] pos) (eCall1 reprD f) := d_call1 (id := "repr") (r := rRepr X.K) (call_repr Z.can) (by rw [Z.K]; exact cr_reprD) he hm hg (by decide +kernel) (by decide) (by decide) hst hpl
/-! ### isinstance -/
def tyName : D → String
  | .none => "NoneType"
  | .bool _ => "bool"
  | .int _ => "int"
  | .str _ => "str"
  | .list _ => "list"
  | .tuple _ => "tuple"
  | .dict _ => "dict"
theorem ty_dp {x : V} {d : D} (h : Dp K H x d) : TyX K H x (.type (tyName d)) := by
  cases h with
  | non => exact .base .non
  | bl b => exact .base (.bl b)
  | int i => exact .base (.int i)
  | str z => exact .base (.str z)
  | lst s a =>
    rcases s with (s | ⟨o, s⟩) | ⟨o, its, n, hk, hc, _⟩
    · exact .base (.lst s)
    · exact .base (.frz s)
    · exact .kList hk hc
  | tup s a =>
    rcases s with (s | ⟨o, s⟩) | ⟨o, its, n, hk, hc, _⟩
    · exact .base (.tup s)
    · exact .fTuple s
    · exact .kTuple hk hc
def isiD (T : String) (d : D) : Option D := (kitB (tyName d) T).map .bool
def eIsi (T : String) (f : Δ → Option (P × Δ)) : Δ → Option (D × Δ) := fun δ => (f δ).bind fun r => (r.1.data r.2).bind fun d => (isiD T d).map fun z => (z, r.2)
theorem sd_isi {te : TE} {f : Δ → Option (P × Δ)} {T : String} (hf : SX K te f) : SD K (tCB (rIsi K) (tCons te (tCons (tC (.ty T)) tNil))) (eIsi T f) := fun δ d δ' e σ F H rp Q kq => by
  obtain ⟨⟨p, δ1⟩, e1, e⟩ := Option.bind_eq_some_iff.mp e
  obtain ⟨dx, e2, e⟩ := Option.bind_eq_some_iff.mp e
  obtain ⟨z, e3, e4⟩ := Option.map_eq_some_iff.mp e
  obtain ⟨b, e5, rfl⟩ := Option.map_eq_some_iff.mp e3
  cases e4
  refine hf δ p δ1 e1 σ F H rp _ fun x F1 H1 a1 p1 n1 => ?_
  exact ⟨x, .ty T, _, _, b, rfl, .ty T, ty_dp (pr_dp a1.rep p1 e2), kit_ty e5, kq _ F1 H1 a1 (.bl b)⟩
theorem d_isi (Z : Fits X K k) {a : Expr} {x : Str} {T : String} {p p2 pos : Pos} {f : Δ → Option (P × Δ)} (ha : EX X K a f) (hm : X.mg "isinstance" = none) (hmT : X.mg x = none) (hv : bootBuiltins x = some (.type T) := by decide +kernel) (hg : Gl X "isinstance" := by rfl) (hgT : Gl X x := by rfl)
    (hn : x ≠ "__name__" := by decide) (hd : (x == ("__debug__" : Str)) = false := by decide) (hst : starEach [a, .Name x p2] X.env = (false, eval a X.env) :: starEach [.Name x p2] X.env := by rfl) (hst2 : starEach [.Name x p2] X.env = (false, eval (.Name x p2) X.env) :: starEach [] X.env := by rfl)
    (hpl : (backTo pos (starEach [.Name x p2] X.env)).any (·.1) = false := by rfl) : DX X K (.Call (.Name "isinstance" p) [a, .Name x p2] [] pos) (eIsi T f) := by
  obtain ⟨te, q, s⟩ := ha
  refine ⟨_, pe_callB (r := rIsi X.K) call_isi hg hm (by decide +kernel) (pa_cons q (pa_cons (pe_bltn hgT hmT hv (v := .ty T) rfl hn hd) pa_nil hst2) hst) (by decide) (by decide) hst hpl, ?_⟩
  rw [Z.K]
  exact sd_isi s
/-! ### list, tuple -/
def rTupOf (K : PySem.W.Frag) : List V → Hp → VK → Prop := fun xs H Q => ∃ p ys, xs = [.ref p] ∧ ((SqL K H p ys ∧ ∀ l, H l = none → Q (.ref l) (upd H l (.tup ys))) ∨ (SqT K H p ys ∧ Q (.ref p) H))
def listO : List D → Option O
  | [.list ds] => some (.ow ds)
  | [.tuple ds] => some (.ow ds)
  | _ => none
def tupO : List D → Option O
  | [.list ds] => some (.fz (.tuple ds))
  | [.tuple ds] => some (.fz (.tuple ds))
  | _ => none
theorem one_dp {vs : List V} {d : D} (h : DpAll K F vs [d]) : ∃ v, vs = [v] ∧ Dp K F v d := by
  cases h with
  | cons a b => cases b; exact ⟨_, rfl, a⟩
theorem cd_tup : CdR K (rTupOf K) tupO := fun F H vs ds o kp hx hg Q gv => by
  unfold tupO at hg
  split at hg
  · cases hg
    obtain ⟨v, rfl, h⟩ := one_dp hx
    obtain ⟨p, xs, rfl, s, a⟩ := dp_list h
    exact ⟨p, xs, rfl, .inl ⟨kp.sqL s, fun l hl => gv.tup kp a hl⟩⟩
  · cases hg
    obtain ⟨v, rfl, h⟩ := one_dp hx
    have h' := h
    obtain ⟨p, xs, rfl, s, a⟩ := dp_tuple h
    exact ⟨p, xs, rfl, .inr ⟨kp.sqT s, gv.fz kp h'⟩⟩
  · cases hg
theorem x_tup (Z : Fits X K k) {e : Expr} {p pos : Pos} {f : Δ → Option (List D × Δ)} (he : AX X K [e] f) (hm : X.mg "tuple" = none) (hg : Gl X "tuple" := by rfl) (hst : starEach [e] X.env = (false, eval e X.env) :: starEach [] X.env := by rfl) (hpl : (backTo pos (starEach [] X.env)).any (·.1) = false := by rfl) :
    EX X K (.Call (.Name "tuple" p) [e] [] pos) (eCall tupO f) := x_callT (r := rTupOf X.K) call_tuple_of (by rw [Z.K]; exact cd_tup) he hm hg (by decide +kernel) (by decide) (by decide) hst hpl
/-! ### list(range(n)), list(range(a, b)) -/
def rgS (i : Int) : Bool := decide (-(2 ^ 23) ≤ i) && decide (i ≤ 2 ^ 23)
def eListR1 (f : Δ → Option (D × Δ)) : Δ → Option (P × Δ) := fun δ => (f δ).bind fun r => match r.1 with
  | .int i => if rgS i = true then some (.tm (.ow (rangeD 0 i.toNat)), r.2) else none
  | _ => none
/-! ### set(xs): its length, sorted -/
def dd : List Int → List Int
  | [] => []
  | n :: r => if n ∈ r then dd r else n :: dd r
def rSetL (K : PySem.W.Frag) (w : World) : List V → Hp → VK → Prop := fun xs H Q => ∃ (l : Addr) (ns : List Int), xs = [.ref l] ∧ SqL K H l (ns.map V.int) ∧ ns.length ≤ 4000 ∧ ∀ a, H a = none → Q (.ref a) (upd H a (SetO w a (fun j => decide (j ∈ ns)) (dd ns).length))
theorem new_ext {p : Addr} {u : HO} (kp : Kp F H) (hp : H p = none) : New K F H F (upd H p u) := ⟨.rfl, kp.trans (.new hp), .new hp, fun _ z => .inl z, fun z => z.new hp⟩
def sortSetO (d : D) : Option O := (intsD d).bind fun ns => if ns.length ≤ 4000 ∧ (dd ns).length < 64 then some (.ow ((sortI (dd ns)).map .int)) else none
end
end Vt
end
section
set_option Elab.async false
set_option linter.all false
set_option maxRecDepth 100000
set_option maxHeartbeats 3000000
/-! Displays, subscripts, conditions, statements: both at once. -/
namespace Vu
open PySem PySem.Spec PyProof.Rows L2 Vi Vf Vo Vp Vs Vt
def OX (X : Cx) (K : Lay) (e : Option Expr) (g : Δ → Option (Option Int × Δ)) : Prop := ∃ t, PO X e t ∧ SO K t g
def WX (X : Cx) (K : Lay) (e : Expr) (f : Δ → Option (Bool × Δ)) : Prop := ∃ tt, PW X e tt ∧ ST K tt f
def GX (X : Cx) (K : Lay) (e : Expr) (ix : List Nat) (h : D → Δ → Option Δ) : Prop := ∃ g, PG X e g ∧ SG K g ix h
def GXs (X : Cx) (K : Lay) (es : List Expr) (ix : List Nat) (h : List D → Δ → Option Δ) : Prop := ∃ g, PGs X es g ∧ SGs K g ix h
def IX (X : Cx) (K : Lay) (tg e : Expr) (c : Δ → Option (List D × Δ)) : Prop := ∃ wi, PI X tg e wi ∧ SI K wi c
section
variable {X : Cx} {K : Lay} {k : Nat}
/-! ### expressions -/
theorem x_lst {es : List Expr} {pos : Pos} {f : Δ → Option (List D × Δ)} (h : AX X K es f) : EX X K (.List es pos) (eLst f) := let ⟨_, p, s⟩ := h; ⟨_, pe_lst p, sx_lst s⟩
theorem d_tup {es : List Expr} {j : Nat} {pos : Pos} {f : Δ → Option (List D × Δ)} (h : AX X K es f) : DX X K (.Tuple es j pos) (eTup f) := let ⟨_, p, s⟩ := h; ⟨_, pe_tup p, sd_tup s⟩
theorem d_ix (Z : Fits X K k) {a b : Expr} {pos : Pos} {f : Δ → Option (P × Δ)} {g : Δ → Option (D × Δ)} (ha : EX X K a f) (hb : DX X K b g) (hs : PlainIx b := by intro _ _; rfl) : DX X K (.Subscript a b pos) (eIx f g) := by
  obtain ⟨_, p, s⟩ := ha
  obtain ⟨_, q, t⟩ := hb
  refine ⟨_, pe_ix (r := rIx X.K) ix_seq p q hs, ?_⟩
  rw [Z.K]
  exact sd_ix s t
theorem o_no : OX X K none eNo := ⟨_, po_none, so_no⟩
theorem o_yes {e : Expr} {g : Δ → Option (D × Δ)} (h : DX X K e g) : OX X K (some e) (eYes g) := let ⟨_, p, s⟩ := h; ⟨_, po_some p, so_yes s⟩
theorem x_if {c a b : Expr} {pos : Pos} {t : Δ → Option (Bool × Δ)} {f g : Δ → Option (P × Δ)} (hc : TX X K c t) (ha : EX X K a f) (hb : EX X K b g) : EX X K (.IfExp c a b pos) (eIf t f g) :=
  let ⟨_, p, s⟩ := hc; let ⟨_, q, u⟩ := ha; let ⟨_, r, w⟩ := hb; ⟨_, pe_ifExp p q r, sx_if s u w⟩
theorem d_and {a b : Expr} {rest : List Expr} {pos : Pos} {f g : Δ → Option (D × Δ)} (ha : DX X K a f) (hb : DX X K (.BoolOp .And (b :: rest) pos) g) : DX X K (.BoolOp .And (a :: b :: rest) pos) (eAndV f g) :=
  let ⟨_, p, s⟩ := ha; let ⟨_, q, t⟩ := hb; ⟨_, pe_and p q, sd_andV s t⟩
theorem d_or {a b : Expr} {rest : List Expr} {pos : Pos} {f g : Δ → Option (D × Δ)} (ha : DX X K a f) (hb : DX X K (.BoolOp .Or (b :: rest) pos) g) : DX X K (.BoolOp .Or (a :: b :: rest) pos) (eOrV f g) :=
  let ⟨_, p, s⟩ := ha; let ⟨_, q, t⟩ := hb; ⟨_, pe_or p q, sd_orV s t⟩
theorem d_one {op : BoolOp} {a : Expr} {pos : Pos} {f : Δ → Option (D × Δ)} (ha : DX X K a f) : DX X K (.BoolOp op [a] pos) f := let ⟨_, p, s⟩ := ha; ⟨_, pe_one p, s⟩
theorem d_not {a : Expr} {pos : Pos} {f : Δ → Option (D × Δ)} (ha : DX X K a f) : DX X K (.UnaryOp .Not a pos) (eNotV f) := let ⟨_, p, s⟩ := ha; ⟨_, pe_not p, sd_notV s⟩
def negD : D → Option D
  | .int i => some (.int (-i))
  | _ => none
/-! ### conditions -/
theorem t_of {e : Expr} {f : Δ → Option (D × Δ)} (h : DX X K e f) (he : ∀ whole, isTrue e X.env whole = (do let v ← whole; standAt e.pos; holding [v] (truthy v)) := by intro _; rfl) : TX X K e (eT f) := let ⟨_, p, s⟩ := h; ⟨_, pt_val p he, st_bOf s⟩
theorem t_tru (Z : Fits X K k) {e : Expr} {f : Δ → Option (P × Δ)} (h : EX X K e f) (he : ∀ whole, isTrue e X.env whole = (do let v ← whole; standAt e.pos; holding [v] (truthy v)) := by intro _; rfl) : TX X K e (eTru f) := by
  obtain ⟨_, p, s⟩ := h
  refine ⟨_, pt_truth p he, ?_⟩
  rw [Z.K]
  exact st_tru s
theorem t_not {a : Expr} {pos : Pos} {f : Δ → Option (Bool × Δ)} (ha : TX X K a f) : TX X K (.UnaryOp .Not a pos) (eNot f) := let ⟨_, p, s⟩ := ha; ⟨_, pt_not p, st_not s⟩
theorem t_w {e : Expr} {f : Δ → Option (Bool × Δ)} (h : WX X K e f) : TX X K e f := let ⟨_, p, s⟩ := h; ⟨_, p.pt, s⟩
theorem w_and1 {a : Expr} {pos : Pos} {f : Δ → Option (Bool × Δ)} (ha : TX X K a f) : WX X K (.BoolOp .And [a] pos) f := let ⟨_, p, s⟩ := ha; ⟨_, pw_and1 p, s⟩
theorem w_or1 {a : Expr} {pos : Pos} {f : Δ → Option (Bool × Δ)} (ha : TX X K a f) : WX X K (.BoolOp .Or [a] pos) f := let ⟨_, p, s⟩ := ha; ⟨_, pw_or1 p, s⟩
theorem w_and {a b : Expr} {rest : List Expr} {pos : Pos} {f g : Δ → Option (Bool × Δ)} (ha : TX X K a f) (hb : WX X K (.BoolOp .And (b :: rest) pos) g) : WX X K (.BoolOp .And (a :: b :: rest) pos) (eAnd f g) :=
  let ⟨_, p, s⟩ := ha; let ⟨_, q, t⟩ := hb; ⟨_, pw_and p q, st_and s t⟩
theorem w_or {a b : Expr} {rest : List Expr} {pos : Pos} {f g : Δ → Option (Bool × Δ)} (ha : TX X K a f) (hb : WX X K (.BoolOp .Or (b :: rest) pos) g) : WX X K (.BoolOp .Or (a :: b :: rest) pos) (eOr f g) :=
  let ⟨_, p, s⟩ := ha; let ⟨_, q, t⟩ := hb; ⟨_, pw_or p q, st_or s t⟩
/-! ### targets, iterables -/
theorem g_name (i : Nat) {x : Str} {p : Pos} (hN : X.N.Nodup) (hi : X.N[i]? = some x := by rfl) (hx : Loc X.env.scope x := by first | exact .inl rfl | exact .inr rfl) (hf : X.fn x = true ∨ X.env.scope.names.lookup x = some .local := by first | exact .inl rfl | exact .inr rfl) : GX X K (.Name x p) [i] (hName i) :=
  ⟨_, pg_name hN hi hx hf, sg_name⟩
theorem gs_nil : GXs X K [] [] hNil := ⟨_, pgs_nil, sgs_nil⟩
theorem gs_cons {e : Expr} {es : List Expr} {ix jx : List Nat} {a : D → Δ → Option Δ} {b : List D → Δ → Option Δ} (h : GX X K e ix a) (hs : GXs X K es jx b) (hst : (assignEach (e :: es) X.env).map (·.2) = assign e X.env :: (assignEach es X.env).map (·.2) := by rfl) : GXs X K (e :: es) (ix ++ jx) (hCons a b) :=
  let ⟨_, p, s⟩ := h; let ⟨_, q, t⟩ := hs; ⟨_, pgs_cons p q hst, sgs_cons s t⟩
theorem g_tup (Z : Fits X K k) {es : List Expr} {j n : Nat} {pos : Pos} {ix : List Nat} {b : List D → Δ → Option Δ} (hs : GXs X K es ix b) (hn : (assignEach es X.env).length = n := by rfl) (hst : (assignEach es X.env).findIdx? (·.1) = none := by rfl) : GX X K (.Tuple es j pos) ix (hTup n b) := by
  obtain ⟨_, q, t⟩ := hs
  refine ⟨_, pg_tup Z.calm q hn hst, ?_⟩
  rw [Z.K]
  exact sg_tup t
theorem i_list (Z : Fits X K k) {tg e : Expr} {f : Δ → Option (D × Δ)} (h : DX X K e f) : IX X K tg e (eSeq f) := by
  obtain ⟨_, p, s⟩ := h
  refine ⟨_, pi_list p, ?_⟩
  rw [Z.K]
  exact si_list s
theorem i_rng1 {tg a : Expr} {p pos : Pos} {f : Δ → Option (List D × Δ)} (h : AX X K [a] f) (hm : X.mg "range" = none) (hg : Gl X "range" := by rfl) (hs : starEach [a] X.env = [(false, eval a X.env)] := by rfl) : IX X K tg (.Call (.Name "range" p) [a] [] pos) (eRng1 f) := let ⟨_, q, s⟩ := h; ⟨_, pi_range1 hg hm q hs, si_rng1 s⟩
/-! ### statements -/
theorem bs_nil : BXs X K [] mPass := ⟨_, pss_nil, ss_pass⟩
theorem bs_cons {s : Stmt} {r : List Stmt} {a b : Δ → Option Out} (h : BX X K s a) (hs : BXs X K r b) : BXs X K (s :: r) (mSeq a b) := let ⟨_, p, u⟩ := h; let ⟨_, q, t⟩ := hs; ⟨_, pss_cons p q, ss_seq u t⟩
def mNever : Δ → Option Out := fun _ => none
theorem b_never {s : Stmt} : BX X K s mNever := ⟨_, ps_never, fun δ out e => by cases e⟩
theorem b_expr {e : Expr} {pos : Pos} {f : Δ → Option (P × Δ)} (h : EX X K e f) (hs : swapsWith e none pos.line X.env = pure false := by rfl) : BX X K (.Expr e pos) (mDrop f) := let ⟨_, p, s⟩ := h; ⟨_, ps_expr p hs, ss_drop s⟩
theorem b_ret {e : Expr} {pos : Pos} {f : Δ → Option (P × Δ)} (h : EX X K e f) : BX X K (.Return (some e) pos) (mRet f) := let ⟨_, p, s⟩ := h; ⟨_, ps_ret p, ss_ret s⟩
theorem b_if {c : Expr} {a b : List Stmt} {pos : Pos} {t : Δ → Option (Bool × Δ)} {f g : Δ → Option Out} (hc : TX X K c t) (ha : BXs X K a f) (hb : BXs X K b g) : BX X K (.If c a b pos) (mIf t f g) :=
  let ⟨_, p, s⟩ := hc; let ⟨_, q, u⟩ := ha; let ⟨_, r, w⟩ := hb; ⟨_, ps_if p q r, ss_if s u w⟩
theorem b_asg (i : Nat) {x : Str} {p pos : Pos} {e : Expr} {f : Δ → Option (P × Δ)} (hN : X.N.Nodup) (h : EX X K e f) (hi : X.N[i]? = some x := by rfl) (hx : Loc X.env.scope x := by first | exact .inl rfl | exact .inr rfl) (hf : X.fn x = true ∨ X.env.scope.names.lookup x = some .local := by first | exact .inl rfl | exact .inr rfl)
    (hs : swapsWithSole [.Name x p] e pos.line X.env = pure false := by rfl) (hw : swappedStores [.Name x p] e X.env = pure none := by rfl) (h1 : (assignEach [.Name x p] X.env).map (·.2) = [assign (.Name x p) X.env] := by rfl) : BX X K (.Assign [.Name x p] e pos) (mAsg i f) :=
  let ⟨_, q, s⟩ := h; ⟨_, ps_asg q (pg_name hN hi hx hf) hs hw h1, ss_asg s⟩
theorem b_for (Z : Fits X K k) {tg iter : Expr} {body : List Stmt} {pos : Pos} {ix : List Nat} {c : Δ → Option (List D × Δ)} {h : D → Δ → Option Δ} {b : Δ → Option Out} (hp : PassesOwn (model X.prog X.w) X.A X.env X.xe) (hi : IX X K tg iter c) (hg : GX X K tg ix h) (hb : BXs X K body b)
    (hs : ∀ x, foldedSetIterable iter X.env x = pure x := by intro _; rfl) : BX X K (.For tg iter body [] pos) (mFor c h b) := let ⟨_, p, s⟩ := hi; let ⟨_, q, t⟩ := hg; let ⟨_, r, u⟩ := hb; ⟨_, ps_for hp Z.calm p q r hs, ss_for s t u⟩
theorem b_while {c : Expr} {body : List Stmt} {pos : Pos} {t : Δ → Option (Bool × Δ)} {b : Δ → Option Out} (fuel : Nat) (hp : PassesOwn (model X.prog X.w) X.A X.env X.xe) (hc : TX X K c t) (hb : BXs X K body b) : BX X K (.While c body [] pos) (mWhile t b fuel) :=
  let ⟨_, p, s⟩ := hc; let ⟨_, r, u⟩ := hb; ⟨_, ps_while hp p r, ss_while s u fuel⟩
def augI (g : Int → Int → Int) : D → D → Option D
  | .int i, .int j => some (.int (g i j))
  | _, _ => none
theorem au_ip {g : Int → Int → Int} : AuR K (ipI g) (augI g) := fun H x y d e z hx hy hg => by
  unfold augI at hg
  split at hg
  · cases hg
    exact ⟨_, rfl, fun Q q => ⟨_, _, dp_int hx, dp_int hy, q⟩⟩
  · cases hg
theorem b_augI (i : Nat) {x : Str} {e : Expr} {op : Operator} {g : Int → Int → Int} {pos pos' : Pos} {f : Δ → Option (D × Δ)} (ho : PIp X op (ipI g)) (hN : X.N.Nodup) (he : DX X K e f) (hi : X.N[i]? = some x := by rfl) (hx : Loc X.env.scope x := by first | exact .inl rfl | exact .inr rfl)
    (hf : X.fn x = true ∨ X.env.scope.names.lookup x = some .local := by first | exact .inl rfl | exact .inr rfl) : BX X K (.AugAssign (.Name x pos') op e pos) (mAug i (augI g) f) := let ⟨_, p, s⟩ := he; ⟨_, ps_aug hN hi hx p ho hf, ss_aug au_ip s⟩
end
end Vu
end
section
set_option Elab.async false
set_option linter.all false
set_option maxRecDepth 100000
set_option maxHeartbeats 3000000
/-! What changes an own list: methods, stores, several names at once. -/
namespace Vv
open PySem PySem.Spec PyProof.Rows L2 Vi Vf Vo Vp Vs Vt Vu
section
variable {X : Cx} {K : Lay} {k : Nat} {F H F' H' F0 H0 : Hp} {σ σ' : L2.St} {δ δ' δ0 : Δ} {o : O}
/-- the items of an own list in slot i -/
def ownAt (δ : Δ) (i : Nat) : Option (List D) := match δ[i]? with
  | some (some (.ow ds)) => some ds
  | some (some (.ln ds)) => some ds
  | _ => none
def setOwn (δ : Δ) (i : Nat) (es : List D) : Δ := match δ[i]? with
  | some (some (.ln _)) => δ.set i (some (.ln es))
  | _ => δ.set i (some (.ow es))
theorem ownAt_eq {i : Nat} {ds : List D} (h : ownAt δ i = some ds) : ∃ o, δ[i]? = some (some o) ∧ (o = .ow ds ∨ o = .ln ds) ∧ ∀ es, setOwn δ i es = δ.set i (some (sameC o es)) := by
  unfold ownAt at h
  split at h
  · rename_i e; cases h; exact ⟨_, e, .inl rfl, fun es => by unfold setOwn; rw [e]; rfl⟩
  · rename_i e; cases h; exact ⟨_, e, .inr rfl, fun es => by unfold setOwn; rw [e]; rfl⟩
  · cases h
theorem own_ref (r : Rep K F H σ δ) {i : Nat} {ds : List D} (h1 : δ[i]? = some (some o)) (h2 : o = .ow ds ∨ o = .ln ds) : ∃ p xs, σ[i]? = some (some (.ref p)) ∧ H p = some (.lst xs) ∧ F p = none ∧ DpAll K F xs ds ∧ o.fp H (.ref p) = [p] := by
  obtain ⟨v, q1, q2, _⟩ := r.ok i o h1
  rcases h2 with rfl | rfl
  · obtain ⟨p, rfl, xs, e1, e2, e3⟩ := q2; exact ⟨p, xs, q1, e1, e2, e3, rfl⟩
  · obtain ⟨p, rfl, xs, e1, e2, e3⟩ := q2; exact ⟨p, xs, q1, e1, e2, e3, rfl⟩
theorem sameC_fp {p : Addr} {es : List D} : (sameC o es).fp H (.ref p) = [p] := by cases o <;> rfl
/-- an own list changes -/
theorem rep_mut (r : Rep K F H σ δ) {i : Nat} {p : Addr} {ys : List V} {ds es : List D} (h1 : δ[i]? = some (some o)) (h2 : o = .ow ds ∨ o = .ln ds) (hσ : σ[i]? = some (some (.ref p))) (d : DpAll K F ys es) :
    Rep K F (upd H p (.lst ys)) σ (δ.set i (some (sameC o es))) ∧ Go F H σ δ F (upd H p (.lst ys)) σ (δ.set i (some (sameC o es))) := by
  obtain ⟨p', xs, q1, q2, q3, q4, q5⟩ := own_ref r h1 h2
  rw [hσ] at q1; cases q1
  have ip : Own H σ δ i p := ⟨_, o, hσ, h1, by rw [q5]; exact List.mem_cons_self⟩
  have hlt : i < δ.length := (List.getElem?_eq_some_iff.mp h1).1
  have same : ∀ (j : Nat) (w : V) (u : O), j ≠ i → σ[j]? = some (some w) → δ[j]? = some (some u) → ∀ a ∈ u.fp H w, (upd H p (.lst ys)) a = H a := fun j w u hj e1 e2 a ha => upd_ne fun z => by
    subst z
    exact hj (r.ap j i a ⟨w, u, e1, e2, ha⟩ ip)
  have own_of : ∀ j a, Own (upd H p (.lst ys)) σ (δ.set i (some (sameC o es))) j a → Own H σ δ j a := fun j a ⟨w, u, e1, e2, e3⟩ => by
    by_cases hj : i = j
    · subst hj
      rw [hσ] at e1; cases e1
      rw [List.getElem?_set_self hlt] at e2; cases e2
      rw [sameC_fp] at e3
      rw [List.mem_singleton.mp e3]
      exact ip
    · rw [set_get_ne hj] at e2
      obtain ⟨w', z1, z2, _⟩ := r.ok j u e2
      rw [e1] at z1; cases z1
      rw [fp_frame z2 (same j w u (fun z => hj z.symm) e1 e2)] at e3
      exact ⟨w, u, e1, e2, e3⟩
  refine ⟨⟨fun a x e => ?_, by rw [List.length_set]; exact r.len, fun j u hj => ?_, fun j l a hj hl => r.ap j l a (own_of j a hj) (own_of l a hl), r.tb, r.nm.over q2⟩, ⟨.rfl, fun a x e n => ⟨x, ?_, .rfl⟩, fun a z => .inl z, fun a ⟨j, hj⟩ => .inl ⟨j, own_of j a hj⟩, fun a z => ?_, fun j ds' hj => ⟨rfl, ?_⟩⟩⟩
  · rw [upd_ne (show a ≠ p by intro z; subst z; rw [q3] at e; cases e)]; exact r.kp a x e
  · by_cases hij : i = j
    · subst hij
      rw [List.getElem?_set_self hlt] at hj; cases hj
      refine ⟨_, hσ, ?_, by rw [sameC_fp]; simp⟩
      have : OwL K F (upd H p (.lst ys)) p es := ⟨ys, upd_same, q3, d⟩
      rcases h2 with rfl | rfl
      · exact ⟨p, rfl, this⟩
      · exact ⟨p, rfl, this⟩
    · rw [set_get_ne hij] at hj
      obtain ⟨w, e1, e2, e3⟩ := r.ok j u hj
      have s := same j w u (fun z => hij z.symm) e1 hj
      exact ⟨w, e1, ok_frame .rfl e2 fun a ha => ⟨s a ha, (ok_fp e2 a ha).2⟩, by rw [fp_frame e2 s]; exact e3⟩
  · rw [upd_ne fun z => n (by subst z; exact ⟨i, ip⟩)]; exact e
  · by_cases h : a = p
    · subst h; rw [upd_same]; simp
    · rw [upd_ne h]; exact z
  · by_cases hij : i = j
    · subst hij
      rw [h1] at hj; cases hj
      rcases h2 with h2 | h2
      · cases h2
      · exact ⟨es, List.getElem?_set_self hlt⟩
    · exact ⟨ds', by rw [set_get_ne hij]; exact hj⟩
theorem mut_aft (a : Aft K F0 H0 σ δ0 F H δ) {i : Nat} {p : Addr} {ys : List V} {ds es : List D} (h1 : δ[i]? = some (some o)) (h2 : o = .ow ds ∨ o = .ln ds) (hσ : σ[i]? = some (some (.ref p))) (d : DpAll K F ys es) : Aft K F0 H0 σ δ0 F (upd H p (.lst ys)) (δ.set i (some (sameC o es))) := by
  obtain ⟨r, g⟩ := rep_mut a.rep h1 h2 hσ d
  have hlt : i < δ.length := (List.getElem?_eq_some_iff.mp h1).1
  refine ⟨r, a.go.trans g, fun j x h => ?_, fun j fs h => ?_⟩
  · obtain ⟨x', e⟩ := a.un j x h
    by_cases hij : i = j
    · subst hij; exact ⟨_, List.getElem?_set_self hlt⟩
    · exact ⟨x', by rw [set_get_ne hij]; exact e⟩
  · by_cases hij : i = j
    · subst hij
      rw [List.getElem?_set_self hlt] at h
      rcases h2 with rfl | rfl
      · cases h
      · exact a.nl i ds h1
    · rw [set_get_ne hij] at h
      exact a.nl j fs h
/-- a method of a list that changes it: what it does to the items, what it gives -/
def MuR (K : Lay) (r : V → List V → Hp → VK → Prop) (m : List D → List D → Option (D × List D)) : Prop := ∀ F H p xs ds vs as z es, H p = some (.lst xs) → DpAll K F xs ds → DpAll K F vs as → m ds as = some (z, es) → ∃ ys w, DpAll K F ys es ∧ Dp K F w z ∧ ∀ Q : VK, Q w (upd H p (.lst ys)) → r (.ref p) vs H Q
def eMeth (i : Nat) (m : List D → List D → Option (D × List D)) (g : Δ → Option (List D × Δ)) : Δ → Option (D × Δ) := fun δ => (ownAt δ i).bind fun _ => (g δ).bind fun r => (ownAt r.2 i).bind fun ds => (m ds r.1).map fun z => (z.1, setOwn r.2 i z.2)
theorem sd_meth {r : V → List V → Hp → VK → Prop} {m : List D → List D → Option (D × List D)} {ta : TA} {g : Δ → Option (List D × Δ)} {i : Nat} (hr : MuR K r m) (hg : SDs K ta g) : SD K (tBM K "list" r (tVar i) ta) (eMeth i m g) := fun δ d δ' e σ F H rp Q kq => by
  obtain ⟨ds0, e0, e⟩ := Option.bind_eq_some_iff.mp e
  obtain ⟨⟨as, δ1⟩, e1, e⟩ := Option.bind_eq_some_iff.mp e
  obtain ⟨ds, e2, e⟩ := Option.bind_eq_some_iff.mp e
  obtain ⟨⟨z, es⟩, e3, e4⟩ := Option.map_eq_some_iff.mp e
  cases e4
  obtain ⟨o0, h1, h2, _⟩ := ownAt_eq e0
  obtain ⟨p, xs, q1, q2, q3, q4, _⟩ := own_ref rp h1 h2
  refine ⟨.ref p, q1, .inl ⟨rfl, xs, SqL.of q2⟩, ?_⟩
  refine hg δ as δ1 e1 σ F H rp _ fun vs F1 H1 a1 d1 => ?_
  obtain ⟨o1, h3, h4, h5⟩ := ownAt_eq e2
  obtain ⟨p', xs', q1', q2', q3', q4', _⟩ := own_ref a1.rep h3 h4
  rw [q1] at q1'; cases q1'
  obtain ⟨ys, w, w1, w2, w3⟩ := hr F1 H1 p xs' ds vs as z es q2' q4' d1 e3
  refine w3 _ ?_
  have a2 := mut_aft a1 h3 h4 q1 w1
  dsimp only at kq
  rw [h5 es] at kq
  exact kq w F1 _ a2 w2
/-! the methods -/
def mApp : List D → List D → Option (D × List D) := fun ds as => match as with
  | [d] => if ds.length < sizeLine then some (.none, ds ++ [d]) else none
  | _ => none
theorem mu_app : MuR K rAppend mApp := fun F H p xs ds vs as z es h1 h2 h3 e => by
  unfold mApp at e
  split at e
  · split at e
    · rename_i hl; cases e
      obtain ⟨v, rfl, hv⟩ := one_dp h3
      exact ⟨xs ++ [v], .non, dpa_app h2 (.cons hv .nil), .non, fun Q q => ⟨p, xs, v, rfl, rfl, h1, by rw [dpa_len h2]; exact hl, q⟩⟩
    · cases e
  · cases e
theorem x_meth (Z : Fits X K k) (i : Nat) {x name : Str} {id : String} {e : Expr} {es : List Expr} {xp apos pos : Pos} {r : V → List V → Hp → VK → Prop} {m : List D → List D → Option (D × List D)} {g : Δ → Option (List D × Δ)} (slot : Slot "list" name id) (hty : typeOf (.builtin id) = pure (.type "method_descriptor")) (hm : MtR X id r) (hr : MuR K r m) (ha : AX X K (e :: es) g)
    (hN : X.N[i]? = some x := by rfl) (hv : Vis X.env.scope x := by first | exact Or.inl rfl | exact Or.inr (Or.inl rfl) | exact Or.inr (Or.inr rfl)) (hd : (x == ("__debug__" : Str)) = false := by decide) (hcd : (x == ("__classdict__" : Str)) = false := by decide)
    (hbase : attributeBase (.Name x xp) name X.env (eval (.Name x xp) X.env) = eval (.Name x xp) X.env := by rfl)
    (hfew : ((backTo pos (starEach (e :: es) X.env)).all (fun x => !x.1) && (backToKw pos (keywordEach [] X.env)).all (fun x => x.1.isSome) && decide ((e :: es).length + ([] : List Keyword).length + (if ([] : List Keyword).isEmpty then 0 else 1) < 30)) = true := by rfl)
    (hline : (apos.endLine == pos.line) = true := by rfl) (hs : starEach (e :: es) X.env = (false, eval e X.env) :: starEach es X.env := by rfl) (hpl : (backTo pos (starEach es X.env)).any (·.1) = false := by rfl) :
    DX X K (.Call (.Attribute (.Name x xp) name apos) (e :: es) [] pos) (eMeth i m g) := by
  obtain ⟨ta, p, s⟩ := ha
  refine ⟨_, pe_bm PySem.F.plainAttrs_list slot hty hm (pe_var (i := i) hN hv hd hcd) p hbase hfew hline hs hpl, ?_⟩
  rw [Z.K]
  exact sd_meth hr s
/-! ### targets that write to an own list -/
structure SM (K : Lay) (g : TG) (h : D → Δ → Option Δ) : Prop where
  run : ∀ d δ δ', h d δ = some δ' → ∀ σ F H v, Rep K F H σ δ → Dp K F v d → ∀ Q : L2.St → Hp → Prop, (∀ σ' F' H', Rep K F' H' σ' δ' → Go F H σ δ F' H' σ' δ' → Q σ' H') → g v σ H Q
structure SMs (K : Lay) (g : TGs) (h : List D → Δ → Option Δ) : Prop where
  run : ∀ ds δ δ', h ds δ = some δ' → ∀ σ F H vs, Rep K F H σ δ → DpAll K F vs ds → ∀ Q : L2.St → Hp → Prop, (∀ σ' F' H', Rep K F' H' σ' δ' → Go F H σ δ F' H' σ' δ' → Q σ' H') → g vs σ H Q
def MX (X : Cx) (K : Lay) (e : Expr) (h : D → Δ → Option Δ) : Prop := ∃ g, PG X e g ∧ SM K g h
def MXs (X : Cx) (K : Lay) (es : List Expr) (h : List D → Δ → Option Δ) : Prop := ∃ g, PGs X es g ∧ SMs K g h
theorem sm_of {g : TG} {ix : List Nat} {h : D → Δ → Option Δ} (s : SG K g ix h) : SM K g h := ⟨fun d δ δ' e σ F H v r hd Q k => s.run d δ δ' e σ F H v r hd Q fun σ' r' g' _ _ _ _ => k σ' F H r' g'⟩
theorem m_of {e : Expr} {ix : List Nat} {h : D → Δ → Option Δ} (s : GX X K e ix h) : MX X K e h := let ⟨_, p, t⟩ := s; ⟨_, p, sm_of t⟩
theorem sms_nil : SMs K gNil hNil := ⟨fun ds δ δ' e σ F H vs r hd Q k => sgs_nil.run ds δ δ' e σ F H vs r hd Q fun σ' r' g' _ _ _ _ => k σ' F H r' g'⟩
theorem sms_cons {g : TG} {gs : TGs} {a : D → Δ → Option Δ} {b : List D → Δ → Option Δ} (ha : SM K g a) (hb : SMs K gs b) : SMs K (gCons g gs) (hCons a b) := ⟨fun ds δ δ' e σ F H vs r hd Q k => by
  cases ds with
  | nil => cases e
  | cons d ds =>
    obtain ⟨δ1, e1, e2⟩ := Option.bind_eq_some_iff.mp e
    cases hd with
    | cons h1 h2 =>
      refine ⟨_, _, rfl, ha.run d δ δ1 e1 σ F H _ r h1 _ fun σ1 F1 H1 r1 g1 => ?_⟩
      exact hb.run ds δ1 δ' e2 σ1 F1 H1 _ r1 (dpa_mono g1.kf h2) _ fun σ2 F2 H2 r2 g2 => k σ2 F2 H2 r2 (g1.trans g2)⟩
theorem sm_tup {n : Nat} {gs : TGs} {b : List D → Δ → Option Δ} (hb : SMs K gs b) : SM K (gTup K n gs) (hTup n b) := ⟨fun d δ δ' e σ F H v r hd Q k => by
  cases d with
  | tuple ds =>
    simp only [hTup] at e
    split at e
    · rename_i hl
      obtain ⟨a, xs, rfl, h1, h2⟩ := dp_tuple hd
      exact ⟨a, xs, rfl, r.kp.sqT h1, by rw [dpa_len h2]; exact hl, hb.run ds δ δ' e σ F H xs r h2 Q k⟩
    · cases e
  | _ => cases e⟩
theorem ms_nil : MXs X K [] hNil := ⟨_, pgs_nil, sms_nil⟩
theorem ms_cons {e : Expr} {es : List Expr} {a : D → Δ → Option Δ} {b : List D → Δ → Option Δ} (h : MX X K e a) (hs : MXs X K es b) (hst : (assignEach (e :: es) X.env).map (·.2) = assign e X.env :: (assignEach es X.env).map (·.2) := by rfl) : MXs X K (e :: es) (hCons a b) :=
  let ⟨_, p, s⟩ := h; let ⟨_, q, t⟩ := hs; ⟨_, pgs_cons p q hst, sms_cons s t⟩
theorem m_tup (Z : Fits X K k) {es : List Expr} {j n : Nat} {pos : Pos} {b : List D → Δ → Option Δ} (hs : MXs X K es b) (hn : (assignEach es X.env).length = n := by rfl) (hst : (assignEach es X.env).findIdx? (·.1) = none := by rfl) : MX X K (.Tuple es j pos) (hTup n b) := by
  obtain ⟨_, q, t⟩ := hs
  refine ⟨_, pg_tup Z.calm q hn hst, ?_⟩
  rw [Z.K]
  exact sm_tup t
def hSub (i : Nat) (gj : Δ → Option (D × Δ)) : D → Δ → Option Δ := fun d δ => (ownAt δ i).bind fun _ => (gj δ).bind fun r => match r.1 with
  | .int n => (ownAt r.2 i).bind fun ds => (ixN ds.length n).map fun j => setOwn r.2 i (ds.set j d)
  | _ => none
theorem sm_sub {tj : TE} {gj : Δ → Option (D × Δ)} {i : Nat} (hj : SD K tj gj) : SM K (gSub (tVar i) tj L2.rSetL) (hSub i gj) := ⟨fun d δ δ' e σ F H v r hd Q kq => by
  obtain ⟨ds0, e0, e⟩ := Option.bind_eq_some_iff.mp e
  obtain ⟨⟨dj, δ1⟩, e1, e⟩ := Option.bind_eq_some_iff.mp e
  cases dj with
  | int n =>
    obtain ⟨ds, e2, e⟩ := Option.bind_eq_some_iff.mp e
    obtain ⟨j, e3, e4⟩ := Option.map_eq_some_iff.mp e
    subst e4
    obtain ⟨o0, h1, h2, _⟩ := ownAt_eq e0
    obtain ⟨p, xs, q1, q2, q3, q4, _⟩ := own_ref r h1 h2
    refine ⟨.ref p, q1, ?_⟩
    refine hj δ _ δ1 e1 σ F H r _ fun w F1 H1 a1 d1 => ?_
    obtain ⟨o1, h3, h4, h5⟩ := ownAt_eq e2
    obtain ⟨p', xs', q1', q2', q3', q4', _⟩ := own_ref a1.rep h3 h4
    rw [q1] at q1'; cases q1'
    refine ⟨p, xs', n, j, rfl, dp_int d1, q2', by rw [dpa_len q4']; exact e3, ?_⟩
    obtain ⟨r2, g2⟩ := rep_mut a1.rep h3 h4 q1 (dpa_set (dp_mono a1.go.kf hd) j q4')
    dsimp only at kq
    rw [h5] at kq
    exact kq σ F1 _ r2 (a1.go.trans g2)
  | _ => cases e⟩
theorem m_sub (i : Nat) {x : Str} {b : Expr} {xp pos : Pos} {g : Δ → Option (D × Δ)} (hb : DX X K b g) (hN : X.N[i]? = some x := by rfl) (hv : Vis X.env.scope x := by first | exact Or.inl rfl | exact Or.inr (Or.inl rfl) | exact Or.inr (Or.inr rfl)) (hd : (x == ("__debug__" : Str)) = false := by decide) (hcd : (x == ("__classdict__" : Str)) = false := by decide)
    (ha : ∀ v, assign (.Subscript (.Name x xp) b pos) X.env v = (do
      let ov ← holding [v] (eval (.Name x xp) X.env)
      let iv ← holding [v, ov] (eval b X.env)
      standAt pos
      holding [v, ov, iv] (setItem ov iv v)
      release [v, ov, iv] []) := by intro _; rfl) : MX X K (.Subscript (.Name x xp) b pos) (hSub i g) :=
  let ⟨_, p, s⟩ := hb; ⟨_, pg_sub (pe_var (i := i) hN hv hd hcd) p set_list ha, sm_sub s⟩
theorem ss_tgtM {te : TE} {g : TG} {f : Δ → Option (D × Δ)} {h : D → Δ → Option Δ} (hf : SD K te f) (hg : SM K g h) : SS K (tAsg te g) (mTgt f h) := fun δ out e σ F H r E kq => by
  obtain ⟨⟨d, δ1⟩, e1, e⟩ := Option.bind_eq_some_iff.mp e
  obtain ⟨δ2, e2, e⟩ := Option.map_eq_some_iff.mp e
  cases e
  exact hf δ d δ1 e1 σ F H r _ fun v F1 H1 a1 p1 => hg.run d δ1 δ2 e2 σ F1 H1 v a1.rep p1 _ fun σ2 F2 H2 r2 g2 => kq σ2 F2 H2 r2 (a1.go.trans g2)
theorem b_mtgt {tg e : Expr} {pos : Pos} {f : Δ → Option (D × Δ)} {h : D → Δ → Option Δ} (he : DX X K e f) (hg : MX X K tg h) (hs : swapsWithSole [tg] e pos.line X.env = pure false := by rfl) (hw : swappedStores [tg] e X.env = pure none := by rfl)
    (h1 : (assignEach [tg] X.env).map (·.2) = [assign tg X.env] := by rfl) : BX X K (.Assign [tg] e pos) (mTgt f h) := let ⟨_, q, s⟩ := he; let ⟨_, r, t⟩ := hg; ⟨_, ps_asg q r hs hw h1, ss_tgtM s t⟩
/-! ### divmod -/
def rDvm : List V → Hp → VK → Prop := fun xs H Q => ∃ i j, xs = [.int i, .int j] ∧ CDiv i j ∧ ∀ p, H p = none → Q (.ref p) (upd H p (.tup [.int (i / j), .int (i % j)]))
def dvmO : List D → Option O
  | [.int i, .int j] => if 0 < j ∧ j < 1073741824 then some (.fz (.tuple [.int (i / j), .int (i % j)])) else none
  | _ => none
theorem cd_dvm : CdR K rDvm dvmO := fun F H vs ds o kp hx hg Q gv => by
  unfold dvmO at hg
  split at hg
  · split at hg
    · rename_i h; cases hg
      exact ⟨_, _, two_int hx, h, fun p hp => gv.tup kp (.cons (.int _) (.cons (.int _) .nil)) hp⟩
    · cases hg
  · cases hg
theorem x_dvm {a b : Expr} {p pos : Pos} {f : Δ → Option (List D × Δ)} (he : AX X K [a, b] f) (hm : X.mg "divmod" = none) (hg : Gl X "divmod" := by rfl) (hst : starEach [a, b] X.env = (false, eval a X.env) :: starEach [b] X.env := by rfl) (hpl : (backTo pos (starEach [b] X.env)).any (·.1) = false := by rfl) :
    EX X K (.Call (.Name "divmod" p) [a, b] [] pos) (eCall dvmO f) := x_call (r := rDvm) call_divmod cd_dvm he hm hg (by decide +kernel) (by decide) (by decide) hst hpl
end
end Vv
end
section
set_option Elab.async false
set_option linter.all false
set_option maxRecDepth 100000
set_option maxHeartbeats 3000000
/-! any, all of a generator expression, over values. -/
namespace Vw
open PySem PySem.Spec PyProof.Rows L2 Vi Vf Vo Vp Vs Vt Vu Vv Vg
section
variable {X : Cx} {K : Lay} {k : Nat} {F H F' H' F0 H0 F1 H1 F2 H2 : Hp} {σ σ' : L2.St} {δ δ' δ0 : Δ} {o : O}
theorem new_trans (a : New K F H F1 H1) (b : New K F1 H1 F2 H2) : New K F H F2 H2 where
  kf := a.kf.trans b.kf
  up := b.up
  kh := a.kh.trans b.kh
  nf := fun z hz => (b.nf z hz).elim (a.nf z) fun h => .inr (by
    cases q : H z with
    | none => rfl
    | some x => obtain ⟨u, e, _⟩ := a.kh z x q; rw [h] at e; cases e)
  nm := fun z => b.nm (a.nm z)
def isFz : Option O → Bool
  | some (.fz _) => true
  | none => true
  | _ => false
theorem fz_held (h : δ.all isFz = true) (a : Addr) : ¬ Held H σ δ a := fun ⟨i, v, o, _, e2, e3⟩ => by
  have := List.all_eq_true.mp h (some o) (List.mem_of_getElem? e2)
  cases o <;> first | cases e3 | cases this
/-! ### what it captures -/
def frz1 (δ : Δ) (j : Nat) : Δ := match force (.sl j) δ with
  | some r => r.2
  | none => δ
def frzAll (cap : List Nat) (δ : Δ) : Δ := cap.foldl frz1 δ
theorem frz1_ok (a : Aft K F0 H0 σ δ0 F H δ) (j : Nat) : ∃ F', Aft K F0 H0 σ δ0 F' H (frz1 δ j) ∧ Kp F F' := by
  unfold frz1
  cases q : force (.sl j) δ with
  | none => exact ⟨F, a, .rfl⟩
  | some r =>
    obtain ⟨d, δ1⟩ := r
    have hs : ∃ o, δ[j]? = some (some o) := by
      cases e : δ[j]? with
      | none => simp [force, e] at q
      | some u =>
        cases u with
        | none => simp [force, e] at q
        | some o => exact ⟨o, rfl⟩
    obtain ⟨o, ho⟩ := hs
    obtain ⟨v, e1, _⟩ := a.rep.ok j o ho
    obtain ⟨F', a', _, kf, _⟩ := force_ok (p := .sl j) (v := v) a ⟨e1, o, ho⟩ (fun z hz => by cases hz) q
    exact ⟨F', a', kf⟩
theorem frzAll_ok : ∀ (cap : List Nat) {F : Hp} {δ : Δ}, Aft K F0 H0 σ δ0 F H δ → ∃ F', Aft K F0 H0 σ δ0 F' H (frzAll cap δ) ∧ Kp F F'
  | [], F, δ, a => ⟨F, a, .rfl⟩
  | j :: cap, F, δ, a => by
    obtain ⟨F1, a1, k1⟩ := frz1_ok a j
    obtain ⟨F2, a2, k2⟩ := frzAll_ok cap a1
    exact ⟨F2, a2, k1.trans k2⟩
def cgOf (nt : Nat) (cap : List Nat) (σ : L2.St) : L2.St := List.replicate nt none ++ cap.map fun j => (σ[j]?).getD none
def gΔ1 (δ : Δ) (j : Nat) : Option O := match δ[j]? with
  | some (some (.fz d)) => some (.fz d)
  | _ => none
def gΔ (nt : Nat) (cap : List Nat) (δ : Δ) : Δ := List.replicate nt none ++ cap.map (gΔ1 δ)
theorem gΔ_fz (nt : Nat) (cap : List Nat) (δ : Δ) : (gΔ nt cap δ).all isFz = true := by
  unfold gΔ
  rw [List.all_append, Bool.and_eq_true, List.all_eq_true, List.all_eq_true]
  refine ⟨fun x hx => ?_, fun x hx => ?_⟩
  · rw [List.eq_of_mem_replicate hx]; rfl
  · obtain ⟨j, _, e⟩ := List.mem_map.mp hx
    subst e
    unfold gΔ1
    split <;> rfl
theorem rep_g (r : Rep K F H σ δ) (nt : Nat) (cap : List Nat) : Rep K F H (cgOf nt cap σ) (gΔ nt cap δ) := by
  refine ⟨r.kp, by simp [cgOf, gΔ], fun i u hu => ?_, fun i j a hi _ => absurd ⟨i, hi⟩ (fz_held (gΔ_fz nt cap δ) a), r.tb, r.nm⟩
  unfold gΔ at hu
  by_cases hn : i < nt
  · rw [List.getElem?_append_left (by simpa using hn), List.getElem?_replicate, if_pos hn] at hu; cases hu
  · have hn' : nt ≤ i := by omega
    rw [List.getElem?_append_right (by simpa using hn'), List.length_replicate, List.getElem?_map] at hu
    obtain ⟨j, e1, e2⟩ := Option.map_eq_some_iff.mp hu
    unfold gΔ1 at e2
    split at e2
    · rename_i d hd
      cases e2
      obtain ⟨v, q1, q2, _⟩ := r.ok j _ hd
      refine ⟨v, ?_, q2, by simp [O.fp]⟩
      unfold cgOf
      rw [List.getElem?_append_right (by simpa using hn'), List.length_replicate, List.getElem?_map, e1]
      show some ((σ[j]?).getD none) = _
      rw [q1]; rfl
    · cases e2
/-! ### the walk -/
def walkG (e : Bool) (h : D → Δ → Option Δ) (f : Δ → Option (D × Δ)) : List D → Δ → Option Bool
  | [], _ => some (!e)
  | d :: ds, δ => (h d δ).bind fun δ1 => (f δ1).bind fun r => (bOf r.1).bind fun b => if b = e then some e else walkG e h f ds r.2
def eWalk (e : Bool) (nt : Nat) (cap : List Nat) (c : Δ → Option (List D × Δ)) (h : D → Δ → Option Δ) (f : Δ → Option (D × Δ)) : Δ → Option (D × Δ) := fun δ => (c δ).bind fun r =>
  (walkG e h f r.1 (gΔ nt cap (frzAll cap r.2))).map fun b => (.bool b, frzAll cap r.2)
theorem rep_tab (r : Rep K F H σ δ) {T : Addr} (hT : T ∈ K.T) (t : GxR.Tabbed T H H1) : New K F H F H1 := by
  obtain ⟨ps, e1, tr1⟩ := r.tab hT
  obtain ⟨⟨qs, e2, tr2⟩, same⟩ := t
  have kh : Kp H H1 := fun a o e => by
    by_cases ha : a = T
    · subst ha
      rw [e1] at e; cases e
      exact ⟨_, e2, .inr ⟨ps, qs, rfl, rfl, fun _ => tr2⟩⟩
    · exact ⟨o, by rw [same a ha]; exact e, .rfl⟩
  refine ⟨.rfl, r.kp.trans kh, kh, fun z hz => .inl hz, fun tn p hp => ?_⟩
  obtain ⟨ps', h1, h2, h3⟩ := tn p hp
  have np : p.1 ≠ T := fun z => K.dj p hp (z ▸ hT)
  refine ⟨ps', by rw [same _ np]; exact h1, h2, fun pos cv hc => ?_⟩
  obtain ⟨c, q1, q2⟩ := h3 pos cv hc
  exact ⟨c, q1, by rw [same c (ne_of q2 e1 (LamX.codeO_ne _))]; exact q2⟩
theorem sd_walk {T : Addr} (hT : T ∈ K.T) {e : Bool} {nt : Nat} {cap : List Nat} {wi : TI} {g : TG} {te : TE} {ix : List Nat} {c : Δ → Option (List D × Δ)} {h : D → Δ → Option Δ} {f : Δ → Option (D × Δ)} (hi : SI K wi c) (hg : SG K g ix h) (he : SD K te f) :
    SD K (tWalk e T (cgOf nt cap) wi g te) (eWalk e nt cap c h f) := fun δ d δ' ee σ F H r Q kq => by
  obtain ⟨⟨ds, δ1⟩, e1, ee⟩ := Option.bind_eq_some_iff.mp ee
  obtain ⟨bb, e2, e3⟩ := Option.map_eq_some_iff.mp ee
  cases e3
  refine hi δ ds δ1 e1 σ F H r _ fun J F1 H1 a1 w => ⟨a1.rep.tab hT, fun H2 tb => ?_⟩
  obtain ⟨G, Y, wk, hG, hY⟩ := w
  obtain ⟨F2, a2, k12⟩ := frzAll_ok cap a1
  have n2 := rep_tab a2.rep hT tb
  have a3 := a2.trans (n2.aft a2.rep)
  -- what stays of the walk
  let W : Nat → Nat → L2.St → Hp → Prop := fun i m σg H3 => ∃ F3 δg, Rep K F3 H3 σg δg ∧ New K F2 H2 F3 H3 ∧ (∀ a, Held H3 σg δg a → H2 a = none) ∧ walkG e h f (ds.drop i) δg = some bb ∧ m = ds.length - i ∧ i ≤ ds.length
  have stopQ : ∀ {F3 H3 : Hp}, New K F2 H2 F3 H3 → Q (.bl bb) H3 := fun n3 => kq _ _ _ (a3.trans (n3.aft a3.rep)) (.bl bb)
  refine ⟨W, ds.length, ⟨F2, gΔ nt cap (frzAll cap δ1), rep_g a3.rep nt cap, .rfl a3.rep.kp, fun a ha => absurd ha (fz_held (gΔ_fz nt cap _) a), by simpa using e2, by simp, Nat.zero_le _⟩, ?_⟩
  rintro i m σg H3 ⟨F3, δg, r3, n3, hd3, e4, rfl, hle⟩
  have kf3 : Kp F1 F3 := k12.trans n3.kf
  by_cases hlt : i < ds.length
  · refine .inr ⟨wk.goes i H3 hlt (hG H3 (kf3.trans r3.kp)), fun x H4 y => ?_⟩
    obtain ⟨d, F4, q1, n4, d4⟩ := hY i H3 x H4 F3 hlt kf3 r3.kp (wk.yields i H3 x H4 hlt (hG H3 (kf3.trans r3.kp)) y)
    have a4 := n4.aft r3
    have ed : ds.drop i = d :: ds.drop (i + 1) := by
      obtain ⟨q2, q3⟩ := List.getElem?_eq_some_iff.mp q1
      rw [List.drop_eq_getElem_cons q2, q3]
    rw [ed] at e4
    obtain ⟨δ5, e5, e6⟩ := Option.bind_eq_some_iff.mp e4
    obtain ⟨⟨z, δ6⟩, e7, e8⟩ := Option.bind_eq_some_iff.mp e6
    obtain ⟨b, e9, e10⟩ := Option.bind_eq_some_iff.mp e8
    refine hg.run d δg δ5 e5 σg F4 H4 x a4.rep d4 _ fun σ5 r5 g5 _ _ _ _ => ?_
    refine he δ5 z δ6 e7 σ5 F4 H4 r5 _ fun v F6 H6 a6 d6 => ?_
    have gAll := (a4.go.trans g5).trans a6.go
    -- nothing that stood at H2 has changed
    have n6 : New K F2 H2 F6 H6 := by
      refine ⟨n3.kf.trans gAll.kf, a6.rep.kp, fun a o ea => ?_, fun a hz => ?_, fun _ => a6.rep.nm⟩
      · obtain ⟨u, eu, lu⟩ := n3.kh a o ea
        obtain ⟨w, ew, lw⟩ := gAll.kh a u eu fun hh => by
          have := hd3 a hh
          rw [ea] at this; cases this
        exact ⟨w, ew, lu.trans lw⟩
      · rcases gAll.nf a hz with hh | hh | hh
        · exact n3.nf a hh
        · refine .inr ?_
          cases q : H2 a with
          | none => rfl
          | some x0 => obtain ⟨u, eu, _⟩ := n3.kh a x0 q; rw [hh] at eu; cases eu
        · exact .inr (hd3 a hh)
    have hd6 : ∀ a, Held H6 σ5 δ6 a → H2 a = none := fun a hh => by
      rcases gAll.hd a hh with q | q
      · exact hd3 a q
      · cases q2 : H2 a with
        | none => rfl
        | some x0 => obtain ⟨u, eu, _⟩ := n3.kh a x0 q2; rw [q] at eu; cases eu
    have eb := bOf_eq e9
    subst eb
    refine ⟨b, dp_bool d6, fun hb => ?_, fun hb => ?_⟩
    · rw [if_pos hb] at e10
      cases e10
      exact stopQ n6
    · rw [if_neg hb] at e10
      exact ⟨ds.length - (i + 1), by omega, F6, δ6, a6.rep, n6, hd6, e10, rfl, hlt⟩
  · have ei : i = ds.length := by omega
    subst ei
    refine .inl ⟨wk.stops H3 (hG H3 (kf3.trans r3.kp)), ?_⟩
    rw [List.drop_length] at e4
    cases e4
    exact stopQ n3
/-! ### many contexts at once -/
theorem DX.all {ι : Type} {Y : ι → Cx} {e : Expr} {f : Δ → Option (D × Δ)} (h : ∀ z, DX (Y z) K e f) : ∃ te, (∀ z, PE (Y z) e te) ∧ SD K te f :=
  ⟨fun σ H Q => ∀ z, (h z).choose σ H Q, fun z => ⟨fun pins s σ H Q I q => (h z).choose_spec.1.run pins s σ H Q I (q z)⟩, fun δ d δ' e σ F H r Q kq z => (h z).choose_spec.2 δ d δ' e σ F H r Q kq⟩
theorem TX.all {ι : Type} {Y : ι → Cx} {e : Expr} {f : Δ → Option (Bool × Δ)} (h : ∀ z, TX (Y z) K e f) : ∃ te, (∀ z, PT (Y z) e te) ∧ ST K te f :=
  ⟨fun σ H Q => ∀ z, (h z).choose σ H Q, fun z => ⟨fun pins s σ H Q I q => (h z).choose_spec.1.run pins s σ H Q I (q z)⟩, fun δ d δ' e σ F H r Q kq z => (h z).choose_spec.2 δ d δ' e σ F H r Q kq⟩
theorem GX.all {ι : Type} {Y : ι → Cx} {e : Expr} {ix : List Nat} {h : D → Δ → Option Δ} (g : ∀ z, GX (Y z) K e ix h) : ∃ t, (∀ z, PG (Y z) e t) ∧ SG K t ix h :=
  ⟨fun v σ H Q => ∀ z, (g z).choose v σ H Q, fun z => ⟨fun pins s σ H v u Q I r q => (g z).choose_spec.1.run pins s σ H v u Q I r (q z)⟩, ⟨fun d δ δ' e σ F H v r hd Q kq z => (g z).choose_spec.2.run d δ δ' e σ F H v r hd Q kq⟩⟩
/-- what a generator expression's context hangs on -/
abbrev GI := Shared × Hp × Value × List Addr
abbrev gxY (X : Cx) (N : List Str) (scope : Scope) (z : GI) : Cx := gxOf X N scope z.1 z.2.1 z.2.2.1 z.2.2.2
theorem fits_g {N : List Str} {scope : Scope} {z : GI} (Z : Fits X K (k + 1)) : Fits (gxY X N scope z) K k := ⟨Z.K, ⟨room_gx Z.can.room, Z.can.gd⟩, rfl⟩
/-- the captured names -/
def capOk (XN : List Str) (xs gs : Scope) : List Str → List Nat → Bool
  | [], [] => true
  | y :: ys, j :: js => (gs.names.lookup y == some .free) && (xs.names.lookup y == some .cell || xs.names.lookup y == some .free) && (XN[j]? == some y) && capOk XN xs gs ys js
  | _, _ => false
theorem capOk_at {XN : List Str} {xs gs : Scope} : ∀ {ys : List Str} {js : List Nat}, capOk XN xs gs ys js = true → ys.length = js.length ∧ ∀ (i : Nat) (y : Str), ys[i]? = some y → ∃ j, js[i]? = some j ∧ gs.names.lookup y = some .free ∧ (xs.names.lookup y = some .cell ∨ xs.names.lookup y = some .free) ∧ XN[j]? = some y
  | [], [], _ => ⟨rfl, fun i y h => by simp at h⟩
  | [], _ :: _, h => by cases h
  | _ :: _, [], h => by cases h
  | y :: ys, j :: js, h => by
    simp only [capOk, Bool.and_eq_true, Bool.or_eq_true, beq_iff_eq] at h
    obtain ⟨⟨⟨h1, h2⟩, h3⟩, h4⟩ := h
    obtain ⟨l, g⟩ := capOk_at h4
    refine ⟨by simp [l], fun i x hx => ?_⟩
    cases i with
    | zero => simp at hx; subst hx; exact ⟨j, rfl, h1, h2, h3⟩
    | succ i => obtain ⟨j', q⟩ := g i x (by simpa using hx); exact ⟨j', by simpa using q.1, q.2⟩
theorem takes_of {tn cn : List Str} {cap : List Nat} {scope : Scope} (h : capOk X.N X.env.scope scope cn cap = true) : Takes1 X (tn ++ cn) scope (cgOf tn.length cap) := fun σ hl => by
  obtain ⟨l, g⟩ := capOk_at h
  refine ⟨fun i y v h1 h2 => ?_, by simp [cgOf, l]⟩
  unfold cgOf at h2
  by_cases hn : i < tn.length
  · rw [List.getElem?_append_left (by simpa using hn), List.getElem?_replicate, if_pos hn] at h2; cases h2
  · have hn' : tn.length ≤ i := by omega
    rw [List.getElem?_append_right hn'] at h1
    rw [List.getElem?_append_right (by simpa using hn'), List.length_replicate, List.getElem?_map] at h2
    obtain ⟨j, g1, g2, g3, g4⟩ := g _ y h1
    rw [g1] at h2
    have h3 : (σ[j]?).getD none = some v := by simpa using h2
    refine ⟨g2, g3, g3.elim (fun z => .inr (.inl z)) fun z => .inr (.inr z), j, g4, ?_⟩
    cases q : σ[j]? with
    | none => rw [q] at h3; cases h3
    | some u => rw [q] at h3; rw [show u = some v from h3]
theorem d_allG (Z : Fits X K k) {c T : Addr} {elt tg iter : Expr} {p pos gpos : Pos} {scope : Scope} (tn cn : List Str) (cap : List Nat) {ix : List Nat} {ci : Δ → Option (List D × Δ)} {h : D → Δ → Option Δ} {f : Δ → Option (D × Δ)} (hT : T ∈ K.T) (hm : X.mg "all" = none) (TB : GxR.TabB X.base X.mg c T) (hcode : X.env.code = .ref c) (S : GSc X scope)
    (hi : IX X K tg iter ci) (hg : ∀ z : GI, GX (gxY X (tn ++ cn) scope z) K tg ix h) (he : ∀ z : GI, DX (gxY X (tn ++ cn) scope z) K elt f) (hcap : capOk X.N X.env.scope scope cn cap = true := by rfl) (hs : ∀ v, genFold iter X.env v = pure v := by intro _; rfl) (hgl : Gl X "all" := by rfl)
    (hst : starEach [.GeneratorExp elt [⟨tg, iter, [], 0⟩] scope gpos] X.env = (false, eval (.GeneratorExp elt [⟨tg, iter, [], 0⟩] scope gpos) X.env) :: starEach [] X.env := by rfl) :
    DX X K (.Call (.Name "all" p) [.GeneratorExp elt [⟨tg, iter, [], 0⟩] scope gpos] [] pos) (eWalk false tn.length cap ci h f) := by
  obtain ⟨_, p1, s1⟩ := hi
  obtain ⟨_, p2, s2⟩ := GX.all hg
  obtain ⟨_, p3, s3⟩ := DX.all he
  exact ⟨_, pe_allG (N := tn ++ cn) Z.can.room hgl hm TB hcode S (takes_of hcap) p1 (fun s H code fp => p2 (s, H, code, fp)) (fun s H code fp => p3 (s, H, code, fp)) hs (by decide +kernel) hst, sd_walk hT s1 s2 s3⟩
end
end Vw
end
section
set_option Elab.async false
set_option linter.all false
set_option maxRecDepth 100000
set_option maxHeartbeats 2000000
/-! list(zip(a, b)) of two lists. -/
namespace Vz
open PySem
open Sem (wp)
section
variable {prog : Program} {w : World} {A : Around} {s : Shared} {R : Result → Shared → Prop}
/-- the zip behind i pairs -/
structure ZS (h : Heap) (S z TI TO i1 i2 l1 l2 : Addr) (xs ys : Array Value) (i : Nat) : Prop where
  ti : IsPair h TI (.ref i1) (.ref i2)
  h1 : h.IsListIter i1 l1 i
  h2 : h.IsListIter i2 l2 i
  hl1 : h.IsList l1 xs
  hl2 : h.IsList l2 ys
  to : ∃ o, h.get? TO = some o
  st : (IsZip h z TI TO .none ∧ ∃ a b, IsPair h TO a b) ∨ ∃ T f oT, IsZipHeld h z TI TO T f ∧ h.get? T = some oT ∧ T ≠ z ∧ T ≠ i1 ∧ T ≠ i2 ∧ T ≠ S
theorem ZS.next {S z TI TO i1 i2 l1 l2 : Addr} {xs ys : Array Value} {i : Nat} {Q : Option Value → Shared → Prop} {E : Value → Shared → Prop} (D : ZipApart z TI TO i1 i2 l1 l2) (Z : ZS s.heap S z TI TO i1 i2 l1 l2 xs ys i) (hx : i < xs.size) (hy : i < ys.size) (hS : S < s.heap.objs.size)
    (nS : S ≠ TI ∧ S ≠ i1 ∧ S ≠ i2 ∧ S ≠ l1 ∧ S ≠ l2 ∧ S ≠ z)
    (hQ : ∀ h', ZS h' S z TI TO i1 i2 l1 l2 xs ys (i + 1) → IsPair h' s.heap.objs.size xs[i] ys[i] → h'.objs.size = s.heap.objs.size + 1 → (∀ c o, c ≠ z → c ≠ TO → c ≠ i1 → c ≠ i2 → s.heap.get? c = some o → h'.get? c = some o) → Q (some (.ref s.heap.objs.size)) { s with heap := h' }) :
    wpAny (model prog w) A (pyNext (.ref z)) Q E s := by
  have ex := Array.getElem?_eq_getElem hx
  have ey := Array.getElem?_eq_getElem hy
  have lt : ∀ {c o}, s.heap.get? c = some o → s.heap.objs.size ≠ c := fun e => Nat.ne_of_gt (Heap.lt_size e)
  have n1 : s.heap.objs.size ≠ i1 := let ⟨_, e, _⟩ := Z.h1; lt e
  have n2 : s.heap.objs.size ≠ i2 := let ⟨_, e, _⟩ := Z.h2; lt e
  rcases Z.st with ⟨hz, a, b, hTO⟩ | ⟨T, f, oT, hz, hT, r1, r2, r3, r4⟩
  · refine wpAny_pyNext_zip_item D hz Z.ti hTO Z.h1 Z.h2 Z.hl1 Z.hl2 ex ey fun h' a1 a2 a3 a4 a5 a6 hk => ?_
    exact hQ h' ⟨hk _ _ D.TIz D.TITO D.TIi1 D.TIi2 Z.ti, a3, a4, Z.hl1.at fun o e => hk _ o D.l1z D.l1TO D.l1i1 D.l1i2 e, Z.hl2.at fun o e => hk _ o D.l2z D.l2TO D.l2i1 D.l2i2 e, ⟨_, a2⟩,
      .inr ⟨s.heap.objs.size, false, _, a1, a5, lt hz, n1, n2, Nat.ne_of_gt hS⟩⟩ a5 a6 hk
  · refine wpAny_pyNext_zip_item_held D hz hT Z.ti Z.h1 Z.h2 Z.hl1 Z.hl2 ex ey fun h' a1 a3 a4 a5 a6 hk => ?_
    exact hQ h' ⟨hk _ _ D.TIz D.TIi1 D.TIi2 Z.ti, a3, a4, Z.hl1.at fun o e => hk _ o D.l1z D.l1i1 D.l1i2 e, Z.hl2.at fun o e => hk _ o D.l2z D.l2i1 D.l2i2 e, (let ⟨o, e⟩ := Z.to; ⟨o, hk _ _ D.TOz D.TOi1 D.TOi2 e⟩),
      .inr ⟨T, true, oT, a1, hk _ _ r1 r2 r3 hT, r1, r2, r3, r4⟩⟩ a5 a6 fun c o c1 _ c3 c4 e => hk c o c1 c3 c4 e
theorem ZS.stop {S z TI TO i1 i2 l1 l2 : Addr} {xs ys : Array Value} {i : Nat} {Q : Option Value → Shared → Prop} {E : Value → Shared → Prop} (hh : A.handled = none) (D : ZipApart z TI TO i1 i2 l1 l2) (Z : ZS s.heap S z TI TO i1 i2 l1 l2 xs ys i) (he : xs[i]? = none ∨ ys[i]? = none)
    (hQ : ∀ h', (∀ c o, c ≠ z → c ≠ TO → c ≠ i1 → c ≠ i2 → s.heap.get? c = some o → h'.get? c = some o) → Q none { s with heap := h' }) :
    wpAny (model prog w) A (pyNext (.ref z)) Q E s := by
  rcases Z.st with ⟨hz, a, b, hTO⟩ | ⟨T, f, oT, hz, hT, r1, r2, r3, r4⟩
  · exact wpAny_pyNext_zip_end hh D hz Z.ti hTO Z.h1 Z.h2 Z.hl1 Z.hl2 he hQ
  · exact wpAny_pyNext_zip_end_held hh D hz hT Z.ti Z.h1 Z.h2 Z.hl1 Z.hl2 he fun h' hk => hQ h' fun c o c1 _ c3 c4 e => hk c o c1 c3 c4 e
theorem ZS.keep {h h' : Heap} {S z TI TO i1 i2 l1 l2 : Addr} {xs ys : Array Value} {i : Nat} (Z : ZS h S z TI TO i1 i2 l1 l2 xs ys i) (nS : S ≠ TI ∧ S ≠ i1 ∧ S ≠ i2 ∧ S ≠ l1 ∧ S ≠ l2 ∧ S ≠ z ∧ S ≠ TO) (hk : ∀ b o, b ≠ S → h.get? b = some o → h'.get? b = some o) : ZS h' S z TI TO i1 i2 l1 l2 xs ys i := by
  obtain ⟨n1, n2, n3, n4, n5, n6, n7⟩ := nS
  refine ⟨hk _ _ n1.symm Z.ti, Z.h1.at fun o e => hk _ o n2.symm e, Z.h2.at fun o e => hk _ o n3.symm e, Z.hl1.at fun o e => hk _ o n4.symm e, Z.hl2.at fun o e => hk _ o n5.symm e, (let ⟨o, e⟩ := Z.to; ⟨o, hk _ _ n7.symm e⟩), ?_⟩
  rcases Z.st with ⟨hz, a, b, hTO⟩ | ⟨T, f, oT, hz, hT, r1, r2, r3, r4⟩
  · exact .inl ⟨hk _ _ n6.symm hz, a, b, hk _ _ n7.symm hTO⟩
  · exact .inr ⟨T, f, oT, hk _ _ n6.symm hz, hk _ _ r4 hT, r1, r2, r3, r4⟩
end
section
variable {prog : Program} {w : World} {A : Around} {E : Value → Shared → Prop} {s : Shared}
end
end Vz
end
section
set_option Elab.async false
set_option linter.all false
set_option maxRecDepth 100000
set_option maxHeartbeats 3000000
/-! Calls of defs, comprehensions, more iterables: both at once. -/
namespace Vx
open PySem PySem.Spec PyProof.Rows L2 Vi Vf Vo Vp Vs Vt Vu Vv Vg Vw
section
variable {X : Cx} {K : Lay} {k : Nat}
/-! ### iterables -/
theorem i_enum (Z : Fits X K k) {a : Expr} {p pos tpos : Pos} {elts : List Expr} {kk : Nat} {f : Δ → Option (List D × Δ)} (h : AX X K [a] f) (hm : X.mg "enumerate" = none) (hg : Gl X "enumerate" := by rfl) (hs : starEach [a] X.env = [(false, eval a X.env)] := by rfl) :
    IX X K (.Tuple elts kk tpos) (.Call (.Name "enumerate" p) [a] [] pos) (eEnum f) := by
  obtain ⟨_, q, s⟩ := h
  refine ⟨_, pi_enum hg hm q hs, ?_⟩
  rw [Z.K]
  exact si_enum s
theorem i_str {tg e : Expr} {f : Δ → Option (D × Δ)} (h : DX X K e f) : IX X K tg e (eStr f) := let ⟨_, p, s⟩ := h; ⟨_, pi_str p, si_str s⟩
/-! ### comprehensions -/
abbrev BI := Shared × Hp × Addr × List (Str × Addr) × List Addr
abbrev bX (X : Cx) (scope : Scope) (z : BI) : Cx := X.blk z.1 z.2.1 scope (compEnvC scope z.2.2.2.1 z.2.2.1 X.env) z.2.2.2.2
theorem fits_b {scope : Scope} {z : BI} (Z : Fits X K k) : Fits (bX X scope z) K k := ⟨Z.K, ⟨Z.can.room, Z.can.gd⟩, Z.calm⟩
def CX1 (X : Cx) (K : Lay) (ifs : List Expr) (t : Δ → Option (Bool × Δ)) : Prop := ∃ tt, PTs X ifs tt ∧ ST K tt t
def eYesT : Δ → Option (Bool × Δ) := fun δ => some (true, δ)
theorem c_nil : CX1 X K [] eYesT := ⟨_, pts_nil, fun δ b δ' e σ F H r Q kq => by cases e; exact kq F H (.rfl r)⟩
theorem c_one {c : Expr} {t : Δ → Option (Bool × Δ)} (h : TX X K c t) : CX1 X K [c] t := let ⟨_, p, s⟩ := h; ⟨_, pts_one p, s⟩
theorem CX1.all {ι : Type} {Y : ι → Cx} {e : List Expr} {f : Δ → Option (Bool × Δ)} (h : ∀ z, CX1 (Y z) K e f) : ∃ te, (∀ z, PTs (Y z) e te) ∧ ST K te f :=
  ⟨fun σ H Q => ∀ z, (h z).choose σ H Q, fun z => ⟨fun pins s σ H Q I q => (h z).choose_spec.1.run pins s σ H Q I (q z)⟩, fun δ d δ' e σ F H r Q kq z => (h z).choose_spec.2 δ d δ' e σ F H r Q kq⟩
theorem EX.all {ι : Type} {Y : ι → Cx} {e : Expr} {f : Δ → Option (P × Δ)} (h : ∀ z, EX (Y z) K e f) : ∃ te, (∀ z, PE (Y z) e te) ∧ SX K te f :=
  ⟨fun σ H Q => ∀ z, (h z).choose σ H Q, fun z => ⟨fun pins s σ H Q I q => (h z).choose_spec.1.run pins s σ H Q I (q z)⟩, fun δ d δ' e σ F H r Q kq z => (h z).choose_spec.2 δ d δ' e σ F H r Q kq⟩
theorem x_lc (Z : Fits X K k) (hN : X.N.Nodup) {elt tg iter : Expr} {ifs : List Expr} {scope : Scope} (own : List (Str × Nat)) {pos : Pos} {ix : List Nat} {c : Δ → Option (List D × Δ)} {h : D → Δ → Option Δ} {t : Δ → Option (Bool × Δ)} {f : Δ → Option (D × Δ)}
    (ok : BlkOk X.N X.env.scope scope own) (hi : IX X K tg iter c) (hg : ∀ z : BI, GX (bX X scope z) K tg ix h) (ht : ∀ z : BI, CX1 (bX X scope z) K ifs t) (hf : ∀ z : BI, DX (bX X scope z) K elt f) (hs : ∀ x, foldedSetIterable iter X.env x = pure x := by intro _; rfl) (hix : ∀ j ∈ ix, j ∈ own.map (·.2) := by decide) :
    EX X K (.ListComp elt [⟨tg, iter, ifs, 0⟩] scope pos) (eLc (own.map (·.2)) c h t f) := by
  obtain ⟨_, p1, s1⟩ := hi
  obtain ⟨_, p2, s2⟩ := GX.all hg
  obtain ⟨_, p3, s3⟩ := CX1.all ht
  obtain ⟨_, p4, s4⟩ := DX.all hf
  exact ⟨_, pe_lc Z.calm hN p1 ok (fun s H C cl fp => p2 (s, H, C, cl, fp)) (fun s H C cl fp => p3 (s, H, C, cl, fp)) (fun s H C cl fp => p4 (s, H, C, cl, fp)) hs, sx_lc s1 s2 s3 s4 hix⟩
theorem b_setLc (Z : Fits X K k) (hN : X.N.Nodup) (i : Nat) {y : Str} {py : Pos} {elt tg iter : Expr} {ifs : List Expr} {scope : Scope} (own : List (Str × Nat)) {pos spos : Pos} {ix : List Nat} {c : Δ → Option (List D × Δ)} {h : D → Δ → Option Δ} {t : Δ → Option (Bool × Δ)} {f : Δ → Option (D × Δ)}
    (ok : BlkOk X.N X.env.scope scope own) (hi : IX X K tg iter c) (hg : ∀ z : BI, GX (bX X scope z) K tg ix h) (ht : ∀ z : BI, CX1 (bX X scope z) K ifs t) (hf : ∀ z : BI, DX (bX X scope z) K elt f) (hs : ∀ x, foldedSetIterable iter X.env x = pure x := by intro _; rfl) (hix : ∀ j ∈ ix, j ∈ own.map (·.2) := by decide)
    (hy : X.N[i]? = some y := by rfl) (hyl : X.env.scope.names.lookup y = some .local := by rfl) (hsw : swapsWith (.ListComp elt [⟨tg, iter, ifs, 0⟩] scope pos) (some (.Name y py)) spos.line X.env = pure true := by rfl) :
    BX X K (.Assign [.Name y py] (.ListComp elt [⟨tg, iter, ifs, 0⟩] scope pos) spos) (mAsg i (eLc (own.map (·.2)) c h t f)) := by
  obtain ⟨_, p1, s1⟩ := hi
  obtain ⟨_, p2, s2⟩ := GX.all hg
  obtain ⟨_, p3, s3⟩ := CX1.all ht
  obtain ⟨_, p4, s4⟩ := DX.all hf
  exact ⟨_, ps_setLc Z.calm hN hy hyl hsw p1 ok (fun s H C cl fp => p2 (s, H, C, cl, fp)) (fun s H C cl fp => p3 (s, H, C, cl, fp)) (fun s H C cl fp => p4 (s, H, C, cl, fp)) hs, ss_asg (sx_lc s1 s2 s3 s4 hix)⟩
end
end Vx
end
section
set_option Elab.async false
set_option linter.all false
set_option maxRecDepth 100000
set_option maxHeartbeats 3000000
/-! Displays of own things, several names at once, lists inside lists. -/
namespace Vy
open PySem PySem.Spec PyProof.Rows L2 Vi Vf Vo Vp Vs Vt Vu Vv Vg Vw Vx
section
variable {X : Cx} {K : Lay} {k : Nat} {F H F' H' F0 H0 F1 H1 : Hp} {σ σ' : L2.St} {δ δ' δ0 δ1 : Δ} {v : V} {p : P} {o : O} {d : D} {vs : List V} {ps : List P} {os : List O}
/-! ### a display of own things -/
/-- a tuple of frozen things and an own list behind them -/
def tlC (d : D) : I → Option I
  | .tl ds es => some (.tl (d :: ds) es)
  | _ => none
def tlI : List I → Option I
  | .ow es :: [] => some (.tl [] es)
  | .fz d :: is => (tlI is).bind (tlC d)
  | _ => none
def ofO : O → Option I
  | .tu is => tlI is
  | .fz d => some (.fz d)
  | .ow ds => some (.ow ds)
  | .oo dss => some (.oo dss)
  | _ => none
def mixI : List P → Option (List I)
  | [] => some []
  | .tm o :: ps => (ofO o).bind fun i => (mixI ps).map (i :: ·)
  | .sl _ :: _ => none
def eMix (g : Δ → Option (List P × Δ)) : Δ → Option (P × Δ) := fun δ => (g δ).bind fun r => if r.1.length ≤ sizeLine then (mixI r.1).map fun is => (.tm (.mx is), r.2) else none
/-! ### several names at once, each its own thing -/
def ownP : P → Δ → Option (O × Δ)
  | .tm (.ln _), _ => none
  | .tm o, δ => some (o, δ)
  | .sl i, δ => (force (.sl i) δ).map fun r => (.fz r.1, r.2)
def ownPs : List P → Δ → Option (List O × Δ)
  | [], δ => some ([], δ)
  | p :: ps, δ => (ownP p δ).bind fun r => (ownPs ps r.2).map fun s => (r.1 :: s.1, s.2)
def putAll : List Nat → List O → Δ → Option Δ
  | [], [], δ => some δ
  | i :: is, o :: os, δ => if noLn δ i = true then putAll is os (δ.set i (some o)) else none
  | _, _, _ => none
def fpO (H : Hp) : List V → List O → List Addr
  | v :: vs, o :: os => o.fp H v ++ fpO H vs os
  | _, _ => []
/-- several on their way, all apart from the slots -/
inductive Tms (K : Lay) (F H : Hp) (σ : L2.St) (δ : Δ) : List V → List O → Prop
  | nil : Tms K F H σ δ [] []
  | cons {a : V} {b : O} {as : List V} {bs : List O} : Tmp K F H σ δ a b → Tms K F H σ δ as bs → Tms K F H σ δ (a :: as) (b :: bs)
theorem prs_step : ∀ {vs : List V} {ps : List P}, PRs K F H σ δ vs ps → Aft K F H σ δ F' H' δ' → PRs K F' H' σ δ' vs ps ∧ fpA H' vs ps = fpA H vs ps
  | _, _, .nil, _ => ⟨.nil, rfl⟩
  | _, _, .cons x y, a => by
    obtain ⟨h1, h2⟩ := x.step a
    obtain ⟨h3, h4⟩ := prs_step y a
    exact ⟨.cons h1 h3, by unfold fpA; rw [h2, h4]⟩
/-- slots' own things frozen, the rest as it is -/
theorem ownPs_ok : ∀ {ps : List P} {vs : List V} {os : List O} {F H : Hp} {δ δ1 : Δ}, Rep K F H σ δ → PRs K F H σ δ vs ps → (fpA H vs ps).Nodup → ownPs ps δ = some (os, δ1) →
    ∃ F', Aft K F H σ δ F' H δ1 ∧ Tms K F' H σ δ1 vs os ∧ (fpO H vs os).Nodup ∧ (∀ a ∈ fpO H vs os, a ∈ fpA H vs ps)
  | [], _, os, F, H, δ, δ1, r, .nil, nd, e => by
    cases e
    exact ⟨F, .rfl r, .nil, by simp [fpO], fun z hz => by cases hz⟩
  | p :: ps, _, os, F, H, δ, δ1, r, .cons (a := v) (as := vs) x y, nd, e => by
    obtain ⟨⟨o, δ2⟩, e1, e2⟩ := Option.bind_eq_some_iff.mp e
    obtain ⟨⟨os2, δ3⟩, e3, e4⟩ := Option.map_eq_some_iff.mp e2
    cases e4
    have nd' : (p.fp H v ++ fpA H vs ps).Nodup := nd
    rw [List.nodup_append] at nd'
    obtain ⟨nd1, nd2, nd3⟩ := nd'
    cases p with
    | tm u =>
      have : u = o ∧ δ = δ2 := by cases u <;> cases e1 <;> exact ⟨rfl, rfl⟩
      obtain ⟨rfl, rfl⟩ := this
      obtain ⟨F', b1, b3, b4, b5⟩ := ownPs_ok r y nd2 e3
      refine ⟨F', b1, .cons (x.step b1).1 b3, ?_, fun z hz => ?_⟩
      · show (u.fp H v ++ fpO H vs os2).Nodup
        rw [List.nodup_append]
        exact ⟨nd1, b4, fun a ha b hb => nd3 a ha b (b5 b hb)⟩
      · rcases List.mem_append.mp hz with w | w
        · exact List.mem_append_left _ w
        · exact List.mem_append_right _ (b5 z w)
    | sl j =>
      obtain ⟨⟨d, δ4⟩, f1, f2⟩ := Option.map_eq_some_iff.mp e1
      cases f2
      obtain ⟨F1, c1, c2, c3, c4⟩ := force_ok (.rfl r) x (fun z hz => by cases hz) f1
      obtain ⟨y2, fe⟩ := prs_step y c1
      obtain ⟨F', b1, b3, b4, b5⟩ := ownPs_ok c1.rep y2 nd2 e3
      refine ⟨F', c1.trans b1, .cons ⟨dp_mono b1.go.kf c2, by simp [O.fp], fun z hz => by cases hz⟩ b3, b4, fun z hz => ?_⟩
      exact List.mem_append_right _ (b5 z hz)
/-- a slot is given a value, seen from farther back -/
theorem put_far {σ0 : L2.St} (r : Rep K F H σ δ) (t : Tmp K F H σ δ v o) {i : Nat} (hi : noLn δ i = true) (n : ∀ a ∈ o.fp H v, Held H0 σ0 δ0 a ∨ H0 a = none) (g : Go F0 H0 σ0 δ0 F H σ δ) :
    Rep K F H (σ.set i (some v)) (δ.set i (some o)) ∧ Go F0 H0 σ0 δ0 F H (σ.set i (some v)) (δ.set i (some o)) ∧ ∀ a, Held H (σ.set i (some v)) (δ.set i (some o)) a → Held H σ δ a ∨ a ∈ o.fp H v := by
  have hlt : i < δ.length := by
    cases q : δ[i]? with
    | none => simp [noLn, q] at hi
    | some z => exact (List.getElem?_eq_some_iff.mp q).1
  have own_of : ∀ j a, Own H (σ.set i (some v)) (δ.set i (some o)) j a → (j = i ∧ a ∈ o.fp H v) ∨ (j ≠ i ∧ Own H σ δ j a) := fun j a ⟨w, u, q1, q2, q3⟩ => by
    by_cases hj : i = j
    · subst hj
      rw [List.getElem?_set_self hlt] at q2
      rw [List.getElem?_set_self (by rw [r.len]; exact hlt)] at q1
      cases q1; cases q2
      exact .inl ⟨rfl, q3⟩
    · rw [set_get_ne hj] at q1 q2
      exact .inr ⟨fun z => hj z.symm, w, u, q1, q2, q3⟩
  refine ⟨⟨r.kp, by rw [List.length_set, List.length_set]; exact r.len, fun j u hj => ?_, fun j k a hj hk => ?_, r.tb, r.nm⟩, ⟨g.kf, g.kh, g.nf, fun a ⟨j, hj⟩ => ?_, g.st, fun j ds hj => ?_⟩, fun a ⟨j, hj⟩ => ?_⟩
  · by_cases hij : i = j
    · subst hij
      rw [List.getElem?_set_self hlt] at hj; cases hj
      exact ⟨v, List.getElem?_set_self (by rw [r.len]; exact hlt), t.ok, t.nd⟩
    · rw [set_get_ne hij] at hj
      obtain ⟨w, q1, q2, q3⟩ := r.ok j u hj
      exact ⟨w, by rw [set_get_ne hij]; exact q1, q2, q3⟩
  · rcases own_of j a hj with ⟨rfl, h1⟩ | ⟨n1, h1⟩
    · rcases own_of k a hk with ⟨rfl, h2⟩ | ⟨n2, h2⟩
      · rfl
      · exact absurd ⟨k, h2⟩ (t.ap a h1)
    · rcases own_of k a hk with ⟨rfl, h2⟩ | ⟨n2, h2⟩
      · exact absurd ⟨j, h1⟩ (t.ap a h2)
      · exact r.ap j k a h1 h2
  · rcases own_of j a hj with ⟨rfl, h1⟩ | ⟨n1, h1⟩
    · exact n a h1
    · exact g.hd a ⟨j, h1⟩
  · obtain ⟨q1, es, q2⟩ := g.ln j ds hj
    by_cases hij : i = j
    · subst hij
      simp [noLn, q2] at hi
    · exact ⟨(set_get_ne hij).trans q1, es, (set_get_ne hij).trans q2⟩
  · rcases own_of j a hj with ⟨rfl, h1⟩ | ⟨n1, h1⟩
    · exact .inr h1
    · exact .inl ⟨j, h1⟩
def setAll (σ : L2.St) : List Nat → List V → L2.St
  | i :: is, v :: vs => setAll (σ.set i (some v)) is vs
  | _, _ => σ
theorem putAll_ok {σ0 : L2.St} {F0 H0 F H : Hp} {δ0 : Δ} : ∀ {is : List Nat} {vs : List V} {os : List O} {σ : L2.St} {δ δ1 : Δ}, Rep K F H σ δ → Tms K F H σ δ vs os → (fpO H vs os).Nodup → (∀ a ∈ fpO H vs os, Held H0 σ0 δ0 a ∨ H0 a = none) → Go F0 H0 σ0 δ0 F H σ δ → putAll is os δ = some δ1 →
    Rep K F H (setAll σ is vs) δ1 ∧ Go F0 H0 σ0 δ0 F H (setAll σ is vs) δ1 ∧ is.length = vs.length
  | [], _, _, σ, δ, δ1, r, .nil, nd, n, g, e => by cases e; exact ⟨r, g, rfl⟩
  | [], _, _, σ, δ, δ1, r, .cons x y, nd, n, g, e => by cases e
  | i :: is, _, _, σ, δ, δ1, r, .nil, nd, n, g, e => by cases e
  | i :: is, _, _, σ, δ, δ1, r, .cons (a := v) (b := o) (as := vs) (bs := os) x y, nd, n, g, e => by
    unfold putAll at e
    split at e
    case isFalse => cases e
    rename_i hi
    have nd' : (o.fp H v ++ fpO H vs os).Nodup := nd
    rw [List.nodup_append] at nd'
    obtain ⟨nd1, nd2, nd3⟩ := nd'
    obtain ⟨r1, g1, h1⟩ := put_far r x hi (fun a ha => n a (List.mem_append_left _ ha)) g
    have y1 : Tms K F H (σ.set i (some v)) (δ.set i (some o)) vs os := by
      have dj : ∀ a ∈ fpO H vs os, a ∉ o.fp H v := fun a ha z => nd3 a z a ha rfl
      clear e nd nd2 nd3 n
      induction y with
      | nil => exact .nil
      | cons a b ih =>
        refine .cons ⟨a.ok, a.nd, fun z hz w => ?_⟩ (ih fun z hz => dj z (List.mem_append_right _ hz))
        rcases h1 z w with q | q
        · exact a.ap z hz q
        · exact dj z (List.mem_append_left _ hz) q
    obtain ⟨a1, a2, a3⟩ := putAll_ok r1 y1 nd2 (fun a ha => n a (List.mem_append_right _ ha)) g1 e
    exact ⟨a1, a2, by simp [a3]⟩
def gNames : List Nat → TGs
  | [] => gNil
  | i :: is => gCons (gName i) (gNames is)
theorem gNames_ok : ∀ {is : List Nat} {vs : List V} {σ : L2.St} {Q : L2.St → Hp → Prop}, is.length = vs.length → Q (setAll σ is vs) H → gNames is vs σ H Q
  | [], [], _, _, _, q => ⟨rfl, q⟩
  | [], _ :: _, _, _, l, _ => by cases l
  | _ :: _, [], _, _, l, _ => by cases l
  | i :: is, v :: vs, σ, Q, l, q => ⟨v, vs, rfl, gNames_ok (is := is) (by simpa using l) q⟩
def mTup (is : List Nat) (g : Δ → Option (List P × Δ)) : Δ → Option Out := fun δ => (g δ).bind fun r => if r.1.length ≤ sizeLine ∧ r.1.length = is.length then (ownPs r.1 r.2).bind fun s => (putAll is s.1 s.2).map .nx else none
theorem ss_tup {n : Nat} {is : List Nat} {ta : TA} {g : Δ → Option (List P × Δ)} (hg : SXs K ta g) (hn : is.length = n) : SS K (tAsg (tTup ta) (gTup K n (gNames is))) (mTup is g) := fun δ out e σ F H rp E kq => by
  obtain ⟨⟨ps, δ1⟩, e1, e⟩ := Option.bind_eq_some_iff.mp e
  dsimp only at e
  split at e
  case isFalse => cases e
  rename_i hz
  obtain ⟨⟨os, δ2⟩, e2, e⟩ := Option.bind_eq_some_iff.mp e
  obtain ⟨δ3, e3, e⟩ := Option.map_eq_some_iff.mp e
  cases e
  refine hg δ ps δ1 e1 σ F H rp _ fun vs F1 H1 a1 p1 nd n1 => ⟨by rw [(prs_get p1).1]; exact hz.1, fun b hb => ?_⟩
  have nw : New K F1 H1 F1 (upd H1 b (.tup vs)) := new_ext a1.rep.kp hb
  have a2 := nw.aft a1.rep
  obtain ⟨p2, fe⟩ := prs_step p1 a2
  obtain ⟨F2, a3, t3, nd3, sub3⟩ := ownPs_ok a2.rep p2 (by rw [fe]; exact nd) e2
  have g3 := (a1.go.trans a2.go).trans a3.go
  obtain ⟨r4, g4, l4⟩ := putAll_ok (σ0 := σ) (δ0 := δ) (F0 := F) (H0 := H) a3.rep t3 nd3 (fun a ha => n1 a (by rw [← fe]; exact sub3 a ha)) g3 e3
  refine ⟨b, vs, rfl, SqT.of upd_same, by rw [← l4, hn], gNames_ok l4 ?_⟩
  exact kq _ F2 _ r4 g4
def NX (X : Cx) (is : List Nat) (es : List Expr) : Prop := PGs X es (gNames is)
theorem n_nil : NX X [] [] := pgs_nil
theorem n_cons (i : Nat) {x : Str} {p : Pos} {es : List Expr} {is : List Nat} (hN : X.N.Nodup) (h : NX X is es) (hi : X.N[i]? = some x := by rfl) (hx : Loc X.env.scope x := by first | exact .inl rfl | exact .inr rfl) (hf : X.fn x = true ∨ X.env.scope.names.lookup x = some .local := by first | exact .inl rfl | exact .inr rfl)
    (hst : (assignEach ((.Name x p) :: es) X.env).map (·.2) = assign (.Name x p) X.env :: (assignEach es X.env).map (·.2) := by rfl) : NX X (i :: is) ((.Name x p) :: es) := pgs_cons (pg_name hN hi hx hf) h hst
theorem b_tup (Z : Fits X K k) (is : List Nat) {n : Nat} {es ns : List Expr} {j jn : Nat} {p1 p2 pos : Pos} {g : Δ → Option (List P × Δ)} (ha : ASX X K es g) (hg : NX X is ns) (hl : is.length = n := by rfl) (hn : (assignEach ns X.env).length = n := by rfl) (hst : (assignEach ns X.env).findIdx? (·.1) = none := by rfl)
    (hs : swapsWithSole [.Tuple ns jn p1] (.Tuple es j p2) pos.line X.env = pure false := by rfl) (hw : swappedStores [.Tuple ns jn p1] (.Tuple es j p2) X.env = pure none := by rfl)
    (h1 : (assignEach [.Tuple ns jn p1] X.env).map (·.2) = [assign (.Tuple ns jn p1) X.env] := by rfl) : BX X K (.Assign [.Tuple ns jn p1] (.Tuple es j p2) pos) (mTup is g) := by
  obtain ⟨_, p, s⟩ := ha
  refine ⟨_, ps_asg (pe_tup p) (pg_tup (n := n) Z.calm hg hn hst) hs hw h1, ?_⟩
  rw [Z.K]
  exact ss_tup s hl
/-! ### a slot's own thing changes, at an address of its own -/
end
end Vy
end
section
set_option Elab.async false
set_option linter.all false
set_option maxRecDepth 100000
set_option maxHeartbeats 3000000
/-! Lists inside lists: s[i].append(x), for x in s[i]: x.append(y), s.index(x). -/
namespace Va
open PySem PySem.Spec PyProof.Rows L2 Vi Vf Vo Vp Vs Vt Vu Vv Vg Vw Vx Vy
section
variable {X : Cx} {K : Lay} {k : Nat} {F H F' H' F0 H0 F1 H1 : Hp} {σ σ' : L2.St} {δ δ' δ0 δ1 : Δ} {v : V} {p : P} {o : O} {d : D} {vs : List V} {ps : List P} {os : List O}
/-! ### s[i].append(x) -/
/-- the items of the j-th list -/
def rowAt (n : Int) : O → Option (Nat × List D)
  | .oo dss => (ixN dss.length n).bind fun j => (dss[j]?).map fun es => (j, es)
  | .mx is => (ixN is.length n).bind fun j => match is[j]? with
    | some (.ow es) => some (j, es)
    | _ => none
  | _ => none
def setRow (j : Nat) (es : List D) : O → O
  | .oo dss => .oo (dss.set j es)
  | .mx is => .mx (is.set j (.ow es))
  | o => o
theorem okIs_len : ∀ {vs : List V} {is : List I}, OkIs K F H vs is → vs.length = is.length
  | _, _, .nil => rfl
  | _, _, .cons _ b => by rw [List.length_cons, List.length_cons, okIs_len b]
def eSubApp (i : Nat) (gj ga : Δ → Option (D × Δ)) : Δ → Option (D × Δ) := fun δ => (δ[i]?.bind id).bind fun _ => (gj δ).bind fun r => match r.1 with
  | .int n => (r.2[i]?.bind id).bind fun o1 => (rowAt n o1).bind fun _ => (ga r.2).bind fun s => (s.2[i]?.bind id).bind fun o => (rowAt n o).bind fun z => if z.2.length < sizeLine then some (.none, s.2.set i (some (setRow z.1 (z.2 ++ [s.1]) o))) else none
  | _ => none
/-! ### s.index(x) -/
def idxD (d e : D) : Option D := match d with
  | .list ds => if SeqAt.shaped (.list ds) = true ∧ SeqAt.shaped e = true then (ds.findIdx? fun z => PyData.eqv z e).map fun j => .int (j : Nat) else none
  | _ => none
def isList : D → Bool
  | .list _ => true
  | _ => false
def eIdx (f g : Δ → Option (P × Δ)) : Δ → Option (D × Δ) := fun δ => (f δ).bind fun r => (r.1.data r.2).bind fun d0 => if isList d0 = true then (g r.2).bind fun s => (r.1.data s.2).bind fun d => (s.1.data s.2).bind fun e => (idxD d e).map fun z => (z, s.2) else none
/-! ### for c in s[n]: c.append(x) : what is in the slot is spoilt -/
end
end Va
end
section
set_option Elab.async false
set_option linter.all false
set_option maxRecDepth 100000
set_option maxHeartbeats 1000000
/-! The law's own call, where no guard is on the stack and tables of code objects are tracked. -/
namespace Ve
open PySem PySem.Spec PyProof.Rows L2 Vf
/-- what is tracked as the law begins -/
def Hlaw (T : List Addr) (a : Addr) (u : Option HO) : Hp := fun b => if b ∈ T then some (.tbl #[]) else if b = a then u else none
theorem hlaw_in {T : List Addr} {a b : Addr} {u : Option HO} (h : b ∈ T) : Hlaw T a u b = some (.tbl #[]) := if_pos h
theorem hlaw_a {T : List Addr} {a : Addr} {u : Option HO} (h : a ∉ T) : Hlaw T a u a = u := by
  unfold Hlaw
  rw [if_neg h, if_pos rfl]
theorem hlaw_some {T : List Addr} {a b : Addr} {u : Option HO} {y : HO} (h : Hlaw T a u b = some y) : (b ∈ T ∧ y = .tbl #[]) ∨ (b ∉ T ∧ b = a ∧ u = some y) := by
  unfold Hlaw at h
  by_cases hb : b ∈ T
  · rw [if_pos hb] at h; cases h; exact .inl ⟨hb, rfl⟩
  · rw [if_neg hb] at h
    by_cases ha : b = a
    · rw [if_pos ha] at h; exact .inr ⟨hb, ha, h⟩
    · rw [if_neg ha] at h; cases h
abbrev lawList (us : List Value) : Obj := { cls := .type "list", data := .seq us.toArray }
abbrev emptyTab : Obj := { cls := .none, data := .fields #[] }
theorem law_callV {Pg : Program} {w : World} {K : PySem.W.Frag} {mg mb : Str → Option Value} {k : Nat} {fa a : Addr} {cs : List (Addr × Addr)} {fd : FuncData} {x : Str} {sp : Sp} {s : Shared} {us : List Value} {ns : List Int}
    (kin : K.In s.heap) (g1 : s.heap.Ns mainGlobals mg) (g2 : s.heap.Ns builtinsNs mb) (g3 : ∀ y : Str, y ≠ "__name__" → mb y = bootBuiltins y) (nl : s.heap.NoLimit) (ng : s.gens = #[])
    (tE : ∀ p ∈ cs, s.heap.get? p.2 = some emptyTab) (tK : ∀ p ∈ cs, K.lookup p.2 = none) (tC : ∀ p ∈ cs, PySem.W.CodeHd s.heap p.1 p.2)
    (bm : ∃ (m : Addr) (ob : Obj), mg "__builtins__" = some (.ref m) ∧ m ≠ builtinsNs ∧ s.heap.get? m = some ob ∧ ob.cls = .type "module" ∧ ob.dict = some builtinsNs ∧ ob.data = .plain)
    (oa : s.heap.get? a = some (lawList us)) (ari : IntsAre us ns) (hl : ns.length ≤ sizeLine) (hr : Room k callerA)
    (F : ∀ base : Heap, K.In base → base.Ns mainGlobals mg → (∀ p ∈ cs, GxR.TabB base mg p.1 p.2) → FnG Pg w K mg base CX0 k fa fd [x] sp) (bnd : ∀ (t : Shared) (u : Value), BindsTo t fd ⟨[u], []⟩ [(x, u)])
    (hsp : ∀ H : Hp, (∀ p ∈ cs, H p.2 = some (.tbl #[])) → SqL K H a (ns.map V.int) → sp [.ref a] H (fun v _ => v = .bl true) E0) :
    codeAny (model Pg w) callerA (.call (.ref fa) ⟨[.ref a], []⟩) (fun r t => r = .ok (.ret (.bool true)) ∧ OldK s.heap t.heap ∧ t.os = s.os ∧ AllBare t.gens) s := by
  have rv := vals_ints ari
  have inT : ∀ p ∈ cs, p.2 ∈ cs.map (·.2) := fun p hp => List.mem_map.mpr ⟨p, hp, rfl⟩
  have atT : ∀ b ∈ cs.map (·.2), ∃ p ∈ cs, p.2 = b ∧ s.heap.get? b = some emptyTab := fun b hb => by
    obtain ⟨p, hp, e⟩ := List.mem_map.mp hb
    subst e
    exact ⟨p, hp, rfl, tE p hp⟩
  have aT : a ∉ cs.map (·.2) := fun z => by
    obtain ⟨_, _, _, q⟩ := atT a z
    rw [oa] at q
    injection q with q
    have q2 := congrArg Obj.cls q
    cases q2
  generalize hu : (match K.lookup a with | some _ => none | none => some (HO.frz (lawList us) (.lst (ns.map V.int)))) = u
  have uS : ∀ y, u = some y → K.lookup a = none ∧ y = HO.frz (lawList us) (.lst (ns.map V.int)) := fun y e => by
    rw [← hu] at e
    cases q : K.lookup a with
    | some o => rw [q] at e; cases e
    | none => rw [q] at e; cases e; exact ⟨rfl, rfl⟩
  -- the abstract heap
  generalize hH : Hlaw (cs.map (·.2)) a u = H
  have Hs : ∀ b y, H b = some y → (b ∈ cs.map (·.2) ∧ y = .tbl #[]) ∨ (b ∉ cs.map (·.2) ∧ b = a ∧ u = some y) := fun b y e => hlaw_some (by rw [hH]; exact e)
  have hok : HOk Pg w H s.heap := fun b y e => by
    rcases Hs b y e with ⟨h1, rfl⟩ | ⟨_, rfl, h3⟩
    · obtain ⟨_, _, _, q⟩ := atT b h1
      exact q
    · obtain ⟨_, rfl⟩ := uS y h3
      refine ⟨oa, ?_, us, _, rv, oa⟩
      rw [List.length_map]; exact hl
  have hS : SqL K H a (ns.map V.int) := by
    cases q : K.lookup a with
    | some o =>
      have e := kin a o q
      rw [oa] at e
      cases e
      refine .inr ⟨_, us.toArray, _, q, rfl, rfl, rfl, ?_, by simpa using rv⟩
      rw [List.size_toArray, ari.length]
      exact hl
    | none =>
      refine .inl (.inr ⟨lawList us, ?_⟩)
      rw [← hH, hlaw_a aT, ← hu, q]
  have hT : ∀ p ∈ cs, H p.2 = some (.tbl #[]) := fun p hp => by rw [← hH]; exact hlaw_in (inT p hp)
  -- what is no list and no table is not tracked
  have free : ∀ {b : Addr} {o : Obj}, s.heap.get? b = some o → (∀ vs n, o.data ≠ .seq vs n) → o.data ≠ .fields #[] → H b = none := fun {b o} e n1 n2 => by
    cases q : H b with
    | none => rfl
    | some y =>
      rcases Hs b y q with ⟨h1, _⟩ | ⟨_, h2, _⟩
      · obtain ⟨_, _, _, q2⟩ := atT b h1
        rw [e] at q2; cases q2
        exact (n2 rfl).elim
      · subst h2
        rw [e] at oa; cases oa
        exact (n1 _ _ rfl).elim
  have keepB : ∀ {b : Addr} {o : Obj}, s.heap.get? b = some o → H b = none → (hidT s.heap H).get? b = some o := fun e n => hidT_get e n
  have nsB : ∀ {b : Addr} {m : Str → Option Value}, s.heap.Ns b m → (hidT s.heap H).Ns b m := fun {b m} h => by
    obtain ⟨o, es, ep, e, d, r⟩ := h
    refine ⟨o, es, ep, keepB e (free e ?_ ?_), d, r⟩
    · intro vs n z; rw [d] at z; cases z
    · intro z; rw [d] at z; cases z
  have kinB : K.In (hidT s.heap H) := fun b o e => by
    refine keepB (kin b o e) ?_
    cases q : H b with
    | none => rfl
    | some y =>
      rcases Hs b y q with ⟨h1, _⟩ | ⟨_, h2, h3⟩
      · obtain ⟨p, hp, ep, _⟩ := atT b h1
        rw [← ep, tK p hp] at e; cases e
      · rw [h2, (uS y h3).1] at e; cases e
  have modB : L2.Mod K mg (hidT s.heap H) := by
    obtain ⟨mc, n1, n2⟩ := nl
    exact ⟨kinB, nsB g1, ⟨mb, nsB g2, g3⟩, mc, nsB n1, n2⟩
  have TB : ∀ p ∈ cs, GxR.TabB (hidT s.heap H) mg p.1 p.2 := fun p hp => by
    have hp2 := tE p hp
    refine ⟨?_, ?_, ?_⟩
    · obtain ⟨o, vs, file, tf, flags, tg, inF, text, tt, e1, r1, r2, r3, rest⟩ := tC p hp
      refine ⟨o, vs, file, tf, flags, tg, inF, text, tt, keepB e1 (free e1 ?_ ?_), r1, r2, r3, rest⟩
      · intro vs n z; rw [r2] at z; cases z
      · intro z
        rw [r2] at z; cases z
        simp at r3
    · obtain ⟨m, ob, b1, b2, b3, b4, b5, b6⟩ := bm
      refine ⟨m, ob, b1, b2, ?_, ?_, keepB b3 (free b3 ?_ ?_), b4, b5, b6⟩
      · intro q
        obtain ⟨o, es, ep, e, hd, _⟩ := g1
        rw [q, e] at b3; cases b3
        rw [hd] at b6; cases b6
      · intro q
        rw [q, hp2] at b3; cases b3
        cases b6
      · intro vs n z; rw [b6] at z; cases z
      · intro z; rw [b6] at z; cases z
    · intro z
      obtain ⟨o, es, ep, e, hd, _⟩ := g1
      rw [z, hp2] at e; cases e
      cases hd
  have e0 : Env0 Pg w K mg (hidT s.heap H) callerA [] s H := by
    refine ⟨rfl, modB, fun b o e => of_hidT e, Nat.le_of_eq (hidT_size _ _), trivial, fun b hb => ?_, hok, .of_eq ng⟩
    cases hb
  refine codeAny_mono ((F _ kinB (nsB g1) TB).run callerA [] s H ⟨[.ref a], []⟩ [.ref a] [.ref a] _ _ hr rfl e0 (bnd s (.ref a)) (.cons rfl .nil) (hsp H hT hS)) ?_
  intro r t h
  match r, h with
  | .error e, h => exact h.elim
  | .ok .next, h => exact h.elim
  | .ok .brk, h => exact h.elim
  | .ok .cont, h => exact h.elim
  | .ok (.ret y), h =>
    obtain ⟨v, G, os, bare, un, hokG, ry, q⟩ := h
    obtain rfl : v = .bl true := q
    obtain rfl : y = Value.bool true := ry
    have kept : ∀ b o, b ∉ cs.map (·.2) → s.heap.get? b = some o → t.heap.get? b = some o := fun b o nb e => by
      cases q : H b with
      | none => exact un.keep b o e q (fun z => by cases z) (fun z => by cases z)
      | some y =>
        rcases Hs b y q with ⟨h1, _⟩ | ⟨_, h2, h3⟩
        · exact absurd h1 nb
        · obtain ⟨_, rfl⟩ := uS y h3
          obtain ⟨e1, _⟩ := hok b _ q
          obtain ⟨e2, _⟩ := hokG b _ (un.frzs b _ _ q)
          rw [e] at e1; cases e1
          exact e2
    have more : ∀ p ∈ cs, ∃ z : Array Value, t.heap.get? p.2 = some { cls := .none, data := .fields z } := fun p hp => by
      obtain ⟨z, e⟩ := un.tbls p.2 #[] (hT p hp)
      exact ⟨_, hokG p.2 _ e⟩
    refine ⟨rfl, ⟨fun b o e => ?_, fun b o e => ?_⟩, os, bare⟩
    · by_cases hb : b ∈ cs.map (·.2)
      · obtain ⟨p, hp, ep, q⟩ := atT b hb
        obtain ⟨z, hz⟩ := more p hp
        rw [e] at q; cases q
        subst ep
        refine .inr (.inl ⟨((tC p hp).tab (tE p hp)).isCodeTable, rfl, #[], z, rfl, ?_⟩)
        rw [Array.empty_append]; exact hz
      · exact .inl (kept b o hb e)
    · by_cases hb : b ∈ cs.map (·.2)
      · obtain ⟨p, hp, ep, _⟩ := atT b hb
        obtain ⟨z, hz⟩ := more p hp
        subst ep
        exact ⟨_, hz⟩
      · exact ⟨o, kept b o hb e⟩
/-- the head's promise: a law whose value is known for each list of numbers -/
structure LawV (l : PySem.W.OpenLaw) (w : World) (K : PySem.W.Frag) (k n : Nat) (x : Str) (mg : Str → Option Value) (h : Heap) (fa : Addr) (fd : FuncData) (cs : List (Addr × Addr)) (sp : Sp) : Prop where
  tE : ∀ p ∈ cs, h.get? p.2 = some emptyTab
  tK : ∀ p ∈ cs, K.lookup p.2 = none
  tC : ∀ p ∈ cs, PySem.W.CodeHd h p.1 p.2
  bnd : ∀ (s : Shared) (u : Value), BindsTo s fd ⟨[u], []⟩ [(x, u)]
  val : ∀ (H : Hp) (a : Addr) (ns : List Int), ns.length ≤ n → (∀ z ∈ ns, Builtin.Int.intBits z ≤ 1048576) → (∀ p ∈ cs, H p.2 = some (.tbl #[])) → SqL K H a (ns.map V.int) → sp [.ref a] H (fun v _ => v = .bl true) E0
  ok : ∀ base : Heap, K.In base → base.Ns mainGlobals mg → (∀ p ∈ cs, GxR.TabB base mg p.1 p.2) → FnG l.prog w K mg base CX0 k fa fd [x] sp
end Ve
end
section
set_option Elab.async false
set_option linter.all false
set_option maxRecDepth 100000
set_option maxHeartbeats 3000000
/-! [[] for x in xs]; len(set(list(zip(a, b)))); defs by name; the law's end. -/
namespace Vb
open PySem PySem.Spec PyProof.Rows L2 Vi Vf Vo Vp Vs Vt Vu Vv Vg Vw Vx Vy Va
section
variable {X : Cx} {K : Lay} {k : Nat} {F H F' H' F0 H0 F1 H1 : Hp} {σ σ' : L2.St} {δ δ' δ0 δ1 : Δ} {v : V} {p : P} {o : O} {d : D} {vs : List Nat} {ps : List P} {os : List O}
/-! ### [[] for x in xs] -/
def eLcE (vs : List Nat) (c : Δ → Option (List D × Δ)) (h : D → Δ → Option Δ) : Δ → Option (P × Δ) := fun δ => (c δ).bind fun r => if r.1.length ≤ sizeLine ∧ vs.all (okv r.2) = true ∧ (r.1.all fun d => (h d (wipeΔ r.2 vs)).isSome) = true then some (.tm (.oo (List.replicate r.1.length [])), restΔ r.2 (wipeΔ r.2 vs) vs) else none
/-! ### len(set(list(zip(a, b)))) -/
end
end Vb
end
section
set_option Elab.async false
set_option linter.all false
set_option maxRecDepth 100000
set_option maxHeartbeats 3000000
/-! Defs by name, with their values; the law's end over a head by facts. -/
namespace Vc
open PySem PySem.Spec PyProof.Rows L2 Vi Vf Vo Vp Vs Vt Vu Vv Vg Vw Vx Vy Va Vb
/-! ### == and != : texts are compared as they are -/
section
variable {X : Cx} {K : Lay} {k : Nat}
def eqX (d e : D) : Option D := match d, e with
  | .str x, .str y => some (.bool (decide (x = y)))
  | d, e => eqD d e
def neX (d e : D) : Option D := match d, e with
  | .str x, .str y => some (.bool (!decide (x = y)))
  | d, e => neD d e
theorem dec_strV {i j : Str} : decide (V.str i = V.str j) = decide (i = j) := by
  rw [Bool.eq_iff_iff]
  simp
theorem o_eqX (Z : Fits X K k) : OpS X K (compareOp .Eq) eqX := by
  obtain ⟨r, h1, h2⟩ := o_eqD Z
  refine ⟨_, OpR.or op_eq h1, fun H x y d e z hx hy hg => ?_⟩
  unfold eqX at hg
  split at hg
  · rename_i i j
    cases hg
    cases dp_str hx
    cases dp_str hy
    exact ⟨.bl (decide (i = j)), rfl, fun Q q => .inl ⟨rfl, by rw [dec_strV]; exact q⟩⟩
  · obtain ⟨w, a, b⟩ := h2 H x y d e z hx hy hg
    exact ⟨w, a, fun Q q => .inr (b Q q)⟩
theorem o_neX (Z : Fits X K k) : OpS X K (compareOp .NotEq) neX := by
  obtain ⟨r, h1, h2⟩ := o_neD Z
  refine ⟨_, OpR.or op_ne h1, fun H x y d e z hx hy hg => ?_⟩
  unfold neX at hg
  split at hg
  · rename_i i j
    cases hg
    cases dp_str hx
    cases dp_str hy
    exact ⟨.bl (!decide (i = j)), rfl, fun Q q => .inl ⟨rfl, by rw [dec_strV]; exact q⟩⟩
  · obtain ⟨w, a, b⟩ := h2 H x y d e z hx hy hg
    exact ⟨w, a, fun Q q => .inr (b Q q)⟩
end
/-! ### a, b = x, y, stored one by one -/
section
variable {X : Cx} {K : Lay} {k : Nat} {F H : Hp} {σ : L2.St} {δ : Δ}
theorem par2 {i j : Nat} {vs : List V} {H1 : Hp} {E : Ends} (h : vs.length = [i, j].length ∧ E.nx (setAll σ [i, j] vs) H1) : ∃ v w, vs = [v, w] ∧ E.nx ((σ.set i (some v)).set j (some w)) H1 := by
  obtain ⟨l, q⟩ := h
  match vs, l, q with
  | [v, w], _, q => exact ⟨v, w, rfl, q⟩
theorem ss_par {i j : Nat} {ta : TA} {g : Δ → Option (List P × Δ)} (hg : SXs K ta g) : SS K (tPar i j ta) (mTup [i, j] g) := fun δ out e σ F H r E kq => by
  obtain ⟨⟨ps, δ1⟩, e1, e⟩ := Option.bind_eq_some_iff.mp e
  dsimp only at e
  split at e
  case isFalse => cases e
  rename_i hz
  obtain ⟨⟨os, δ2⟩, e2, e⟩ := Option.bind_eq_some_iff.mp e
  obtain ⟨δ3, e3, e⟩ := Option.map_eq_some_iff.mp e
  cases e
  refine hg δ ps δ1 e1 σ F H r _ fun vs F1 H1 a1 p1 nd n1 => ?_
  obtain ⟨F2, a3, t3, nd3, sub3⟩ := ownPs_ok a1.rep p1 nd e2
  obtain ⟨r4, g4, l4⟩ := putAll_ok (σ0 := σ) (δ0 := δ) (F0 := F) (H0 := H) a3.rep t3 nd3 (fun a ha => n1 a (sub3 a ha)) (a1.go.trans a3.go) e3
  exact par2 ⟨l4.symm, kq _ F2 _ r4 g4⟩
theorem b_par (Z : Fits X K k) (i j : Nat) {x y : Str} {a b : Expr} {px py pt pt2 pos : Pos} {kt k2 : Nat} {g : Δ → Option (List P × Δ)} (hN : X.N.Nodup) (ha : ASX X K [a, b] g) (hi : X.N[i]? = some x := by rfl) (hj : X.N[j]? = some y := by rfl) (hij : i ≠ j := by decide)
    (hx : X.env.scope.names.lookup x = some .local := by rfl) (hy : X.env.scope.names.lookup y = some .local := by rfl)
    (hw : swappedStores [.Tuple [.Name x px, .Name y py] kt pt] (.Tuple [a, b] k2 pt2) X.env = pure (some [x, y]) := by rfl) (hs : swapsWithSole [.Tuple [.Name x px, .Name y py] kt pt] (.Tuple [a, b] k2 pt2) pos.line X.env = pure false := by rfl) :
    BX X K (.Assign [.Tuple [.Name x px, .Name y py] kt pt] (.Tuple [a, b] k2 pt2) pos) (mTup [i, j] g) := let ⟨_, p, s⟩ := ha; ⟨_, ps_par Z.calm hN hi hj hij hx hy p hw hs, ss_par s⟩
end
/-- what is known of a def: its text, its value -/
structure DefS (Pg : Program) (w : World) (K : Lay) (mg : Str → Option Value) (base : Heap) (k : Nat) (x : Str) (st : Stmt) (ps : List Str) (fv : List O → Option (O × Δ)) : Prop where
  ex : ∃ (f : Addr) (fd : FuncData) (kV doc pm : Value) (an : Option Addr) (cdv ct : Value), FnG Pg w K.K mg base CX0 k f fd ps (SpV K fv) ∧ mg x = some (.ref f) ∧ PySem.W.keepIn K.K (.ref f) = true ∧
    fd = PySem.W.fnOf x x (defArgs st) (defBody st) (defScope st) .none kV doc pm an cdv ct ∧ Binds K.K fd ps []
section
variable {X : Cx} {K : Lay} {k : Nat}
theorem x_fn (Z : Fits X K k) {j : Nat} {x : Str} {st : Stmt} {ps : List Str} {fv : List O → Option (O × Δ)} (G : DefS X.prog X.w K X.mg X.base j x st ps fv) (hj : j ≤ k) {e : Expr} {es : List Expr} {p pos : Pos} {g : Δ → Option (List P × Δ)} (ha : ASX X K (e :: es) g) (hg : Gl X x := by rfl)
    (hdb : (x == ("__debug__" : Str)) = false := by decide) (he : starEach (e :: es) X.env = (false, eval e X.env) :: starEach es X.env := by rfl) (hpl : (backTo pos (starEach es X.env)).any (·.1) = false := by rfl) : EX X K (.Call (.Name x p) (e :: es) [] pos) (eFn fv g) := by
  obtain ⟨_, q, s⟩ := ha
  obtain ⟨f, fd, kV, doc, pm, an, cdv, ct, F, hm, hk, _, hb⟩ := G.ex
  rw [← Z.K] at F hk hb
  exact ⟨_, pe_callG (F.up hj) Z.can hg hm hk hb pass0 q hdb he hpl, sx_fn s⟩
theorem x_fnK (Z : Fits X K k) {j : Nat} {x : Str} {st : Stmt} {ps : List Str} {fv : List O → Option (O × Δ)} (G : DefS X.prog X.w K X.mg X.base j x st ps fv) (hj : j ≤ k) (ks : List Str) (ix : List Nat) {kws : List Keyword} {p pos : Pos} {g : Δ → Option (List P × Δ)} (ha : KSX X K kws g)
    (hb : ∀ (kV doc pm : Value) (an : Option Addr) (cdv ct : Value) (ws : List Value), ws.length = ks.length → bindArgs (PySem.W.fnOf x x (defArgs st) (defBody st) (defScope st) .none kV doc pm an cdv ct) ⟨[], ks.zip ws⟩ = pure (ps.zip (pmI ix ws)))
    (hg : Gl X x := by rfl) (hall : (backToKw pos (keywordEach kws X.env)).all (·.1.isSome) = true := by rfl) (hks : (backToKw pos (keywordEach kws X.env)).filterMap (·.1) = ks := by rfl)
    (hdb : (x == ("__debug__" : Str)) = false := by decide) (hpl : ((backTo pos (starEach [] X.env)).any (·.1) || (backToKw pos (keywordEach kws X.env)).any (·.1.isNone)) = false := by rfl) : EX X K (.Call (.Name x p) [] kws pos) (eFnK ks.length ix fv g) := by
  obtain ⟨_, q, s⟩ := ha
  obtain ⟨f, fd, kV, doc, pm, an, cdv, ct, F, hm, hk, efd, _⟩ := G.ex
  subst efd
  rw [← Z.K] at F hk
  exact ⟨_, pe_callGK (pm := fun l => pmI ix l) (F.up hj) Z.can hg hm hk (fun s ws _ hl => .of_eq (hb kV doc pm an cdv ct ws hl)) (fun h => vals_pm h ix) pass0 q hall hks hdb hpl, sx_fnK s⟩
end
section
variable {Pg : Program} {w : World} {K : Lay} {mg : Str → Option Value} {base : Heap}
/-- THE RULE for a def -/
theorem def_v {x : Str} {st : Stmt} {f : Addr} {fd : FuncData} {N ps : List Str} {k : Nat} {m : Δ → Option Out} (Fd : FunD K.K x x (defArgs st) (defBody st) (defScope st) [] [] f fd) (hm : mg x = some (.ref f)) (S : FnScope N ps (defScope st)) (hn : ps.length ≤ N.length)
    (hb : ∀ (kV doc pm : Value) (an : Option Addr) (cdv ct : Value) (us : List Value), us.length = ps.length → bindArgs (PySem.W.fnOf x x (defArgs st) (defBody st) (defScope st) .none kV doc pm an cdv ct) ⟨us, []⟩ = pure (ps.zip us))
    (hbody : ∀ (cdv : Value) (B : Around) (es : List Env) (s : Shared) (H : Hp) (E : XK), (∃ oc od kV doc pm an ct osl, K.K.lookup f = some ⟨oc, od, .func (PySem.W.fnOf x x (defArgs st) (defBody st) (defScope st) .none kV doc pm an cdv ct), osl⟩ ∧ PySem.W.codeIn K.K cdv x = true) →
      Fits (cxOf CX0 Pg w K.K mg base N x (defScope st) f cdv B es s H E).nox K k → BXs (cxOf CX0 Pg w K.K mg base N x (defScope st) f cdv B es s H E).nox K (defBody st) m) :
    DefS Pg w K mg base (k + 1) x st ps (runM ps.length N.length m) := by
  have hbn := FunD.bindsN Fd hb
  obtain ⟨oc, od, dV, kV, doc, pm, an, cdv, ct, osl, rfl, lk, hcd, hD, hK⟩ := Fd.ex
  have hdV : dV = .none := by
    rcases hD with ⟨_, e⟩ | ⟨e, _⟩
    · exact e
    · exact absurd rfl e
  subst hdV
  refine ⟨f, _, kV, doc, pm, an, cdv, ct, ?_, hm, Fd.kp, rfl, hbn⟩
  refine fnG_of lk hcd S (fun zs G R X h => spV_len h) fun B es t G zs R X hr hg h => ?_
  obtain ⟨T, hT, hs⟩ := hbody cdv B es t G X ⟨oc, od, kV, doc, pm, an, ct, osl, lk, hcd⟩ ⟨rfl, ⟨hr, hg⟩, rfl⟩
  refine ⟨T, hT.nox, ?_⟩
  obtain ⟨F, os, o, δ', e, r, q⟩ := h
  unfold runM at e
  split at e
  case isFalse => cases e
  rename_i hk
  have hn' : os.length ≤ N.length := by omega
  obtain ⟨r0, _⟩ := rep_start (N := N) r hn'
  split at e
  case h_1 o1 δ1 hm =>
    cases e
    refine hs _ _ hm _ F G r0 _ fun v σ' F' H' r1 g t1 n1 => ?_
    obtain ⟨b1, b2, b3⟩ := back_ok r hn' r1 g
    exact q v F' H' b1 b2 ⟨t1.ok, t1.nd, fun a ha z => t1.ap a ha (b3 a z)⟩ fun a ha => (n1 a ha).imp_left fun ⟨j, z⟩ => ⟨j, (rep_start r hn').2 j a z⟩
  case h_2 δ1 hm =>
    cases e
    refine hs _ _ hm _ F G r0 _ fun σ' F' H' r1 g => ?_
    obtain ⟨b1, b2, b3⟩ := back_ok r hn' r1 g
    exact q .non F' H' b1 b2 ⟨.non, by simp [O.fp], fun a ha => by cases ha⟩ fun a ha => by cases ha
  case h_3 => cases e
end
/-! ### the law's end -/
/-- the facts of a head, read off -/
structure Head (fa : List He.Fa) (fn : List He.DefD) (tf : List He.Defn) (ex : PySem.W.Frag → Bool) (w : World) (h : Heap) (K : PySem.W.Frag) : Prop where
  kin : K.In h
  x : He.SaysX fa fn [] tf ex w h K
theorem walk_VX {l : PySem.W.OpenLaw} {n k : Nat} {q : Program} {loose : List Str} {XP : (Str → Option Value) → Heap → Prop} {d : DefRec} {x : Str} {fa : List He.Fa} {fn : List He.DefD} {tf : List He.Defn} {ex : PySem.W.Frag → Bool} (hn : l.most = some n) (hn2 : n ≤ sizeLine) (hdf : d.params.defaults = []) (hr : Room k callerA)
    (F : ∀ (w : World) (mg : Str → Option Value) (ad : Addr) (h : Heap) (K : PySem.W.Frag), Head fa fn tf ex w h K → h.Ns mainGlobals mg → mg d.name = some (.ref ad) →
      ∃ fd sp, (∀ (s : Shared) (u : Value), BindsTo s fd ⟨[u], []⟩ [(x, u)]) ∧
        (∀ (H : Hp) (a : Addr) (ns : List Int), ns.length ≤ n → (∀ z ∈ ns, Builtin.Int.intBits z ≤ 1048576) → (∀ p ∈ tf, H (He.cT K p).2 = some (.tbl #[])) → SqL K H a (ns.map V.int) → sp [.ref a] H (fun v _ => v = .bl true) E0) ∧
        ∀ base : Heap, K.In base → base.Ns mainGlobals mg → (∀ p ∈ tf, GxR.TabB base mg (He.cT K p).1 (He.cT K p).2) → FnG l.prog w K mg base CX0 k ad fd [x] sp) :
    PySem.W.WalkO q loose XP (He.hookX 4 fa fn [] tf ex).says l.row.toRowW d [] (fun f vs => PySem.call f vs) := by
  refine Att.attach_callB hn hdf ?_
  intro w s₀ s₁ mg mb fad o pm cd doc a vs ns G Y ho hd hcd hmg hobj hin hlen hbits hg
  obtain ⟨K, kin, c⟩ := Y
  obtain ⟨fd, sp, hb, hv, hF⟩ := F w mg fad _ K ⟨kin, c⟩ G.T.g hmg
  have cs : ∀ p ∈ tf.map (He.cT K), ∃ z ∈ tf, He.cT K z = p := fun p hp => by
    obtain ⟨z, hz, e⟩ := List.mem_map.mp hp
    exact ⟨z, hz, e⟩
  exact Ve.law_callV (cs := tf.map (He.cT K)) kin G.T.g G.T.b G.T.builtins G.T.nolimit hg
    (fun p hp => by obtain ⟨z, hz, rfl⟩ := cs p hp; exact c.empty z hz) (fun p hp => by obtain ⟨z, hz, rfl⟩ := cs p hp; exact c.out z hz)
    (fun p hp => by obtain ⟨z, hz, rfl⟩ := cs p hp; exact PySem.W.codeHd_of_K kin (c.hd z hz)) G.T.bmain hobj hin (Nat.le_trans hlen hn2) hr
    (fun base hk hns hT => hF base hk hns fun p hp => hT _ (List.mem_map.mpr ⟨p, hp, rfl⟩)) hb fun H hH hS => hv H a ns hlen hbits (fun p hp => hH _ (List.mem_map.mpr ⟨p, hp, rfl⟩)) hS
end Vc
end
section
set_option Elab.async false
set_option linter.all false
set_option maxRecDepth 100000
set_option maxHeartbeats 3000000
/-! More rules: whole numbers by a global name, the least of a list, «is» of truth values, a list turned round. -/
namespace Vk
open PySem PySem.Spec PyProof.Rows L2 Vi Vf Vo Vp Vs Vt Vu Vv Vg Vw Vx Vy Va Vb Vc
section
variable {X : Cx} {K : Lay} {k : Nat}
/-! ### a whole number by a global name -/
theorem d_gint {x : Str} {i : Int} {pos : Pos} (hm : ∃ t, X.mg x = some (.int i t)) (hg : Gl X x := by rfl) (hd : (x == ("__debug__" : Str)) = false := by decide) : DX X K (.Name x pos) (eC (.int i)) := by
  obtain ⟨t, e⟩ := hm
  exact ⟨_, pe_glob (v := .int i) hg e ⟨t, rfl⟩ hd, sd_int⟩
/-! ### min(xs) -/
/-! ### «is» of truth values -/
/-! ### xs[::-1] -/
def revO : D → Option O
  | .list ds => some (.ow ds.reverse)
  | _ => none
def eRevL (f : Δ → Option (D × Δ)) : Δ → Option (P × Δ) := fun δ => (f δ).bind fun r => (revO r.1).map fun o => (.tm o, r.2)
end
end Vk
end
section
set_option Elab.async false
set_option linter.all false
set_option maxRecDepth 100000
set_option maxHeartbeats 3000000
/-! Own lists of own lists: a row is moved in, all rows get an item. -/
namespace Vm
open PySem PySem.Spec PyProof.Rows L2 Vi Vf Vo Vp Vs Vt Vu Vv Vg Vw Vx Vy Va Vb Vc Vk
section
variable {K : Lay} {F H : Hp} {σ : L2.St} {δ : Δ} {v : V} {o : O}
/-- an own list of own lists, also an empty own list -/
def asOO : O → Option (List (List D))
  | .oo dss => some dss
  | .ow [] => some []
  | _ => none
theorem set_same {α : Type} {l : List α} {i : Nat} {a : α} (h : l[i]? = some a) : l.set i a = l := by
  refine List.ext_getElem? fun j => ?_
  by_cases hj : i = j
  · subst hj; rw [List.getElem?_set_self (List.getElem?_eq_some_iff.mp h).1, h]
  · rw [set_get_ne hj]
/-! ### s.append(row), the row moved -/
/-! ### for c in s: c.append(x) : each row of the slot's list of lists gets it -/
/-! ### s.append(x), s a list of lists that is not looked at any more -/
end
section
variable {X : Cx} {K : Lay} {k : Nat}
end
end Vm
end
section
set_option Elab.async false
set_option linter.all false
set_option maxRecDepth 100000
set_option maxHeartbeats 3000000
/-! sorted(range(len(xs)), key=lambda i: xs[i]), xs of whole numbers: the value (the rule is still to be shown). -/
namespace Vl
open PySem PySem.Spec PyProof.Rows L2 Vi Vf Vo Vp Vs Vt Vu Vv Vg Vw Vx Vy Va Vb Vc Vk Vm
/-! ### repr([e, ..]) : the list is but for a moment, what stands in it stays with its slots -/
/-! ### f(a, ..): what is handed in stays with its slots; what comes back are plain things -/
def scO : O → Bool
  | .fz d => (sv d).isSome
  | .ow ds => ds.all fun d => (sv d).isSome
  | .oo dss => dss.all fun ds => ds.all fun d => (sv d).isSome
  | _ => false
end Vl
end
section
set_option Elab.async false
set_option linter.all false
set_option maxRecDepth 100000
set_option maxHeartbeats 3000000
/-! sorted(range(len(xs)), key=lambda i: xs[i]): the rule. -/
namespace Vn
open PySem PySem.Spec PySem.Calls PyProof.Rows PySem.W
section
variable {prog : Program} {w : World} {A : Around} {E : Value → Shared → Prop} {s : Shared}
def Pl (v : Value) (i : Int) : Prop := ∃ t, v = .int i t
end
section
open L2 Vi Vf Vo Vp Vs Vt Vu Vv Vg Vw Vx Vy Va Vb Vc Vk Vm Vl
variable {X : Cx} {pins : List (Addr × Obj)} {σ : L2.St} {H : Hp} {s : Shared}
theorem each_vals : ∀ {out : List Value} {ns : List Int}, EachIs Pl out ns → Vals (ns.map V.int) out
  | _, _, .nil => .nil
  | _, _, .cons h t => .cons h (each_vals t)
end
end Vn
end
section
set_option Elab.async false
set_option linter.all false
set_option maxRecDepth 100000
set_option maxHeartbeats 3000000
/-! Own dicts with whole numbers as keys; things read where they stand; changes of a slot's own thing. -/
namespace Vd
open PySem PySem.Spec PyProof.Rows L2 Vi Vf Vo Vp Vs Vt Vu Vv Vg Vw Vx Vy Va Vb Vc Vk Vm Vl Vn
section
variable {K : Lay} {F H F' H' F0 H0 : Hp} {σ : L2.St} {δ δ' δ0 δ1 : Δ} {v w : V} {o o' : O} {d : D}
/-! ### things read where they stand -/
def eL (f : Δ → Option (P × Δ)) : Δ → Option (D × Δ) := fun δ => (f δ).bind fun r => (r.1.data r.2).map fun d => (d, r.2)
def eLIx (f g : Δ → Option (D × Δ)) : Δ → Option (D × Δ) := fun δ => (f δ).bind fun r => (g r.2).bind fun s => (ixD r.1 s.1).map fun z => (z, s.2)
/-- a scalar that was read -/
def eSc (f : Δ → Option (D × Δ)) : Δ → Option (D × Δ) := fun δ => (f δ).bind fun r => if (sv r.1).isSome = true then some r else none
def eCallL (g : D → Option D) (f : Δ → Option (D × Δ)) : Δ → Option (D × Δ) := fun δ => (f δ).bind fun r => (g r.1).map fun z => (z, r.2)
def eOpNil (g : D → D → Option D) (f : Δ → Option (D × Δ)) : Δ → Option (D × Δ) := fun δ => (f δ).bind fun r => (g r.1 (.list [])).map fun z => (z, r.2)
end
section
variable {X : Cx} {K : Lay} {k : Nat}
end
end Vd
end
section
set_option Elab.async false
set_option linter.all false
set_option maxRecDepth 100000
set_option maxHeartbeats 3000000
/-! Own dicts with whole numbers as keys. -/
namespace Vd
open PySem PySem.Spec PyProof.Rows L2 Vi Vf Vo Vp Vs Vt Vu Vv Vg Vw Vx Vy Va Vb Vc Vk Vm Vl Vn
section
variable {K : Lay} {F H F' H' F0 H0 : Hp} {σ : L2.St} {δ δ' δ0 δ1 : Δ} {v w : V} {o o' : O} {d : D}
/-- the item at a key -/
def itK : List Int → List I → Int → Option I
  | k :: ks, i :: is, n => if k = n then some i else itK ks is n
  | _, _, _ => none
theorem putK_new : ∀ {kvs : List (L2.Key × V)} {ks : List Int} {n : Int} {v : V}, kvs.map (·.1) = ks.map Sum.inl → n ∉ ks → putK kvs (.inl n) v = kvs ++ [(.inl n, v)] := fun {kvs ks n v} h hn => by
  unfold putK
  rw [if_neg]
  intro z
  obtain ⟨p, hp, e⟩ := List.any_eq_true.mp z
  have e := of_decide_eq_true e
  have : Sum.inl n ∈ ks.map (Sum.inl (β := Str)) := by rw [← h, ← e]; exact List.mem_map.mpr ⟨p, hp, rfl⟩
  obtain ⟨m, hm, e2⟩ := List.mem_map.mp this
  cases e2
  exact hn hm
theorem okIs_app : ∀ {vs ws : List V} {is js : List I}, OkIs K F H vs is → OkIs K F H ws js → OkIs K F H (vs ++ ws) (is ++ js) ∧ fpI H (vs ++ ws) (is ++ js) = fpI H vs is ++ fpI H ws js
  | _, _, _, _, .nil, h => ⟨h, rfl⟩
  | _, _, _, _, .cons a b, h => by
    obtain ⟨h1, h2⟩ := okIs_app b h
    refine ⟨.cons a h1, ?_⟩
    show _ ++ fpI H (_ ++ _) (_ ++ _) = (_ ++ _) ++ _
    rw [h2, List.append_assoc]
def dcAt (δ : Δ) (i : Nat) : Option (List Int × List I) := match δ[i]? with
  | some (some (.dc ks is)) => some (ks, is)
  | _ => none
def keyD : D → Option Int
  | .int n => some n
  | _ => none
/-! ### k in d -/
def eDIn (neg : Bool) (i : Nat) (g : Δ → Option (D × Δ)) : Δ → Option (D × Δ) := fun δ => (g δ).bind fun r => (keyD r.1).bind fun n => (dcAt r.2 i).map fun q => (.bool (neg ^^ decide (n ∈ q.1)), r.2)
/-! ### {k: e} -/
def eDsp1 (g : Δ → Option (D × Δ)) (f : Δ → Option (P × Δ)) : Δ → Option (P × Δ) := fun δ => (g δ).bind fun r => (keyD r.1).bind fun n => (f r.2).bind fun s => (mixI [s.1]).map fun is => (.tm (.dc [n] is), s.2)
end
end Vd
end
section
set_option Elab.async false
set_option linter.all false
set_option maxRecDepth 100000
set_option maxHeartbeats 3000000
/-! Own dicts: stores, reads, what goes out; sorted(d). -/
namespace Vd
open PySem PySem.Spec PyProof.Rows L2 Vi Vf Vo Vp Vs Vt Vu Vv Vg Vw Vx Vy Va Vb Vc Vk Vm Vl Vn
section
variable {K : Lay} {F H F' H' F0 H0 : Hp} {σ : L2.St} {δ δ' δ0 δ1 : Δ} {v w : V} {o o' : O} {d : D}
/-! ### d[k] = e, k is new -/
def mDPut (i : Nat) (g : Δ → Option (D × Δ)) (f : Δ → Option (P × Δ)) : Δ → Option Out := fun δ => (f δ).bind fun r => (mixI [r.1]).bind fun is => (dcAt r.2 i).bind fun _ => (g r.2).bind fun s => (keyD s.1).bind fun n => (dcAt s.2 i).bind fun q => if n ∉ q.1 ∧ q.1.length < sizeLine then some (.nx (s.2.set i (some (.dc (q.1 ++ [n]) (q.2 ++ is))))) else none
/-! ### f(d[k], x): the item stays with the dict -/
def eFnD (f : List O → Option (O × Δ)) (i : Nat) (g h : Δ → Option (D × Δ)) : Δ → Option (P × Δ) := fun δ => (dcAt δ i).bind fun _ => (g δ).bind fun r => (keyD r.1).bind fun n => (dcAt r.2 i).bind fun q => (itK q.1 q.2 n).bind fun it => (h r.2).bind fun s => (f [.fz it.toD, .fz s.1]).bind fun z => if scO z.1 = true then some (.tm z.1, s.2) else none
/-! ### return d.get(k) -/
def outI : Option I → O
  | none => .fz .none
  | some (.fz d) => .fz d
  | some (.ow ds) => .ow ds
  | some (.oo dss) => .oo dss
  | some (.tl ds es) => .tu (ds.map .fz ++ [.ow es])
def mRetGet (i : Nat) (g : Δ → Option (D × Δ)) : Δ → Option Out := fun δ => (dcAt δ i).bind fun _ => (g δ).bind fun r => (keyD r.1).bind fun n => (dcAt r.2 i).bind fun q => if n ∈ q.1 → (itK q.1 q.2 n).isSome = true then some (.rt (outI (itK q.1 q.2 n)) (r.2.set i none)) else none
/-! ### sorted(d) -/
def eSortD (i : Nat) : Δ → Option (P × Δ) := fun δ => (dcAt δ i).bind fun q => if q.1.length < 64 then some (.tm (.ow ((sortI q.1).map .int)), δ) else none
end
end Vd
end
section
set_option Elab.async false
set_option linter.all false
set_option maxRecDepth 100000
set_option maxHeartbeats 3000000
/-! Own dicts: the rules. -/
namespace Vd
open PySem PySem.Spec PyProof.Rows L2 Vi Vf Vo Vp Vs Vt Vu Vv Vg Vw Vx Vy Va Vb Vc Vk Vm Vl Vn
section
variable {X : Cx} {K : Lay} {k : Nat}
theorem hu1 (Z : Fits X K k) : X.A.units + 1 < cLine := by have := room65 Z; omega
end
end Vd
end
section
set_option Elab.async false
set_option linter.all false
set_option maxRecDepth 100000
set_option maxHeartbeats 3000000
/-! pop(), extend, the order of data. -/
namespace Vd
open PySem PySem.Spec PyProof.Rows L2 Vi Vf Vo Vp Vs Vt Vu Vv Vg Vw Vx Vy Va Vb Vc Vk Vm Vl Vn
section
variable {K : Lay} {F H F' H' F0 H0 : Hp} {σ : L2.St} {δ δ' δ0 δ1 : Δ} {v w : V} {o o' : O} {d : D}
/-! ### pop() -/
/-! ### extend, by a list that is new -/
def eExt (i : Nat) (f : Δ → Option (P × Δ)) : Δ → Option (D × Δ) := fun δ => (ownAt δ i).bind fun _ => (f δ).bind fun r => match r.1 with
  | .tm (.ow es) => (ownAt r.2 i).bind fun ds => if ds.length + es.length ≤ sizeLine then some (.none, setOwn r.2 i (ds ++ es)) else none
  | _ => none
/-! ### x > y of data -/
def isNon : D → Bool
  | .none => true
  | _ => false
end
section
variable {X : Cx} {K : Lay} {k : Nat}
end
end Vd
end
section
set_option Elab.async false
set_option linter.all false
set_option maxRecDepth 100000
set_option maxHeartbeats 3000000
/-! all(..) within a list comprehension; range with the step -1. -/
namespace Vd
open PySem PySem.Spec PyProof.Rows L2 Vi Vf Vo Vp Vs Vt Vu Vv Vg Vw Vx Vy Va Vb Vc Vk Vm Vl Vn
section
variable {X : Cx} {K : Lay} {k : Nat}
structure GSd (xs scope : Scope) : Prop where
  kind : scope.kind = .function
  co : scope.isCoroutine = false
  cell : ∀ y ∈ scope.names, y.2 ≠ .cell
  dot : scope.names.lookup (".0" : Str) = some NameKind.local
  free : ∀ y ∈ scope.names, y.2 = .free → xs.names.lookup y.1 = some .cell ∨ xs.names.lookup y.1 = some .free
/-! ### range(i, j, -1) -/
variable {F' : Hp}
def downD (lo : Int) (n : Nat) : List D := (List.range n).map fun (i : Nat) => .int (lo + (i : Int) * (-1))
def eRngD (a : Δ → Option (List D × Δ)) : Δ → Option (List D × Δ) := fun δ => (a δ).bind fun r => match r.1 with
  | [.int i, .int j, .int c] => if rgOk i = true ∧ rgOk j = true ∧ c = -1 then some (downD i (i - j).toNat, r.2) else none
  | _ => none
end
end Vd
end
section
set_option Elab.async false
set_option linter.all false
set_option maxRecDepth 100000
set_option maxHeartbeats 3000000
/-! [a[:] for a in b]: an own list of own lists. -/
namespace Vd
open PySem PySem.Spec PyProof.Rows L2 Vi Vf Vo Vp Vs Vt Vu Vv Vg Vw Vx Vy Va Vb Vc Vk Vm Vl Vn
section
variable {X : Cx} {K : Lay} {k : Nat} {F H F' H' F0 H0 F1 H1 : Hp} {σ σ' : L2.St} {δ δ' δ0 δ1 : Δ} {v : V} {p : P} {o : O} {d : D} {vs : List Nat} {ps : List P} {os : List O}
def goO (h : D → Δ → Option Δ) (f : Δ → Option (List D)) (δ : Δ) : List D → Option (List (List D))
  | [] => some []
  | d :: r => (h d δ).bind fun δ' => (f δ').bind fun es => (goO h f δ r).map (es :: ·)
def eLcO (vs : List Nat) (c : Δ → Option (List D × Δ)) (h : D → Δ → Option Δ) (f : Δ → Option (List D)) : Δ → Option (P × Δ) := fun δ => (c δ).bind fun r => if r.1.length ≤ sizeLine ∧ vs.all (okv r.2) = true then (goO h f (wipeΔ r.2 vs) r.1).map fun dss => (.tm (.oo dss), restΔ r.2 (wipeΔ r.2 vs) vs) else none
end
section
variable {X : Cx} {K : Lay} {k : Nat}
end
end Vd
end
section
set_option Elab.async false
set_option linter.all false
set_option maxRecDepth 100000
set_option maxHeartbeats 3000000
/-! rows.append([..]); s[a][b] = e; s[a].append(c + f(p, m)). -/
namespace Vd
open PySem PySem.Spec PyProof.Rows L2 Vi Vf Vo Vp Vs Vt Vu Vv Vg Vw Vx Vy Va Vb Vc Vk Vm Vl Vn
section
variable {K : Lay} {F H F' H' F0 H0 : Hp} {σ : L2.St} {δ δ' δ0 δ1 : Δ} {v w : V} {o o' : O} {d : D}
/-! ### s.append(e), e a new list: it becomes a row of the own list of lists -/
def ooAt (δ : Δ) (i : Nat) : Option (O × List (List D)) := (δ[i]?.bind id).bind fun o => (asOO o).map fun dss => (o, dss)
def mAppO (i : Nat) (f : Δ → Option (P × Δ)) : Δ → Option Out := fun δ => (ooAt δ i).bind fun _ => (f δ).bind fun r => match r.1 with
  | .tm (.ow es) => (ooAt r.2 i).bind fun q => if q.2.length < sizeLine then some (.nx (r.2.set i (some (.oo (q.2 ++ [es]))))) else none
  | _ => none
/-! ### s[a][b] = e -/
def hSub2 (i : Nat) (ga gb : Δ → Option (D × Δ)) : D → Δ → Option Δ := fun d δ => (δ[i]?.bind id).bind fun _ => (ga δ).bind fun r => match r.1 with
  | .int n => (r.2[i]?.bind id).bind fun o1 => (rowAt n o1).bind fun _ => (gb r.2).bind fun s => match s.1 with
    | .int m => (s.2[i]?.bind id).bind fun o => (rowAt n o).bind fun q => (ixN q.2.length m).map fun l => s.2.set i (some (setRow q.1 (q.2.set l d) o))
    | _ => none
  | _ => none
/-! ### s[a].append(c + f(p, m)), p a lent list -/
def eFnL (f : List O → Option (O × Δ)) (j : Nat) (m0 : Int) : Δ → Option (O × Δ) := fun δ => match δ[j]? with
  | some (some (.ln ds)) => (f [.ln ds, .fz (.int m0)]).map fun z => (z.1, backΔ [.sl j, .tm (.fz (.int m0))] (lent [.ln ds, .fz (.int m0)] z.2) δ)
  | _ => none
def eSubAppL (i : Nat) (gj : Δ → Option (D × Δ)) (c0 : Int) (f : List O → Option (O × Δ)) (j : Nat) (m0 : Int) : Δ → Option (D × Δ) := fun δ => (δ[i]?.bind id).bind fun _ => (gj δ).bind fun r => match r.1 with
  | .int n => (r.2[i]?.bind id).bind fun o1 => (rowAt n o1).bind fun _ => (eFnL f j m0 r.2).bind fun s => match s.1 with
    | .fz (.int t) => (s.2[i]?.bind id).bind fun o => (rowAt n o).bind fun q => if q.2.length < sizeLine then some (.none, s.2.set i (some (setRow q.1 (q.2 ++ [.int (c0 + t)]) o))) else none
    | _ => none
  | _ => none
end
end Vd
end
section
set_option Elab.async false
set_option linter.all false
set_option maxRecDepth 100000
set_option maxHeartbeats 3000000
/-! The rules of Vd8. -/
namespace Vd
open PySem PySem.Spec PyProof.Rows L2 Vi Vf Vo Vp Vs Vt Vu Vv Vg Vw Vx Vy Va Vb Vc Vk Vm Vl Vn
section
variable {X : Cx} {K : Lay} {k : Nat}
end
end Vd
end
section
set_option Elab.async false
set_option linter.all false
set_option maxRecDepth 100000
set_option maxHeartbeats 3000000
/-! sorted(xs) of data that are alike. -/
namespace Vd
open PySem PySem.Spec PyProof.Rows L2 Vi Vf Vo Vp Vs Vt Vu Vv Vg Vw Vx Vy Va Vb Vc Vk Vm Vl Vn
open PySem.W (AllAlike Sortable dataLe dataLt EachIs)
section
variable {X : Cx} {K : Lay} {k : Nat}
theorem each_vals : ∀ {us : List Value} {zs : List (V × D)}, EachIs (fun u (b : V × D) => RelV b.1 u) us zs → Vals (zs.map (·.1)) us
  | _, _, .nil => .nil
  | _, _, .cons a b => .cons a (each_vals b)
def srtD (ds : List D) : List D := ds.mergeSort fun a b => !dataLt b a
def alikeB (ds : List D) : Bool := ds.all fun d => ds.all fun e => PySem.W.alike d e
def otherB (ds : List D) : Bool := ds.all fun d => match d with
  | .none => false
  | .tuple _ => false
  | _ => true
end
end Vd
end
section
set_option Elab.async false
set_option linter.all false
set_option maxRecDepth 100000
set_option maxHeartbeats 3000000
/-! a, b = b, []: the list moves on to the other name. -/
namespace Vd
open PySem PySem.Spec PyProof.Rows L2 Vi Vf Vo Vp Vs Vt Vu Vv Vg Vw Vx Vy Va Vb Vc Vk Vm Vl Vn
section
variable {K : Lay} {F H F' H' F0 H0 : Hp} {σ : L2.St} {δ δ' δ0 δ1 : Δ} {v w : V} {o o' : O} {d : D}
def mSwapNew (i j : Nat) : Δ → Option Out := fun δ => match δ[j]? with
  | some (some (.ow ds)) => if i ≠ j ∧ noLn δ i = true then some (.nx (((δ.set j none).set i (some (.ow ds))).set j (some (.ow [])))) else none
  | _ => none
end
section
variable {X : Cx} {K : Lay} {k : Nat}
/-! ### x is None -/
end
end Vd
end
section
set_option Elab.async false
set_option linter.all false
set_option maxRecDepth 100000
set_option maxHeartbeats 3000000
/-! a <= b <= c; sorted(xs) of alike data, tuples too; sorted(range(len(xs)), key=lambda i: xs[i]) for alike data. -/
namespace Vd
open PySem PySem.Spec PySem.Calls PyProof.Rows L2 Vi Vf Vo Vp Vs Vt Vu Vv Vg Vw Vx Vy Va Vb Vc Vk Vm Vl Vn
open PySem.W (AllAlike Sortable dataLe dataLt EachIs KeyedOut SortsAt)
/-! ### a op b op c -/
section
variable {K : Lay}
def eChain (g g' : D → D → Option D) (f h l : Δ → Option (D × Δ)) : Δ → Option (D × Δ) := fun δ => (f δ).bind fun r => (h r.2).bind fun s => (g r.1 s.1).bind fun z => match z with
  | .bool true => (l s.2).bind fun t => (g' s.1 t.1).map fun w => (w, t.2)
  | .bool false => some (.bool false, s.2)
  | _ => none
theorem sd_chain {r r' : R2} {g g' : D → D → Option D} {ta tb tc : TE} {f h l : Δ → Option (D × Δ)} (hr : ScR K r g) (hr' : ScR K r' g') (hf : SD K ta f) (hh : SD K tb h) (hl : SD K tc l) : SD K (tChain r r' ta tb tc) (eChain g g' f h l) := fun δ d δ' e σ F H rp Q k => by
  obtain ⟨⟨p, δ1⟩, e1, e⟩ := Option.bind_eq_some_iff.mp e
  obtain ⟨⟨q, δ2⟩, e2, e⟩ := Option.bind_eq_some_iff.mp e
  obtain ⟨z, e3, e⟩ := Option.bind_eq_some_iff.mp e
  refine hf δ p δ1 e1 σ F H rp _ fun x F1 H1 a1 p1 => hh δ1 q δ2 e2 σ F1 H1 a1.rep _ fun y F2 H2 a2 p2 => ?_
  obtain ⟨w, hw, hq⟩ := hr H2 x y p q z (dp_mono a2.rep.kp (dp_mono a2.go.kf p1)) (dp_mono a2.rep.kp p2) e3
  refine hq _ ?_
  dsimp only at e
  split at e
  · cases hw
    refine ⟨true, rfl, ?_⟩
    rw [if_pos rfl]
    obtain ⟨⟨t, δ3⟩, e4, e⟩ := Option.bind_eq_some_iff.mp e
    obtain ⟨u, e5, e⟩ := Option.map_eq_some_iff.mp e
    cases e
    refine hl δ2 t δ3 e4 σ F2 H2 a2.rep _ fun v F3 H3 a3 p3 => ?_
    obtain ⟨w2, hw2, hq2⟩ := hr' H3 y v q t d (dp_mono a3.rep.kp (dp_mono a3.go.kf p2)) (dp_mono a3.rep.kp p3) e5
    exact hq2 _ (k w2 F3 H3 ((a1.trans a2).trans a3) (sv_dp hw2))
  · cases hw
    cases e
    refine ⟨false, rfl, ?_⟩
    rw [if_neg (by simp)]
    exact k (.bl false) F2 H2 (a1.trans a2) (sv_dp rfl)
  · cases e
end
section
variable {X : Cx} {K : Lay} {k : Nat}
theorem d_chain {op op' : CmpOp} {a b c : Expr} {pos : Pos} {g g' : D → D → Option D} {f h l : Δ → Option (D × Δ)} (ho : OpS X K (compareOp op) g) (ho' : OpS X K (compareOp op') g') (ha : DX X K a f) (hb : DX X K b h) (hc : DX X K c l) (hm : lastMarks [op, op'] [b, c] = false := by with_unfolding_all rfl) : DX X K (.Compare a [op, op'] [b, c] pos) (eChain g g' f h l) :=
  let ⟨_, o, so⟩ := ho; let ⟨_, o2, so2⟩ := ho'; let ⟨_, p, s⟩ := ha; let ⟨_, q, t⟩ := hb; let ⟨_, r, u⟩ := hc; ⟨_, pe_chain o o2 p q r hm, sd_chain so so2 s t u⟩
theorem t_chain {op op' : CmpOp} {a b c : Expr} {pos : Pos} {g g' : D → D → Option D} {f h l : Δ → Option (D × Δ)} (ho : OpS X K (compareOp op) g) (ho' : OpS X K (compareOp op') g') (ha : DX X K a f) (hb : DX X K b h) (hc : DX X K c l) (hm : lastMarks [op, op'] [b, c] = false := by with_unfolding_all rfl) : TX X K (.Compare a [op, op'] [b, c] pos) (eT (eChain g g' f h l)) :=
  let ⟨_, o, so⟩ := ho; let ⟨_, o2, so2⟩ := ho'; let ⟨_, p, s⟩ := ha; let ⟨_, q, t⟩ := hb; let ⟨_, r, u⟩ := hc; ⟨_, pt_chain o o2 p q r hm, st_testOf (sd_chain so so2 s t u)⟩
end
/-! ### sorted of tuples -/
def tupB (ds : List D) : Bool := ds.all fun d => match d with
  | .tuple (_ :: _) => true
  | _ => false
def sblB (ds : List D) : Bool := otherB ds || tupB ds
section
variable {X : Cx} {K : Lay} {k : Nat}
end
/-! ### the sort by a key that reads as data of the base heap -/
section
variable {prog : Program} {w : World} {A : Around} {E : Value → Shared → Prop} {s : Shared}
section
open PySem.W
end
end
section
open PySem.W (kla_obj kla_fn)
variable {X : Cx} {pins : List (Addr × Obj)} {σ : L2.St} {H : Hp} {s : Shared}
def datB (ds : List D) : Bool := decide (ds.length ≤ 4000) && alikeB ds && sblB ds && ds.all fun d => decide (d.depth ≤ 60)
end
end Vd
end
section
set_option Elab.async false
set_option linter.all false
set_option maxRecDepth 100000
set_option maxHeartbeats 3000000
/-! sorted(set(xs)), xs a list of pairs of small whole numbers. -/
namespace Vd
open PySem PySem.Spec PySem.Calls PyProof.Rows L2 Vi Vf Vo Vp Vs Vt Vu Vv Vg Vw Vx Vy Va Vb Vc Vk Vm Vl Vn
def pairD (q : Int × Int) : D := .tuple [.int q.1, .int q.2]
section
variable {K : Lay}
end
section
variable {X : Cx} {K : Lay} {k : Nat}
end
end Vd
end
section
set_option Elab.async false
set_option linter.all false
set_option maxRecDepth 100000
set_option maxHeartbeats 3000000
/-! list(text), str(whole number). -/
namespace Vd
open PySem PySem.Spec PySem.Calls PyProof.Rows L2 Vi Vf Vo Vp Vs Vt Vu Vv Vg Vw Vx Vy Va Vb Vc Vk Vm Vl Vn
def strD : D → Option D
  | .int i => if i.natAbs.log2 < 1920 then some (.str (toString i)) else none
  | _ => none
def rStrI : List V → Hp → VK → Prop := fun xs H Q => ∃ i, xs = [V.int i] ∧ i.natAbs.log2 < 1920 ∧ Q (.str (toString i)) H
section
variable {X : Cx} {K : Lay} {k : Nat}
theorem cr_strD : CrR K rStrI strD := fun H x d z hx hg => by
  unfold strD at hg
  split at hg
  · rename_i i
    split at hg
    case isFalse => cases hg
    rename_i hz
    cases hg
    obtain rfl := dp_int hx
    exact ⟨_, rfl, fun Q q => ⟨i, rfl, hz, q⟩⟩
  · cases hg
theorem d_strI (Z : Fits X K k) {e : Expr} {p pos : Pos} {f : Δ → Option (P × Δ)} (he : EX X K e f) (hm : X.mg "str" = none) (hg : Gl X "str" := by rfl) (hst : starEach [e] X.env = (false, eval e X.env) :: starEach [] X.env := by rfl) (hpl : (backTo pos (starEach [] X.env)).any (·.1) = false := by rfl) :
    DX X K (.Call (.Name "str" p) [e] [] pos) (eCall1 strD f) := d_callT1 (r := rStrI) L2.call_str_int cr_strD he hm hg (by decide +kernel) (by decide) (by decide) hst hpl
end
end Vd
end
section
set_option Elab.async false
set_option linter.all false
set_option maxRecDepth 100000
set_option maxHeartbeats 3000000
/-! {row: True for .. in ..} with rows of numbers as keys, made once and asked with `in`. -/
namespace Vr
open PySem PySem.Spec PySem.Calls PyProof.Rows L2
section
variable {X : Cx}
end
end Vr
end
section
set_option Elab.async false
set_option linter.all false
set_option maxRecDepth 100000
set_option maxHeartbeats 3000000
/-! Values that are made without a look at what the slots own: the slots stay. -/
namespace Vq
open PySem PySem.Spec PyProof.Rows L2 Vi Vf Vo Vp Vs Vt Vu Vv Vg Vw Vx Vy Va Vb Vc Vk Vm Vl Vn Vd
section
variable {K : Lay}
def SN (K : Lay) (te : TE) (g : Δ → Option D) : Prop := ∀ δ d, g δ = some d → ∀ σ F H, Rep K F H σ δ → ∀ Q : VK, (∀ v F' H', New K F H F' H' → Dp K F' v d → Q v H') → te σ H Q
theorem new_trans {F H F1 H1 F2 H2 : Hp} (a : New K F H F1 H1) (b : New K F1 H1 F2 H2) : New K F H F2 H2 :=
  ⟨a.kf.trans b.kf, b.up, a.kh.trans b.kh, fun x h => by
    rcases b.nf x h with q | q
    · exact a.nf x q
    · by_cases z : H x = none
      · exact .inr z
      · exact absurd q (kp_st a.kh z), fun t => b.nm (a.nm t)⟩
end
def NX (X : Cx) (K : Lay) (e : Expr) (g : Δ → Option D) : Prop := ∃ te, PE X e te ∧ SN K te g
section
variable {X : Cx} {K : Lay} {k : Nat}
end
/-! ### s[i].append(x), x and i made so -/
section
variable {X : Cx} {K : Lay} {k : Nat}
end
end Vq
end
section
set_option Elab.async false
set_option linter.all false
set_option maxRecDepth 100000
set_option maxHeartbeats 3000000
/-! {x[:2]: True for x in s} as a slot's thing; rows asked with `in`. -/
namespace Vr
open PySem PySem.Spec PyProof.Rows L2 Vi Vf Vo Vp Vs Vt Vu Vv Vg Vw Vx Vy Va Vb Vc Vk Vm Vl Vn Vd Vq
section
variable {K : Lay} {F H F' H' F0 H0 F1 H1 F2 H2 : Hp} {σ σ' : L2.St} {δ δ' δ0 δ1 : Δ}
def addK (ks : List (List Int)) (k : List Int) : List (List Int) := if k ∈ ks then ks else ks ++ [k]
theorem inl_inj {a b : List Int} (h : a.map (Sum.inl : Int → L2.Key) = b.map Sum.inl) : a = b := by
  induction a generalizing b with
  | nil => cases b <;> first | rfl | cases h
  | cons x a ih =>
    cases b with
    | nil => cases h
    | cons y b =>
      rw [List.map_cons, List.map_cons, List.cons.injEq] at h
      rw [ih h.2, Sum.inl.inj h.1]
theorem putK_new {kvs : List (List L2.Key × V)} {ks : List (List Int)} (h : kvs.map (·.1) = ks.map (·.map Sum.inl)) (k : List Int) : (putK kvs (k.map Sum.inl) (.bl true)).map (·.1) = (addK ks k).map (·.map Sum.inl) := by
  have hm : (kvs.any fun kv => decide (kv.1 = k.map Sum.inl)) = decide (k ∈ ks) := by
    rw [Bool.eq_iff_iff, List.any_eq_true, decide_eq_true_eq]
    constructor
    · rintro ⟨p, hp, e⟩
      have : p.1 ∈ ks.map (·.map Sum.inl) := h ▸ List.mem_map.mpr ⟨p, hp, rfl⟩
      obtain ⟨q, hq, eq⟩ := List.mem_map.mp this
      exact inl_inj (eq.trans (of_decide_eq_true e)) ▸ hq
    · intro hk
      have : k.map Sum.inl ∈ kvs.map (·.1) := h ▸ List.mem_map.mpr ⟨k, hk, rfl⟩
      obtain ⟨p, hp, e⟩ := List.mem_map.mp this
      exact ⟨p, hp, decide_eq_true e⟩
  unfold putK addK
  rw [hm]
  by_cases c : k ∈ ks
  · rw [decide_eq_true c, if_pos rfl, if_pos c, List.map_map, ← h]
    refine List.map_congr_left fun p _ => ?_
    show (if p.1 = k.map Sum.inl then (p.1, V.bl true) else p).1 = p.1
    split <;> rfl
  · rw [decide_eq_false c, if_neg Bool.false_ne_true, if_neg c, List.map_append, List.map_append, h]
    rfl
end
end Vr
end
section
set_option Elab.async false
set_option linter.all false
set_option maxRecDepth 100000
set_option maxHeartbeats 3000000
/-! Rows asked in a dict that stays; texts joined; x is not None; x or y of values. -/
namespace Vj
open PySem PySem.Spec PyProof.Rows L2 Vi Vf Vo Vp Vs Vt Vu Vv Vg Vw Vx Vy Va Vb Vc Vk Vm Vl Vn Vd Vq Vr
section
variable {K : Lay}
end
section
variable {X : Cx} {K : Lay} {k : Nat}
end
/-! ### x is not None -/
section
variable {X : Cx} {K : Lay} {k : Nat}
/-! ### sep.join(texts) -/
def strsL : List D → Option (List Str)
  | [] => some []
  | .str s :: ds => (strsL ds).map (s :: ·)
  | _ => none
theorem dpa_strs {F : Hp} : ∀ {ys : List Str} {vs : List V}, DpAll K F vs (ys.map .str) → vs = ys.map V.str
  | [], vs, h => by cases h; rfl
  | y :: ys, vs, h => by
    cases h with
    | cons a b => rw [dp_str a, dpa_strs b]; rfl
def joinD (sep : Str) : D → Option D
  | .list ds => (strsL ds).bind fun ys => if (ys.map (·.length)).sum + ys.length * sep.length ≤ 16777216 then some (.str (Txt.join sep ys)) else none
  | _ => none
def eJoin (sep : Str) (f : Δ → Option (P × Δ)) : Δ → Option (D × Δ) := fun δ => (f δ).bind fun r => (r.1.data r.2).bind fun d => (joinD sep d).map fun z => (z, r.2)
/-! ### x or y -/
end
/-! ### f() -/
section
variable {X : Cx} {K : Lay} {k : Nat}
end
end Vj
end
section
set_option Elab.async false
set_option linter.all false
set_option maxRecDepth 100000
set_option maxHeartbeats 4000000
/-! An expression over slots that stay own: what comes back is a plain thing, or a list of plain things unlike every own one. -/
namespace Vbo
open PySem PySem.Spec PyProof.Rows L2 Vi Vf Vo Vp Vs Vt Vu Vv Vg Vw Vx Vy Va Vb Vc Vk Vm Vl Vn Vd Vq Vr Vj
section
variable {K : Lay} {F H F' H' : Hp} {σ : L2.St} {δ : Δ}
open Classical in
/-- what is frozen, and the own lists of the slots -/
noncomputable def FB (F H : Hp) (σ : L2.St) (δ : Δ) : Hp := fun a => if Held H σ δ a then H a else F a
end
end Vbo
end
section
set_option Elab.async false
set_option linter.all false
set_option maxRecDepth 100000
set_option maxHeartbeats 4000000
/-! An expression over one own list, frozen for it, own again behind it. -/
namespace Vbo
open PySem PySem.Spec PyProof.Rows L2 Vi Vf Vo Vp Vs Vt Vu Vv Vg Vw Vx Vy Va Vb Vc Vk Vm Vl Vn Vd Vq Vr Vj
section
variable {K : Lay} {F H F' H' : Hp} {σ : L2.St} {δ : Δ}
end
end Vbo
end
section
set_option Elab.async false
set_option linter.all false
set_option maxRecDepth 100000
set_option maxHeartbeats 4000000
/-! Own things moved: out of a slot, put together, handed to a def, told. -/
namespace Vfr
open PySem PySem.Spec PyProof.Rows L2 Vi Vf Vo Vp Vs Vt Vu Vv Vg Vw Vx Vy Va Vb Vc Vk Vm Vl Vn Vd Vq Vr Vj Vbo
section
variable {K : Lay} {F H F' H' F0 H0 F1 H1 F2 H2 : Hp} {σ σ' : L2.St} {δ δ' δ0 δ1 δ2 : Δ} {v : V} {o : O} {d : D}
/-- what no slot holds stays -/
theorem go_keep (g : Go F H σ δ F' H' σ' δ') {a : Addr} {u : HO} (e : H a = some u) (m : Vi.Mut u) (f : F a = none) (n : ¬ Held H σ δ a) : H' a = some u ∧ F' a = none ∧ ¬ Held H' σ' δ' a := by
  obtain ⟨w, e1, l⟩ := g.kh a u e n
  refine ⟨by rw [e1, l.mut m], ?_, fun h => ?_⟩
  · cases q : F' a with
    | none => rfl
    | some y =>
      rcases g.nf a (by rw [q]; simp) with c | c | c
      · exact absurd f c
      · rw [e] at c; cases c
      · exact absurd c n
  · rcases g.hd a h with c | c
    · exact n c
    · rw [e] at c; cases c
theorem go_none (g : Go F H σ δ F' H' σ' δ') {a : Addr} (e : H' a = none) : H a = none := by
  cases q : H a with
  | none => rfl
  | some u => exact absurd e (g.st a (by rw [q]; simp))
/-- a value on its way out of an expression that may take a slot's thing -/
def SXm (K : Lay) (te : TE) (f : Δ → Option (O × Δ)) : Prop := ∀ δ o δ', f δ = some (o, δ') → ∀ σ F H, Rep K F H σ δ → ∀ Q : VK,
  (∀ v F' H', Rep K F' H' σ δ' → Go F H σ δ F' H' σ δ' → Tmp K F' H' σ δ' v o → Nw H σ δ H' v (.tm o) → Q v H') → te σ H Q
def oTm (f : Δ → Option (P × Δ)) : Δ → Option (O × Δ) := fun δ => (f δ).bind fun r => match r.1 with
  | .tm o => if isLn o = false then some (o, r.2) else none
  | _ => none
theorem sm_of {te : TE} {f : Δ → Option (P × Δ)} (h : SX K te f) : SXm K te (oTm f) := fun δ o δ' e σ F H r Q k => by
  obtain ⟨⟨p, δ1⟩, e1, e⟩ := Option.bind_eq_some_iff.mp e
  dsimp only at e
  split at e
  · split at e
    · cases e
      exact h δ _ δ' e1 σ F H r _ fun v F' H' a p n => k v F' H' a.rep a.go p n
    · cases e
  · cases e
/-! ### lists of items -/
theorem okIs_len : ∀ {vs : List V} {is : List I}, OkIs K F H vs is → vs.length = is.length
  | _, _, .nil => rfl
  | _, _, .cons _ b => by rw [List.length_cons, List.length_cons, okIs_len b]
theorem okIs_app : ∀ {vs ws : List V} {is js : List I}, OkIs K F H vs is → OkIs K F H ws js → OkIs K F H (vs ++ ws) (is ++ js) ∧ fpI H (vs ++ ws) (is ++ js) = fpI H vs is ++ fpI H ws js
  | _, _, _, _, .nil, h => ⟨h, rfl⟩
  | _, _, _, _, .cons a b, h => by
    obtain ⟨h1, h2⟩ := okIs_app b h
    exact ⟨.cons a h1, by show _ ++ fpI _ (_ ++ _) (_ ++ _) = _ ++ _ ++ _; rw [h2, List.append_assoc]⟩
/-! ### two own lists put together -/
/-! ### statements of such an expression -/
/-! ### a def of one argument that is handed over -/
end
section
variable {X : Cx} {K : Lay} {k : Nat}
end
end Vfr
end
section
set_option Elab.async false
set_option linter.all false
set_option maxRecDepth 100000
set_option maxHeartbeats 4000000
/-! A loop through an own list that is not looked at any more: each item is the slot's own. -/
namespace Vfr
open PySem PySem.Spec PyProof.Rows L2 Vi Vf Vo Vp Vs Vt Vu Vv Vg Vw Vx Vy Va Vb Vc Vk Vm Vl Vn Vd Vq Vr Vj Vbo
section
variable {K : Lay} {F H F' H' F0 H0 F1 H1 F2 H2 : Hp} {σ σ' σ0 : L2.St} {δ δ' δ0 δ1 δ2 : Δ} {v : V} {o : O} {d : D}
def iO : I → O
  | .fz d => .fz d
  | .ow ds => .ow ds
  | .oo dss => .oo dss
  | .tl ds es => .tu (ds.map .fz ++ [.ow es])
def turnsC (j : Nat) (b : Δ → Option Out) : List I → Δ → Option Out
  | [], δ => some (.nx δ)
  | i :: is, δ => if noLn δ j = true then (b (δ.set j (some (iO i)))).bind fun r => match r with
    | .nx δ2 => turnsC j b is δ2
    | .ct δ2 => turnsC j b is δ2
    | .bk δ2 => some (.nx δ2)
    | .rt o δ2 => some (.rt o δ2)
    else none
/-- the items that are still to come -/
structure Rest (K : Lay) (H0 : Hp) (σ0 : L2.St) (δ0 : Δ) (p : Addr) (xs : List V) (F H : Hp) (σ : L2.St) (δ : Δ) (vs : List V) (is : List I) : Prop where
  at_ : H p = some (.lst xs)
  fp : F p = none
  nh : ¬ Held H σ δ p
  ok : OkIs K F H vs is
  nd : (fpI H vs is).Nodup
  np : p ∉ fpI H vs is
  ap : ∀ a ∈ fpI H vs is, ¬ Held H σ δ a
  nw : ∀ a ∈ fpI H vs is, Held H0 σ0 δ0 a ∨ H0 a = none
theorem Rest.go {p : Addr} {xs vs : List V} {is : List I} (t : Rest K H0 σ0 δ0 p xs F H σ δ vs is) (g : Go F H σ δ F' H' σ' δ') : Rest K H0 σ0 δ0 p xs F' H' σ' δ' vs is := by
  obtain ⟨a1, a2, a3⟩ := go_keep g t.at_ (.inl ⟨_, rfl⟩) t.fp t.nh
  have same : ∀ a ∈ fpI H vs is, H' a = H a ∧ F' a = none ∧ ¬ Held H' σ' δ' a := fun a ha => by
    obtain ⟨⟨ys, e1, m1⟩, e2⟩ := okIs_fp t.ok a ha
    obtain ⟨b1, b2, b3⟩ := go_keep g e1 m1 e2 (t.ap a ha)
    exact ⟨by rw [b1, e1], b2, b3⟩
  have fe : fpI H' vs is = fpI H vs is := fpI_frame t.ok fun a ha => (same a ha).1
  refine ⟨a1, a2, a3, okIs_frame g.kf t.ok fun a ha => ⟨(same a ha).1, (same a ha).2.1⟩, ?_, ?_, ?_, ?_⟩
  · rw [fe]; exact t.nd
  · rw [fe]; exact t.np
  · rw [fe]; exact fun a ha => (same a ha).2.2
  · rw [fe]; exact t.nw
end
section
variable {X : Cx} {K : Lay} {k : Nat}
end
end Vfr
end
section
set_option Elab.async false
set_option linter.all false
set_option maxRecDepth 100000
set_option maxHeartbeats 4000000
/-! Slots that are all frozen: what an expression makes is new, and the slots are as they were. -/
namespace Vfr
open PySem PySem.Spec PyProof.Rows L2 Vi Vf Vo Vp Vs Vt Vu Vv Vg Vw Vx Vy Va Vb Vc Vk Vm Vl Vn Vd Vq Vr Vj Vbo
/-- frozen, or nothing -/
def fzO : Option O → Bool
  | none => true
  | some (.fz _) => true
  | _ => false
def allFz (δ : Δ) : Bool := δ.all fzO
section
variable {K : Lay} {F H F' H' F0 H0 F1 H1 F2 H2 : Hp} {σ σ' σ0 : L2.St} {δ δ' δ0 δ1 δ2 : Δ} {v : V} {o : O} {d : D} {vs : List Nat}
theorem allFz_at (h : allFz δ = true) {k : Nat} (e : δ[k]? = some (some o)) : ∃ d, o = .fz d := by
  have := List.all_eq_true.mp h _ (List.mem_of_getElem? e)
  cases o with
  | fz d => exact ⟨d, rfl⟩
  | _ => cases this
theorem allFz_held (h : allFz δ = true) {a : Addr} : ¬ Held H σ δ a := fun ⟨i, v, o, _, e, m⟩ => by
  obtain ⟨d, rfl⟩ := allFz_at h e
  cases m
/-- slots that are all frozen stay so, whatever was made -/
theorem rep_allFz (r : Rep K F H σ δ) (h : allFz δ = true) (k1 : Kp F F') (k2 : Kp F' H') (nm : LamX.Tabs K.L H') : Rep K F' H' σ δ :=
  ⟨k2, r.len, fun i o e => by
    obtain ⟨d, rfl⟩ := allFz_at h e
    obtain ⟨v, h1, h2, _⟩ := r.ok i _ e
    exact ⟨v, h1, dp_mono k1 h2, by simp [O.fp]⟩, fun i j a h1 _ => absurd ⟨i, h1⟩ (allFz_held h), fun T hT => k1.tab (r.tb T hT), nm⟩
/-! ### an expression over an own list of lists, frozen for it, own again behind it -/
/-! ### an item of an own list of lists that is not looked at any more -/
/-! ### a display of own lists -/
end
section
variable {X : Cx} {K : Lay} {k : Nat}
end
end Vfr
end
section
set_option Elab.async false
set_option linter.all false
set_option maxRecDepth 100000
set_option maxHeartbeats 4000000
/-! A row of own lists that begins with a list the def is given: `f = [c]`, a loop that adds to f while c is looked at too, f told. -/
namespace Vfr
open PySem PySem.Spec PyProof.Rows L2 Vi Vf Vo Vp Vs Vt Vu Vv Vg Vw Vx Vy Va Vb Vc Vk Vm Vl Vn Vd Vq Vr Vj Vbo
def d0 (rd : D) : Δ := [some (.fz rd), none, none, none]
def dz (rd : D) (c0 : List D) (dss : List (List D)) (a : Option O) : Δ := [some (.fz rd), some (.fz (.list c0)), some (.fz (.list (dss.map .list))), a]
section
variable {K : Lay} {F H F' H' F0 H0 F1 H1 F2 H2 : Hp} {σ σ' σ0 : L2.St} {δ δ' δ0 δ1 δ2 : Δ} {v v0 : V} {o : O} {d rd : D} {c0 : List D} {p0 q : Addr} {as : List Addr} {dss : List (List D)}
structure RS (K : Lay) (F H0 : Hp) (σ0 : L2.St) (δ0 : Δ) (v0 : V) (rd : D) (p0 q : Addr) (as : List Addr) (dss : List (List D)) (σ : L2.St) (H : Hp) : Prop where
  len : σ.length = 4
  s0 : σ[0]? = some (some v0)
  s1 : σ[1]? = some (some (.ref p0))
  s2 : σ[2]? = some (some (.ref q))
  rep : Rep K F H σ (d0 rd)
  kh : ∀ a o, H0 a = some o → ¬ Held H0 σ0 δ0 a → ∃ u, H a = some u ∧ Lq o u
  st : ∀ a, H0 a ≠ none → H a ≠ none
  hq : H q = some (.lst (as.map V.ref))
  fq : F q = none
  ow : OwA K F H as dss
  nd : (q :: as).Nodup
  hp : as.head? = some p0
  nw : ∀ a ∈ q :: as, Held H0 σ0 δ0 a ∨ H0 a = none
theorem d0_fz : allFz (d0 rd) = true := rfl
theorem RS.Fn (s : RS K F H0 σ0 δ0 v0 rd p0 q as dss σ H) : ∀ a ∈ q :: as, F a = none := fun a ha => by
  rcases List.mem_cons.mp ha with e | e
  · subst e; exact s.fq
  · obtain ⟨es, xs, _, w, _⟩ := owa_mem s.ow a e; exact w
theorem RS.cell (s : RS K F H0 σ0 δ0 v0 rd p0 q as dss σ H) : ∀ a ∈ q :: as, ∃ xs, H a = some (.lst xs) := fun a ha => by
  rcases List.mem_cons.mp ha with e | e
  · subst e; exact ⟨_, s.hq⟩
  · obtain ⟨es, xs, w, _⟩ := owa_mem s.ow a e; exact ⟨xs, w⟩
theorem RS.fz (s : RS K F H0 σ0 δ0 v0 rd p0 q as dss σ H) (hc : dss.head? = some c0) : Rep K (frz F H (q :: as)) H σ (dz rd c0 dss none) := by
  have r1 := s.rep.frzA s.Fn fun a _ => allFz_held d0_fz
  have kf := frz_kp (H := H) s.Fn
  have dp : Dp K (frz F H (q :: as)) (.ref p0) (.list c0) := by
    have hp := s.hp
    have ow := s.ow
    cases ow with
    | nil => cases hp
    | cons a b =>
      cases hp
      cases hc
      obtain ⟨xs, h1, _, h3⟩ := a
      exact .lst (SqL.of (by rw [frz_in (by simp)]; exact h1)) (dpa_mono kf h3)
  have dq : Dp K (frz F H (q :: as)) (.ref q) (.list (dss.map .list)) := .lst (SqL.of (by rw [frz_in List.mem_cons_self]; exact s.hq)) (owa_frz kf s.ow fun a ha => List.mem_cons_of_mem _ ha)
  obtain ⟨r2, _⟩ := r1.put (v := .ref p0) (o := .fz (.list c0)) (i := 1) ⟨dp, by simp [O.fp], fun a ha => by cases ha⟩ rfl (fun a ha => by cases ha) Go.rfl
  rw [set_same s.s1] at r2
  obtain ⟨r3, _⟩ := r2.put (v := .ref q) (o := .fz (.list (dss.map .list))) (i := 2) ⟨dq, by simp [O.fp], fun a ha => by cases ha⟩ rfl (fun a ha => by cases ha) Go.rfl
  rw [set_same s.s2] at r3
  exact r3
theorem RS.back (s : RS K F H0 σ0 δ0 v0 rd p0 q as dss σ H) (k1 : Kp (frz F H (q :: as)) F1) (k2 : Kp F1 H1) (k3 : Kp H H1) (nm : LamX.Tabs K.L H1) : RS K F H0 σ0 δ0 v0 rd p0 q as dss σ H1 ∧ ∀ a ∈ q :: as, F1 a ≠ none := by
  have kf := frz_kp (H := H) s.Fn
  have same : ∀ a ∈ q :: as, H1 a = H a ∧ F1 a ≠ none := fun a ha => by
    obtain ⟨xs, e⟩ := s.cell a ha
    have c1 : frz F H (q :: as) a = some (.lst xs) := by rw [frz_in ha]; exact e
    have c2 := k1.lst c1
    exact ⟨by rw [k2.lst c2, e], by rw [c2]; simp⟩
  refine ⟨⟨s.len, s.s0, s.s1, s.s2, rep_allFz s.rep d0_fz .rfl ((kf.trans k1).trans k2) nm, fun a o e n => ?_, fun a h => ?_, (same q List.mem_cons_self).1.trans s.hq, s.fq, owa_frame .rfl s.ow fun a ha => ⟨(same a (List.mem_cons_of_mem _ ha)).1, s.Fn a (List.mem_cons_of_mem _ ha)⟩, s.nd, s.hp, s.nw⟩, fun a ha => (same a ha).2⟩
  · obtain ⟨u, e1, l1⟩ := s.kh a o e n
    obtain ⟨w, e2, l2⟩ := k3 a u e1
    exact ⟨w, e2, l1.trans l2⟩
  · cases q1 : H a with
    | none => exact absurd q1 (s.st a h)
    | some u =>
      obtain ⟨w, e2, _⟩ := k3 a u q1
      rw [e2]; simp
end
section
variable {X : Cx} {K : Lay} {k : Nat}
end
end Vfr
end
section
set_option Elab.async false
set_option linter.all false
set_option maxRecDepth 100000
set_option maxHeartbeats 4000000
/-! Calls: several own things handed over; places and names mixed. -/
namespace Vfr
open PySem PySem.Spec PyProof.Rows L2 Vi Vf Vo Vp Vs Vt Vu Vv Vg Vw Vx Vy Va Vb Vc Vk Vm Vl Vn Vd Vq Vr Vj Vbo
section
variable {K : Lay} {F H F' H' F0 H0 F1 H1 F2 H2 : Hp} {σ σ' σ0 : L2.St} {δ δ' δ0 δ1 δ2 : Δ} {v : V} {o : O} {d : D}
/-- several on their way, each the def's own -/
def SXms (K : Lay) (ta : TA) (g : Δ → Option (List O × Δ)) : Prop := ∀ δ os δ', g δ = some (os, δ') → ∀ σ F H, Rep K F H σ δ → ∀ Q : List V → Hp → Prop,
  (∀ vs F' H', Rep K F' H' σ δ' → Go F H σ δ F' H' σ δ' → Tms K F' H' σ δ' vs os → (fpO H' vs os).Nodup → (∀ a ∈ fpO H' vs os, Held H σ δ a ∨ H a = none) → Q vs H') → ta σ H Q
def oNil : Δ → Option (List O × Δ) := fun δ => some ([], δ)
def oCons (f : Δ → Option (O × Δ)) (g : Δ → Option (List O × Δ)) : Δ → Option (List O × Δ) := fun δ => (f δ).bind fun r => if isLn r.1 = false then (g r.2).map fun s => (r.1 :: s.1, s.2) else none
theorem sms_nil : SXms K tNil oNil := fun δ os δ' e σ F H r Q k => by
  cases e
  exact k [] F H r .rfl .nil (by simp [fpO]) fun a ha => by cases ha
theorem sms_cons {te : TE} {ta : TA} {f : Δ → Option (O × Δ)} {g : Δ → Option (List O × Δ)} (hf : SXm K te f) (hg : SXms K ta g) : SXms K (tCons te ta) (oCons f g) := fun δ os δ' e σ F H r Q k => by
  obtain ⟨⟨o1, δ1⟩, e1, e⟩ := Option.bind_eq_some_iff.mp e
  split at e
  case isFalse => cases e
  obtain ⟨⟨os2, δ2⟩, e2, e⟩ := Option.map_eq_some_iff.mp e
  cases e
  refine hf δ o1 δ1 e1 σ F H r _ fun x F1 H1 r1 g1 t1 n1 => hg δ1 os2 δ2 e2 σ F1 H1 r1 _ fun vs F2 H2 r2 g2 t2 nd2 n2 => ?_
  obtain ⟨t1', fe1⟩ := t1.frame g2
  refine k (x :: vs) F2 H2 r2 (g1.trans g2) (.cons t1' t2) ?_ fun a ha => ?_
  · refine List.nodup_append.mpr ⟨t1'.nd, nd2, fun z hz w hw e => ?_⟩
    subst e
    rw [fe1] at hz
    rcases n2 z hw with c | c
    · exact t1.ap z hz c
    · obtain ⟨⟨u, q, _⟩, _⟩ := ok_fp t1.ok z hz
      rw [c] at q; cases q
  · rcases List.mem_append.mp ha with w | w
    · rw [fe1] at w
      exact n1 a w
    · rcases n2 a w with c | c
      · exact g1.hd a c
      · exact .inr (go_none g1 c)
theorem slots_tm : ∀ {os : List O}, slots (os.map .tm) = []
  | [] => rfl
  | _ :: os => slots_tm (os := os)
/-! ### places and names, all frozen -/
theorem back_tm : ∀ {os : List O} {us δ : Δ}, backΔ (os.map .tm) us δ = δ
  | [], _, _ => by simp [backΔ]
  | o :: os, [], _ => by simp [backΔ]
  | o :: os, u :: us, δ => back_tm (os := os) (us := us) (δ := δ)
end
section
variable {X : Cx} {K : Lay} {k : Nat}
end
end Vfr
end
section
set_option Elab.async false
set_option linter.all false
set_option maxRecDepth 100000
set_option maxHeartbeats 4000000
/-! A told list spoilt: each list in it gets an item, and it gets one too; it is not looked at any more. -/
namespace Vfr
open PySem PySem.Spec PyProof.Rows L2 Vi Vf Vo Vp Vs Vt Vu Vv Vg Vw Vx Vy Va Vb Vc Vk Vm Vl Vn Vd Vq Vr Vj Vbo
section
variable {K : Lay} {F H F' H' F0 H0 F1 H1 F2 H2 : Hp} {σ σ' σ0 : L2.St} {δ δ' δ0 δ1 δ2 D0 : Δ} {v : V} {o : O} {d : D}
structure SPI (K : Lay) (F H : Hp) (σ : L2.St) (D0 : Δ) (j : Nat) (q : Addr) (A : List Addr) (xs : List V) (σ' : L2.St) (H' : Hp) (vs : List V) (is : List I) : Prop where
  len : σ'.length = σ.length
  sj : σ'[j]? = some (some (.ref q))
  rep : Rep K F H' σ' D0
  kh : ∀ z o, H z = some o → z ∉ q :: A → ∃ u, H' z = some u ∧ Lq o u
  st : ∀ z, H z ≠ none → H' z ≠ none
  hq : H' q = some (.lst xs)
  ok : OkIs K F H' vs is
  nd : (fpI H' vs is).Nodup
  nq : q ∉ fpI H' vs is
  sub : ∀ a ∈ fpI H' vs is, a ∈ A
theorem SPI.next (s : SPI K F H σ D0 j q A xs σ' H' vs is) (hz : allFz D0 = true) (k1 : Kp H' H1) (nm : LamX.Tabs K.L H1) : SPI K F H σ D0 j q A xs σ' H1 vs is := by
  have same : ∀ a ∈ fpI H' vs is, H1 a = H' a ∧ F a = none := fun a ha => by
    obtain ⟨⟨ys, e, m⟩, f⟩ := okIs_fp s.ok a ha
    exact ⟨by rw [k1.mut e m, e], f⟩
  have fe : fpI H1 vs is = fpI H' vs is := fpI_frame s.ok fun a ha => (same a ha).1
  refine ⟨s.len, s.sj, rep_allFz s.rep hz .rfl (s.rep.kp.trans k1) nm, fun z o e n => ?_, fun z h => ?_, k1.lst s.hq, okIs_frame .rfl s.ok same, by rw [fe]; exact s.nd, by rw [fe]; exact s.nq, by rw [fe]; exact s.sub⟩
  · obtain ⟨u, e1, l1⟩ := s.kh z o e n
    obtain ⟨w, e2, l2⟩ := k1 z u e1
    exact ⟨w, e2, l1.trans l2⟩
  · cases c : H' z with
    | none => exact absurd c (s.st z h)
    | some u => obtain ⟨w, e2, _⟩ := k1 z u c; rw [e2]; simp
end
section
variable {X : Cx} {K : Lay} {kk : Nat}
end
end Vfr
end
section
set_option Elab.async false
set_option linter.all false
set_option maxRecDepth 100000
set_option maxHeartbeats 4000000
/-! Tuples with own lists; a row of lists and more lists put together. -/
namespace Vfr
open PySem PySem.Spec PyProof.Rows L2 Vi Vf Vo Vp Vs Vt Vu Vv Vg Vw Vx Vy Va Vb Vc Vk Vm Vl Vn Vd Vq Vr Vj Vbo
section
variable {K : Lay} {F H F' H' F0 H0 F1 H1 F2 H2 : Hp} {σ σ' σ0 : L2.St} {δ δ' δ0 δ1 δ2 : Δ} {v : V} {o : O} {d : D}
theorem at0 {α : Type} {x : α} {xs : List α} : atI (x :: xs) 0 = some x := by
  have : ixN (x :: xs).length 0 = some 0 := by
    unfold ixN
    rw [if_pos (by omega), if_pos (by simp)]
    rfl
  unfold atI
  rw [this]
  rfl
/-! ### a tuple of own things -/
/-! ### s[0] + s[1:], s a list whose first item is a list of lists -/
/-! ### s[0][1].append(x), s[0] a tuple whose second thing is an own list -/
end
section
variable {X : Cx} {K : Lay} {k : Nat}
end
section
variable {K : Lay} {X : Cx} {k : Nat}
/-! ### a slot is not looked at any more -/
end
end Vfr
end
section
set_option Elab.async false
set_option linter.all false
set_option maxRecDepth 100000
set_option maxHeartbeats 4000000
/-! An item put to a list that stands in a tuple. -/
namespace Vfr
open PySem PySem.Spec PyProof.Rows L2 Vi Vf Vo Vp Vs Vt Vu Vv Vg Vw Vx Vy Va Vb Vc Vk Vm Vl Vn Vd Vq Vr Vj Vbo
section
variable {K : Lay} {F H F' H' F0 H0 F1 H1 F2 H2 : Hp} {σ σ' σ0 : L2.St} {δ δ' δ0 δ1 δ2 : Δ} {v : V} {o : O} {d : D} {X : Cx} {k : Nat}
end
end Vfr
end
section
set_option Elab.async false
set_option linter.all false
set_option maxRecDepth 100000
set_option maxHeartbeats 4000000
/-! zip of three tuples. -/
namespace Z3
open PySem
open PySem.Sem (wp)
structure Ap (z TI TO i1 i2 i3 : Addr) : Prop where
  TIz : TI ≠ z
  TOz : TO ≠ z
  i1z : i1 ≠ z
  i2z : i2 ≠ z
  i3z : i3 ≠ z
  TITO : TI ≠ TO
  TIi1 : TI ≠ i1
  TIi2 : TI ≠ i2
  TIi3 : TI ≠ i3
  TOi1 : TO ≠ i1
  TOi2 : TO ≠ i2
  TOi3 : TO ≠ i3
  i12 : i1 ≠ i2
  i13 : i1 ≠ i3
  i23 : i2 ≠ i3
/-- what a zip of three works on -/
structure Off (l z TO i1 i2 i3 : Addr) : Prop where
  z : l ≠ z
  TO : l ≠ TO
  i1 : l ≠ i1
  i2 : l ≠ i2
  i3 : l ≠ i3
section
variable {prog : Program} {w : World} {A : Around} {E : Value → Shared → Prop} {s : Shared}
end
abbrev H1 (h : Heap) (a : Addr) : Heap := h.push { cls := .type "tuple_iterator", data := .fields #[.ref a, .int 0 0] }
abbrev H2 (h : Heap) (a b : Addr) : Heap := H1 (H1 h a) b
abbrev H3 (h : Heap) (a b c : Addr) : Heap := H1 (H2 h a b) c
abbrev H4 (h : Heap) (a b c : Addr) : Heap := (H3 h a b c).push { cls := .type "tuple", data := .seq #[.ref h.objs.size, .ref (H1 h a).objs.size, .ref (H2 h a b).objs.size] }
abbrev H5 (h : Heap) (a b c : Addr) : Heap := (H4 h a b c).push { cls := .type "tuple", data := .seq #[.none, .none, .none] }
abbrev H6 (h : Heap) (a b c : Addr) : Heap := (H5 h a b c).push { cls := .type "zip", data := .fields #[.none, .bool false, .bool false, .ref (H3 h a b c).objs.size, .ref (H4 h a b c).objs.size] }
section
variable {prog : Program} {w : World} {A : Around} {E : Value → Shared → Prop} {s : Shared}
end
end Z3
end
section
set_option Elab.async false
set_option linter.all false
set_option maxRecDepth 100000
set_option maxHeartbeats 4000000
namespace Z3
open PySem PySem.Spec PyProof.Rows L2
end Z3
end
section
set_option Elab.async false
set_option linter.all false
set_option maxRecDepth 100000
set_option maxHeartbeats 4000000
/-! min and max of two alike data. -/
namespace Z3
open PySem PySem.Spec PySem.Calls PyProof.Rows L2 PySem.W
section
variable {prog : Program} {w : World} {A : Around} {E : Value → Shared → Prop} {s : Shared}
end
end Z3
end
section
set_option Elab.async false
set_option linter.all false
set_option maxRecDepth 100000
set_option maxHeartbeats 4000000
/-! zip of three tuples; a module's tuple of texts. -/
namespace Vfr
open PySem PySem.Spec PyProof.Rows L2 Vi Vf Vo Vp Vs Vt Vu Vv Vg Vw Vx Vy Va Vb Vc Vk Vm Vl Vn Vd Vq Vr Vj Vbo Z3
section
variable {K : Lay} {F H F' H' F0 H0 F1 H1 F2 H2 : Hp} {σ σ' σ0 : L2.St} {δ δ' δ0 δ1 δ2 : Δ} {v : V} {o : O} {d : D} {X : Cx} {k : Nat}
/-! ### a name of the module that is a tuple of texts -/
theorem dpa_strs (K : Lay) (F : Hp) : ∀ vs : List Str, DpAll K F (vs.map V.str) (vs.map PyData.str)
  | [] => .nil
  | v :: vs => .cons (.str v) (dpa_strs K F vs)
/-! ### zip -/
end
end Vfr
end
section
set_option Elab.async false
set_option linter.all false
set_option maxRecDepth 100000
set_option maxHeartbeats 4000000
/-! An own list of own lists, sorted. -/
namespace Vfr
open PySem PySem.Spec PyProof.Rows L2 Vi Vf Vo Vp Vs Vt Vu Vv Vg Vw Vx Vy Va Vb Vc Vk Vm Vl Vn Vd Vq Vr Vj Vbo
section
variable {K : Lay} {F H F' H' F0 H0 F1 H1 F2 H2 : Hp} {σ σ' σ0 : L2.St} {δ δ' δ0 δ1 δ2 : Δ} {v : V} {o : O} {d : D} {X : Cx} {k : Nat}
end
end Vfr
end
section
set_option Elab.async false
set_option linter.all false
set_option maxRecDepth 100000
set_option maxHeartbeats 4000000
/-! s[a][b].append(c), s a tuple whose item a is a list of lists. -/
namespace Vfr
open PySem PySem.Spec PyProof.Rows L2 Vi Vf Vo Vp Vs Vt Vu Vv Vg Vw Vx Vy Va Vb Vc Vk Vm Vl Vn Vd Vq Vr Vj Vbo
section
variable {K : Lay} {F H F' H' F0 H0 F1 H1 F2 H2 : Hp} {σ σ' σ0 : L2.St} {δ δ' δ0 δ1 δ2 : Δ} {v : V} {o : O} {d : D} {X : Cx} {k : Nat}
end
end Vfr
end
section
set_option Elab.async false
set_option linter.all false
set_option maxRecDepth 100000
set_option maxHeartbeats 4000000
/-! for x in s: x.append(n), s a tuple of own lists that is not looked at again. -/
namespace Vfr
open PySem PySem.Spec PyProof.Rows L2 Vi Vf Vo Vp Vs Vt Vu Vv Vg Vw Vx Vy Va Vb Vc Vk Vm Vl Vn Vd Vq Vr Vj Vbo
section
variable {K : Lay} {F H F' H' F0 H0 F1 H1 F2 H2 : Hp} {σ σ' σ0 : L2.St} {δ δ' δ0 δ1 δ2 D0 : Δ} {v : V} {o : O} {d : D}
structure SPT (K : Lay) (F H : Hp) (σ : L2.St) (δ D0 : Δ) (q : Addr) (A : List Addr) (zs : List V) (σ' : L2.St) (H' : Hp) (vs : List V) (is : List I) : Prop where
  len : σ'.length = σ.length
  rep : Rep K F H' σ' D0
  go : Go F H σ δ F H' σ' D0
  hq : H' q = some (.tup zs)
  ok : OkIs K F H' vs is
  nd : (fpI H' vs is).Nodup
  sub : ∀ a ∈ fpI H' vs is, a ∈ A
  fr : ∀ a ∈ A, ¬ Held H' σ' D0 a
end
section
variable {X : Cx} {K : Lay} {kk : Nat}
end
end Vfr
end
section
set_option Elab.async false
set_option linter.all false
set_option maxRecDepth 100000
set_option maxHeartbeats 4000000
/-! min and max of two alike things. -/
namespace Vfr
open PySem PySem.Spec PyProof.Rows L2 Vi Vf Vo Vp Vs Vt Vu Vv Vg Vw Vx Vy Va Vb Vc Vk Vm Vl Vn Vd Vq Vr Vj Vbo
section
variable {X : Cx} {K : Lay} {k : Nat}
end
end Vfr
end
section
set_option Elab.async false
set_option linter.all false
set_option maxRecDepth 100000
set_option maxHeartbeats 4000000
/-! a, b, c, d = [list(row) for row in t]. -/
namespace Vfr
open PySem PySem.Spec PyProof.Rows L2 Vi Vf Vo Vp Vs Vt Vu Vv Vg Vw Vx Vy Va Vb Vc Vk Vm Vl Vn Vd Vq Vr Vj Vbo
section
variable {X : Cx} {K : Lay} {k : Nat} {F H F' H' F0 H0 F1 H1 : Hp} {σ σ' : L2.St} {δ δ' δ0 δ1 : Δ} {v : V} {p : P} {o : O} {d : D} {vs : List Nat} {ps : List P} {os : List O}
end
end Vfr
end
section
set_option Elab.async false
set_option linter.all false
namespace Vfr
open PySem PySem.Spec PyProof.Rows L2 Vi Vf Vo Vp Vs Vt Vu
/-! `p *= n` of whole numbers -/
section
variable {X : Cx} {K : Lay} {k : Nat}
end
end Vfr
end
section
set_option Elab.async false
set_option linter.all false
namespace Vfr
open PySem PySem.Spec PyProof.Rows L2 Vi Vf Vo Vp Vs Vt Vu
/-! for .. in reversed(list) -/
section
variable {X : Cx} {K : Lay} {k : Nat}
def eRevL (a : Δ → Option (List D × Δ)) : Δ → Option (List D × Δ) := fun δ => (a δ).bind fun r => match r.1 with
  | [.list ds] => some (ds.reverse, r.2)
  | _ => none
end
end Vfr
end
section
set_option Elab.async false
set_option linter.all false
set_option maxRecDepth 100000
set_option maxHeartbeats 4000000
/-! sum of whole numbers; all and any of a list of truths -/
namespace Vfr
open PySem PySem.Spec PyProof.Rows L2 Vi Vf Vo Vp Vs Vt Vu
section
variable {X : Cx} {K : Lay} {k : Nat}
def isBl : D → Bool
  | .bool _ => true
  | _ => false
def allB (res : List D → Bool) : D → Option D
  | .list ds => if ds.all isBl = true then some (.bool (res ds)) else none
  | _ => none
end
end Vfr
end
section
set_option Elab.async false
set_option linter.all false
set_option maxRecDepth 100000
set_option maxHeartbeats 4000000
/-! {k: v for .. in .. if ..} with whole numbers as keys; d[k] and len(d) of an own dict -/
namespace Vfr
open PySem PySem.Spec PyProof.Rows L2 Vi Vf Vo Vp Vs Vt Vu Vv Vg Vw Vx Vd
section
variable {K : Lay} {F H F' H' F0 H0 F1 H1 F2 H2 : Hp} {σ σ' σ1 σ2 : L2.St} {δ δ' δ0 δ1 δ2 : Δ} {vs : List Nat}
def prD (x : Int × D) : D := .tuple [.int x.1, x.2]
/-- a key and what stands there -/
def pairD (g f : Δ → Option (D × Δ)) : Δ → Option (D × Δ) := fun δ => (g δ).bind fun r => (keyD r.1).bind fun n => (f r.2).map fun s => (prD (n, s.1), s.2)
def unpr : List D → Option (List (Int × D))
  | [] => some []
  | .tuple [.int n, d] :: r => (unpr r).map fun q => (n, d) :: q
  | _ => none
def eDc (vs : List Nat) (c : Δ → Option (List D × Δ)) (h : D → Δ → Option Δ) (t : Δ → Option (Bool × Δ)) (g f : Δ → Option (D × Δ)) : Δ → Option (P × Δ) := fun δ => (c δ).bind fun r => if r.1.length ≤ sizeLine ∧ vs.all (okv r.2) = true then (lcGo vs h t (pairD g f) r.1 (wipeΔ r.2 vs)).bind fun z => (unpr z.1).bind fun q => if (q.map (·.1)).Nodup then some (.tm (.dc (q.map (·.1)) (q.map fun x => I.fz x.2)), restΔ r.2 z.2 vs) else none else none
/-! ### d[k] of an own dict -/
end
section
variable {X : Cx} {K : Lay} {k : Nat}
end
end Vfr
end
section
set_option Elab.async false
set_option linter.all false
set_option maxRecDepth 100000
set_option maxHeartbeats 2000000
/-! list(zip(a, b)) of two lists, its pairs new ones. -/
namespace Vz
open PySem
open Sem (wp)
/-- the pairs' addresses: new, rising -/
structure Inc (n0 m : Nat) (acc : Array Value) : Prop where
  at_ : ∀ (j : Nat) (v : Value), acc[j]? = some v → ∃ T : Addr, v = .ref T ∧ n0 ≤ T ∧ T < m
  up : ∀ (i j : Nat) (T U : Addr), i < j → acc[i]? = some (.ref T) → acc[j]? = some (.ref U) → T < U
theorem Inc.nil {n0 m : Nat} : Inc n0 m #[] := ⟨fun j v e => by simp at e, fun i j T U _ e => by simp at e⟩
theorem Inc.push {n0 m : Nat} {acc : Array Value} (h : Inc n0 m acc) (hm : n0 ≤ m) : Inc n0 (m + 1) (acc.push (.ref m)) := by
  refine ⟨fun j v e => ?_, fun i j T U hij e1 e2 => ?_⟩
  · rw [Array.getElem?_push] at e
    split at e
    · cases e; exact ⟨m, rfl, hm, Nat.lt_succ_self _⟩
    · obtain ⟨T, a, b, c⟩ := h.at_ j v e
      exact ⟨T, a, b, Nat.lt_succ_of_lt c⟩
  · rw [Array.getElem?_push] at e1 e2
    split at e2
    · rename_i ej
      cases e2
      rw [if_neg (by omega)] at e1
      obtain ⟨T', a, b, c⟩ := h.at_ i _ e1
      cases a
      exact c
    · split at e1
      · rename_i h1 h2
        subst h2
        have := (Array.getElem?_eq_some_iff.mp e2).1
        omega
      · exact h.up i j T U hij e1 e2
section
variable {prog : Program} {w : World} {A : Around} {s : Shared} {R : Result → Shared → Prop}
end
section
variable {prog : Program} {w : World} {A : Around} {E : Value → Shared → Prop} {s : Shared}
end
end Vz
end
section
set_option Elab.async false
set_option linter.all false
set_option maxRecDepth 100000
set_option maxHeartbeats 4000000
/-! list(zip(a, b)) as an own list -/
namespace Vfr
open PySem PySem.Spec PyProof.Rows L2 Vi Vf Vo Vp Vs Vt Vu Vv Vg Vw Vx Vd
section
variable {X : Cx} {K : Lay} {k : Nat}
end
section
variable {K : Lay} {F H : Hp}
end
section
variable {X : Cx} {K : Lay} {k : Nat}
end
end Vfr
end
section
set_option Elab.async false
set_option linter.all false
set_option maxRecDepth 100000
set_option maxHeartbeats 4000000
/-! a def of which nothing is promised: where a recursion ends -/
namespace Vfr
open PySem PySem.Spec PyProof.Rows L2 Vi Vf Vo Vp Vs Vt Vu Vv Vg Vw Vx Vd Vc
theorem def_none {Pg : Program} {w : World} {K : Lay} {mg : Str → Option Value} {base : Heap} {x : Str} {st : Stmt} {f : Addr} {fd : FuncData} {N ps : List Str} {k : Nat} (Fd : FunD K.K x x (defArgs st) (defBody st) (defScope st) [] [] f fd) (hm : mg x = some (.ref f)) (S : FnScope N ps (defScope st))
    (hb : ∀ (kV doc pm : Value) (an : Option Addr) (cdv ct : Value) (us : List Value), us.length = ps.length → bindArgs (PySem.W.fnOf x x (defArgs st) (defBody st) (defScope st) .none kV doc pm an cdv ct) ⟨us, []⟩ = pure (ps.zip us)) :
    DefS Pg w K mg base (k + 1) x st ps (fun _ => none) := by
  have hbn := FunD.bindsN Fd hb
  obtain ⟨oc, od, dV, kV, doc, pm, an, cdv, ct, osl, rfl, lk, hcd, hD, hK⟩ := Fd.ex
  have hdV : dV = .none := by
    rcases hD with ⟨_, e⟩ | ⟨e, _⟩
    · exact e
    · exact absurd rfl e
  subst hdV
  refine ⟨f, _, kV, doc, pm, an, cdv, ct, ?_, hm, Fd.kp, rfl, hbn⟩
  refine fnG_of lk hcd S (fun zs G R X h => ?_) fun B es t G zs R X hr hg h => ?_
  · obtain ⟨F, os, o, δ', e, _⟩ := h
    cases e
  · obtain ⟨F, os, o, δ', e, _⟩ := h
    cases e
end Vfr
end
section
set_option Elab.async false
set_option linter.all false
set_option maxRecDepth 100000
set_option maxHeartbeats 4000000
/-! a slot's own list lent as it stands: what comes is a scalar, or a new list of scalars -/
namespace Vbo
open PySem PySem.Spec PyProof.Rows L2 Vi Vf Vo Vp Vs Vt Vu Vv Vg Vw Vx Vy Va Vb Vc Vk Vm Vl Vn Vd Vq Vr Vj
section
variable {K : Lay} {F H F' H' : Hp} {σ : L2.St} {δ : Δ}
end
end Vbo
namespace Vfr
open PySem PySem.Spec PyProof.Rows L2 Vi Vf Vo Vp Vs Vt Vu Vv Vg Vw Vx Vd
/-! list(x) of a slot's own list, which stays as it is -/
section
variable {K : Lay}
end
end Vfr
end
section
set_option Elab.async false
set_option linter.all false
set_option maxRecDepth 100000
set_option maxHeartbeats 4000000
/-! What is raised: an exception told by its class and its attributes; statements, expressions, defs that raise. -/
namespace Vxr
open PySem PySem.Spec PyProof.Rows L2 Vi Vf Vo Vp Vs Vt Vu Vv Vg Vw Vx Vy Va Vb Vc Vk Vm Vl Vn Vd
/-- an exception that is told: its class, its attributes -/
structure Ev where
  cls : Str
  kvs : List (Str × D)
def ExA (K : Lay) (mg : Str → Option Value) (F H : Hp) (cls : Value) (d : Option Addr) (ev : Ev) : Prop :=
  mg ev.cls = some cls ∧ ∃ (da : Addr) (fs : List (Str × V)), d = some da ∧ H da = some (.xd fs) ∧ fs.map (·.1) = ev.kvs.map (·.1) ∧ DpAll K.K F (fs.map (·.2)) (ev.kvs.map (·.2))
abbrev RF := Δ → Option (Ev × Δ)
section
variable {X : Cx} {W : WX} {K : Lay} {k : Nat}
/-- what is wished of what is raised -/
def Wsh (W : WX) (mg : Str → Option Value) (K : Lay) (F H : Hp) (σ : L2.St) (δ : Δ) (ev : Ev) (δ' : Δ) : Prop := ∀ cls d σ' F' H', Rep K F' H' σ' δ' → Go F H σ δ F' H' σ' δ' → ExA K mg F' H' cls d ev → W cls d σ' H'
def SRx (W : WX) (mg : Str → Option Value) (K : Lay) (te : TE) (r : RF) : Prop := ∀ δ ev δ', r δ = some (ev, δ') → ∀ σ F H, Rep K F H σ δ → Wsh W mg K F H σ δ ev δ' → ∀ Q : VK, te σ H Q
def SRs (W : WX) (mg : Str → Option Value) (K : Lay) (ts : TS) (r : RF) : Prop := ∀ δ ev δ', r δ = some (ev, δ') → ∀ σ F H, Rep K F H σ δ → Wsh W mg K F H σ δ ev δ' → ∀ E : Ends, ts E σ H
def RE (X : Cx) (W : WX) (K : Lay) (e : Expr) (r : RF) : Prop := ∃ te, PE X e te ∧ SRx W X.mg K te r
def RB (X : Cx) (W : WX) (K : Lay) (s : Stmt) (r : RF) : Prop := ∃ t, PS X s t ∧ SRs W X.mg K t r
def RBs (X : Cx) (W : WX) (K : Lay) (s : List Stmt) (r : RF) : Prop := ∃ t, PSs X s t ∧ SRs W X.mg K t r
theorem Wsh.from {mg : Str → Option Value} {F H F1 H1 : Hp} {σ σ1 : L2.St} {δ δ1 δ' : Δ} {ev : Ev} (g : Go F H σ δ F1 H1 σ1 δ1) (h : Wsh W mg K F H σ δ ev δ') : Wsh W mg K F1 H1 σ1 δ1 ev δ' :=
  fun cls d σ' F' H' r g' x => h cls d σ' F' H' r (g.trans g') x
/-! ### blocks -/
theorem pss_no {s : List Stmt} : PSs X s (fun _ _ _ => False) := ⟨fun _ _ _ _ _ _ h => h.elim⟩
def rNo : RF := fun _ => none
theorem rs_no {s : List Stmt} : RBs X W K s rNo := ⟨_, pss_no, fun _ _ _ e => by cases e⟩
/-- the first statement raises -/
theorem rs_hd {s : Stmt} {rest : List Stmt} {r : RF} (h : RB X W K s r) : RBs X W K (s :: rest) r := by
  obtain ⟨t, p, q⟩ := h
  exact ⟨_, pss_cons p (pss_no (s := rest)), fun δ ev δ' e σ F H rp w E => q δ ev δ' e σ F H rp w _⟩
def rIf (c : Δ → Option (Bool × Δ)) (a b : RF) : RF := fun δ => (c δ).bind fun r => if r.1 = true then a r.2 else b r.2
theorem r_if {c : Expr} {a b : List Stmt} {pos : Pos} {t : Δ → Option (Bool × Δ)} {f g : RF} (hc : TX X K c t) (ha : RBs X W K a f) (hb : RBs X W K b g) : RB X W K (.If c a b pos) (rIf t f g) := by
  obtain ⟨tc, pc, qc⟩ := hc
  obtain ⟨ta, pa, qa⟩ := ha
  obtain ⟨tb, pb, qb⟩ := hb
  refine ⟨_, ps_if pc pa pb, fun δ ev δ' e σ F H rp w E => ?_⟩
  obtain ⟨⟨c1, δ1⟩, e1, e2⟩ := Option.bind_eq_some_iff.mp e
  refine qc δ c1 δ1 e1 σ F H rp _ fun F1 H1 a1 => ?_
  cases c1 with
  | true => exact qa δ1 ev δ' e2 σ F1 H1 a1.rep (w.from a1.go) E
  | false => exact qb δ1 ev δ' e2 σ F1 H1 a1.rep (w.from a1.go) E
end
end Vxr
end
section
set_option Elab.async false
set_option linter.all false
set_option maxRecDepth 100000
set_option maxHeartbeats 4000000
/-! Calls that raise, statements around them, defs that raise. -/
namespace Vxr
open PySem PySem.Spec PyProof.Rows L2 Vi Vf Vo Vp Vs Vt Vu Vv Vg Vw Vx Vy Va Vb Vc Vk Vm Vl Vn Vd
/-- a def's promise of what it raises -/
def SpR (mg : Str → Option Value) (K : Lay) (r : List O → Option (Ev × Δ)) : Sp := fun vs H _ E => ∃ F os ev δ', r os = some (ev, δ') ∧ Rep K F H (sm vs) (om os) ∧
  ∀ cls d F' H', Rep K F' H' (sm vs) (lent os δ') → Go F H (sm vs) (om os) F' H' (sm vs) (lent os δ') → ExA K mg F' H' cls d ev → E cls d H'
def runR (k n : Nat) (r : RF) (os : List O) : Option (Ev × Δ) := if os.length = k then r (startΔ n os) else none
structure DefR (Pg : Program) (w : World) (K : Lay) (mg : Str → Option Value) (base : Heap) (k : Nat) (x : Str) (st : Stmt) (ps : List Str) (rv : List O → Option (Ev × Δ)) : Prop where
  ex : ∃ (f : Addr) (fd : FuncData) (kV doc pm : Value) (an : Option Addr) (cdv ct : Value), FnG Pg w K.K mg base (L2.CX Pg w) k f fd ps (SpR mg K rv) ∧ mg x = some (.ref f) ∧ PySem.W.keepIn K.K (.ref f) = true ∧
    fd = PySem.W.fnOf x x (defArgs st) (defBody st) (defScope st) .none kV doc pm an cdv ct ∧ Binds K.K fd ps []
section
variable {X : Cx} {W : WX} {K : Lay} {k : Nat}
/-! ### calls -/
/-- the wish behind a call, at the caller's slots -/
abbrev wAt (W : WX) : L2.St → XK := fun σ cls d H => W cls d σ H
theorem pe_callR {j : Nat} {f : Addr} {fd : FuncData} {ps : List Str} {sp : Sp} {x : Str} {p pos : Pos} {e : Expr} {es : List Expr} {t : TA} (F : FnG X.prog X.w X.K X.mg X.base (L2.CX X.prog X.w) k f fd ps sp) (hr : Can X k) (tk : Takes X W) (hg : Gl X x) (hm : X.mg x = some (.ref f)) (hk : PySem.W.keepIn X.K (.ref f) = true) (hb : Binds X.K fd ps []) (ha : PA X (e :: es) t)
    (hdb : (x == ("__debug__" : Str)) = false := by decide) (he : starEach (e :: es) X.env = (false, eval e X.env) :: starEach es X.env := by rfl) (hpl : (backTo pos (starEach es X.env)).any (·.1) = false := by rfl) : PE X (.Call (.Name x p) (e :: es) [] pos) (fun σ H Q => t σ H fun vs H1 => sp vs H1 Q (wAt W σ)) := by
  refine ⟨fun pins s σ H Q I h => wpAny_Call_Name_kw (ld_glob I hg hm ?_ hdb)⟩
  refine PySem.W.callWith_K (h₀ := X.base) I.ok.mod.kin hk (thn (ha.run pos pins s σ H _ I h) ?_) he hpl
  rintro us s1 ⟨vs, H1, I1, r, q⟩
  have hl : (us ++ []).length = ps.length := by rw [List.append_nil, ← r.length]; exact F.len _ _ _ _ q
  have hb' := hb s1 us I1.kIn hl
  rw [List.append_nil] at hb'
  refine ⟨I1.kIn, wpAny_call (codeAny_mono (F.run X.A X.stack s1 H1 ⟨us, []⟩ us vs Q (wAt W σ) hr.room hr.gd I1.env0 hb' r q) ?_)⟩
  intro r' s' hq
  match r', hq with
  | .ok (.ret u), hq => exact I1.after hq
  | .error e, hq => exact tk e s' (XE.of_call I1 (fun cls d H' h => h) hq)
  | .ok .next, hq => exact False.elim hq
  | .ok .brk, hq => exact False.elim hq
  | .ok .cont, hq => exact False.elim hq
def eFnR (r : List O → Option (Ev × Δ)) (g : Δ → Option (List P × Δ)) : RF := fun δ => (g δ).bind fun z => (argOs z.2 z.1).bind fun os => if (slots z.1).Nodup then (r os).map fun s => (s.1, backΔ z.1 (lent os s.2) z.2) else none
theorem srx_fn {mg : Str → Option Value} {ta : TA} {r : List O → Option (Ev × Δ)} {g : Δ → Option (List P × Δ)} (hg : SXs K ta g) : SRx W mg K (fun σ H Q => ta σ H fun vs H1 => SpR mg K r vs H1 Q (wAt W σ)) (eFnR r g) := fun δ ev δ' e σ F H rp w Q => by
  obtain ⟨⟨ps, δ1⟩, e1, e2⟩ := Option.bind_eq_some_iff.mp e
  obtain ⟨os, e3, e4⟩ := Option.bind_eq_some_iff.mp e2
  dsimp only at e4
  split at e4
  case isFalse => cases e4
  rename_i ns
  obtain ⟨⟨ev', δ2⟩, e5, e6⟩ := Option.map_eq_some_iff.mp e4
  cases e6
  refine hg δ ps δ1 e1 σ F H rp _ fun vs F1 H1 a1 p1 nd n1 => ?_
  refine ⟨F1, os, ev', δ2, e5, args_rep a1.rep p1 nd ns e3, fun cls d F' H' r1 g x => ?_⟩
  obtain ⟨c1, _, _⟩ := call_ok (v := .non) (o := .fz .none) a1 p1 nd n1 ns e3 rfl r1 g ⟨.non, by simp [O.fp], fun a ha => by cases ha⟩ fun a ha => by cases ha
  exact w cls d σ F' H' c1.rep c1.go x
theorem re_fn (Z : Fits X K k) (tk : Takes X W) {j : Nat} {x : Str} {st : Stmt} {ps : List Str} {rv : List O → Option (Ev × Δ)} (G : DefR X.prog X.w K X.mg X.base j x st ps rv) (hj : j ≤ k) {e : Expr} {es : List Expr} {p pos : Pos} {g : Δ → Option (List P × Δ)} (ha : ASX X K (e :: es) g) (hg : Gl X x := by rfl)
    (hdb : (x == ("__debug__" : Str)) = false := by decide) (he : starEach (e :: es) X.env = (false, eval e X.env) :: starEach es X.env := by rfl) (hpl : (backTo pos (starEach es X.env)).any (·.1) = false := by rfl) : RE X W K (.Call (.Name x p) (e :: es) [] pos) (eFnR rv g) := by
  obtain ⟨_, q, s⟩ := ha
  obtain ⟨f, fd, kV, doc, pm, an, cdv, ct, F, hm, hk, _, hb⟩ := G.ex
  rw [← Z.K] at F hk hb
  exact ⟨_, pe_callR (j := j) (F.up hj) Z.can tk hg hm hk hb q hdb he hpl, srx_fn s⟩
/-! ### statements around it -/
theorem r_expr {e : Expr} {pos : Pos} {r : RF} (h : RE X W K e r) (hs : swapsWith e none pos.line X.env = pure false := by rfl) : RB X W K (.Expr e pos) r :=
  let ⟨_, p, q⟩ := h; ⟨_, ps_expr p hs, fun δ ev δ' e σ F H rp w _ => q δ ev δ' e σ F H rp w _⟩
theorem r_asg (i : Nat) {x : Str} {p pos : Pos} {e : Expr} {r : RF} (hN : X.N.Nodup) (h : RE X W K e r) (hi : X.N[i]? = some x := by rfl) (hx : Loc X.env.scope x := by first | exact .inl rfl | exact .inr rfl) (hf : X.fn x = true ∨ X.env.scope.names.lookup x = some .local := by first | exact .inl rfl | exact .inr rfl)
    (hs : swapsWithSole [.Name x p] e pos.line X.env = pure false := by rfl) (hw : swappedStores [.Name x p] e X.env = pure none := by rfl) (h1 : (assignEach [.Name x p] X.env).map (·.2) = [assign (.Name x p) X.env] := by rfl) : RB X W K (.Assign [.Name x p] e pos) r :=
  let ⟨_, q, s⟩ := h; ⟨_, ps_asg q (pg_name hN hi hx hf) hs hw h1, fun δ ev δ' e σ F H rp w _ => s δ ev δ' e σ F H rp w _⟩
end
section
variable {Pg : Program} {w : World} {K : Lay} {mg : Str → Option Value} {base : Heap}
/-- THE RULE for a def that raises -/
theorem def_r {x : Str} {st : Stmt} {f : Addr} {fd : FuncData} {N ps : List Str} {k : Nat} {r : RF} (Fd : FunD K.K x x (defArgs st) (defBody st) (defScope st) [] [] f fd) (hm : mg x = some (.ref f)) (S : FnScope N ps (defScope st)) (hn : ps.length ≤ N.length)
    (hb : ∀ (kV doc pm : Value) (an : Option Addr) (cdv ct : Value) (us : List Value), us.length = ps.length → bindArgs (PySem.W.fnOf x x (defArgs st) (defBody st) (defScope st) .none kV doc pm an cdv ct) ⟨us, []⟩ = pure (ps.zip us))
    (hbody : ∀ (cdv : Value) (B : Around) (es : List Env) (s : Shared) (H : Hp) (E : XK), (∃ oc od kV doc pm an ct osl, K.K.lookup f = some ⟨oc, od, .func (PySem.W.fnOf x x (defArgs st) (defBody st) (defScope st) .none kV doc pm an cdv ct), osl⟩ ∧ PySem.W.codeIn K.K cdv x = true) →
      Fits (cxOf (L2.CX Pg w) Pg w K.K mg base N x (defScope st) f cdv B es s H E) K k → Takes (cxOf (L2.CX Pg w) Pg w K.K mg base N x (defScope st) f cdv B es s H E) (fun cls d _ H => E cls d H) →
      RBs (cxOf (L2.CX Pg w) Pg w K.K mg base N x (defScope st) f cdv B es s H E) (fun cls d _ H => E cls d H) K (defBody st) r) :
    DefR Pg w K mg base (k + 1) x st ps (runR ps.length N.length r) := by
  have hbn := FunD.bindsN Fd hb
  obtain ⟨oc, od, dV, kV, doc, pm, an, cdv, ct, osl, rfl, lk, hcd, hD, hK⟩ := Fd.ex
  have hdV : dV = .none := by
    rcases hD with ⟨_, e⟩ | ⟨e, _⟩
    · exact e
    · exact absurd rfl e
  subst hdV
  refine ⟨f, _, kV, doc, pm, an, cdv, ct, ?_, hm, Fd.kp, rfl, hbn⟩
  refine fnG_of lk hcd S (fun zs G R X h => ?_) fun B es t G zs R X hr hg h => ?_
  · obtain ⟨F, os, ev, δ', e, rp, _⟩ := h
    unfold runR at e
    split at e
    case isFalse => cases e
    rename_i hk
    rw [rep_len rp, hk]
  obtain ⟨T, hT, hs⟩ := hbody cdv B es t G X ⟨oc, od, kV, doc, pm, an, ct, osl, lk, hcd⟩ ⟨rfl, ⟨hr, hg⟩, rfl⟩ (takes_of rfl rfl rfl (E₁ := fun e' s'' => L2.CX Pg w es G t X e' s'') rfl)
  refine ⟨T, hT, ?_⟩
  obtain ⟨F, os, ev, δ', e, rp, q⟩ := h
  unfold runR at e
  split at e
  case isFalse => cases e
  rename_i hk
  have hn' : os.length ≤ N.length := by omega
  obtain ⟨r0, _⟩ := rep_start (N := N) rp hn'
  refine hs _ _ _ e _ F G r0 (fun cls d σ' F' H' r1 g x => ?_) _
  obtain ⟨b1, b2, b3⟩ := back_ok rp hn' r1 g
  exact q cls d F' H' b1 b2 x
end
end Vxr
end
section
set_option Elab.async false
set_option linter.all false
set_option maxRecDepth 100000
set_option maxHeartbeats 4000000
/-! Inside an except suite: the caught exception's slot is not looked at; its class and attributes are known. -/
namespace Vxr
open PySem PySem.Spec PyProof.Rows L2 Vi Vf Vo Vp Vs Vt Vu Vv Vg Vw Vx Vy Va Vb Vc Vk Vm Vl Vn Vd
/-- what a suite knows: slot i has the exception at a, whose dict at da tells ev's attributes -/
structure NP where
  i : Nat
  a : Addr
  da : Addr
  ev : Ev
def Nt (K : Lay) (N : NP) (F H : Hp) (σ : L2.St) (δ : Δ) : Prop := σ[N.i]? = some (some (.ref N.a)) ∧ ¬ Held H σ δ N.da ∧
  ∃ fs : List (Str × V), H N.da = some (.xd fs) ∧ fs.map (·.1) = N.ev.kvs.map (·.1) ∧ DpAll K.K F (fs.map (·.2)) (N.ev.kvs.map (·.2))
section
variable {X : Cx} {K : Lay} {k : Nat} {N : NP} {F H F' H' F1 H1 : Hp} {σ σ' : L2.St} {δ δ' δ1 : Δ}
theorem lq_xd {fs : List (Str × V)} {u : HO} (h : Lq (.xd fs) u) : u = .xd fs := by
  rcases h with h | ⟨ps, qs, h, _⟩
  · exact h
  · cases h
theorem Nt.step (n : Nt K N F H σ δ) (g : Go F H σ δ F' H' σ' δ') (hs : σ'[N.i]? = σ[N.i]?) : Nt K N F' H' σ' δ' := by
  obtain ⟨h1, h2, fs, h3, h4, h5⟩ := n
  obtain ⟨u, e1, e2⟩ := g.kh _ _ h3 h2
  rw [lq_xd e2] at e1
  refine ⟨by rw [hs, h1], fun z => ?_, fs, e1, h4, dpa_mono g.kf h5⟩
  rcases g.hd _ z with q | q
  · exact h2 q
  · rw [h3] at q; cases q
theorem Nt.aft (n : Nt K N F H σ δ) (a : Aft K F H σ δ F' H' δ') : Nt K N F' H' σ δ' := n.step a.go rfl
def SXn (K : Lay) (N : NP) (te : TE) (f : Δ → Option (P × Δ)) : Prop := ∀ δ p δ', f δ = some (p, δ') → ∀ σ F H, Rep K F H σ δ → Nt K N F H σ δ → ∀ Q : VK,
  (∀ v F' H', Aft K F H σ δ F' H' δ' → PR K F' H' σ δ' v p → Nw H σ δ H' v p → Q v H') → te σ H Q
def SDn (K : Lay) (N : NP) (te : TE) (g : Δ → Option (D × Δ)) : Prop := ∀ δ d δ', g δ = some (d, δ') → ∀ σ F H, Rep K F H σ δ → Nt K N F H σ δ → ∀ Q : VK,
  (∀ v F' H', Aft K F H σ δ F' H' δ' → Dp K F' v d → Q v H') → te σ H Q
def STn (K : Lay) (N : NP) (tt : TT) (g : Δ → Option (Bool × Δ)) : Prop := ∀ δ b δ', g δ = some (b, δ') → ∀ σ F H, Rep K F H σ δ → Nt K N F H σ δ → ∀ Q : Bool → Hp → Prop,
  (∀ F' H', Aft K F H σ δ F' H' δ' → Q b H') → tt σ H Q
def SSn (K : Lay) (N : NP) (ts : TS) (m : Δ → Option Out) : Prop := ∀ δ out, m δ = some out → ∀ σ F H, Rep K F H σ δ → Nt K N F H σ δ → ∀ E : Ends, Fin K F H σ δ E out → ts E σ H
def EN (X : Cx) (K : Lay) (N : NP) (e : Expr) (f : Δ → Option (P × Δ)) : Prop := ∃ te, PE X e te ∧ SXn K N te f
def DN (X : Cx) (K : Lay) (N : NP) (e : Expr) (f : Δ → Option (D × Δ)) : Prop := ∃ te, PE X e te ∧ SDn K N te f
def TN (X : Cx) (K : Lay) (N : NP) (e : Expr) (f : Δ → Option (Bool × Δ)) : Prop := ∃ tt, PT X e tt ∧ STn K N tt f
def BN (X : Cx) (K : Lay) (N : NP) (s : List Stmt) (m : Δ → Option Out) : Prop := ∃ t, PSs X s t ∧ SSn K N t m
theorem EX.n {e : Expr} {f : Δ → Option (P × Δ)} (h : EX X K e f) : EN X K N e f := let ⟨t, p, s⟩ := h; ⟨t, p, fun δ q δ' e σ F H r _ => s δ q δ' e σ F H r⟩
theorem DX.n {e : Expr} {f : Δ → Option (D × Δ)} (h : DX X K e f) : DN X K N e f := let ⟨t, p, s⟩ := h; ⟨t, p, fun δ q δ' e σ F H r _ => s δ q δ' e σ F H r⟩
theorem TX.n {e : Expr} {f : Δ → Option (Bool × Δ)} (h : TX X K e f) : TN X K N e f := let ⟨t, p, s⟩ := h; ⟨t, p, fun δ q δ' e σ F H r _ => s δ q δ' e σ F H r⟩
theorem BXs.n {s : List Stmt} {m : Δ → Option Out} (h : BXs X K s m) : BN X K N s m := let ⟨t, p, q⟩ := h; ⟨t, p, fun δ o e σ F H r _ => q δ o e σ F H r⟩
theorem EN.of {e : Expr} {g : Δ → Option (D × Δ)} (h : DN X K N e g) : EN X K N e (eP g) := by
  obtain ⟨te, p, s⟩ := h
  refine ⟨te, p, fun δ q δ' e σ F H r n Q k => ?_⟩
  obtain ⟨⟨d, δ1⟩, e1, e2⟩ := Option.map_eq_some_iff.mp e
  cases e2
  exact s δ d δ1 e1 σ F H r n Q fun v F' H' a hd => k v F' H' a ⟨hd, by simp [O.fp], fun z hz => by cases hz⟩ fun z hz => by cases hz
theorem DN.of {e : Expr} {f : Δ → Option (P × Δ)} (h : EN X K N e f) : DN X K N e (eF f) := by
  obtain ⟨te, p, s⟩ := h
  refine ⟨te, p, fun δ q δ' e σ F H r n Q k => ?_⟩
  obtain ⟨⟨p, δ1⟩, e1, e2⟩ := Option.bind_eq_some_iff.mp e
  refine s δ p δ1 e1 σ F H r n Q fun v F' H' a hp nw => ?_
  obtain ⟨F2, a2, d2, _⟩ := force_ok a hp nw e2
  exact k v F2 H' a2 d2
theorem dn_call1 {x id : Str} {e : Expr} {p pos : Pos} {r : List V → Hp → VK → Prop} {g : D → Option D} {f : Δ → Option (P × Δ)} {i : String} (hc : CallR X (.builtin i) r) (hr : CrR K r g) (he : EN X K N e f) (hm : X.mg x = none) (hg : Gl X x := by rfl) (hv : bootBuiltins x = some (.builtin i) := by rfl)
    (hn : x ≠ "__name__" := by decide) (hdb : (x == ("__debug__" : Str)) = false := by decide) (hst : starEach [e] X.env = (false, eval e X.env) :: starEach [] X.env := by rfl) (hpl : (backTo pos (starEach [] X.env)).any (·.1) = false := by rfl) : DN X K N (.Call (.Name x p) [e] [] pos) (eCall1 g f) := by
  obtain ⟨_, q, hf⟩ := he
  refine ⟨_, pe_callB hc hg hm hv (pa_cons q pa_nil hst) hn hdb hst hpl, fun δ d δ' e σ F H rp n Q k => ?_⟩
  obtain ⟨⟨p, δ1⟩, e1, e⟩ := Option.bind_eq_some_iff.mp e
  obtain ⟨dx, e3, e⟩ := Option.bind_eq_some_iff.mp e
  obtain ⟨z, e5, e⟩ := Option.map_eq_some_iff.mp e
  cases e
  refine hf δ p δ1 e1 σ F H rp n _ fun x F' H' a px _ => ?_
  obtain ⟨w, hw, hq⟩ := hr H' x dx d (pr_dp a.rep px e3) e5
  exact hq Q (k w F' H' a (sv_dp hw))
theorem dn_cmp {op : CmpOp} {a b : Expr} {pos : Pos} {g : D → D → Option D} {f h : Δ → Option (P × Δ)} (ho : OpS X K (compareOp op) g) (ha : EN X K N a f) (hb : EN X K N b h) (hm : behindInMarks op b = false := by first | exact nomark _ | rfl) : DN X K N (.Compare a [op] [b] pos) (eOp g f h) := by
  obtain ⟨_, o, so⟩ := ho
  obtain ⟨_, p, s⟩ := ha
  obtain ⟨_, q, t⟩ := hb
  refine ⟨_, pe_cmpR o p q hm, fun δ d δ' e σ F H rp n Q k => ?_⟩
  obtain ⟨⟨p, δ1⟩, e1, e⟩ := Option.bind_eq_some_iff.mp e
  obtain ⟨⟨q, δ2⟩, e2, e⟩ := Option.bind_eq_some_iff.mp e
  obtain ⟨dx, e3, e⟩ := Option.bind_eq_some_iff.mp e
  obtain ⟨dy, e4, e⟩ := Option.bind_eq_some_iff.mp e
  obtain ⟨z, e5, e⟩ := Option.map_eq_some_iff.mp e
  cases e
  refine s δ p δ1 e1 σ F H rp n _ fun x F1 H1 a1 p1 n1 => t δ1 q δ2 e2 σ F1 H1 a1.rep (n.aft a1) _ fun y F2 H2 a2 p2 n2 => ?_
  obtain ⟨w, hw, hq⟩ := so H2 x y dx dy d (pr_dp (a1.trans a2).rep (p1.step a2).1 e3) (pr_dp (a1.trans a2).rep p2 e4) e5
  exact hq Q (k w F2 H2 (a1.trans a2) (sv_dp hw))
end
end Vxr
end
section
set_option Elab.async false
set_option linter.all false
set_option maxRecDepth 100000
set_option maxHeartbeats 4000000
/-! The caught exception's attributes and classes; statements of a suite. -/
namespace Vxr
open PySem PySem.Spec PyProof.Rows L2 Vi Vf Vo Vp Vs Vt Vu Vv Vg Vw Vx Vy Va Vb Vc Vk Vm Vl Vn Vd
theorem lookup_all {K : PySem.W.Frag} {F : Hp} {f : Str} {d : D} : ∀ {fs : List (Str × V)} {kvs : List (Str × D)}, fs.map (·.1) = kvs.map (·.1) → DpAll K F (fs.map (·.2)) (kvs.map (·.2)) → kvs.lookup f = some d → ∃ v, fs.lookup f = some v ∧ Dp K F v d
  | [], [], _, _, e => by cases e
  | [], _ :: _, h, _, _ => by cases h
  | _ :: _, [], h, _, _ => by cases h
  | (g, v) :: fs, (g', d') :: kvs, h, p, e => by
    rw [List.map_cons, List.map_cons, List.cons.injEq] at h
    obtain ⟨h1, h2⟩ := h
    have h1 : g = g' := h1
    subst h1
    cases p with
    | cons p1 p2 =>
      by_cases c : f = g
      · subst c
        rw [List.lookup_cons_self] at e
        cases e
        exact ⟨v, List.lookup_cons_self, p1⟩
      · have c' : (f == g) = false := by simpa using c
        rw [List.lookup_cons, c'] at e
        obtain ⟨w, e1, e2⟩ := lookup_all h2 p2 e
        exact ⟨w, by rw [List.lookup_cons, c']; exact e1, e2⟩
/-- e.f -/
def eXa (ev : Ev) (f : Str) : Δ → Option (D × Δ) := fun δ => (ev.kvs.lookup f).map fun d => (d, δ)
/-- isinstance(e, c), told by the classes' names -/
def eXi (b : Bool) : Δ → Option (D × Δ) := fun δ => some (.bool b, δ)
section
variable {Y : Cx} {K : Lay} {k : Nat} {i : Nat} {a da : Addr} {ev : Ev} {C : Addr} {oe : Obj} {pn : List (Addr × Obj)}
theorem dn_attr {x f : Str} {pos pos2 : Pos} (hK : Y.K = K.K) (T : XfC Y.K C) (hno : PySem.W.findIn Y.K (.ref C) f = some none) (hz : Zc (.ref C) (some da) oe) (hf : ∃ vs, oe.data = .fields vs) (hN : Y.N[i]? = some x) (hv : Vis Y.env.scope x)
    (hd : (x == ("__debug__" : Str)) = false := by decide) (hcd : (x == ("__classdict__" : Str)) = false := by decide) (hb : attributeBase (.Name x pos) f Y.env (eval (.Name x pos) Y.env) = eval (.Name x pos) Y.env := by rfl) : DN (Y.suite a ((a, oe) :: pn)) K ⟨i, a, da, ev⟩ (.Attribute (.Name x pos) f pos2) (eXa ev f) := by
  refine ⟨_, pe_xf (X := Y) T hno hz hf (pe_var (X := Y.suite a ((a, oe) :: pn)) hN hv hd hcd) hb, fun δ d δ' e σ F H rp n Q k => ?_⟩
  obtain ⟨d0, e1, e2⟩ := Option.map_eq_some_iff.mp e
  cases e2
  obtain ⟨h1, h2, fs, h3, h4, h5⟩ := n
  obtain ⟨v, e3, e4⟩ := lookup_all h4 h5 e1
  exact ⟨_, h1, rfl, rfl, da, fs, v, rfl, h3, e3, k v F H (.rfl rp) e4⟩
/-- what an own exception class must say, so that isinstance asks its instances rightly -/
def rIsX (K : PySem.W.Frag) (D a da : Addr) : List V → Hp → VK → Prop := fun xs H Q => ∃ (c : V) (cv : Value) (b : Bool) (fs : List (Str × V)), xs = [.ref a, c] ∧ (∀ u, RelV c u → u = cv) ∧ PySem.W.kitOne K (.ref D) cv = some b ∧ H da = some (.xd fs) ∧ Q (.bl b) H
theorem call_isX (T : ExcC Y.K C) (hcl : (PySem.W.clsIn Y.K C).isSome = true) (hz : Zc (.ref C) (some da) oe) (hf : ∃ vs, oe.data = .fields vs) : CallR (Y.suite a ((a, oe) :: pn)) (.builtin "isinstance") (rIsX Y.K C a da) := by
  intro pins s σ H xs us Q I rv h
  obtain ⟨c, cv, b, fs, rfl, hcv, eb, hx, q⟩ := h
  cases rv with
  | cons rx rr =>
    cases rr with
    | cons rt rr =>
      cases rr
      cases rx
      obtain rfl := hcv _ rt
      have pin := (I.pin (a, oe) (List.mem_append_left _ List.mem_cons_self)).1
      obtain ⟨vs, hv⟩ := hf
      obtain ⟨mA, hns, _⟩ := (I.hok _ _ hx : ObjOk Y.prog Y.w H s.heap da (.xd fs))
      obtain ⟨od, ho, _⟩ := lookIn_ns hns
      have J : PySem.W.InstAt s.heap a oe C (some od) := ⟨pin, hz.1, by unfold PySem.W.notCls; rw [hv] <;> rfl, by rw [hz.2]; exact ho⟩
      have Z := PySem.W.kitx_exc (x := a) (ox := oe) (od := some od) hcl T.hg T.hk T.hs T.ha T.hn T.ht T.hm
      exact PySem.W.kia_one Z I.kIn J eb (fun z => nomatch z) fun tk => ⟨.bl b, H, I.kept (t' := tk) fun _ _ z => z, rfl, q⟩
/-- isinstance(e, c), c a class by name -/
theorem dn_isX {x c : Str} {cv : V} {u : Value} {b : Bool} {p p1 p2 pos : Pos} (T : ExcC Y.K C) (hcl : (PySem.W.clsIn Y.K C).isSome = true) (hz : Zc (.ref C) (some da) oe) (hf : ∃ vs, oe.data = .fields vs) (hN : Y.N[i]? = some x) (hv : Vis Y.env.scope x) (hi : Gl Y "isinstance") (hm : Y.mg "isinstance" = none)
    (hc : PE (Y.suite a ((a, oe) :: pn)) (.Name c p2) (tC cv)) (hu : ∀ z, RelV cv z → z = u) (hk : PySem.W.kitOne Y.K (.ref C) u = some b) (hd : (x == ("__debug__" : Str)) = false := by decide) (hcd : (x == ("__classdict__" : Str)) = false := by decide)
    (hst : starEach [.Name x p1, .Name c p2] Y.env = (false, eval (.Name x p1) Y.env) :: starEach [.Name c p2] Y.env := by rfl) (hst2 : starEach [.Name c p2] Y.env = (false, eval (.Name c p2) Y.env) :: starEach [] Y.env := by rfl)
    (hpl : (backTo pos (starEach [.Name c p2] Y.env)).any (·.1) = false := by rfl) : DN (Y.suite a ((a, oe) :: pn)) K ⟨i, a, da, ev⟩ (.Call (.Name "isinstance" p) [.Name x p1, .Name c p2] [] pos) (eXi b) := by
  refine ⟨_, pe_callB (X := Y.suite a ((a, oe) :: pn)) (call_isX T hcl hz hf) hi hm (by decide +kernel) (pa_cons (pe_var (X := Y.suite a ((a, oe) :: pn)) hN hv hd hcd) (pa_cons hc pa_nil hst2) hst) (by decide) (by decide) hst hpl, fun δ d δ' e σ F H rp n Q k => ?_⟩
  cases e
  obtain ⟨h1, h2, fs, h3, h4, h5⟩ := n
  exact ⟨_, h1, cv, u, b, fs, rfl, hu, hk, h3, k _ F H (.rfl rp) (.bl b)⟩
end
section
variable {X : Cx} {K : Lay} {k : Nat} {N : NP}
/-! ### statements -/
def mRetT (f : Δ → Option (P × Δ)) : Δ → Option Out := fun δ => (f δ).bind fun r => match r.1 with
  | .tm o => some (.rt o r.2)
  | .sl _ => none
theorem n_ret {e : Expr} {pos : Pos} {rest : List Stmt} {f : Δ → Option (P × Δ)} (h : EN X K N e f) : BN X K N (.Return (some e) pos :: rest) (mRetT f) := by
  obtain ⟨te, p, hf⟩ := h
  refine ⟨_, pss_cons (ps_ret p) (pss_no (s := rest)), fun δ out e σ F H r n E k => ?_⟩
  obtain ⟨⟨q, δ1⟩, e1, e2⟩ := Option.bind_eq_some_iff.mp e
  cases q with
  | sl j => cases e2
  | tm o =>
    cases e2
    exact hf δ _ δ1 e1 σ F H r n _ fun v F1 H1 a1 p1 n1 => k v σ F1 H1 a1.rep a1.go p1 n1
/-- if c: a (which returns), then the rest -/
def mIfR (t : Δ → Option (Bool × Δ)) (a m : Δ → Option Out) : Δ → Option Out := fun δ => (t δ).bind fun r => if r.1 = true then (match a r.2 with
  | some (.rt o δ1) => some (.rt o δ1)
  | _ => none) else m r.2
theorem n_ifr {c : Expr} {a rest : List Stmt} {pos : Pos} {t : Δ → Option (Bool × Δ)} {f m : Δ → Option Out} (hc : TN X K N c t) (ha : BN X K N a f) (hr : BN X K N rest m) : BN X K N (.If c a [] pos :: rest) (mIfR t f m) := by
  obtain ⟨_, p, s⟩ := hc
  obtain ⟨_, p1, s1⟩ := ha
  obtain ⟨_, p2, s2⟩ := hr
  refine ⟨_, pss_cons (ps_if p p1 pss_nil) p2, fun δ out e σ F H r n E k => ?_⟩
  obtain ⟨⟨b, δ1⟩, e1, e2⟩ := Option.bind_eq_some_iff.mp e
  refine s δ b δ1 e1 σ F H r n _ fun F1 H1 a1 => ?_
  cases b with
  | true =>
    dsimp only at e2
    rw [if_pos rfl] at e2
    split at e2
    · rename_i o δ2 e3
      cases e2
      exact s1 δ1 _ e3 σ F1 H1 a1.rep (n.aft a1) _ (k.from a1.go)
    · cases e2
  | false => exact s2 δ1 out e2 σ F1 H1 a1.rep (n.aft a1) E (k.from a1.go)
theorem dn_and {a b : Expr} {rest : List Expr} {pos : Pos} {f g : Δ → Option (D × Δ)} (ha : DN X K N a f) (hb : DN X K N (.BoolOp .And (b :: rest) pos) g) : DN X K N (.BoolOp .And (a :: b :: rest) pos) (eAndV f g) := by
  obtain ⟨_, p, s⟩ := ha
  obtain ⟨_, q, t⟩ := hb
  refine ⟨_, pe_and p q, fun δ d δ' e σ F H rp n Q k => ?_⟩
  obtain ⟨⟨d1, δ1⟩, e1, e⟩ := Option.bind_eq_some_iff.mp e
  obtain ⟨c, e2, e⟩ := Option.bind_eq_some_iff.mp e
  cases bOf_eq e2
  refine s δ _ δ1 e1 σ F H rp n _ fun x F1 H1 a1 p1 => ⟨c, dp_bool p1, ?_⟩
  cases c with
  | true => exact t δ1 d δ' e σ F1 H1 a1.rep (n.aft a1) _ fun y F2 H2 a2 p2 => k y F2 H2 (a1.trans a2) p2
  | false =>
    cases e
    exact k _ F1 H1 a1 (.bl false)
end
end Vxr
end
section
set_option Elab.async false
set_option linter.all false
set_option maxRecDepth 100000
set_option maxHeartbeats 4000000
/-! try: body / except C as e: suite. -/
namespace Vxr
open PySem PySem.Spec PyProof.Rows L2 Vi Vf Vo Vp Vs Vt Vu Vv Vg Vw Vx Vy Va Vb Vc Vk Vm Vl Vn Vd
section
variable {X : Cx} {K : Lay} {k : Nat} {F H F' H' : Hp} {σ σ' : L2.St} {δ δ' : Δ}
/-- a slot that is not looked at may hold anything -/
theorem rep_free (r : Rep K F H σ δ) {i : Nat} {u : Option V} (hi : δ[i]? = some none) : Rep K F H (σ.set i u) δ ∧ Go F H σ δ F H (σ.set i u) δ := by
  have at_ : ∀ {j : Nat} {o : O}, δ[j]? = some (some o) → (σ.set i u)[j]? = σ[j]? := fun {j o} h => by
    have : i ≠ j := fun z => by subst z; rw [hi] at h; cases h
    rw [List.getElem?_set_ne this]
  have own : ∀ {j : Nat} {a : Addr}, Own H (σ.set i u) δ j a → Own H σ δ j a := fun {j a} ⟨w, o, q1, q2, q3⟩ => ⟨w, o, by rw [← at_ q2]; exact q1, q2, q3⟩
  refine ⟨⟨r.kp, by rw [List.length_set]; exact r.len, fun j o hj => ?_, fun i j a h1 h2 => r.ap i j a (own h1) (own h2), r.tb, r.nm⟩, ⟨.rfl, fun a o e _ => ⟨o, e, .rfl⟩, fun a h => .inl h, fun a ⟨j, h⟩ => .inl ⟨j, own h⟩, fun a h => h, fun j ds hj => ⟨at_ hj, ds, hj⟩⟩⟩
  obtain ⟨v, q1, q2⟩ := r.ok j o hj
  exact ⟨v, by rw [at_ hj]; exact q1, q2⟩
def freeS (δ : Δ) (i : Nat) : Bool := match δ[i]? with
  | some none => true
  | _ => false
theorem freeS_eq {i : Nat} (h : freeS δ i = true) : δ[i]? = some none := by
  unfold freeS at h
  split at h
  · assumption
  · cases h
def endT (i : Nat) : Out → Option Out
  | .nx δ => if freeS δ i = true then some (.nx δ) else none
  | .rt o δ => some (.rt o δ)
  | _ => none
/-- the body raises: the suite; else the body -/
def mTry (i : Nat) (cs : List Str) (mb : Δ → Option Out) (rb : RF) (ms : Ev → Δ → Option Out) : Δ → Option Out := fun δ => match rb δ with
  | some (ev, δ1) => if ev.cls ∈ cs ∧ freeS δ1 i = true then (ms ev δ1).bind (endT i) else none
  | none => mb δ
theorem b_try (Z : Fits X K k) (i : Nat) {n c : Str} {cv : Value} {body suite : List Stmt} {b₀ : Stmt} {np pos pos' : Pos} {mb : Δ → Option Out} {rb : RF} {ms : Ev → Δ → Option Out} (cs : List Str)
    (hs : X.stack = X.env :: X.outer) (hf : X.env.frame = some X.env.locals) (hxe : ∀ e s, X.xe e s = False) (hN : X.N.Nodup) (hc : Names X c cv)
    (hcs : ∀ nm ∈ cs, ∃ C : Addr, X.mg nm = some (.ref C) ∧ PySem.W.exmOne X.K (.ref C) cv = some true)
    (hb : ∀ (W : WX) (pn : List (Addr × Obj)) (xe : Value → Shared → Prop), Takes (X.tr pn xe) W → Fits (X.tr pn xe) K k → BXs (X.tr pn xe) K body mb ∧ RBs (X.tr pn xe) W K body rb)
    (hsu : ∀ (ev : Ev) (C a da : Addr) (oe : Obj) (pn : List (Addr × Obj)), ev.cls ∈ cs → X.mg ev.cls = some (.ref C) → Zc (.ref C) (some da) oe → (∃ vs, oe.data = .fields vs) → BN (X.suite a ((a, oe) :: pn)) K ⟨i, a, da, ev⟩ (b₀ :: suite) (ms ev))
    (hi : X.N[i]? = some n := by rfl) (hln : X.env.kindOf n = some .local := by rfl) :
    BX X K (.Try body [.ExceptHandler (some (.Name c np)) (some n) (b₀ :: suite) pos'] [] [] pos) (mTry i cs mb rb ms) := by
  let ts : Addr → Value → Option Addr → TS := fun a cls d E σ H => ∃ (ev : Ev) (da C : Addr) (F : Hp) (δ : Δ) (out : Out), d = some da ∧ X.mg ev.cls = some (.ref C) ∧ cls = .ref C ∧ ev.cls ∈ cs ∧ ms ev δ = some out ∧ Rep K F H σ δ ∧ Nt K ⟨i, a, da, ev⟩ F H σ δ ∧ Fin K F H σ δ E out
  let tb : WX → TS := fun W D σ H => (∃ (F : Hp) (δ : Δ) (out : Out), mb δ = some out ∧ Rep K F H σ δ ∧ Fin K F H σ δ D out) ∨ ∃ (F : Hp) (δ : Δ) (ev : Ev) (δ' : Δ), rb δ = some (ev, δ') ∧ Rep K F H σ δ ∧ Wsh W X.mg K F H σ δ ev δ'
  let Wo : WX := fun _ _ _ _ => False
  have tk : Takes X Wo := fun u s' ⟨_, _, _, _, _, _, _, _, _, _, _, _, _, _, _, _, w⟩ => w.elim
  refine ⟨_, ps_try_as (tb := tb) (ts := ts) hs hf hN hi hln hc tk (fun W pn xe tW _ => ?_) (fun a oe cls d pn hz hd => ⟨fun pins s σ H D I h => ?_⟩), fun δ out e σ F H r E k => ?_⟩
  · obtain ⟨⟨t1, p1, q1⟩, t2, p2, q2⟩ := hb W pn xe tW ⟨Z.K, ⟨Z.can.room, Z.can.gd⟩, Z.calm⟩
    refine ⟨fun pins s σ H D I h => ?_⟩
    rcases h with ⟨F, δ, out, e1, r, fn⟩ | ⟨F, δ, ev, δ', e1, r, w⟩
    · exact p1.run pins s σ H D I (q1 δ out e1 σ F H r D fn)
    · exact p2.run pins s σ H D I (q2 δ ev δ' e1 σ F H r w D)
  · obtain ⟨ev, da, C, F, δ, out, rfl, em, rfl, ec, e1, r, nt, fn⟩ := h
    obtain ⟨t, p, q⟩ := hsu ev C a da oe pn ec em hz hd
    exact p.run pins s σ H D I (q δ out e1 σ F H r nt D fn)
  · unfold mTry at e
    cases e1 : rb δ with
    | none =>
      rw [e1] at e
      exact .inl ⟨F, δ, out, e, r, k⟩
    | some z =>
      obtain ⟨ev, δ1⟩ := z
      rw [e1] at e
      dsimp only at e
      split at e
      case isFalse => cases e
      rename_i hcd'
      have hcd : ev.cls ∈ cs ∧ δ1[i]? = some none := ⟨hcd'.1, freeS_eq hcd'.2⟩
      obtain ⟨o1, e2, e3⟩ := Option.bind_eq_some_iff.mp e
      refine .inr ⟨F, δ, ev, δ1, e1, r, fun cls d σ1 F1 H1 r1 g1 x => ?_⟩
      obtain ⟨C, hC, hex⟩ := hcs _ hcd.1
      obtain ⟨x1, da, fs, rfl, x2, x3, x4⟩ := x
      rw [hC] at x1
      cases x1
      refine ⟨true, hex, fun _ a ha => ?_, fun z => by cases z⟩
      obtain ⟨r2, g2⟩ := rep_free (u := some (.ref a)) r1 hcd.2
      have nh : ¬ Held H1 (σ1.set i (some (.ref a))) δ1 da := fun z => by
        obtain ⟨⟨u, hu, hm⟩, _⟩ := r2.held z
        rw [x2] at hu
        cases hu
        rcases hm with ⟨_, z⟩ | ⟨_, z⟩ | ⟨_, z⟩ <;> cases z
      have hl : i < σ1.length := by
        rw [r1.len]
        exact (List.getElem?_eq_some_iff.mp hcd.2).1
      refine ⟨ev, da, C, F1, δ1, o1, rfl, hC, rfl, hcd.1, e2, r2, ⟨by rw [List.getElem?_set_self hl], nh, fs, x2, x3, x4⟩, ?_⟩
      have kk := k.from (g1.trans g2)
      cases o1 with
      | nx δ2 =>
        unfold endT at e3
        dsimp only at e3
        split at e3
        · rename_i h2'
          have h2 := freeS_eq h2'
          cases e3
          intro σ6 F6 H6 r6 g6
          obtain ⟨r7, g7⟩ := rep_free (u := none) r6 h2
          exact kk (σ6.set i none) F6 H6 r7 (g6.trans g7)
        · cases e3
      | rt o δ2 =>
        cases e3
        exact kk
      | bk δ2 => cases e3
      | ct δ2 => cases e3
end
end Vxr
end
section
set_option Elab.async false
set_option linter.all false
set_option maxRecDepth 100000
set_option maxHeartbeats 4000000
/-! An own __init__ with one attribute; the exception made by it. -/
namespace Vxr
open PySem PySem.Spec PyProof.Rows L2 Vi Vf Vo Vp Vs Vt Vu Vv Vg Vw Vx Vy Va Vb Vc Vk Vm Vl Vn Vd
theorem exo_code {a C : Addr} {d : Option Addr} {q : Str} : exo a C d ≠ LamX.CodeO a q := fun z => by
  let o : Obj := { cls := .ref C, dict := d, data := .fields #[.ref 0, .none, .none, .none, .bool false, .none] }
  let h : Heap := { objs := Array.replicate (a + 1) o }
  have hg : h.get? a = some o := by
    have : h.objs[a]? = some o := by simp [h]
    unfold Heap.get?
    rw [this]
  unfold exo LamX.CodeO at z
  have z' := HO.ext.inj z
  have p : ∃ t1 : Addr, h.get? a = some ({ cls := .ref C, dict := d, data := .fields #[.ref t1, .none, .none, .none, .bool false, .none] } : Obj) := ⟨0, hg⟩
  rw [congrFun z' h] at p
  obtain ⟨oc, vs, t, h1, h2, h3⟩ := p
  rw [hg] at h1
  cases h1
  cases h2
  simp at h3
/-- what an exception's own __init__ does: fi tells the attributes -/
def SpI (K : Lay) (C : Addr) (fi : List D → Option (List (Str × D))) : Sp := fun vs H Q _ => ∃ (a : Addr) (ys : List V) (ds : List D) (kvs : List (Str × D)) (F : Hp), vs = .ref a :: ys ∧ H a = some (exo a C none) ∧ F a = none ∧ Rep K F H [] [] ∧ DpAll K.K F ys ds ∧ fi ds = some kvs ∧
  ∀ (d : Addr) (fs : List (Str × V)) (F' H2 : Hp), H2 a = some (exo a C (some d)) → H2 d = some (exd d fs) → H d = none → fs.map (·.1) = kvs.map (·.1) → DpAll K.K F' (fs.map (·.2)) (kvs.map (·.2)) → New K F (del H a) F' (upd (del H2 a) d (.xd fs)) → Q .non H2
section
variable {K : Lay} {F H F' H' : Hp} {σ σ' : L2.St} {δ δ' : Δ} {a C : Addr}
theorem rep_fz {v0 : V} (r : Rep K F H [] []) {ys : List V} {ds : List D} (h : DpAll K.K F ys ds) : Rep K F H (some v0 :: ys.map some) (none :: ds.map fun d => some (.fz d)) ∧ ∀ a, ¬ Held H (some v0 :: ys.map some) (none :: ds.map fun d => some (O.fz d)) a := by
  have at_ : ∀ (j : Nat) (o : O), (none :: ds.map fun d => some (O.fz d))[j]? = some (some o) → ∃ d, o = .fz d ∧ ∃ v, (some v0 :: ys.map some)[j]? = some (some v) ∧ Dp K F v d := fun j o hj => by
    cases j with
    | zero => simp at hj
    | succ j =>
      rw [List.getElem?_cons_succ, List.getElem?_map] at hj
      obtain ⟨d, e1, e2⟩ := Option.map_eq_some_iff.mp hj
      cases e2
      obtain ⟨v, z1, z2⟩ := dpa_get h e1
      exact ⟨d, rfl, v, by rw [List.getElem?_cons_succ, List.getElem?_map, z1]; rfl, z2⟩
  have nh : ∀ a, ¬ Held H (some v0 :: ys.map some) (none :: ds.map fun d => some (O.fz d)) a := fun a ⟨j, w, o, q1, q2, q3⟩ => by
    obtain ⟨d, rfl, _⟩ := at_ j o q2
    cases q3
  refine ⟨⟨r.kp, by simp [dpa_len h], fun j o hj => ?_, fun i j a h1 _ => absurd ⟨i, h1⟩ (nh a), r.tb, r.nm⟩, nh⟩
  obtain ⟨d, rfl, v, e1, e2⟩ := at_ j o hj
  exact ⟨v, e1, e2, by simp [O.fp]⟩
theorem exo_lq {d : Option Addr} {u : HO} (h : Lq (exo a C d) u) : u = exo a C d := by
  rcases h with h | ⟨ps, qs, h, _⟩
  · exact h
  · exact absurd h exo_tbl
/-- behind __init__: the exception's own object away, its dict told -/
theorem new_exc (nh : ∀ b, ¬ Held H σ δ b) (ha : H a = some (exo a C none)) (fa : F a = none) (r : Rep K F' H' σ' δ') (g : Go F H σ δ F' H' σ' δ') {dx : Addr} {fs fs' : List (Str × V)} (hd : H' dx = none) :
    H dx = none ∧ New K F (del H a) F' (upd (del (upd (upd H' dx (exd dx fs)) a (exo a C (some dx))) a) dx (.xd fs')) := by
  obtain ⟨u, e1, e2⟩ := g.kh a _ ha (nh a)
  rw [exo_lq e2] at e1
  have hda : dx ≠ a := fun z => by rw [z, e1] at hd; cases hd
  have fa' : F' a = none := by
    cases q : F' a with
    | none => rfl
    | some u =>
      rcases g.nf a (by rw [q]; simp) with w | w | w
      · exact absurd fa w
      · rw [ha] at w; cases w
      · exact absurd w (nh a)
  have hdx : H dx = none := by
    cases q : H dx with
    | none => rfl
    | some u =>
      obtain ⟨w, z, _⟩ := g.kh dx u q (nh dx)
      rw [hd] at z; cases z
  have at_ : ∀ b, b ≠ a → b ≠ dx → upd (del (upd (upd H' dx (exd dx fs)) a (exo a C (some dx))) a) dx (.xd fs') b = H' b := fun b h1 h2 => by
    rw [upd_ne h2, del_ne h1, upd_ne h1, upd_ne h2]
  refine ⟨hdx, g.kf, fun b o e => ?_, fun b o e => ?_, fun b z => ?_, fun t q hq => ?_⟩
  · have h1 : b ≠ a := fun z => by rw [z, fa'] at e; cases e
    obtain ⟨u, e3, e4⟩ := r.kp b o e
    have h2 : b ≠ dx := fun z => by rw [z, hd] at e3; cases e3
    exact ⟨u, by rw [at_ b h1 h2]; exact e3, e4⟩
  · have h1 : b ≠ a := fun z => by rw [z, del_same] at e; cases e
    rw [del_ne h1] at e
    obtain ⟨u, e3, e4⟩ := g.kh b o e (nh b)
    have h2 : b ≠ dx := fun z => by rw [z, hd] at e3; cases e3
    exact ⟨u, by rw [at_ b h1 h2]; exact e3, e4⟩
  · rcases g.nf b z with w | w | w
    · exact .inl w
    · by_cases h1 : b = a
      · rw [h1]; exact .inr del_same
      · exact .inr (by rw [del_ne h1]; exact w)
    · exact absurd w (nh b)
  · obtain ⟨ps, h1, h2, h3⟩ := r.nm q hq
    have n1 : q.1 ≠ a := fun z => by rw [z, e1] at h1; cases h1
    have n2 : q.1 ≠ dx := fun z => by rw [z, hd] at h1; cases h1
    refine ⟨ps, by rw [at_ _ n1 n2]; exact h1, h2, fun pos cv hc => ?_⟩
    obtain ⟨c, z1, z2⟩ := h3 pos cv hc
    have m1 : c ≠ a := fun z => by
      rw [z, e1] at z2
      exact exo_code (Option.some.inj z2)
    have m2 : c ≠ dx := fun z => by rw [z, hd] at z2; cases z2
    exact ⟨c, z1, by rw [at_ _ m1 m2]; exact z2⟩
end
end Vxr
end
section
set_option Elab.async false
set_option linter.all false
set_option maxRecDepth 100000
set_option maxHeartbeats 4000000
/-! An own __init__ kept; raise C(..). -/
namespace Vxr
open PySem PySem.Spec PyProof.Rows L2 Vi Vf Vo Vp Vs Vt Vu Vv Vg Vw Vx Vy Va Vb Vc Vk Vm Vl Vn Vd
def fiOf (n : Nat) (at_ : Str) (g : Δ → Option (D × Δ)) (ds : List D) : Option (List (Str × D)) := if ds.length + 1 = n then (g (none :: ds.map fun d => some (O.fz d))).map fun r => [(at_, r.1)] else none
section
variable {Pg : Program} {w : World} {K : Lay} {mg : Str → Option Value} {base : Heap}
/-- an __init__ of one statement: self.at = e -/
theorem def_init {qual sf at_ : Str} {st : Stmt} {f C : Addr} {fd : FuncData} {N ps : List Str} {k : Nat} {e : Expr} {p0 p1 pos : Pos} {g : Δ → Option (D × Δ)} (Fd : FunD K.K "__init__" qual (defArgs st) (defBody st) (defScope st) [] [] f fd) (S : FnScope N ps (defScope st)) (hn : ps.length = N.length)
    (T : OexC K.K C) (hno : PySem.W.findIn K.K (.ref C) at_ = some none) (hbd : defBody st = [.Assign [.Attribute (.Name sf p0) at_ p1] e pos]) (h0 : N[0]? = some sf) (hv : Vis (defScope st) sf) (hd : (sf == ("__debug__" : Str)) = false) (hcd' : (sf == ("__classdict__" : Str)) = false)
    (hsw : ∀ env : Env, swapsWith e (some (.Attribute (.Name sf p0) at_ p1)) pos.line env = pure false)
    (hbody : ∀ (cdv : Value) (B : Around) (es : List Env) (s : Shared) (H : Hp) (E : XK), Fits (cxOf CX0 Pg w K.K mg base N qual (defScope st) f cdv B es s H E).nox K k → DX (cxOf CX0 Pg w K.K mg base N qual (defScope st) f cdv B es s H E).nox K e g) :
    FnG Pg w K.K mg base CX0 (k + 1) f fd ps (SpI K C (fiOf ps.length at_ g)) := by
  obtain ⟨oc, od, dV, kV, doc, pm, an, cdv, ct, osl, rfl, lk, hcd, hD, hK⟩ := Fd.ex
  refine fnG_of lk hcd S (fun zs G R X h => ?_) fun B es t G zs R X hr hg h => ?_
  · obtain ⟨a, ys, ds, kvs, F, rfl, _, _, _, hp, e1, _⟩ := h
    unfold fiOf at e1
    split at e1
    case isFalse => cases e1
    rename_i hl
    rw [List.length_cons, dpa_len hp, hl]
  obtain ⟨a, ys, ds, kvs, F, rfl, ha, fa, rp, hp, e1, hend⟩ := h
  unfold fiOf at e1
  split at e1
  case isFalse => cases e1
  rename_i hl
  obtain ⟨⟨d, δ1⟩, e2, e3⟩ := Option.map_eq_some_iff.mp e1
  cases e3
  obtain ⟨te, pe, sd⟩ := hbody cdv B es t G X ⟨rfl, ⟨hr, hg⟩, rfl⟩
  rw [hbd]
  refine ⟨_, (pss_cons (ps_ost (pe_var (X := (cxOf CX0 Pg w K.K mg base N qual (defScope st) f cdv B es t G X).nox) h0 hv hd hcd') pe (hsw _)) pss_nil).nox, ?_⟩
  obtain ⟨r0, nh⟩ := rep_fz (v0 := .ref a) rp hp
  have est : L2.start N (.ref a :: ys) = some (.ref a) :: ys.map some := by
    unfold L2.start
    have : N.length - (V.ref a :: ys).length = 0 := by rw [List.length_cons, dpa_len hp, ← hn]; omega
    rw [this, List.replicate_zero, List.append_nil, List.map_cons]
  rw [est]
  refine sd _ d δ1 e2 _ F G r0 _ fun v F' H' a1 dv => ?_
  obtain ⟨u, z1, z2⟩ := a1.go.kh a _ ha (nh a)
  rw [exo_lq z2] at z1
  refine ⟨.ref a, rfl, a, C, rfl, T, hno, .inl ⟨z1, fun dx hdx hne => ?_⟩⟩
  obtain ⟨n1, n2⟩ := new_exc (C := C) (fs := [(at_, v)]) (fs' := [(at_, v)]) nh ha fa a1.rep a1.go hdx
  exact hend dx [(at_, v)] F' _ upd_same (by rw [upd_ne hne, upd_same]) n1 rfl (.cons dv .nil) n2
end
section
variable {X : Cx} {W : WX} {K : Lay} {k : Nat}
def tMkG (C : Addr) (sp : Sp) (ta : TA) : L2.St → Hp → XK → Prop := fun σ H Q => ta σ H fun vs H1 => vs.length ≤ 1000 ∧ ∀ a, H1 a = none → sp (.ref a :: vs) (upd H1 a (exo a C none))
  (fun v H2 => v = .non ∧ ∃ (d : Addr) (fs : List (Str × V)), H2 a = some (exo a C (some d)) ∧ H2 d = some (exd d fs) ∧ H1 d = none ∧ Q (.ref C) (some d) (upd (del H2 a) d (.xd fs))) E0
/-- C(e, ..), C an own exception class whose own __init__ keeps sp -/
theorem pmk_G {x : Str} {C fI : Addr} {fd : FuncData} {ps : List Str} {sp : Sp} {e : Expr} {es : List Expr} {ta : TA} {p pos : Pos} (T : OexC X.K C) (iC : PySem.W.findIn X.K (.ref C) "__init__" = some (some (.ref fI))) (tI : PySem.W.typeIn X.K (.ref fI) = some (.type "function"))
    (G : FnG X.prog X.w X.K X.mg X.base CX0 k fI fd ps sp) (rm : Room (k + 1) X.A) (gd : X.A.guards = some []) (hb : Binds X.K fd ps []) (hg : Gl X x) (hm : X.mg x = some (.ref C)) (ha : PA X (e :: es) ta)
    (hdb : (x == ("__debug__" : Str)) = false := by decide) (he : starEach (e :: es) X.env = (false, eval e X.env) :: starEach es X.env := by rfl) (hpl : (backTo pos (starEach es X.env)).any (·.1) = false := by rfl) :
    PMk X (.Call (.Name x p) (e :: es) [] pos) (tMkG C sp ta) := by
  intro pins s σ H Q I h
  obtain ⟨nm, q, M, bs, bm, sn, sub, ab, col, dd, k0, k1, k2, k3, k5, cl, rf⟩ := T.cls
  refine wpAny_Call_Name_kw (ld_glob I hg hm ?_ hdb)
  refine PySem.W.callWith_K (h₀ := X.base) I.ok.mod.kin T.kC (thn (ha.run pos pins s σ H _ I h) ?_) he hpl
  rintro us ⟨hp, gs, dr, tk, os⟩ ⟨vs, H1, I1, rv, hlen, q1⟩
  refine ⟨I1.kIn, ?_⟩
  show wpAny _ _ (call (.ref C) us) _ _ _
  have le := Nat.le_succ hp.objs.size
  have fr : H1 (hp.objs.size + 1) = none := I1.hok.fresh le
  have sq := q1 _ fr
  have at2 : ((hp.push (PySem.W.kdv_tup us)).push (PySem.HandSPX.excO C hp.objs.size)).get? (hp.objs.size + 1) = some (PySem.HandSPX.excO C hp.objs.size) := by heap_get
  have up2 : ∀ b o, hp.get? b = some o → ((hp.push (PySem.W.kdv_tup us)).push (PySem.HandSPX.excO C hp.objs.size)).get? b = some o := fun b o z => Heap.get?_push_of_some _ (Heap.get?_push_of_some _ z)
  have J := I1.laid (t' := tk) (a := hp.objs.size + 1) (o := exo (hp.objs.size + 1) C none) up2 le (exo_ok at2)
  have rv2 : Vals (V.ref (hp.objs.size + 1) :: vs) (Value.ref (hp.objs.size + 1) :: us) := .cons rfl rv
  have ln : (Value.ref (hp.objs.size + 1) :: us ++ []).length = ps.length := by
    rw [List.append_nil, ← rv2.length]
    exact G.len _ _ _ _ sq
  have bi := hb ⟨_, gs, dr, tk, os⟩ (Value.ref (hp.objs.size + 1) :: us) J.kIn ln
  rw [List.append_nil] at bi
  have short : us.length ≤ sizeLine := by rw [← rv.length, sizeLine_eq]; omega
  refine wpAny_call (PySem.HandSPX.call_own F.excBase_ValueError (fun Y => PySem.HandSPX.refsVE_contains Y bm rf) (I1.kIn _ _ cl) (PySem.W.looks_findIn I1.kIn iC) (fun self => PySem.W.bind_fn I1.kIn self tI) short
    (codeAny_mono (G.run _ X.stack _ _ ⟨_ :: us, []⟩ _ _ _ E0 (rm.make C us []) gd (J.env0.make C us []) bi rv2 sq) ?_))
  intro r s' hq
  match r, hq with
  | .ok (.ret u), hq =>
    obtain ⟨v, H2, eos, bare, un, ok2, ru, ev, d, fs, ea, ed, hd1, q2⟩ := hq
    subst ev
    exact ⟨ru, mk_end (raises_own T.exC T.tyC) I1 le up2 un ok2 eos bare ea ed hd1 q2⟩
  | .ok .next, hq => exact False.elim hq
  | .ok .brk, hq => exact False.elim hq
  | .ok .cont, hq => exact False.elim hq
  | .error er, hq => exact False.elim hq
end
end Vxr
end
section
set_option Elab.async false
set_option linter.all false
set_option maxRecDepth 100000
set_option maxHeartbeats 4000000
/-! raise C(..). -/
namespace Vxr
open PySem PySem.Spec PyProof.Rows L2 Vi Vf Vo Vp Vs Vt Vu Vv Vg Vw Vx Vy Va Vb Vc Vk Vm Vl Vn Vd
/-- an own exception class: what it is, what its __init__ keeps -/
structure ExcF (Pg : Program) (w : World) (K : Lay) (mg : Str → Option Value) (base : Heap) (k : Nat) (nm : Str) (C : Addr) (fi : List D → Option (List (Str × D))) : Prop where
  m : mg nm = some (.ref C)
  T : OexC K.K C
  ini : ∃ (fI : Addr) (fd : FuncData) (ps : List Str), PySem.W.findIn K.K (.ref C) "__init__" = some (some (.ref fI)) ∧ PySem.W.typeIn K.K (.ref fI) = some (.type "function") ∧ FnG Pg w K.K mg base CX0 k fI fd ps (SpI K C fi) ∧ Binds K.K fd ps []
section
variable {X : Cx} {W : WX} {K : Lay} {k : Nat}
def rRz (nm : Str) (fi : List D → Option (List (Str × D))) (g : Δ → Option (List D × Δ)) : RF := fun δ => (g δ).bind fun z => if z.1.length ≤ 1000 then (fi z.1).map fun kvs => (⟨nm, kvs⟩, z.2) else none
theorem del_upd {H : Hp} {a : Addr} {u : HO} (h : H a = none) : del (upd H a u) a = H := by
  funext b
  by_cases e : b = a
  · rw [e, del_same, h]
  · rw [del_ne e, upd_ne e]
theorem r_raise (Z : Fits X K k) (tk : Takes X W) {nm : Str} {C : Addr} {fi : List D → Option (List (Str × D))} {j : Nat} (G : ExcF X.prog X.w K X.mg X.base j nm C fi) (hj : j + 1 ≤ k) {e : Expr} {es : List Expr} {p pos pos2 : Pos} {g : Δ → Option (List D × Δ)} (ha : AX X K (e :: es) g) (hg : Gl X nm := by rfl)
    (hdb : (nm == ("__debug__" : Str)) = false := by decide) (he : starEach (e :: es) X.env = (false, eval e X.env) :: starEach es X.env := by rfl) (hpl : (backTo pos (starEach es X.env)).any (·.1) = false := by rfl) :
    RB X W K (.Raise (some (.Call (.Name nm p) (e :: es) [] pos)) none pos2) (rRz nm fi g) := by
  obtain ⟨ta, pa, sd⟩ := ha
  obtain ⟨hm, T, fI, fd, ps, i1, i2, F, hb⟩ := G
  have zk := Z.K
  rw [← Z.K] at T i1 i2 F hb
  refine ⟨_, ps_raise Z.calm tk (pmk_G (k := j) T i1 i2 F (Z.can.room.mono hj) Z.can.gd hb hg hm pa hdb he hpl), fun δ ev δ' e σ F1 H rp wh E => ?_⟩
  obtain ⟨⟨ds, δ1⟩, e1, e2⟩ := Option.bind_eq_some_iff.mp e
  dsimp only at e2
  split at e2
  case isFalse => cases e2
  rename_i hl
  obtain ⟨kvs, e3, e4⟩ := Option.map_eq_some_iff.mp e2
  cases e4
  refine sd δ ds _ e1 σ F1 H rp _ fun vs F2 H2 a2 dv => ⟨by rw [dpa_len dv]; exact hl, fun a ha => ?_⟩
  have r0 : Rep K F2 (upd H2 a (exo a C none)) [] [] := ⟨a2.rep.kp.trans (.new ha), rfl, fun _ _ z => by simp at z, fun i _ _ ⟨_, _, z, _⟩ => by simp at z, a2.rep.tb, a2.rep.nm.new ha⟩
  refine ⟨a, vs, ds, kvs, F2, rfl, upd_same, a2.rep.kp.free ha, r0, dv, e3, fun d fs F3 H3 q1 q2 q3 q4 q5 q6 => ⟨rfl, d, fs, q1, q2, ?_, ?_⟩⟩
  · have hne : d ≠ a := fun z => by rw [z, upd_same] at q3; cases q3
    rw [upd_ne hne] at q3
    exact q3
  · rw [del_upd ha] at q6
    have A := q6.aft a2.rep
    exact wh _ _ σ F3 _ A.rep (a2.go.trans A.go) ⟨hm, d, fs, rfl, upd_same, q4, q5⟩
end
end Vxr
end
section
set_option Elab.async false
set_option linter.all false
set_option maxRecDepth 100000
set_option maxHeartbeats 4000000
/-! What a head says of an own exception class, as truths that are computed. -/
namespace Vxr
open PySem PySem.Spec PyProof.Rows L2 Vi Vf Vo Vp Vs Vt Vu Vv Vg Vw Vx Vy Va Vb Vc Vk Vm Vl Vn Vd
/-- a statement of a class's body -/
def initS (st : Stmt) (j : Nat) : Stmt := match st with
  | .ClassDef (body := b) .. => b.getD j (.Pass ⟨0, 0, 0, 0⟩)
  | _ => .Pass ⟨0, 0, 0, 0⟩
structure ExcAll (K : PySem.W.Frag) (C : Addr) : Prop where
  o : OexC K C
  f : XfC K C
  i : ExcC K C
  c : (PySem.W.clsIn K C).isSome = true
/-- the class's own object: made by ValueError's way, no __del__, a dict for each -/
def oexB (K : PySem.W.Frag) (C : Addr) : Bool := match K.lookup C with
  | some ⟨.type "type", _, .cls cd, sl⟩ => (match cd.mro, sl.toList with
    | .ref A :: bs, [_, _, _, _, some (.builtin n), _] => A == C && (n == "ValueError.__new__" && (!cd.hasDel && (cd.hasDict && PySem.HandSPX.refsVE bs)))
    | _, _ => false)
  | _ => false
theorem oexB_ok {K : PySem.W.Frag} {C : Addr} (h : oexB K C = true) : ∃ nm q M bs bm sn sub ab col dd s0 s1 s2 s3 s5, K.lookup C = some (excClassObj nm q C M bs bm true sn sub ab col dd s0 s1 s2 s3 s5 "ValueError.__new__") ∧ PySem.HandSPX.refsVE bm = true := by
  unfold oexB at h
  split at h
  case h_2 => cases h
  rename_i dd cd sl look
  split at h
  case h_2 => cases h
  rename_i A bs s0 s1 s2 s3 n s5 em es
  rw [Bool.and_eq_true, Bool.and_eq_true, Bool.and_eq_true, Bool.and_eq_true, beq_iff_eq, beq_iff_eq] at h
  obtain ⟨rfl, rfl, h3, h4, h5⟩ := h
  obtain ⟨nm, ba, mr, ns, qn, hd, sn, sub, ab, col, del⟩ := cd
  dsimp only at em h3 h4
  rw [Bool.not_eq_true'] at h3
  subst em h3 h4
  have : sl = #[s0, s1, s2, s3, some (.builtin "ValueError.__new__"), s5] := by
    obtain ⟨l⟩ := sl
    exact congrArg Array.mk es
  subst this
  exact ⟨nm, qn, ns, ba, bs, sn, sub, ab, col, dd, s0, s1, s2, s3, s5, look, h5⟩
def allB (K : PySem.W.Frag) (C : Addr) : Bool := oexB K C && (decide (PySem.W.findIn K (.ref C) "__setattr__" = some (some (.builtin "object.__setattr__"))) && (decide (PySem.W.subIn K (.ref C) (.type "BaseException") = some true) && (decide (PySem.W.typeIn K (.ref C) = some (.type "type")) && (PySem.W.keepIn K (.ref C) && (xfB K C &&
  (decide (PySem.W.findIn K (.ref C) "__class__" = some (some (.builtin "object.__class__"))) && (decide (PySem.W.specialIn K (.builtin "object.__class__") "__get__" = some (some (.builtin "getset_descriptor.__get__"))) && (decide (PySem.W.takesIn K (.builtin "object.__class__") = some true) && (decide (PySem.W.mroIn K C (.type "object") = some true) && (PySem.W.clsIn K C).isSome)))))))))
theorem allB_ok {K : PySem.W.Frag} {C : Addr} (h : allB K C = true) : ExcAll K C := by
  unfold allB at h
  simp only [Bool.and_eq_true, decide_eq_true_eq] at h
  obtain ⟨h1, h2, h3, h4, h5, h6, h7, h8, h9, h10, h11⟩ := h
  have x := xfB_ok h6
  exact ⟨⟨oexB_ok h1, h2, h3, h4, h5⟩, x, ⟨x.ga, x.gg, h3, x.hdC, h7, h8, h9, h10⟩, h11⟩
end Vxr
end
section
set_option Elab.async false
set_option linter.all false
set_option maxRecDepth 100000
set_option maxHeartbeats 4000000
/-! More of what raises (conditional expressions, keyword calls) and of suites (tests, classes in a tuple). -/
namespace Vxr
open PySem PySem.Spec PyProof.Rows L2 Vi Vf Vo Vp Vs Vt Vu Vv Vg Vw Vx Vy Va Vb Vc Vk Vm Vl Vn Vd
section
variable {X : Cx} {W : WX} {K : Lay} {k : Nat} {N : NP}
/-! ### raising -/
theorem re_if {c a b : Expr} {pos : Pos} {t : Δ → Option (Bool × Δ)} {f g : RF} (hc : TX X K c t) (ha : RE X W K a f) (hb : RE X W K b g) : RE X W K (.IfExp c a b pos) (rIf t f g) := by
  obtain ⟨_, p, s⟩ := hc
  obtain ⟨_, q, u⟩ := ha
  obtain ⟨_, q2, u2⟩ := hb
  refine ⟨_, pe_ifExp p q q2, fun δ ev δ' e σ F H rp w Q => ?_⟩
  obtain ⟨⟨c1, δ1⟩, e1, e2⟩ := Option.bind_eq_some_iff.mp e
  refine s δ c1 δ1 e1 σ F H rp _ fun F1 H1 a1 => ?_
  cases c1 with
  | true => exact u δ1 ev δ' e2 σ F1 H1 a1.rep (w.from a1.go) Q
  | false => exact u2 δ1 ev δ' e2 σ F1 H1 a1.rep (w.from a1.go) Q
theorem pe_callRK {kws : List Keyword} {ks : List Str} {pm : {α : Type} → List α → List α} {f : Addr} {fd : FuncData} {ps : List Str} {sp : Sp} {x : Str} {p pos : Pos} {t : TA} (F : FnG X.prog X.w X.K X.mg X.base (L2.CX X.prog X.w) k f fd ps sp) (hr : Can X k) (tk : Takes X W) (hg : Gl X x) (hm : X.mg x = some (.ref f)) (hk : PySem.W.keepIn X.K (.ref f) = true)
    (hb : BindsK X.K fd ps ks pm) (hpm : ∀ {zs : List V} {ws : List Value}, Vals zs ws → Vals (pm zs) (pm ws)) (hkw : PK X kws t)
    (hall : (backToKw pos (keywordEach kws X.env)).all (·.1.isSome) = true := by rfl) (hks : (backToKw pos (keywordEach kws X.env)).filterMap (·.1) = ks := by rfl)
    (hdb : (x == ("__debug__" : Str)) = false := by decide) (hpl : ((backTo pos (starEach [] X.env)).any (·.1) || (backToKw pos (keywordEach kws X.env)).any (·.1.isNone)) = false := by rfl) : PE X (.Call (.Name x p) [] kws pos) (fun σ H Q => t σ H fun zs H1 => zs.length = ks.length ∧ sp (pm zs) H1 Q (wAt W σ)) := by
  refine ⟨fun pins s σ H Q I h => wpAny_Call_Name_kw (ld_glob I hg hm ?_ hdb)⟩
  refine PySem.W.callWith_KW0 (h₀ := X.base) I.ok.mod.kin hk hall ?_ hpl
  refine thn (hkw.run pos pins s σ H _ I h) ?_
  rintro ws s1 ⟨zs, H1, I1, r, l, q⟩
  rw [hks]
  refine ⟨I1.kIn, wpAny_call (codeAny_mono (F.run X.A X.stack s1 H1 ⟨[], ks.zip ws⟩ (pm ws) (pm zs) Q (wAt W σ) hr.room hr.gd I1.env0 (hb s1 ws I1.kIn (by rw [← r.length]; exact l)) (hpm r) q) ?_)⟩
  intro r' s' hq
  match r', hq with
  | .ok (.ret u), hq => exact I1.after hq
  | .error e, hq => exact tk e s' (XE.of_call I1 (fun cls d H' h => h) hq)
  | .ok .next, hq => exact False.elim hq
  | .ok .brk, hq => exact False.elim hq
  | .ok .cont, hq => exact False.elim hq
/-! ### tests in a suite -/
def WN (X : Cx) (K : Lay) (N : NP) (e : Expr) (f : Δ → Option (Bool × Δ)) : Prop := ∃ tt, PW X e tt ∧ STn K N tt f
theorem tn_d {e : Expr} {f : Δ → Option (D × Δ)} (h : DN X K N e f) (he : ∀ whole, isTrue e X.env whole = (do let v ← whole; standAt e.pos; holding [v] (truthy v)) := by intro _; rfl) : TN X K N e (eT f) := by
  obtain ⟨_, p, s⟩ := h
  refine ⟨_, pt_val p he, fun δ b δ' e σ F H rp n Q k => ?_⟩
  obtain ⟨⟨d, δ1⟩, e1, e⟩ := Option.bind_eq_some_iff.mp e
  obtain ⟨z, e5, e⟩ := Option.map_eq_some_iff.mp e
  cases e
  have hd : d = .bool b := by cases d <;> cases e5; rfl
  subst hd
  exact s δ _ δ1 e1 σ F H rp n _ fun v F' H' a p => ⟨b, dp_bool p, k F' H' a⟩
theorem tn_not {a : Expr} {pos : Pos} {f : Δ → Option (Bool × Δ)} (ha : TN X K N a f) : TN X K N (.UnaryOp .Not a pos) (eNot f) := by
  obtain ⟨_, p, s⟩ := ha
  refine ⟨_, pt_not p, fun δ c δ' e σ F H rp n Q k => ?_⟩
  obtain ⟨⟨c1, δ1⟩, e1, e⟩ := Option.map_eq_some_iff.mp e
  cases e
  exact s δ c1 δ1 e1 σ F H rp n _ fun F1 H1 a1 => k F1 H1 a1
theorem tn_w {e : Expr} {f : Δ → Option (Bool × Δ)} (h : WN X K N e f) : TN X K N e f := let ⟨_, p, s⟩ := h; ⟨_, p.pt, s⟩
theorem wn_or1 {a : Expr} {pos : Pos} {f : Δ → Option (Bool × Δ)} (ha : TN X K N a f) : WN X K N (.BoolOp .Or [a] pos) f := let ⟨_, p, s⟩ := ha; ⟨_, pw_or1 p, s⟩
theorem wn_or {a b : Expr} {rest : List Expr} {pos : Pos} {f g : Δ → Option (Bool × Δ)} (ha : TN X K N a f) (hb : WN X K N (.BoolOp .Or (b :: rest) pos) g) : WN X K N (.BoolOp .Or (a :: b :: rest) pos) (eOr f g) := by
  obtain ⟨_, p, s⟩ := ha
  obtain ⟨_, q, u⟩ := hb
  refine ⟨_, pw_or p q, fun δ c δ' e σ F H rp n Q k => ?_⟩
  obtain ⟨⟨c1, δ1⟩, e1, e⟩ := Option.bind_eq_some_iff.mp e
  refine s δ c1 δ1 e1 σ F H rp n _ fun F1 H1 a1 => ?_
  cases c1 with
  | false => exact u δ1 c δ' e σ F1 H1 a1.rep (n.aft a1) _ fun F2 H2 a2 => k F2 H2 (a1.trans a2)
  | true =>
    cases e
    exact k F1 H1 a1
theorem dn_not {a : Expr} {pos : Pos} {f : Δ → Option (D × Δ)} (ha : DN X K N a f) : DN X K N (.UnaryOp .Not a pos) (eNotV f) := by
  obtain ⟨_, p, s⟩ := ha
  refine ⟨_, pe_not p, fun δ d δ' e σ F H rp n Q k => ?_⟩
  obtain ⟨⟨d1, δ1⟩, e1, e⟩ := Option.bind_eq_some_iff.mp e
  obtain ⟨c, e2, e⟩ := Option.map_eq_some_iff.mp e
  cases e
  cases bOf_eq e2
  exact s δ _ δ1 e1 σ F H rp n _ fun x F1 H1 a1 p1 => ⟨c, dp_bool p1, k _ F1 H1 a1 (.bl (!c))⟩
end
end Vxr
end
section
set_option Elab.async false
set_option linter.all false
set_option maxRecDepth 100000
set_option maxHeartbeats 4000000
/-! repr in a suite; a keyword call that raises; isinstance(e, (A, ..)). -/
namespace Vxr
open PySem PySem.Spec PyProof.Rows L2 Vi Vf Vo Vp Vs Vt Vu Vv Vg Vw Vx Vy Va Vb Vc Vk Vm Vl Vn Vd
section
variable {X : Cx} {W : WX} {K : Lay} {k : Nat} {N : NP}
theorem call_reprU (gd : X.A.guards = some []) (un : X.A.units + 101 < cLine) : CallR X (.builtin "repr") (rRepr X.K) := fun pins s σ H xs us Q I r h => by
  obtain ⟨x, d, rfl, hd, h1, h2, h3, h4, q⟩ := h
  obtain ⟨u, rfl, ru⟩ := vals1 r
  have done : ∀ tk tk', EP X pins σ Q (.str d.shown tk') { s with toks := tk } := fun tk tk' => ⟨.str d.shown, H, I.tok tk, ⟨tk', rfl⟩, q⟩
  have big : ∀ a, u = .ref a → wpAny (model X.prog X.w) X.A (call (.builtin "repr") [u]) (EP X pins σ Q) X.xe s := fun a e => by
    subst e
    obtain ⟨as, rd⟩ := Dp.reads I d x _ hd ru
    exact PySem.repr_of_reads' (h₀ := s.heap) rd h1 (fun z => by rw [h2] at z; cases z) gd (by omega) (fun b o e => e) (fun h' u tk hk => ⟨.str d.shown, H, I.kept (t' := tk) hk, ⟨u, rfl⟩, q⟩) h4
  cases hd with
  | non => cases ru; exact PySem.P.repr_of_none (done _ _)
  | bl b => cases ru; exact PySem.P.repr_of_bool (done _ _)
  | int i =>
    obtain ⟨t, rfl⟩ := ru
    exact PySem.P.repr_of_int (by simpa [PyData.showable] using h1) (done _ _)
  | str z =>
    obtain ⟨t, rfl⟩ := ru
    exact PySem.P.repr_of_str (done _ _) h4
  | lst s' a => cases ru; exact big _ rfl
  | tup s' a => cases ru; exact big _ rfl
/-- repr(e) in the suite of a frame that may call -/
theorem dn_repr {Y : Cx} {a : Addr} {pn : List (Addr × Obj)} (Z : Fits Y K k) {e : Expr} {p pos : Pos} {f : Δ → Option (P × Δ)} (he : EN (Y.suite a pn) K N e f) (hm : Y.mg "repr" = none) (hg : Gl Y "repr" := by rfl) (hst : starEach [e] Y.env = (false, eval e Y.env) :: starEach [] Y.env := by rfl) (hpl : (backTo pos (starEach [] Y.env)).any (·.1) = false := by rfl) :
    DN (Y.suite a pn) K N (.Call (.Name "repr" p) [e] [] pos) (eCall1 reprD f) :=
  dn_call1 (X := Y.suite a pn) (id := "repr") (r := rRepr Y.K) (call_reprU (X := Y.suite a pn) Z.can.gd (by have := Z.can.room.un; show Y.A.units + 101 < cLine; omega)) (by rw [Z.K]; exact cr_reprD) he hm hg (by decide +kernel) (by decide) (by decide) hst hpl
def eFnRK (n : Nat) (ix : List Nat) (r : List O → Option (Ev × Δ)) (g : Δ → Option (List P × Δ)) : RF := fun δ => (g δ).bind fun z => if z.1.length = n ∧ ix.Nodup then
  (argOs z.2 (pmI ix z.1)).bind fun os => if (slots (pmI ix z.1)).Nodup then (r os).map fun s => (s.1, backΔ (pmI ix z.1) (lent os s.2) z.2) else none else none
theorem srx_fnK {mg : Str → Option Value} {ta : TA} {r : List O → Option (Ev × Δ)} {g : Δ → Option (List P × Δ)} {n : Nat} {ix : List Nat} (hg : SXs K ta g) : SRx W mg K (fun σ H Q => ta σ H fun vs H1 => vs.length = n ∧ SpR mg K r (pmI ix vs) H1 Q (wAt W σ)) (eFnRK n ix r g) := fun δ ev δ' e σ F H rp w Q => by
  obtain ⟨⟨ps, δ1⟩, e1, e2⟩ := Option.bind_eq_some_iff.mp e
  dsimp only at e2
  split at e2
  case isFalse => cases e2
  rename_i hc
  obtain ⟨hn, hix⟩ := hc
  obtain ⟨os, e3, e4⟩ := Option.bind_eq_some_iff.mp e2
  split at e4
  case isFalse => cases e4
  rename_i ns
  obtain ⟨⟨ev', δ2⟩, e5, e6⟩ := Option.map_eq_some_iff.mp e4
  cases e6
  refine hg δ ps δ1 e1 σ F H rp _ fun vs F1 H1 a1 p1 nd n1 => ⟨by rw [(prs_get p1).1]; exact hn, ?_⟩
  have p2 := prs_pm p1 ix
  have nd2 := nd_pm p1 nd ix hix
  have n2 : ∀ z ∈ fpA H1 (pmI ix vs) (pmI ix ps), Held H σ δ z ∨ H z = none := fun z hz => by
    obtain ⟨i, _, v, q, k1, k2, k3⟩ := fpA_pm p1 ix z hz
    exact n1 z (fpA_get k1 k2 k3)
  refine ⟨F1, os, ev', δ2, e5, args_rep a1.rep p2 nd2 ns e3, fun cls d F' H' r1 g x => ?_⟩
  obtain ⟨c1, _, _⟩ := call_ok (v := .non) (o := .fz .none) a1 p2 nd2 n2 ns e3 rfl r1 g ⟨.non, by simp [O.fp], fun a ha => by cases ha⟩ fun a ha => by cases ha
  exact w cls d σ F' H' c1.rep c1.go x
theorem re_fnK (Z : Fits X K k) (tk : Takes X W) {j : Nat} {x : Str} {st : Stmt} {ps : List Str} {rv : List O → Option (Ev × Δ)} (G : DefR X.prog X.w K X.mg X.base j x st ps rv) (hj : j ≤ k) (ks : List Str) (ix : List Nat) {kws : List Keyword} {p pos : Pos} {g : Δ → Option (List P × Δ)} (ha : KSX X K kws g)
    (hb : ∀ (kV doc pm : Value) (an : Option Addr) (cdv ct : Value) (ws : List Value), ws.length = ks.length → bindArgs (PySem.W.fnOf x x (defArgs st) (defBody st) (defScope st) .none kV doc pm an cdv ct) ⟨[], ks.zip ws⟩ = pure (ps.zip (pmI ix ws)))
    (hg : Gl X x := by rfl) (hall : (backToKw pos (keywordEach kws X.env)).all (·.1.isSome) = true := by rfl) (hks : (backToKw pos (keywordEach kws X.env)).filterMap (·.1) = ks := by rfl)
    (hdb : (x == ("__debug__" : Str)) = false := by decide) (hpl : ((backTo pos (starEach [] X.env)).any (·.1) || (backToKw pos (keywordEach kws X.env)).any (·.1.isNone)) = false := by rfl) : RE X W K (.Call (.Name x p) [] kws pos) (eFnRK ks.length ix rv g) := by
  obtain ⟨_, q, s⟩ := ha
  obtain ⟨f, fd, kV, doc, pm, an, cdv, ct, F, hm, hk, efd, _⟩ := G.ex
  subst efd
  rw [← Z.K] at F hk
  exact ⟨_, pe_callRK (pm := fun l => pmI ix l) (F.up hj) Z.can tk hg hm hk (fun s ws _ hl => .of_eq (hb kV doc pm an cdv ct ws hl)) (fun h => vals_pm h ix) q hall hks hdb hpl, srx_fnK s⟩
end
end Vxr
end
section
set_option Elab.async false
set_option linter.all false
set_option maxRecDepth 100000
set_option maxHeartbeats 4000000
/-! isinstance(e, (A, B)) in a suite. -/
namespace Vxr
open PySem PySem.Spec PyProof.Rows L2 Vi Vf Vo Vp Vs Vt Vu Vv Vg Vw Vx Vy Va Vb Vc Vk Vm Vl Vn Vd
def rIsXT (K : PySem.W.Frag) (D a da : Addr) : List V → Hp → VK → Prop := fun xs H Q => ∃ (tp : Addr) (c1 c2 : V) (u1 u2 : Value) (b : Bool) (fs : List (Str × V)), xs = [.ref a, .ref tp] ∧ H tp = some (.tup [c1, c2]) ∧ (∀ u, RelV c1 u → u = u1) ∧ (∀ u, RelV c2 u → u = u2) ∧ PySem.W.kitAny K (.ref D) [u1, u2] = some b ∧ H da = some (.xd fs) ∧ Q (.bl b) H
section
variable {Y : Cx} {K : Lay} {k : Nat} {i : Nat} {a da : Addr} {ev : Ev} {C : Addr} {oe : Obj} {pn : List (Addr × Obj)}
theorem call_isXT (T : ExcC Y.K C) (hcl : (PySem.W.clsIn Y.K C).isSome = true) (hz : Zc (.ref C) (some da) oe) (hf : ∃ vs, oe.data = .fields vs) : CallR (Y.suite a ((a, oe) :: pn)) (.builtin "isinstance") (rIsXT Y.K C a da) := by
  intro pins s σ H xs us Q I rv h
  obtain ⟨tp, c1, c2, w1, w2, b, fs, rfl, hT, q1, q2, eb, hx, q⟩ := h
  obtain ⟨z1, z2, rfl, r1, r2⟩ := vals2 rv
  cases (show z1 = Value.ref a from r1)
  cases (show z2 = Value.ref tp from r2)
  have pin := (I.pin (a, oe) (List.mem_append_left _ List.mem_cons_self)).1
  obtain ⟨vs, hv⟩ := hf
  obtain ⟨mA, hns, _⟩ := (I.hok _ _ hx : ObjOk Y.prog Y.w H s.heap da (.xd fs))
  obtain ⟨od, ho, _⟩ := lookIn_ns hns
  have J : PySem.W.InstAt s.heap a oe C (some od) := ⟨pin, hz.1, by unfold PySem.W.notCls; rw [hv] <;> rfl, by rw [hz.2]; exact ho⟩
  have Z := PySem.W.kitx_exc (x := a) (ox := oe) (od := some od) hcl T.hg T.hk T.hs T.ha T.hn T.ht T.hm
  obtain ⟨_, its, rv', o, g1, g2, n, g3⟩ := (show ObjOk Y.prog Y.w H s.heap tp (.tup [c1, c2]) from I.hok tp _ hT)
  obtain ⟨y1, y2, rfl, s1, s2⟩ := vals2 rv'
  obtain rfl := q1 _ s1
  obtain rfl := q2 _ s2
  obtain ⟨oc, od', dt, sl⟩ := o
  simp only at g2 g3
  subst g2 g3
  exact PySem.W.kia_tup Z I.kIn J g1 eb (fun z => nomatch z) fun tk => ⟨.bl b, H, I.tok tk, rfl, q⟩
theorem dn_isXT {x c1 c2 : Str} {v1 v2 : V} {u1 u2 : Value} {b : Bool} {j : Nat} {p p1 p2 p3 tpos pos : Pos} (T : ExcC Y.K C) (hcl : (PySem.W.clsIn Y.K C).isSome = true) (hz : Zc (.ref C) (some da) oe) (hf : ∃ vs, oe.data = .fields vs) (hN : Y.N[i]? = some x) (hv : Vis Y.env.scope x) (hi : Gl Y "isinstance") (hm : Y.mg "isinstance" = none)
    (hc1 : PE (Y.suite a ((a, oe) :: pn)) (.Name c1 p2) (tC v1)) (hc2 : PE (Y.suite a ((a, oe) :: pn)) (.Name c2 p3) (tC v2)) (hu1 : ∀ z, RelV v1 z → z = u1) (hu2 : ∀ z, RelV v2 z → z = u2) (hk : PySem.W.kitAny Y.K (.ref C) [u1, u2] = some b) (hd : (x == ("__debug__" : Str)) = false := by decide) (hcd : (x == ("__classdict__" : Str)) = false := by decide)
    (hst : starEach [.Name x p1, .Tuple [.Name c1 p2, .Name c2 p3] j tpos] Y.env = (false, eval (.Name x p1) Y.env) :: starEach [.Tuple [.Name c1 p2, .Name c2 p3] j tpos] Y.env := by rfl) (hst2 : starEach [.Tuple [.Name c1 p2, .Name c2 p3] j tpos] Y.env = (false, eval (.Tuple [.Name c1 p2, .Name c2 p3] j tpos) Y.env) :: starEach [] Y.env := by rfl)
    (h3 : starEach [.Name c1 p2, .Name c2 p3] Y.env = (false, eval (.Name c1 p2) Y.env) :: starEach [.Name c2 p3] Y.env := by rfl) (h4 : starEach [.Name c2 p3] Y.env = (false, eval (.Name c2 p3) Y.env) :: starEach [] Y.env := by rfl)
    (hpl : (backTo pos (starEach [.Tuple [.Name c1 p2, .Name c2 p3] j tpos] Y.env)).any (·.1) = false := by rfl) : DN (Y.suite a ((a, oe) :: pn)) K ⟨i, a, da, ev⟩ (.Call (.Name "isinstance" p) [.Name x p1, .Tuple [.Name c1 p2, .Name c2 p3] j tpos] [] pos) (eXi b) := by
  refine ⟨_, pe_callB (X := Y.suite a ((a, oe) :: pn)) (call_isXT T hcl hz hf) hi hm (by decide +kernel) (pa_cons (pe_var (X := Y.suite a ((a, oe) :: pn)) hN hv hd hcd) (pa_cons (pe_tup (pa_cons hc1 (pa_cons hc2 pa_nil h4) h3)) pa_nil hst2) hst) (by decide) (by decide) hst hpl, fun δ d δ' e σ F H rp n Q k => ?_⟩
  cases e
  obtain ⟨q1, q2, fs, q3, q4, q5⟩ := n
  refine ⟨_, q1, by rw [sizeLine_eq]; simp, fun tp hb => ?_⟩
  have ne : da ≠ tp := fun z => by rw [z, hb] at q3; cases q3
  exact ⟨tp, v1, v2, u1, u2, b, fs, rfl, upd_same, hu1, hu2, hk, by rw [upd_ne ne]; exact q3, k _ F _ (New.aft rp (new_ext (u := .tup [v1, v2]) rp.kp hb)) (.bl b)⟩
end
/-! texts compared, in any context -/
def eqS (d e : D) : Option D := match d, e with
  | .str x, .str y => some (.bool (decide (x = y)))
  | _, _ => none
section
variable {X : Cx} {K : Lay}
theorem o_eqS : OpS X K (compareOp .Eq) eqS := ⟨_, op_eq, fun H x y d e z hx hy hg => by
  unfold eqS at hg
  split at hg
  case h_2 => cases hg
  rename_i i j
  cases hg
  cases dp_str hx
  cases dp_str hy
  exact ⟨.bl (decide (i = j)), rfl, fun Q q => ⟨rfl, by rw [dec_strV]; exact q⟩⟩⟩
theorem dn_one {N : NP} {op : BoolOp} {a : Expr} {pos : Pos} {f : Δ → Option (D × Δ)} (ha : DN X K N a f) : DN X K N (.BoolOp op [a] pos) f := let ⟨_, p, s⟩ := ha; ⟨_, pe_one p, s⟩
end
end Vxr
end
section
set_option Elab.async false
set_option linter.all false
set_option maxRecDepth 100000
set_option maxHeartbeats 4000000
/-! x < y, x <= y of alike data. -/
namespace Vd
open PySem PySem.Spec PyProof.Rows L2 Vi Vf Vo Vp Vs Vt Vu Vv Vg Vw Vx Vy Va Vb Vc Vk Vm Vl Vn
def rLeA (K : PySem.W.Frag) : R2 := fun x y H Q => ∃ da db, Dp K H x da ∧ Dp K H y db ∧ PySem.W.alike da db = true ∧ da ≠ .none ∧ min da.depth db.depth ≤ 64 ∧ Q (.bl (!PySem.W.dataLt db da)) H
theorem op_leA {X : Cx} (hu : X.A.units + 65 < cLine) : OpR X (compareOp .LtE) (rLeA X.K) := fun pins s σ H x y v u Q I rx ry ⟨da, db, ha, hb, h1, h2, h3, q⟩ => by
  obtain ⟨as, r1⟩ := Dp.reads I da x v ha rx
  obtain ⟨bs, r2⟩ := Dp.reads I db y u hb ry
  exact PySem.W.le_data r1 r2 h1 h2 (by omega) ⟨.bl (!PySem.W.dataLt db da), H, I, rfl, q⟩
def leA (d e : D) : Option D := match d, e with
  | .int i, .int j => some (.bool (decide (i ≤ j)))
  | d, e => if PySem.W.alike d e = true ∧ isNon d = false ∧ min d.depth e.depth ≤ 64 then some (.bool (!PySem.W.dataLt e d)) else none
theorem o_leA {X : Cx} {K : Lay} {k : Nat} (Z : Fits X K k) : OpS X K (compareOp .LtE) leA := by
  refine ⟨_, OpR.or op_le (op_leA (room65 Z)), fun H x y d e z hx hy hg => ?_⟩
  unfold leA at hg
  split at hg
  · cases hg
    obtain rfl := dp_int hx
    obtain rfl := dp_int hy
    exact ⟨_, rfl, fun Q q => .inl ⟨_, _, rfl, rfl, q⟩⟩
  · split at hg
    case isFalse => cases hg
    rename_i hc
    cases hg
    exact ⟨_, rfl, fun Q q => .inr ⟨d, e, by rw [Z.K]; exact hx, by rw [Z.K]; exact hy, hc.1, fun z => (by rw [z] at hc; exact absurd hc.2.1 (by simp [isNon])), hc.2.2, q⟩⟩
end Vd
end
section
set_option Elab.async false
set_option linter.all false
set_option maxRecDepth 100000
set_option maxHeartbeats 4000000
/-! len(set(xs)), xs a list of tuples of whole numbers. -/
namespace Vd
open PySem PySem.Spec PySem.Calls PyProof.Rows L2 Vi Vf Vo Vp Vs Vt Vu Vv Vg Vw Vx Vy Va Vb Vc Vk Vm Vl Vn
section
variable {K : Lay}
end
section
variable {X : Cx} {K : Lay} {k : Nat}
end
end Vd
end
section
set_option Elab.async false
set_option linter.all false
set_option maxRecDepth 100000
set_option maxHeartbeats 4000000
/-! Texts: f'..', split, partition. -/
namespace Vxt
open PySem PySem.Spec PyProof.Rows L2 Vi Vf Vo Vp Vs Vt Vu Vv Vg Vw Vx Vy Va Vb Vc Vk Vm Vl Vn Vd
section
variable {X : Cx} {K : Lay} {k : Nat}
/-! ### f'..' -/
def fmtD : D → Option D
  | .str y => if y.length ≤ sizeLine then some (.str y) else none
  | .int i => if i.natAbs.log2 < 1920 then some (.str (toString i)) else none
  | _ => none
def eFmt (g : Δ → Option (D × Δ)) : Δ → Option (D × Δ) := fun δ => (g δ).bind fun r => (fmtD r.1).map fun d => (d, r.2)
theorem d_fmt {e : Expr} {pos : Pos} {g : Δ → Option (D × Δ)} (h : DX X K e g) : DX X K (.FormattedValue e (-1) none pos) (eFmt g) := by
  obtain ⟨te, p, s⟩ := h
  refine ⟨_, pe_fmt p, fun δ d δ' e σ F H rp Q k => ?_⟩
  obtain ⟨⟨d0, δ1⟩, e1, e2⟩ := Option.bind_eq_some_iff.mp e
  obtain ⟨d1, e3, e4⟩ := Option.map_eq_some_iff.mp e2
  cases e4
  refine s δ d0 _ e1 σ F H rp _ fun x F1 H1 a1 dx => ?_
  cases d0 with
  | str y =>
    unfold fmtD at e3
    dsimp only at e3
    split at e3
    case isFalse => cases e3
    rename_i hz
    cases e3
    cases dp_str dx
    exact .inl ⟨_, rfl, hz, k _ F1 H1 a1 (.str _)⟩
  | int i =>
    unfold fmtD at e3
    dsimp only at e3
    split at e3
    case isFalse => cases e3
    rename_i hz
    cases e3
    cases dp_int dx
    exact .inr ⟨_, rfl, hz, k _ F1 H1 a1 (.str _)⟩
  | _ => cases e3
def eJs : List (Δ → Option (D × Δ)) → Str → Δ → Option (Str × Δ)
  | [], acc, δ => some (acc, δ)
  | g :: gs, acc, δ => (g δ).bind fun r => match r.1 with
    | .str y => if (acc ++ y).length ≤ sizeLine then eJs gs (acc ++ y) r.2 else none
    | _ => none
inductive JX (X : Cx) (K : Lay) : List Expr → List (Δ → Option (D × Δ)) → Prop where
  | nil : JX X K [] []
  | cons {e : Expr} {g : Δ → Option (D × Δ)} {es : List Expr} {gs : List (Δ → Option (D × Δ))} (h : DX X K e g) (r : JX X K es gs) : JX X K (e :: es) (g :: gs)
theorem jx_ts {es : List Expr} {gs : List (Δ → Option (D × Δ))} (h : JX X K es gs) : ∃ ts, PJ X es ts ∧ ∀ acc δ out δ', eJs gs acc δ = some (out, δ') → ∀ σ F H, Rep K F H σ δ → ∀ Q : Str → Hp → Prop, (∀ F' H', Aft K F H σ δ F' H' δ' → Q out H') → tJs ts acc σ H Q := by
  induction h with
  | nil =>
    refine ⟨[], .nil, fun acc δ out δ' e σ F H rp Q k => ?_⟩
    cases e
    exact k F H (.rfl rp)
  | cons h r ih =>
    obtain ⟨te, p, s⟩ := h
    obtain ⟨ts, q, ih⟩ := ih
    refine ⟨te :: ts, .cons p q, fun acc δ out δ' e σ F H rp Q k => ?_⟩
    obtain ⟨⟨d, δ1⟩, e1, e2⟩ := Option.bind_eq_some_iff.mp e
    dsimp only at e2
    split at e2
    case h_2 => cases e2
    rename_i y
    split at e2
    case isFalse => cases e2
    rename_i hz
    refine s δ _ δ1 e1 σ F H rp _ fun x F1 H1 a1 dx => ?_
    cases dp_str dx
    exact ⟨y, rfl, hz, ih (acc ++ y) δ1 out δ' e2 σ F1 H1 a1.rep Q fun F2 H2 a2 => k F2 H2 (a1.trans a2)⟩
def eJoin (gs : List (Δ → Option (D × Δ))) : Δ → Option (D × Δ) := fun δ => (eJs gs Str.empty δ).map fun r => (.str r.1, r.2)
theorem d_join {v1 v2 : Expr} {rest : List Expr} {pos : Pos} {gs : List (Δ → Option (D × Δ))} (h : JX X K (v1 :: v2 :: rest) gs) : DX X K (.JoinedStr (v1 :: v2 :: rest) pos) (eJoin gs) := by
  obtain ⟨ts, q, ih⟩ := jx_ts h
  refine ⟨_, pe_joined q, fun δ d δ' e σ F H rp Q k => ?_⟩
  obtain ⟨⟨out, δ1⟩, e1, e2⟩ := Option.map_eq_some_iff.mp e
  cases e2
  exact ih Str.empty δ out _ e1 σ F H rp _ fun F' H' a => k _ F' H' a (.str _)
/-! ### split, partition -/
theorem dpa_strs {F : Hp} : ∀ ys : List Str, DpAll K.K F (ys.map V.str) (ys.map PyData.str)
  | [] => .nil
  | y :: ys => .cons (.str y) (dpa_strs ys)
def splitO : D → D → Option O
  | .str a, .str b => if (b.length == 0) = false ∧ a.length + 2 ≤ sizeLine then some (.ow ((Txt.split a b).map .str)) else none
  | _, _ => none
def eSplit (f g : Δ → Option (D × Δ)) : Δ → Option (P × Δ) := fun δ => (f δ).bind fun r => (g r.2).bind fun s => (splitO r.1 s.1).map fun o => (.tm o, s.2)
theorem x_split {o e : Expr} {apos pos : Pos} {f g : Δ → Option (D × Δ)} (ho : DX X K o f) (he : DX X K e g) (hs : starEach [e] X.env = [(false, eval e X.env)] := by rfl) (hbase : attributeBase o "split" X.env (eval o X.env) = eval o X.env := by rfl) (hline : (apos.endLine == pos.line) = true := by rfl) :
    EX X K (.Call (.Attribute o "split" apos) [e] [] pos) (eSplit f g) := by
  obtain ⟨_, p, s⟩ := ho
  obtain ⟨_, q, t⟩ := he
  refine ⟨_, pe_splitAny p q hs hbase hline, fun δ r δ' e σ F H rp Q k => ?_⟩
  obtain ⟨⟨d1, δ1⟩, e1, e2⟩ := Option.bind_eq_some_iff.mp e
  obtain ⟨⟨d2, δ2⟩, e3, e4⟩ := Option.bind_eq_some_iff.mp e2
  obtain ⟨u, e5, e6⟩ := Option.map_eq_some_iff.mp e4
  cases e6
  have e5 : splitO d1 d2 = some u := e5
  cases d1 with
  | str a =>
    cases d2 with
    | str b =>
      unfold splitO at e5
      dsimp only at e5
      split at e5
      case isFalse => cases e5
      rename_i hz
      cases e5
      refine s δ _ δ1 e1 σ F H rp _ fun x F1 H1 a1 dx => ?_
      cases dp_str dx
      refine ⟨⟨a, rfl⟩, t δ1 _ _ e3 σ F1 H1 a1.rep _ fun y F2 H2 a2 dy => ?_⟩
      cases dp_str dy
      refine .inl ⟨a, b, rfl, rfl, hz.1, hz.2, fun pa hp => ?_⟩
      exact (gives_of (a1.trans a2).rep fun v F' H' a3 p3 n3 => k v F' H' ((a1.trans a2).trans a3) p3 (n3.from (a1.trans a2).go)).lst a2.rep.kp (dpa_strs _) hp
    | _ => cases e5
  | _ => cases e5
def partD : D → D → Option D
  | .str a, .str b => if (b.length == 0) = false ∧ a.length ≤ sizeLine then some (.tuple [.str (Txt.partition a b).1, .str (Txt.partition a b).2.1, .str (Txt.partition a b).2.2]) else none
  | _, _ => none
def ePart (f g : Δ → Option (D × Δ)) : Δ → Option (D × Δ) := fun δ => (f δ).bind fun r => (g r.2).bind fun s => (partD r.1 s.1).map fun d => (d, s.2)
theorem d_part {o e : Expr} {apos pos : Pos} {f g : Δ → Option (D × Δ)} (ho : DX X K o f) (he : DX X K e g) (hs : starEach [e] X.env = [(false, eval e X.env)] := by rfl) (hbase : attributeBase o "partition" X.env (eval o X.env) = eval o X.env := by rfl) (hline : (apos.endLine == pos.line) = true := by rfl) :
    DX X K (.Call (.Attribute o "partition" apos) [e] [] pos) (ePart f g) := by
  obtain ⟨_, p, s⟩ := ho
  obtain ⟨_, q, t⟩ := he
  refine ⟨_, pe_m1 F.slot_str_partition F.type_str_partition mt_partition p q hs hbase hline, fun δ r δ' e σ F H rp Q k => ?_⟩
  obtain ⟨⟨d1, δ1⟩, e1, e2⟩ := Option.bind_eq_some_iff.mp e
  obtain ⟨⟨d2, δ2⟩, e3, e4⟩ := Option.bind_eq_some_iff.mp e2
  obtain ⟨u, e5, e6⟩ := Option.map_eq_some_iff.mp e4
  cases e6
  have e5 : partD d1 d2 = some r := e5
  cases d1 with
  | str a =>
    cases d2 with
    | str b =>
      unfold partD at e5
      dsimp only at e5
      split at e5
      case isFalse => cases e5
      rename_i hz
      cases e5
      refine s δ _ δ1 e1 σ F H rp _ fun x F1 H1 a1 dx => ?_
      cases dp_str dx
      refine ⟨⟨a, rfl⟩, t δ1 _ _ e3 σ F1 H1 a1.rep _ fun y F2 H2 a2 dy => ?_⟩
      cases dp_str dy
      refine ⟨a, b, rfl, rfl, hz.1, hz.2, fun pa hp => ?_⟩
      exact (gives_of (o := .fz (.tuple [.str (Txt.partition a b).1, .str (Txt.partition a b).2.1, .str (Txt.partition a b).2.2])) (a1.trans a2).rep fun v F' H' a3 p3 n3 => k v F' H' ((a1.trans a2).trans a3) p3.ok).tup a2.rep.kp (.cons (.str _) (.cons (.str _) (.cons (.str _) .nil))) hp
    | _ => cases e5
  | _ => cases e5
end
end Vxt
end
section
set_option Elab.async false
set_option linter.all false
set_option maxRecDepth 100000
set_option maxHeartbeats 4000000
/-! A text's sign, a text's part, a sign in a text. -/
namespace Vxt
open PySem PySem.Spec PyProof.Rows L2 Vi Vf Vo Vp Vs Vt Vu Vv Vg Vw Vx Vy Va Vb Vc Vk Vm Vl Vn Vd
section
variable {X : Cx} {K : Lay} {k : Nat}
def ixS (d e : D) : Option D := match d, e with
  | .str z, .int i => if z.length ≤ sizeLine then (atI z.cps.toList i).map fun c => .str ⟨#[c]⟩ else none
  | _, _ => none
def eIxS (f g : Δ → Option (D × Δ)) : Δ → Option (D × Δ) := fun δ => (f δ).bind fun r => (g r.2).bind fun s => (ixS r.1 s.1).map fun d => (d, s.2)
theorem d_ixS {a b : Expr} {pos : Pos} {f g : Δ → Option (D × Δ)} (ha : DX X K a f) (hb : DX X K b g) (hs : PlainIx b := by intro _ _; rfl) : DX X K (.Subscript a b pos) (eIxS f g) := by
  obtain ⟨_, p, s⟩ := ha
  obtain ⟨_, q, t⟩ := hb
  refine ⟨_, pe_ix (r := rIxS) ix_str p q hs, fun δ r δ' e σ F H rp Q k => ?_⟩
  obtain ⟨⟨d1, δ1⟩, e1, e2⟩ := Option.bind_eq_some_iff.mp e
  obtain ⟨⟨d2, δ2⟩, e3, e4⟩ := Option.bind_eq_some_iff.mp e2
  obtain ⟨u, e5, e6⟩ := Option.map_eq_some_iff.mp e4
  cases e6
  have e5 : ixS d1 d2 = some r := e5
  cases d1 with
  | str z =>
    cases d2 with
    | int i =>
      unfold ixS at e5
      dsimp only at e5
      split at e5
      case isFalse => cases e5
      rename_i hz
      obtain ⟨c, e7, e8⟩ := Option.map_eq_some_iff.mp e5
      cases e8
      refine s δ _ δ1 e1 σ F H rp _ fun x F1 H1 a1 dx => t δ1 _ _ e3 σ F1 H1 a1.rep _ fun y F2 H2 a2 dy => ?_
      cases dp_str dx
      cases dp_int dy
      exact ⟨z, i, c, rfl, rfl, hz, e7, k _ F2 H2 (a1.trans a2) (.str _)⟩
    | _ => cases e5
  | _ => cases e5
/-- a[i], a list, a tuple or a text -/
def eIxA (f g : Δ → Option (D × Δ)) : Δ → Option (D × Δ) := fun δ => match eIxS f g δ with
  | some z => some z
  | none => eIx (eP f) g δ
theorem d_ixA (Z : Fits X K k) {a b : Expr} {pos : Pos} {f g : Δ → Option (D × Δ)} (ha : DX X K a f) (hb : DX X K b g) (hs : PlainIx b := by intro _ _; rfl) : DX X K (.Subscript a b pos) (eIxA f g) := by
  obtain ⟨ta, p, s⟩ := ha
  obtain ⟨tb, q, t⟩ := hb
  refine ⟨_, pe_ix (r := rIx X.K) ix_seq p q hs, ?_⟩
  rw [Z.K]
  intro δ r δ' e σ F H rp Q k
  unfold eIxA at e
  split at e
  · rename_i z ez
    cases e
    obtain ⟨⟨d1, δ1⟩, e1, e2⟩ := Option.bind_eq_some_iff.mp ez
    obtain ⟨⟨d2, δ2⟩, e3, e4⟩ := Option.bind_eq_some_iff.mp e2
    obtain ⟨u, e5, e6⟩ := Option.map_eq_some_iff.mp e4
    cases e6
    have e5 : ixS d1 d2 = some r := e5
    cases d1 with
    | str z =>
      cases d2 with
      | int i =>
        unfold ixS at e5
        dsimp only at e5
        split at e5
        case isFalse => cases e5
        rename_i hz
        obtain ⟨c, e7, e8⟩ := Option.map_eq_some_iff.mp e5
        cases e8
        refine s δ _ δ1 e1 σ F H rp _ fun x F1 H1 a1 dx => t δ1 _ _ e3 σ F1 H1 a1.rep _ fun y F2 H2 a2 dy => ?_
        cases dp_str dx
        cases dp_int dy
        exact .inr (.inr ⟨z, i, c, rfl, rfl, hz, e7, k _ F2 H2 (a1.trans a2) (.str _)⟩)
      | _ => cases e5
    | _ => cases e5
  · exact sd_ix (sx_of s) t δ r δ' e σ F H rp Q k
/-- t[lo:hi] -/
def eSlS (f : Δ → Option (D × Δ)) (a b : Δ → Option (Option Int × Δ)) : Δ → Option (D × Δ) := fun δ => (f δ).bind fun r => (a r.2).bind fun s => (b s.2).bind fun t => match r.1 with
  | .str z => if z.length ≤ sizeLine then some (.str (Txt.slice z s.1 t.1), t.2) else none
  | _ => none
theorem d_slS {e : Expr} {lo hi : Option Expr} {p2 pos : Pos} {f : Δ → Option (D × Δ)} {a b : Δ → Option (Option Int × Δ)} (he : DX X K e f) (ha : OX X K lo a) (hb : OX X K hi b) : DX X K (.Subscript e (.Slice lo hi none p2) pos) (eSlS f a b) := by
  obtain ⟨_, p, s⟩ := he
  obtain ⟨_, q, t⟩ := ha
  obtain ⟨_, r, u⟩ := hb
  refine ⟨_, pe_slice (r := C8.rSlX) C8.sl_txt p q r, fun δ d δ' e σ F H rp Q k => ?_⟩
  obtain ⟨⟨d1, δ1⟩, e1, e2⟩ := Option.bind_eq_some_iff.mp e
  obtain ⟨⟨i, δ2⟩, e3, e4⟩ := Option.bind_eq_some_iff.mp e2
  obtain ⟨⟨j, δ3⟩, e5, e6⟩ := Option.bind_eq_some_iff.mp e4
  cases d1 with
  | str z =>
    dsimp only at e6
    split at e6
    case isFalse => cases e6
    rename_i hz
    cases e6
    refine s δ _ δ1 e1 σ F H rp _ fun x F1 H1 a1 dx => t δ1 i δ2 e3 σ F1 H1 a1.rep _ fun F2 H2 a2 => u δ2 j _ e5 σ F2 H2 a2.rep _ fun F3 H3 a3 => ?_
    cases dp_str dx
    exact ⟨z, rfl, hz, k _ F3 H3 ((a1.trans a2).trans a3) (.str _)⟩
  | _ => cases e6
/-- c in t, c one sign -/
def inS (neg : Bool) (d e : D) : Option D := match d, e with
  | .str x, .str z => match x.cps.toList with
    | [c] => some (.bool (neg ^^ decide (c ∈ z.cps.toList)))
    | _ => none
  | _, _ => none
theorem sign_of {x : Str} {c : Nat} (h : x.cps.toList = [c]) : x = ⟨#[c]⟩ := by
  obtain ⟨a⟩ := x
  congr 1
  exact Array.toList_inj.mp h
theorem o_inS : OpS X K (compareOp .In) (inS false) := ⟨_, op_in_sign, fun H x y d e z hx hy hg => by
  cases d with
  | str a =>
    cases e with
    | str b =>
      unfold inS at hg
      dsimp only at hg
      split at hg
      case h_2 => cases hg
      rename_i c hc
      cases hg
      cases dp_str hx
      cases dp_str hy
      have := sign_of hc
      subst this
      exact ⟨.bl (decide (c ∈ b.cps.toList)), by simp [sv], fun Q q => ⟨c, b, rfl, rfl, q⟩⟩
    | _ => cases hg
  | _ => cases hg⟩
theorem o_ninS : OpS X K (compareOp .NotIn) (inS true) := ⟨_, op_notIn_sign, fun H x y d e z hx hy hg => by
  cases d with
  | str a =>
    cases e with
    | str b =>
      unfold inS at hg
      dsimp only at hg
      split at hg
      case h_2 => cases hg
      rename_i c hc
      cases hg
      cases dp_str hx
      cases dp_str hy
      have := sign_of hc
      subst this
      exact ⟨.bl (!decide (c ∈ b.cps.toList)), by simp [sv], fun Q q => ⟨c, b, rfl, rfl, q⟩⟩
    | _ => cases hg
  | _ => cases hg⟩
end
end Vxt
end
section
set_option Elab.async false
set_option linter.all false
set_option maxRecDepth 100000
set_option maxHeartbeats 4000000
/-! t += e, texts. -/
namespace Vxt
open PySem PySem.Spec PyProof.Rows L2 Vi Vf Vo Vp Vs Vt Vu Vv Vg Vw Vx Vy Va Vb Vc Vk Vm Vl Vn Vd
def augS : D → D → Option D
  | .str i, .str j => if i.length + j.length ≤ sizeLine then some (.str (i ++ j)) else none
  | _, _ => none
section
variable {X : Cx} {K : Lay} {k : Nat}
abbrev rIadS : TIp := fun x y H Q => ∃ i j : Str, x = .str i ∧ y = .str j ∧ i.length + j.length ≤ sizeLine ∧ Q (.str (i ++ j)) H
theorem ip_addS : PIp X .Add rIadS := fun pins s σ H x y v u Q I r1 r2 h => iop_add_str pins s σ H x y v u Q I r1 r2 h
theorem au_addS : AuR K rIadS augS := fun H x y d e z dx dy h => by
  cases d with
  | str a =>
    cases e with
    | str b =>
      unfold augS at h
      dsimp only at h
      split at h
      case isFalse => cases h
      rename_i hz
      cases h
      cases dp_str dx
      cases dp_str dy
      exact ⟨.str (a ++ b), rfl, fun Q q => ⟨a, b, rfl, rfl, hz, q⟩⟩
    | _ => cases h
  | _ => cases h
theorem b_augS (i : Nat) {x : Str} {e : Expr} {pos pos' : Pos} {f : Δ → Option (D × Δ)} (hN : X.N.Nodup) (he : DX X K e f) (hi : X.N[i]? = some x := by rfl) (hx : Loc X.env.scope x := by first | exact .inl rfl | exact .inr rfl)
    (hf : X.fn x = true ∨ X.env.scope.names.lookup x = some .local := by first | exact .inl rfl | exact .inr rfl) : BX X K (.AugAssign (.Name x pos') .Add e pos) (mAug i augS f) := let ⟨_, p, s⟩ := he; ⟨_, ps_aug hN hi hx p ip_addS hf, ss_aug au_addS s⟩
end
end Vxt
end
section
set_option Elab.async false
set_option linter.all false
set_option maxRecDepth 100000
set_option maxHeartbeats 4000000
/-! for i, c in enumerate(text). -/
namespace Vxt
open PySem PySem.Spec PyProof.Rows L2 Vi Vf Vo Vp Vs Vt Vu Vv Vg Vw Vx Vy Va Vb Vc Vk Vm Vl Vn Vd
def Itse (x : Str) : It :=
  ⟨fun i _ => i < x.cps.size, fun i H v H' => ∃ T c, v = .ref T ∧ H T = none ∧ H' = upd H T (.tup [.int (i : Nat), .str ⟨#[c]⟩]) ∧ x.cps[i]? = some c, fun i _ => i = x.cps.size⟩
theorem drawsStr {P : Program} {w : World} {A : Around} (hh : A.handled = none) (it : Addr) (x : Str) (t : Tok) (ty : String) (hty : ty = "str_ascii_iterator" ∨ ty = "str_iterator") :
    Draws P w A it [it] x.cps.size (fun i v => ∃ c u, x.cps[i]? = some c ∧ v = .str ⟨#[c]⟩ u) (fun i h => h.IsStrIter it ty x t i) := by
  rcases hty with rfl | rfl
  · exact Draws.strAscii hh it x t
  · exact Draws.strWide hh it x t
theorem turn_enumS {P : Program} {w : World} {K : PySem.W.Frag} {elts : List Expr} {kk : Nat} {tpos : Pos} (e it : Addr) (x : Str) (t : Tok) (ty : String) (hty : ty = "str_ascii_iterator" ∨ ty = "str_iterator") :
    Turn P w K (.Tuple elts kk tpos) (Itse x) [e, it] e (fun i h => (∃ old, IsEnum h e it ((i : Nat) : Int) old) ∧ h.IsStrIter it ty x t i ∧ e ≠ it) where
  mem := by simp
  obj := fun i h st b hb => by
    obtain ⟨⟨old, he⟩, ⟨o, ho, hc, hd⟩, _⟩ := st
    have e' : b = e ∨ b = it := by simpa using hb
    rcases e' with z | z
    · rw [z]; exact ⟨_, he, fun v q => nomatch q⟩
    · rw [z]; exact ⟨o, ho, fun v q => by rw [hd] at q; cases q⟩
  keep := fun i h h' st k => let ⟨⟨old, he⟩, ⟨o, ho, r⟩, hne⟩ := st; ⟨⟨old, k e (by simp) _ he⟩, ⟨o, k it (by simp) o ho, r⟩, hne⟩
  item := by
    intro X hP hw hK hc i pins s σ H E I hf st hg
    subst hP hw hK
    obtain ⟨⟨old, he⟩, hit, hne⟩ := st
    have hel : e < s.heap.objs.size := Heap.lt_size he
    have hil : it < s.heap.objs.size := by obtain ⟨_, q, _⟩ := hit; exact Heap.lt_size q
    refine wpAny_pyNext_enum_itemD (drawsStr (A := X.A.in1) (I.ok.hd hc) it x t ty hty) he hit hg hne (by simpa using hne) fun v h' tk hv ho hit' hT hsz hk => ?_
    obtain ⟨c, u, hcx, rfl⟩ := hv
    refine ⟨_, rfl, wpAny_letOwnedTupleGo_enum (s := { s with heap := h', toks := tk + 1 }) ho fun h'' he' sb => ?_⟩
    have hT2 : h''.get? s.heap.objs.size = some { cls := .type "tuple", data := .seq #[.int i tk, .str ⟨#[c]⟩ u] } := (sb.2 _ (Nat.ne_of_gt hel)).trans hT
    have new : ObjOk X.prog X.w (upd H s.heap.objs.size (.tup [.int (i : Nat), .str ⟨#[c]⟩])) h'' s.heap.objs.size (.tup [.int (i : Nat), .str ⟨#[c]⟩]) :=
      ⟨by show 2 ≤ sizeLine; decide, [.int i tk, .str ⟨#[c]⟩ u], .cons ⟨_, rfl⟩ (.cons ⟨_, rfl⟩ .nil), ⟨_, hT2, rfl, _, rfl⟩⟩
    have I1 : Inv X pins σ (upd H s.heap.objs.size (.tup [.int (i : Nat), .str ⟨#[c]⟩])) { s with heap := h'', toks := tk + 1 } :=
      I.turnedNew (ch := [e, it]) (fun b ob hb q => (sb.2 b (fun z => hb (by simp [z]))).trans (hk b ob (fun z => hb (by simp [z])) (fun z => hb (by simp [z])) q)) hf (Nat.le_refl _) new
    refine ⟨.ref s.heap.objs.size, _, I1, rfl, ⟨_, c, rfl, I.hok.fresh (Nat.le_refl _), rfl, hcx⟩, ⟨⟨.str ⟨#[c]⟩ u, ?_⟩, ?_, hne⟩, fun b hb => ?_⟩
    · have e1 : ((i + 1 : Nat) : Int) = (i : Int) + 1 := by omega
      rw [e1]; exact he'
    · obtain ⟨o, ho2, r⟩ := hit'
      exact ⟨o, (sb.2 it (Ne.symm hne)).trans ho2, r⟩
    · have hb' : b < s.heap.objs.size := by
        have e' : b = e ∨ b = it := by simpa using hb
        rcases e' with z | z
        · rw [z]; exact hel
        · rw [z]; exact hil
      rw [upd_ne (Nat.ne_of_lt hb')]
      exact (hf b hb).1
  done := by
    intro X hP hw hK hc i pins s σ H E I hf st hg
    subst hP hw hK
    obtain ⟨⟨old, he⟩, hit, hne⟩ := st
    obtain rfl : i = x.cps.size := hg
    obtain ⟨f0, f1, f2, f3, f4, f5⟩ := hf it (by simp)
    exact wpAny_pyNext_enum_endD (drawsStr (A := X.A.in1) (I.ok.hd hc) it x t ty hty) he hit fun h' eb => ⟨rfl, I.turned (t' := s.toks) (fun b o hb q => eb b o hb q) f0 f1 f3 f4 f5⟩
  self := fun A i s Q E st h => let ⟨⟨_, he⟩, _⟩ := st; wpAny_pyIter_enum he h
def iEnumS (ta : TA) : TI := fun σ H R => ta σ H fun vs H1 => ∃ x, vs = [.str x] ∧ R (Itse x) H1
theorem pi_enumS {X : Cx} {e : Expr} {ta : TA} {p pos tpos : Pos} {elts : List Expr} {kk : Nat} (hg : Gl X "enumerate") (hm : X.mg "enumerate" = none) (ha : PA X [e] ta) (hs : starEach [e] X.env = [(false, eval e X.env)] := by rfl) :
    PI X (.Tuple elts kk tpos) (.Call (.Name "enumerate" p) [e] [] pos) (iEnumS ta) := by
  refine ⟨fun pins s σ H R I h => ?_⟩
  refine Call_ (ld_blt I hg hm boot_enumerate (PyProof.Rows.callWith_type1 (thn (ha.run pos pins s σ H _ I h) fun us s1 ⟨vs, H1, I1, r1, q1⟩ => ?_) hs rfl))
  obtain ⟨x, ex, q⟩ := q1
  subst ex
  cases r1 with
  | cons r rr =>
    cases rr
    obtain ⟨t, rfl⟩ := r
    refine call_enumerate_str fun h' he hit hsz hk => wpAny_pyIter_enum he ?_
    have I2 : Inv X pins σ H1 { s1 with heap := h' } := I1.kept (t' := s1.toks) hk
    have hty : strIterType x = "str_ascii_iterator" ∨ strIterType x = "str_iterator" := by
      cases ha : x.cps.all (· < 128)
      · exact .inr (by simp [strIterType, ha])
      · exact .inl (by simp [strIterType, ha])
    refine ⟨s1.heap.objs.size + 1, [s1.heap.objs.size + 1, s1.heap.objs.size], _, _, H1, rfl, I2, turn_enumS (s1.heap.objs.size + 1) s1.heap.objs.size x t _ hty, ⟨⟨.none, he⟩, hit, Nat.succ_ne_self _⟩, fun b hb => ?_, q⟩
    have e' : b = s1.heap.objs.size + 1 ∨ b = s1.heap.objs.size := by simpa using hb
    have hle : s1.heap.objs.size ≤ b := by
      rcases e' with z | z
      · rw [z]; exact Nat.le_add_right _ _
      · rw [z]; exact Nat.le_refl _
    exact I1.fpOk hle (I1.hok.fresh hle)
theorem walk_enumS {z : Str} : Walk (Itse z) z.cps.size (fun _ => True) (fun i H v H' => ∃ T c, v = .ref T ∧ H T = none ∧ H' = upd H T (.tup [.int (i : Nat), .str ⟨#[c]⟩]) ∧ z.cps[i]? = some c) :=
  ⟨fun _ _ hi _ => hi, fun _ _ => rfl, fun _ _ _ _ _ _ y => y⟩
def eEnumS (a : Δ → Option (List D × Δ)) : Δ → Option (List D × Δ) := fun δ => (a δ).bind fun r => match r.1 with
  | [.str s] => some (enumD (Vi.strD s), r.2)
  | _ => none
section
variable {X : Cx} {K : Lay} {k : Nat}
theorem si_enumS {ta : TA} {a : Δ → Option (List D × Δ)} (ha : SDs K ta a) : SI K (iEnumS ta) (eEnumS a) := fun δ ds δ' e σ F H r R k => by
  obtain ⟨⟨es, δ1⟩, e1, e⟩ := Option.bind_eq_some_iff.mp e
  simp only at e
  split at e
  · rename_i s
    cases e
    refine ha δ _ _ e1 σ F H r _ fun vs F1 H1 a1 p1 => ?_
    cases p1 with
    | cons z1 z2 =>
      cases z2
      obtain rfl := dp_str z1
      refine ⟨s, rfl, k _ F1 H1 a1 ⟨_, _, (by rw [enumD_len]; simp only [Vi.strD, List.length_map, Array.length_toList]; exact walk_enumS (z := s)), fun _ _ => trivial, fun i H2 x H3 F2 hi k1 k2 y => ?_⟩⟩
      obtain ⟨T, c, rfl, hT, rfl, hc⟩ := y
      obtain ⟨n1, n2⟩ := dp_pair (d := .int (i : Nat)) (e := .str ⟨#[c]⟩) k2 hT (.int _) (.str _)
      exact ⟨_, _, enumD_get (by simp [Vi.strD, hc]), n1, n2⟩
  · cases e
theorem i_enumS (Z : Fits X K k) {a : Expr} {p pos tpos : Pos} {elts : List Expr} {kk : Nat} {f : Δ → Option (List D × Δ)} (h : AX X K [a] f) (hm : X.mg "enumerate" = none) (hg : Gl X "enumerate" := by rfl) (hs : starEach [a] X.env = [(false, eval a X.env)] := by rfl) :
    IX X K (.Tuple elts kk tpos) (.Call (.Name "enumerate" p) [a] [] pos) (eEnumS f) := by
  obtain ⟨_, q, s⟩ := h
  exact ⟨_, pi_enumS hg hm q hs, si_enumS s⟩
end
end Vxt
end
section
set_option Elab.async false
set_option linter.all false
set_option maxRecDepth 100000
set_option maxHeartbeats 4000000
/-! What the values come to, step by step. -/
namespace Ev
open PySem PySem.Spec PyProof.Rows L2 Vi Vf Vo Vp Vs Vt Vu Vv Vg Vw Vx Vy Va Vb Vc
def eSortSet (f : Δ → Option (P × Δ)) : Δ → Option (P × Δ) := fun δ => (f δ).bind fun r => (r.1.data r.2).bind fun d => (sortSetO d).map fun o => (.tm o, r.2)
section
variable {δ us : Δ} {d e : D} {o : O} {ds : List D} {dss : List (List D)} {is : List I} {i j : Nat} {p : P} {ps : List P} {os : List O} {a b m : Δ → Option Out} {f f' : Δ → Option (P × Δ)} {g g' : Δ → Option (D × Δ)} {t t' : Δ → Option (Bool × Δ)} {as : Δ → Option (List D × Δ)} {ap : Δ → Option (List P × Δ)} {lo hi : Δ → Option (Option Int × Δ)} {h : D → Δ → Option Δ} {hs : List D → Δ → Option Δ} {k n : Nat} {F : List O → Option (O × Δ)} {ix : List Nat} {vs : List Nat}
/-- a def's value and what it leaves of what was lent -/
def val (f : List O → Option (O × Δ)) (os : List O) : Option (O × Δ) := (f os).map fun s => (s.1, lent os s.2)
theorem lent_fz : lent (.fz d :: os) δ = none :: lent os δ.tail := by cases δ <;> rfl
theorem lent_ow : lent (.ow ds :: os) δ = none :: lent os δ.tail := by cases δ <;> rfl
theorem lent_oo : lent (.oo dss :: os) δ = none :: lent os δ.tail := by cases δ <;> rfl
theorem lent_mx : lent (.mx is :: os) δ = none :: lent os δ.tail := by cases δ <;> rfl
theorem lent_ln {u : Option O} : lent (.ln ds :: os) (u :: δ) = u :: lent os δ := rfl
theorem lent_nil : lent [] δ = [] := by cases δ <;> rfl
theorem back_nil : backΔ [] us δ = δ := by cases us <;> rfl
theorem back_tm : backΔ (.tm o :: ps) (none :: us) δ = backΔ ps us δ := rfl
theorem back_sl : backΔ (.sl i :: ps) (some (.ln ds) :: us) δ = backΔ ps us (δ.set i (match δ[i]? with | some (some (.ln _)) => some (.ln ds) | _ => some (.ow ds))) := rfl
theorem runM_at : runM k n m os = if os.length = k then (match m (startΔ n os) with | some (.rt o δ) => some (o, δ) | some (.nx δ) => some (.fz .none, δ) | _ => none) else none := rfl
theorem start_at : startΔ n os = os.map some ++ List.replicate (n - os.length) none := rfl
theorem seq_at : mSeq a b δ = (a δ).bind fun r => (match r with | .nx δ1 => b δ1 | r => some r) := rfl
theorem pass_at : mPass δ = some (.nx δ) := rfl
theorem brk_at : mBrk δ = some (.bk δ) := rfl
theorem cnt_at : mCnt δ = some (.ct δ) := rfl
theorem ret_at : mRet f δ = (f δ).bind fun r => (retP r.1 r.2).map fun s => .rt s.1 s.2 := rfl
theorem retN_at : mRetN δ = some (.rt (.fz .none) δ) := rfl
theorem asg_at : mAsg i f δ = (f δ).bind fun r => (putP i r.1 r.2).map .nx := rfl
theorem if_at : mIf t a b δ = (t δ).bind fun r => if r.1 = true then a r.2 else b r.2 := rfl
theorem drop_at : mDrop f δ = (f δ).map fun r => .nx r.2 := rfl
theorem tgt_at : mTgt g h δ = (g δ).bind fun r => (h r.1 r.2).map .nx := rfl
theorem tup_at : mTup ix ap δ = (ap δ).bind fun r => if r.1.length ≤ sizeLine ∧ r.1.length = ix.length then (ownPs r.1 r.2).bind fun s => (putAll ix s.1 s.2).map .nx else none := rfl
theorem for_at {c : Δ → Option (List D × Δ)} : mFor c h b δ = (c δ).bind fun r => turns h b r.1 r.2 := rfl
theorem P_at : eP g δ = (g δ).map fun r => (.tm (.fz r.1), r.2) := rfl
theorem F_at : eF f δ = (f δ).bind fun r => force r.1 r.2 := rfl
theorem var_at : eVar i δ = (match δ[i]? with | some (some (.fz d)) => some (.tm (.fz d), δ) | some (some _) => some (.sl i, δ) | _ => none) := rfl
theorem c_at : eC d δ = some (d, δ) := rfl
theorem op_at {G : D → D → Option D} : eOp G f f' δ = (f δ).bind fun r => (f' r.2).bind fun s => (r.1.data s.2).bind fun d => (s.1.data s.2).bind fun e => (G d e).map fun z => (z, s.2) := rfl
theorem opF_at {G : D → D → Option O} : eOpF G g g' δ = (g δ).bind fun r => (g' r.2).bind fun s => (G r.1 s.1).map fun o => (.tm o, s.2) := rfl
theorem call_at {G : List D → Option O} : eCall G as δ = (as δ).bind fun r => (G r.1).map fun o => (.tm o, r.2) := rfl
theorem call1_at {G : D → Option D} : eCall1 G f δ = (f δ).bind fun r => (r.1.data r.2).bind fun d => (G d).map fun z => (z, r.2) := rfl
theorem un_at {G : D → Option D} : eUn G g δ = (g δ).bind fun r => (G r.1).map fun z => (z, r.2) := rfl
theorem isi_at {T : String} : eIsi T f δ = (f δ).bind fun r => (r.1.data r.2).bind fun d => (isiD T d).map fun z => (z, r.2) := rfl
theorem nil_at : eNil δ = some ([], δ) := rfl
theorem cons_at : eCons g as δ = (g δ).bind fun r => (as r.2).map fun s => (r.1 :: s.1, s.2) := rfl
theorem aNil_at : aNil δ = some ([], δ) := rfl
theorem aCons_at : aCons f ap δ = (f δ).bind fun r => (ap r.2).map fun s => (r.1 :: s.1, s.2) := rfl
theorem lst_at' : eLst as δ = (as δ).bind fun r => if r.1.length ≤ sizeLine then some (.tm (.ow r.1), r.2) else none := rfl
theorem tupE_at : eTup as δ = (as δ).bind fun r => if r.1.length ≤ sizeLine then some (.tuple r.1, r.2) else none := rfl
theorem mix_at : eMix ap δ = (ap δ).bind fun r => if r.1.length ≤ sizeLine then (mixI r.1).map fun is => (.tm (.mx is), r.2) else none := rfl
theorem t_at : eT g δ = (g δ).bind fun r => (bOf r.1).map fun b => (b, r.2) := rfl
theorem tru_at : eTru f δ = (f δ).bind fun r => (r.1.data r.2).bind fun d => (truD d).map fun b => (b, r.2) := rfl
theorem and_at : eAnd t t' δ = (t δ).bind fun r => if r.1 = true then t' r.2 else some (false, r.2) := rfl
theorem or_at : eOr t t' δ = (t δ).bind fun r => if r.1 = true then some (true, r.2) else t' r.2 := rfl
theorem not_at : eNot t δ = (t δ).map fun r => (!r.1, r.2) := rfl
theorem andV_at : eAndV g g' δ = (g δ).bind fun r => (bOf r.1).bind fun c => if c = true then g' r.2 else some (.bool false, r.2) := rfl
theorem orV_at : eOrV g g' δ = (g δ).bind fun r => (bOf r.1).bind fun c => if c = true then some (.bool true, r.2) else g' r.2 := rfl
theorem notV_at : eNotV g δ = (g δ).bind fun r => (bOf r.1).map fun c => (.bool (!c), r.2) := rfl
theorem if2_at : eIf t f f' δ = (t δ).bind fun r => if r.1 = true then f r.2 else f' r.2 := rfl
theorem ix_at' : eIx f g δ = (f δ).bind fun r => (norm r.1 r.2).bind fun s => (g s.2).bind fun t => (s.1.data t.2).bind fun d => (ixD d t.1).bind fun z => if flat t.2 s.1 = true then some (z, t.2) else none := rfl
theorem no_at : eNo δ = some (none, δ) := rfl
theorem yes_at : eYes g δ = (g δ).bind fun r => (match r.1 with | .int i => some (some i, r.2) | _ => none) := rfl
theorem sl_at : eSl f lo hi δ = (f δ).bind fun r => (norm r.1 r.2).bind fun s => (lo s.2).bind fun t => (hi t.2).bind fun u => (s.1.data u.2).bind fun d => (slD d t.1 u.1).bind fun z => if flat u.2 s.1 = true then some (.tm z, u.2) else none := rfl
theorem rep_at : eRep f g δ = (f δ).bind fun r => (g r.2).bind fun s => (repP r.1 s.1).map fun o => (.tm o, s.2) := rfl
theorem fn_at : eFn F ap δ = (ap δ).bind fun r => (argOs r.2 r.1).bind fun os => if (slots r.1).Nodup then (val F os).map fun z => (.tm z.1, backΔ r.1 z.2 r.2) else none := by
  unfold eFn val
  simp only [Option.map_map]
  rfl
theorem fnK_at : eFnK n ix F ap δ = (ap δ).bind fun r => if r.1.length = n ∧ ix.Nodup then (argOs r.2 (pmI ix r.1)).bind fun os => if (slots (pmI ix r.1)).Nodup then (val F os).map fun z => (.tm z.1, backΔ (pmI ix r.1) z.2 r.2) else none else none := by
  unfold eFnK val
  simp only [Option.map_map]
  rfl
theorem seqL_at : eSeq g δ = (g δ).bind fun r => (match r.1 with | .list ds => some (ds, r.2) | _ => none) := rfl
theorem seqT_at : eSeqT g δ = (g δ).bind fun r => (match r.1 with | .tuple ds => some (ds, r.2) | _ => none) := rfl
theorem enum_at : eEnum as δ = (as δ).bind fun r => (match r.1 with | [.list ds] => some (enumD ds, r.2) | _ => none) := rfl
theorem zip_at : eZip as δ = (as δ).bind fun r => (match r.1 with | [.list ds, .list es] => some (zipD ds es, r.2) | _ => none) := rfl
theorem lc_at {c : Δ → Option (List D × Δ)} : eLc vs c h t g δ = (c δ).bind fun r => if r.1.length ≤ sizeLine ∧ vs.all (okv r.2) = true then (lcGo vs h t g r.1 (wipeΔ r.2 vs)).map fun z => (.tm (.ow z.1), restΔ r.2 z.2 vs) else none := rfl
theorem lcE_at {c : Δ → Option (List D × Δ)} : eLcE vs c h δ = (c δ).bind fun r => if r.1.length ≤ sizeLine ∧ vs.all (okv r.2) = true ∧ (r.1.all fun d => (h d (wipeΔ r.2 vs)).isSome) = true then some (.tm (.oo (List.replicate r.1.length [])), restΔ r.2 (wipeΔ r.2 vs) vs) else none := rfl
theorem yesT_at : eYesT δ = some (true, δ) := rfl
theorem meth_at {M : List D → List D → Option (D × List D)} : eMeth i M as δ = (ownAt δ i).bind fun _ => (as δ).bind fun r => (ownAt r.2 i).bind fun ds => (M ds r.1).map fun z => (z.1, setOwn r.2 i z.2) := rfl
theorem idx_at : eIdx f f' δ = (f δ).bind fun r => (r.1.data r.2).bind fun d0 => if isList d0 = true then (f' r.2).bind fun s => (r.1.data s.2).bind fun d => (s.1.data s.2).bind fun e => (idxD d e).map fun z => (z, s.2) else none := rfl
theorem subApp_at : eSubApp i g g' δ = (δ[i]?.bind id).bind fun _ => (g δ).bind fun r => (match r.1 with | .int n => (r.2[i]?.bind id).bind fun o1 => (rowAt n o1).bind fun _ => (g' r.2).bind fun s => (s.2[i]?.bind id).bind fun o => (rowAt n o).bind fun z => if z.2.length < sizeLine then some (.none, s.2.set i (some (setRow z.1 (z.2 ++ [s.1]) o))) else none | _ => none) := rfl
theorem sortSet_at : eSortSet f δ = (f δ).bind fun r => (r.1.data r.2).bind fun d => (sortSetO d).map fun o => (.tm o, r.2) := rfl
theorem hName_at : hName i d δ = if noLn δ i = true then some (δ.set i (some (.fz d))) else none := rfl
theorem hNil_at : hNil [] δ = some δ := rfl
theorem hCons_at : hCons h hs (d :: ds) δ = (h d δ).bind (hs ds) := rfl
theorem hTup_at : hTup n hs (.tuple ds) δ = if ds.length = n then hs ds δ else none := rfl
theorem hSub_at : hSub i g d δ = (ownAt δ i).bind fun _ => (g δ).bind fun r => (match r.1 with | .int n => (ownAt r.2 i).bind fun ds => (ixN ds.length n).map fun j => setOwn r.2 i (ds.set j d) | _ => none) := rfl
theorem turns_nil : turns h b [] δ = some (.nx δ) := rfl
theorem force_fz : force (.tm (.fz d)) δ = some (d, δ) := rfl
theorem force_ow : force (.tm (.ow ds)) δ = some (.list ds, δ) := rfl
theorem force_oo : force (.tm (.oo dss)) δ = some (.list (dss.map .list), δ) := rfl
theorem force_mx : force (.tm (.mx is)) δ = some (.list (is.map I.toD), δ) := rfl
theorem force_sl : force (.sl i) δ = (match δ[i]? with | some (some (.ln _)) => none | some (some (.dc _ _)) => none | some (some (.dt _)) => none | some (some o) => some (o.toD, δ.set i (some (.fz o.toD))) | _ => none) := rfl
theorem norm_fz : norm (.tm (.fz d)) δ = some (.tm (.fz d), δ) := rfl
theorem norm_ow : norm (.tm (.ow ds)) δ = some (.tm (.ow ds), δ) := rfl
theorem norm_sl : norm (.sl i) δ = (match δ[i]? with | some (some (.oo _)) => (force (.sl i) δ).map fun r => (.tm (.fz r.1), r.2) | some (some (.mx _)) => (force (.sl i) δ).map fun r => (.tm (.fz r.1), r.2) | some (some (.tu _)) => (force (.sl i) δ).map fun r => (.tm (.fz r.1), r.2) | some (some (.dc _ _)) => none | some (some (.dt _)) => none | _ => some (.sl i, δ)) := rfl
theorem argO_sl : argO δ (.sl i) = (match δ[i]? with | some (some (.ow ds)) => some (.ln ds) | some (some (.ln ds)) => some (.ln ds) | _ => none) := rfl
theorem own_at : ownAt δ i = (match δ[i]? with | some (some (.ow ds)) => some ds | some (some (.ln ds)) => some ds | _ => none) := rfl
theorem setOwn_at {es : List D} : setOwn δ i es = (match δ[i]? with | some (some (.ln _)) => δ.set i (some (.ln es)) | _ => δ.set i (some (.ow es))) := rfl
theorem flatF : isOO (.fz d) = false := rfl
theorem flatO : isOO (.ow ds) = false := rfl
theorem flatL : isOO (.ln ds) = false := rfl
theorem data_tm : P.data δ (.tm o) = (match o with | .dc _ _ => none | .dt _ => none | o => some o.toD) := by cases o <;> rfl
theorem data_sl : P.data δ (.sl i) = (match δ[i]? with | some (some (.dc _ _)) => none | some (some (.dt _)) => none | some (some o) => some o.toD | _ => none) := rfl
theorem toD_fz : (O.fz d).toD = d := rfl
theorem toD_ow : (O.ow ds).toD = .list ds := rfl
theorem toD_ln : (O.ln ds).toD = .list ds := rfl
theorem toD_oo : (O.oo dss).toD = .list (dss.map .list) := rfl
theorem toD_mx : (O.mx is).toD = .list (is.map I.toD) := rfl
theorem flat_fz : flat δ (.tm (.fz d)) = true := rfl
theorem flat_ow : flat δ (.tm (.ow ds)) = true := rfl
theorem flat_sl : flat δ (.sl i) = (match δ[i]? with | some (some o) => !isOO o | _ => false) := rfl
theorem retP_fz : retP (.tm (.fz d)) δ = some (.fz d, δ) := rfl
theorem retP_ow : retP (.tm (.ow ds)) δ = some (.ow ds, δ) := rfl
theorem retP_oo : retP (.tm (.oo dss)) δ = some (.oo dss, δ) := rfl
theorem retP_sl : retP (.sl i) δ = (match δ[i]? with | some (some (.ln _)) => none | some (some o) => some (o, δ.set i none) | _ => none) := rfl
theorem putP_fz : putP i (.tm (.fz d)) δ = if noLn δ i = true then some (δ.set i (some (.fz d))) else none := rfl
theorem putP_ow : putP i (.tm (.ow ds)) δ = if noLn δ i = true then some (δ.set i (some (.ow ds))) else none := rfl
theorem putP_oo : putP i (.tm (.oo dss)) δ = if noLn δ i = true then some (δ.set i (some (.oo dss))) else none := rfl
theorem putP_mx : putP i (.tm (.mx is)) δ = if noLn δ i = true then some (δ.set i (some (.mx is))) else none := rfl
theorem putP_sl : putP i (.sl j) δ = (force (.sl j) δ).bind fun r => if noLn r.2 i = true then some (r.2.set i (some (.fz r.1))) else none := rfl
theorem noLn_at : noLn δ i = (match δ[i]? with | some (some (.ln _)) => false | some _ => true | none => false) := rfl
theorem argOs_nil : argOs δ [] = some [] := rfl
theorem argOs_cons : argOs δ (p :: ps) = (argO δ p).bind fun o => (argOs δ ps).map (o :: ·) := rfl
theorem argO_fz : argO δ (.tm (.fz d)) = some (.fz d) := rfl
theorem argO_ow : argO δ (.tm (.ow ds)) = some (.ow ds) := rfl
theorem slots_nil : slots [] = [] := rfl
theorem slots_tm : slots (.tm o :: ps) = slots ps := rfl
theorem slots_sl : slots (.sl i :: ps) = i :: slots ps := rfl
theorem bOf_b {b : Bool} : bOf (.bool b) = some b := rfl
theorem ownP_fz : ownP (.tm (.fz d)) δ = some (.fz d, δ) := rfl
theorem ownP_ow : ownP (.tm (.ow ds)) δ = some (.ow ds, δ) := rfl
theorem ownP_sl : ownP (.sl i) δ = (force (.sl i) δ).map fun r => (.fz r.1, r.2) := rfl
theorem ownPs_nil : ownPs [] δ = some ([], δ) := rfl
theorem ownPs_cons : ownPs (p :: ps) δ = (ownP p δ).bind fun r => (ownPs ps r.2).map fun s => (r.1 :: s.1, s.2) := rfl
theorem putAll_nil : putAll [] [] δ = some δ := rfl
theorem putAll_cons : putAll (i :: ix) (o :: os) δ = if noLn δ i = true then putAll ix os (δ.set i (some o)) else none := rfl
theorem mixI_nil : mixI [] = some [] := rfl
theorem mixI_fz : mixI (.tm (.fz d) :: ps) = (mixI ps).map (I.fz d :: ·) := rfl
theorem mixI_ow : mixI (.tm (.ow ds) :: ps) = (mixI ps).map (I.ow ds :: ·) := rfl
theorem mixI_oo : mixI (.tm (.oo dss) :: ps) = (mixI ps).map (I.oo dss :: ·) := rfl

end
section
variable {x y z : D} {l r : List D} {i j : Int}
theorem nd1 {a : Nat} : ([a] : List Nat).Nodup = True := by simp
theorem nd2 {a b : Nat} : ([a, b] : List Nat).Nodup = (a ≠ b) := by simp
theorem ixD_list : ixD (.list l) (.int i) = atI l i := rfl
theorem ixD_tup : ixD (.tuple l) (.int i) = atI l i := rfl
theorem atI_0 : atI (x :: l) 0 = some x := by simp [atI, ixN]
theorem atI_1 : atI (x :: y :: l) 1 = some y := by
  unfold atI ixN
  rw [if_pos (by decide), if_pos (by simp only [List.length_cons]; omega)]
  rfl
theorem ixN_0 {n : Nat} : ixN (n + 1) 0 = some 0 := by simp [ixN]
theorem ixN_1 {n : Nat} : ixN (n + 1 + 1) 1 = some 1 := by
  unfold ixN
  rw [if_pos (by decide), if_pos (by omega)]
  rfl
theorem ixN_nat {n k : Nat} (h : k < n) : ixN n (k : Int) = some k := by
  unfold ixN
  rw [if_pos (by omega), if_pos (by omega)]
  simp
theorem atI_nat' {k : Nat} (h : k < l.length) : atI l (k : Int) = l[k]? := by
  unfold atI
  rw [ixN_nat h]
  rfl
theorem ixN_int {n : Nat} (h0 : 0 ≤ i) (h : i < n) : ixN n i = some i.toNat := by
  unfold ixN
  rw [if_pos h0, if_pos h]
theorem atI_int (h0 : 0 ≤ i) (h : i < l.length) : atI l i = l[i.toNat]? := by
  unfold atI
  rw [ixN_int h0 h]
  rfl
theorem gt_ii : gtI (.int i) (.int j) = some (.bool (decide (j < i))) := rfl
theorem ge_ii : geI (.int i) (.int j) = some (.bool (decide (j ≤ i))) := rfl
theorem lt_ii : ltI (.int i) (.int j) = some (.bool (decide (i < j))) := rfl
theorem le_ii : leI (.int i) (.int j) = some (.bool (decide (i ≤ j))) := rfl
theorem add_ii : addO (.int i) (.int j) = some (.fz (.int (i + j))) := rfl
theorem add_ll : addO (.list l) (.list r) = if l.length + r.length ≤ sizeLine then some (.ow (l ++ r)) else none := rfl
theorem sub_ii : subI (.int i) (.int j) = some (.int (i - j)) := rfl
theorem mul_ii : mulI (.int i) (.int j) = if (in64 i || in64 j) = true then some (.int (i * j)) else none := rfl
theorem fdv_ii : fdvI (.int i) (.int j) = if j ≠ 0 ∧ j.natAbs < 1073741824 then some (.int (i.fdiv j)) else none := rfl
theorem mod_ii : modI (.int i) (.int j) = if j ≠ 0 then some (.int (i.fmod j)) else none := rfl
theorem neg_i : negD (.int i) = some (.int (-i)) := rfl
theorem int_i : Vp.intD (.int i) = some (.int i) := rfl
theorem abs_i : absD (.int i) = some (.int (if i < 0 then -i else i)) := rfl
theorem max2_ii : max2D [.int i, .int j] = some (.fz (.int (if j > i then j else i))) := rfl
theorem dvm_ii : dvmO [.int i, .int j] = if 0 < j ∧ j < 1073741824 then some (.fz (.tuple [.int (i / j), .int (i % j)])) else none := rfl
theorem len_l : lenD (.list l) = some (.int (l.length : Nat)) := rfl
theorem len_t : lenD (.tuple l) = some (.int (l.length : Nat)) := rfl
theorem listO_l : listO [.list l] = some (.ow l) := rfl
theorem tupO_l : tupO [.list l] = some (.fz (.tuple l)) := rfl
theorem ints_map {ns : List Int} : intsOf (ns.map .int) = some ns := intsOf_map ns
theorem intsD_map {ns : List Int} : intsD (.list (ns.map .int)) = some ns := intsOf_map ns
theorem sorted_l {ns : List Int} : sortedO [.list (ns.map .int)] = some (.ow ((sortI ns).map .int)) := by
  show (intsD (.list (ns.map .int))).map _ = _
  rw [intsD_map]
  rfl
theorem sl_list {lo hi : Option Int} : slD (.list l) lo hi = some (.ow (cutD l lo hi)) := rfl
end
end Ev
end
section
set_option Elab.async false
set_option linter.all false
set_option maxRecDepth 100000
set_option maxHeartbeats 4000000
namespace K25
open PySem PySem.Spec PyProof.Rows L2 Vi Vf Vo Vp Vs Vt Vu Vv Vg Vw Vx Vy Va Vb Vc Vk Vm Vl Vn Vd Vq Vr Vj Vbo Vfr Vxr Vxt Ev
def topS (i : Nat) : Stmt := PySem.Challenge.pw_webnames_k25_tokens_and_part_names.main.body.getD i (.Pass ⟨0, 0, 0, 0⟩)
structure Bl (mg : Str → Option Value) : Prop where
  ValueError : mg "ValueError" = none
  abs : mg "abs" = none
  all : mg "all" = none
  bool : mg "bool" = none
  divmod : mg "divmod" = none
  enumerate : mg "enumerate" = none
  int : mg "int" = none
  isinstance : mg "isinstance" = none
  len : mg "len" = none
  list : mg "list" = none
  max : mg "max" = none
  range : mg "range" = none
  repr : mg "repr" = none
  str : mg "str" = none
  tuple : mg "tuple" = none
def blkB (N : List Str) (sc scope : Scope) (own : List (Str × Nat)) : Bool := decide (scope.kind = .function) && (scope.names.all fun y => decide (scope.names.lookup y.1 = some y.2)) && (own.all fun p => decide (N[p.2]? = some p.1)) &&
  (scope.names.all fun y => !decide (y.2 = .free) || (decide (sc.names.lookup y.1 = some .cell) || decide (sc.names.lookup y.1 = some .free))) && (scope.names.all fun y => !(decide (y.2 = .local) || decide (y.2 = .cell)) || (decide (y.1 ∈ own.map (·.1)) || !decide (y.1 ∈ N)))
theorem blk_of {N : List Str} {sc scope : Scope} {own : List (Str × Nat)} (h : blkB N sc scope own = true) : BlkOk N sc scope own := by
  unfold blkB at h
  simp only [Bool.and_eq_true, List.all_eq_true, decide_eq_true_eq, Bool.or_eq_true, Bool.not_eq_true', decide_eq_false_iff_not, Bool.or_eq_false_iff] at h
  obtain ⟨⟨⟨⟨h1, h2⟩, h3⟩, h4⟩, h5⟩ := h
  refine ⟨h1, h2, h3, fun y hy e => (h4 y hy).resolve_left fun z => z e, fun y hy e => ?_⟩
  rcases h5 y hy with z | z
  · exact e.elim (fun w => absurd w z.1) fun w => absurd w z.2
  · exact z
def gscB (scope : Scope) : Bool := decide (scope.kind = .function) && !scope.isCoroutine && (scope.names.all fun y => !decide (y.2 = .cell)) && decide (scope.names.lookup (".0" : Str) = some NameKind.local) && (scope.names.all fun y => !decide (y.2 = .free))
theorem gsc_of {X : Cx} {scope : Scope} (h : gscB scope = true) : GSc X scope := by
  unfold gscB at h
  simp only [Bool.and_eq_true, List.all_eq_true, decide_eq_true_eq, Bool.not_eq_true', decide_eq_false_iff_not] at h
  obtain ⟨⟨⟨⟨h1, h2⟩, h3⟩, h4⟩, h5⟩ := h
  exact ⟨h1, h2, h3, h4, fun y hy e => absurd e (h5 y hy)⟩
abbrev s_kept : Stmt := topS 1
theorem sc_kept : FnScope ["value", "x"] ["value"] (defScope s_kept) := ⟨rfl, rfl, rfl, by decide +kernel, rfl, by decide +kernel, by decide +kernel⟩
def m_kept (f_kept : List O → Option (O × Δ)) : Δ → Option Out :=
  (mSeq (mIf (eT (eIsi "list" (eVar 0)))
  (mSeq (mRet (eLc [1] (eSeq (eF (eVar 0))) (hName 1) eYesT (eF (eFn f_kept (aCons (eP (eF (eVar 1))) aNil)))))
  mPass)
  mPass)
  (mSeq (mIf (eT (eIsi "tuple" (eVar 0)))
  (mSeq (mRet (eCall tupO (eCons (eF (eLc [1] (eSeq (eF (eVar 0))) (hName 1) eYesT (eF (eFn f_kept (aCons (eP (eF (eVar 1))) aNil))))) eNil)))
  mPass)
  mPass)
  (mSeq (mRet (eVar 0))
  mPass)))
def r_kept : Nat → List O → Option (O × Δ)
  | 0 => fun _ => none
  | n + 1 => runM 1 2 (m_kept (r_kept n))
def f_kept : List O → Option (O × Δ) := r_kept 4
theorem okr_kept {Pg : Program} {w : World} {K : Lay} {mg : Str → Option Value} {base : Heap} {fd : FuncData} (B : Bl mg)  (Fd : FunD K.K "kept" "kept" (defArgs s_kept) (defBody s_kept) (defScope s_kept) [] [] (He.fAd K.K ("kept", none)) fd) (hm : mg "kept" = some (.ref (He.fAd K.K ("kept", none)))) (n : Nat) : DefS Pg w K mg base (1 + n) "kept" s_kept ["value"] (r_kept n) := by
  induction n with
  | zero => exact def_none Fd hm sc_kept (fun _ _ _ _ _ _ us hl => match us, hl with | [_], _ => rfl)
  | succ n G_kept =>
  exact def_v (k := 1 + n) Fd hm sc_kept (by decide) (fun _ _ _ _ _ _ us hl => match us, hl with | [_], _ => rfl) fun cdv Bk es s H E lk Z => by
    exact (bs_cons (b_if (t_of (d_isi (T := "list") Z (x_var 0) B.isinstance B.list))
  (bs_cons (b_ret (x_lc Z sc_kept.nd [("x", 1)] (blk_of (by kernel_rfl)) (i_list Z (DX.of (x_var 0))) (fun _ => (g_name 1 sc_kept.nd)) (fun _ => c_nil) (fun _ => (DX.of (x_fn (fits_b Z) G_kept (by omega) (as_cons (EX.of (DX.of (x_var 1))) as_nil))))))
  bs_nil)
  bs_nil)
  (bs_cons (b_if (t_of (d_isi (T := "tuple") Z (x_var 0) B.isinstance B.tuple))
  (bs_cons (b_ret (x_tup Z (a_cons (DX.of (x_lc Z sc_kept.nd [("x", 1)] (blk_of (by kernel_rfl)) (i_list Z (DX.of (x_var 0))) (fun _ => (g_name 1 sc_kept.nd)) (fun _ => c_nil) (fun _ => (DX.of (x_fn (fits_b Z) G_kept (by omega) (as_cons (EX.of (DX.of (x_var 1))) as_nil)))))) a_nil) B.tuple))
  bs_nil)
  bs_nil)
  (bs_cons (b_ret (x_var 0))
  bs_nil)))
theorem ok_kept {Pg : Program} {w : World} {K : Lay} {mg : Str → Option Value} {base : Heap} {fd : FuncData} (B : Bl mg)  (Fd : FunD K.K "kept" "kept" (defArgs s_kept) (defBody s_kept) (defScope s_kept) [] [] (He.fAd K.K ("kept", none)) fd) (hm : mg "kept" = some (.ref (He.fAd K.K ("kept", none)))) : DefS Pg w K mg base 5 "kept" s_kept ["value"] f_kept :=
  okr_kept B Fd hm 4
abbrev s_is_integer : Stmt := topS 8
theorem sc_is_integer : FnScope ["value"] ["value"] (defScope s_is_integer) := ⟨rfl, rfl, rfl, by decide +kernel, rfl, by decide +kernel, by decide +kernel⟩
def m_is_integer : Δ → Option Out :=
  (mSeq (mRet (eP (eAndV (eIsi "int" (eVar 0)) (eNotV (eIsi "bool" (eVar 0))))))
  mPass)
def f_is_integer : List O → Option (O × Δ) := runM 1 1 m_is_integer
theorem ok_is_integer {Pg : Program} {w : World} {K : Lay} {mg : Str → Option Value} {base : Heap} {fd : FuncData} (B : Bl mg)  (Fd : FunD K.K "is_integer" "is_integer" (defArgs s_is_integer) (defBody s_is_integer) (defScope s_is_integer) [] [] (He.fAd K.K ("is_integer", none)) fd) (hm : mg "is_integer" = some (.ref (He.fAd K.K ("is_integer", none)))) : DefS Pg w K mg base 1 "is_integer" s_is_integer ["value"] f_is_integer :=
  def_v (k := 0) Fd hm sc_is_integer (by decide) (fun _ _ _ _ _ _ us hl => match us, hl with | [_], _ => rfl) fun cdv Bk es s H E lk Z => by
    exact (bs_cons (b_ret (EX.of (d_and (d_isi (T := "int") Z (x_var 0) B.isinstance B.int) (d_one (d_not (d_isi (T := "bool") Z (x_var 0) B.isinstance B.bool))))))
  bs_nil)
abbrev s_is_count : Stmt := topS 9
theorem sc_is_count : FnScope ["value"] ["value"] (defScope s_is_count) := ⟨rfl, rfl, rfl, by decide +kernel, rfl, by decide +kernel, by decide +kernel⟩
def m_is_count : Δ → Option Out :=
  (mSeq (mRet (eP (eAndV (eF (eFn f_is_integer (aCons (eP (eF (eVar 0))) aNil))) (eOp geI (eVar 0) (eP (eC (.int 0)))))))
  mPass)
def f_is_count : List O → Option (O × Δ) := runM 1 1 m_is_count
theorem ok_is_count {Pg : Program} {w : World} {K : Lay} {mg : Str → Option Value} {base : Heap} {fd : FuncData} (B : Bl mg) (G_is_integer : DefS Pg w K mg base 1 "is_integer" s_is_integer ["value"] f_is_integer) (Fd : FunD K.K "is_count" "is_count" (defArgs s_is_count) (defBody s_is_count) (defScope s_is_count) [] [] (He.fAd K.K ("is_count", none)) fd) (hm : mg "is_count" = some (.ref (He.fAd K.K ("is_count", none)))) : DefS Pg w K mg base 2 "is_count" s_is_count ["value"] f_is_count :=
  def_v (k := 1) Fd hm sc_is_count (by decide) (fun _ _ _ _ _ _ us hl => match us, hl with | [_], _ => rfl) fun cdv Bk es s H E lk Z => by
    exact (bs_cons (b_ret (EX.of (d_and (DX.of (x_fn Z G_is_integer (by decide) (as_cons (EX.of (DX.of (x_var 0))) as_nil))) (d_one (d_cmp o_geI (x_var 0) (EX.of d_int))))))
  bs_nil)
abbrev i_InvalidMany : Stmt := initS (topS 3) 0
theorem sci_InvalidMany : FnScope ["self", "value"] ["self", "value"] (defScope i_InvalidMany) := ⟨rfl, rfl, rfl, by decide +kernel, rfl, by decide +kernel, by decide +kernel⟩
def fi_InvalidMany : List D → Option (List (Str × D)) := fiOf 2 "value" (eF (eFn f_kept (aCons (eP (eF (eVar 1))) aNil)))
theorem oi_InvalidMany {Pg : Program} {w : World} {K : Lay} {mg : Str → Option Value} {base : Heap} {fd : FuncData} {C fI : Addr} (B : Bl mg) (G_kept : DefS Pg w K mg base 5 "kept" s_kept ["value"] f_kept) (Fd : FunD K.K "__init__" "InvalidMany.__init__" (defArgs i_InvalidMany) (defBody i_InvalidMany) (defScope i_InvalidMany) [] [] fI fd) (mC : mg "InvalidMany" = some (.ref C)) (T : OexC K.K C) (hno : PySem.W.findIn K.K (.ref C) "value" = some none) (iC : PySem.W.findIn K.K (.ref C) "__init__" = some (some (.ref fI))) (tI : PySem.W.typeIn K.K (.ref fI) = some (.type "function")) : ExcF Pg w K mg base 6 "InvalidMany" C fi_InvalidMany :=
  ⟨mC, T, fI, fd, ["self", "value"], iC, tI, def_init (k := 5) Fd sci_InvalidMany rfl T hno rfl rfl (.inl rfl) (by decide) (by decide) (fun _ => rfl) fun cdv Bk es s H E Z => by
    exact (DX.of (x_fn Z G_kept (by decide) (as_cons (EX.of (DX.of (x_var 1))) as_nil))), FunD.bindsN Fd (fun _ _ _ _ _ _ us hl => match us, hl with | [_, _], _ => rfl)⟩
abbrev s_check_many : Stmt := topS 10
theorem sc_check_many : FnScope ["value", "most"] ["value", "most"] (defScope s_check_many) := ⟨rfl, rfl, rfl, by decide +kernel, rfl, by decide +kernel, by decide +kernel⟩
def m_check_many : Δ → Option Out :=
  (mSeq (mIf (eOr (eNot (eT (eF (eFn f_is_count (aCons (eP (eF (eVar 0))) aNil))))) (eT (eOp gtI (eVar 0) (eVar 1))))
  (mSeq mNever
  mPass)
  mPass)
  mPass)
def f_check_many : List O → Option (O × Δ) := runM 2 2 m_check_many
theorem ok_check_many {Pg : Program} {w : World} {K : Lay} {mg : Str → Option Value} {base : Heap} {fd : FuncData} (B : Bl mg) (G_is_count : DefS Pg w K mg base 2 "is_count" s_is_count ["value"] f_is_count) (Fd : FunD K.K "check_many" "check_many" (defArgs s_check_many) (defBody s_check_many) (defScope s_check_many) [] [] (He.fAd K.K ("check_many", none)) fd) (hm : mg "check_many" = some (.ref (He.fAd K.K ("check_many", none)))) : DefS Pg w K mg base 8 "check_many" s_check_many ["value", "most"] f_check_many :=
  def_v (k := 7) Fd hm sc_check_many (by decide) (fun _ _ _ _ _ _ us hl => match us, hl with | [_, _], _ => rfl) fun cdv Bk es s H E lk Z => by
    exact (bs_cons (b_if (t_w (w_or (t_not (t_of (DX.of (x_fn Z G_is_count (by decide) (as_cons (EX.of (DX.of (x_var 0))) as_nil))))) (w_or1 (t_cmp o_gtI (x_var 0) (x_var 1)))))
  (bs_cons b_never
  bs_nil)
  bs_nil)
  bs_nil)
def xr_check_many : List O → Option (Ev × Δ) := runR 2 2 (rIf (eOr (eNot (eT (eF (eFn f_is_count (aCons (eP (eF (eVar 0))) aNil))))) (eT (eOp gtI (eVar 0) (eVar 1)))) (rRz "InvalidMany" fi_InvalidMany (eCons (eF (eVar 0)) eNil)) rNo)
theorem or_check_many {Pg : Program} {w : World} {K : Lay} {mg : Str → Option Value} {base : Heap} {fd : FuncData} (B : Bl mg) (G_is_count : DefS Pg w K mg base 2 "is_count" s_is_count ["value"] f_is_count) {C_InvalidMany : Addr} (X_InvalidMany : ExcF Pg w K mg base 6 "InvalidMany" C_InvalidMany fi_InvalidMany) (Fd : FunD K.K "check_many" "check_many" (defArgs s_check_many) (defBody s_check_many) (defScope s_check_many) [] [] (He.fAd K.K ("check_many", none)) fd) (hm : mg "check_many" = some (.ref (He.fAd K.K ("check_many", none)))) : DefR Pg w K mg base 8 "check_many" s_check_many ["value", "most"] xr_check_many :=
  def_r (k := 7) Fd hm sc_check_many (by decide) (fun _ _ _ _ _ _ us hl => match us, hl with | [_, _], _ => rfl) fun cdv Bk es s H E lk Z tk => by
    exact (rs_hd (r_if (t_w (w_or (t_not (t_of (DX.of (x_fn Z G_is_count (by decide) (as_cons (EX.of (DX.of (x_var 0))) as_nil))))) (w_or1 (t_cmp o_gtI (x_var 0) (x_var 1))))) (rs_hd (r_raise Z tk X_InvalidMany (by decide) (a_cons (DX.of (x_var 0)) a_nil))) rs_no))
abbrev s_is_letter : Stmt := topS 13
theorem sc_is_letter : FnScope ["character"] ["character"] (defScope s_is_letter) := ⟨rfl, rfl, rfl, by decide +kernel, rfl, by decide +kernel, by decide +kernel⟩
def m_is_letter : Δ → Option Out :=
  (mSeq (mRet (eP (eChain leA leA (eC (.str "a")) (eF (eVar 0)) (eC (.str "z")))))
  mPass)
def f_is_letter : List O → Option (O × Δ) := runM 1 1 m_is_letter
theorem ok_is_letter {Pg : Program} {w : World} {K : Lay} {mg : Str → Option Value} {base : Heap} {fd : FuncData} (B : Bl mg)  (Fd : FunD K.K "is_letter" "is_letter" (defArgs s_is_letter) (defBody s_is_letter) (defScope s_is_letter) [] [] (He.fAd K.K ("is_letter", none)) fd) (hm : mg "is_letter" = some (.ref (He.fAd K.K ("is_letter", none)))) : DefS Pg w K mg base 1 "is_letter" s_is_letter ["character"] f_is_letter :=
  def_v (k := 0) Fd hm sc_is_letter (by decide) (fun _ _ _ _ _ _ us hl => match us, hl with | [_], _ => rfl) fun cdv Bk es s H E lk Z => by
    exact (bs_cons (b_ret (EX.of (d_chain (o_leA Z) (o_leA Z) d_str (DX.of (x_var 0)) d_str)))
  bs_nil)
abbrev s_is_word_character : Stmt := topS 14
theorem sc_is_word_character : FnScope ["character"] ["character"] (defScope s_is_word_character) := ⟨rfl, rfl, rfl, by decide +kernel, rfl, by decide +kernel, by decide +kernel⟩
def m_is_word_character : Δ → Option Out :=
  (mSeq (mRet (eP (eOrV (eF (eFn f_is_letter (aCons (eP (eF (eVar 0))) aNil))) (eChain leA leA (eC (.str "0")) (eF (eVar 0)) (eC (.str "9"))))))
  mPass)
def f_is_word_character : List O → Option (O × Δ) := runM 1 1 m_is_word_character
theorem ok_is_word_character {Pg : Program} {w : World} {K : Lay} {mg : Str → Option Value} {base : Heap} {fd : FuncData} (B : Bl mg) (G_is_letter : DefS Pg w K mg base 1 "is_letter" s_is_letter ["character"] f_is_letter) (Fd : FunD K.K "is_word_character" "is_word_character" (defArgs s_is_word_character) (defBody s_is_word_character) (defScope s_is_word_character) [] [] (He.fAd K.K ("is_word_character", none)) fd) (hm : mg "is_word_character" = some (.ref (He.fAd K.K ("is_word_character", none)))) : DefS Pg w K mg base 2 "is_word_character" s_is_word_character ["character"] f_is_word_character :=
  def_v (k := 1) Fd hm sc_is_word_character (by decide) (fun _ _ _ _ _ _ us hl => match us, hl with | [_], _ => rfl) fun cdv Bk es s H E lk Z => by
    exact (bs_cons (b_ret (EX.of (d_or (DX.of (x_fn Z G_is_letter (by decide) (as_cons (EX.of (DX.of (x_var 0))) as_nil))) (d_one (d_chain (o_leA Z) (o_leA Z) d_str (DX.of (x_var 0)) d_str)))))
  bs_nil)
abbrev s_is_part_name : Stmt := topS 15
theorem sc_is_part_name : FnScope ["value"] ["value"] (defScope s_is_part_name) := ⟨rfl, rfl, rfl, by decide +kernel, rfl, by decide +kernel, by decide +kernel⟩
def m_is_part_name : Δ → Option Out :=
  (mSeq (mIf (eOr (eNot (eT (eIsi "str" (eVar 0)))) (eOr (eNot (eT (eChain leA leA (eC (.int 1)) (eCall1 lenD (eVar 0)) (eC (.int 8))))) (eT (eOp (inD false) (eVar 0) (eP (eTup (eCons (eC (.str "hand")) (eCons (eC (.str "side")) eNil))))))))
  (mSeq (mRet (eP (eC (.bool false))))
  mPass)
  mPass)
  (mSeq (mRet (eP (eAndV (eF (eFn f_is_letter (aCons (eP (eIxS (eF (eVar 0)) (eC (.int 0)))) aNil))) (eWalk false 1 [] (eStr (eF (eVar 0))) (hName 0) (eF (eFn f_is_word_character (aCons (eP (eF (eVar 0))) aNil)))))))
  mPass))
def f_is_part_name : List O → Option (O × Δ) := runM 1 1 m_is_part_name
theorem ok_is_part_name {Pg : Program} {w : World} {K : Lay} {mg : Str → Option Value} {base : Heap} {fd : FuncData} (B : Bl mg) (G_is_letter : DefS Pg w K mg base 1 "is_letter" s_is_letter ["character"] f_is_letter) (G_is_word_character : DefS Pg w K mg base 2 "is_word_character" s_is_word_character ["character"] f_is_word_character) (hTB : GxR.TabB base mg (He.cT K.K ("is_part_name", none)).1 (He.cT K.K ("is_part_name", none)).2) (hT : (He.cT K.K ("is_part_name", none)).2 ∈ K.T) (Fd : FunD K.K "is_part_name" "is_part_name" (defArgs s_is_part_name) (defBody s_is_part_name) (defScope s_is_part_name) [] [] (He.fAd K.K ("is_part_name", none)) fd) (hm : mg "is_part_name" = some (.ref (He.fAd K.K ("is_part_name", none)))) : DefS Pg w K mg base 4 "is_part_name" s_is_part_name ["value"] f_is_part_name :=
  def_v (k := 3) Fd hm sc_is_part_name (by decide) (fun _ _ _ _ _ _ us hl => match us, hl with | [_], _ => rfl) fun cdv Bk es s H E lk Z => by
    obtain ⟨oc, od, kV, doc, pm, an, ct, osl, lk, hcd⟩ := lk
    obtain ⟨c, rfl⟩ := He.codeIn_ref hcd
    have hcode : (envOfC "is_part_name" (defScope s_is_part_name) s.heap.objs.size (He.fAd K.K ("is_part_name", none)) (.ref c)).code = .ref (He.cT K.K ("is_part_name", none)).1 := congrArg Value.ref (He.codeOf_eq lk rfl).symm
    exact (bs_cons (b_if (t_w (w_or (t_not (t_of (d_isi (T := "str") Z (x_var 0) B.isinstance B.str))) (w_or (t_not (t_chain (o_leA Z) (o_leA Z) d_int (d_len Z (x_var 0) B.len) d_int)) (w_or1 (t_cmp (o_inD Z) (x_var 0) (EX.of (d_tup (a_cons d_str (a_cons d_str a_nil)))))))))
  (bs_cons (b_ret (EX.of d_bl))
  bs_nil)
  bs_nil)
  (bs_cons (b_ret (EX.of (d_and (DX.of (x_fn Z G_is_letter (by decide) (as_cons (EX.of (d_ixS (DX.of (x_var 0)) d_int)) as_nil))) (d_one (d_allG Z ["character"] [] [] hT B.all hTB hcode (gsc_of (by kernel_rfl)) (i_str (DX.of (x_var 0))) (fun _ => (g_name 0 (by decide +kernel : (["character"] : List Str).Nodup))) (fun _ => (DX.of (x_fn (fits_g Z) G_is_word_character (by decide) (as_cons (EX.of (DX.of (x_var 0))) as_nil)))))))))
  bs_nil))
abbrev s_own_names : Stmt := topS 16
theorem sc_own_names : FnScope ["many", "k"] ["many"] (defScope s_own_names) := ⟨rfl, rfl, rfl, by decide +kernel, rfl, by decide +kernel, by decide +kernel⟩
def m_own_names : Δ → Option Out :=
  (mSeq (mDrop (eFn f_check_many (aCons (eP (eF (eVar 0))) (aCons (eP (eC (.int 24))) aNil))))
  (mSeq (mRet (eLc [1] (eRng1 (eCons (eF (eVar 0)) eNil)) (hName 1) eYesT (eJoin [(eC (.str "p")), (eFmt (eF (eVar 1)))])))
  mPass))
def f_own_names : List O → Option (O × Δ) := runM 1 2 m_own_names
theorem ok_own_names {Pg : Program} {w : World} {K : Lay} {mg : Str → Option Value} {base : Heap} {fd : FuncData} (B : Bl mg) (G_check_many : DefS Pg w K mg base 8 "check_many" s_check_many ["value", "most"] f_check_many) (M_MOST_PARTS : ∃ t, mg "MOST_PARTS" = some (.int 24 t)) (Fd : FunD K.K "own_names" "own_names" (defArgs s_own_names) (defBody s_own_names) (defScope s_own_names) [] [] (He.fAd K.K ("own_names", none)) fd) (hm : mg "own_names" = some (.ref (He.fAd K.K ("own_names", none)))) : DefS Pg w K mg base 9 "own_names" s_own_names ["many"] f_own_names :=
  def_v (k := 8) Fd hm sc_own_names (by decide) (fun _ _ _ _ _ _ us hl => match us, hl with | [_], _ => rfl) fun cdv Bk es s H E lk Z => by
    exact (bs_cons (b_expr (x_fn Z G_check_many (by decide) (as_cons (EX.of (DX.of (x_var 0))) (as_cons (EX.of (d_gint M_MOST_PARTS)) as_nil))))
  (bs_cons (b_ret (x_lc Z sc_own_names.nd [("k", 1)] (blk_of (by kernel_rfl)) (i_rng1 (a_cons (DX.of (x_var 0)) a_nil) B.range) (fun _ => (g_name 1 sc_own_names.nd)) (fun _ => c_nil) (fun _ => (d_join (.cons d_str (.cons (d_fmt (DX.of (x_var 1))) JX.nil))))))
  bs_nil))
def xr_own_names : List O → Option (Ev × Δ) := runR 1 2 (eFnR xr_check_many (aCons (eVar 0) (aCons (eP (eC (.int 24))) aNil)))
theorem or_own_names {Pg : Program} {w : World} {K : Lay} {mg : Str → Option Value} {base : Heap} {fd : FuncData} (B : Bl mg)  (M_MOST_PARTS : ∃ t, mg "MOST_PARTS" = some (.int 24 t)) (R_check_many : DefR Pg w K mg base 8 "check_many" s_check_many ["value", "most"] xr_check_many) (Fd : FunD K.K "own_names" "own_names" (defArgs s_own_names) (defBody s_own_names) (defScope s_own_names) [] [] (He.fAd K.K ("own_names", none)) fd) (hm : mg "own_names" = some (.ref (He.fAd K.K ("own_names", none)))) : DefR Pg w K mg base 9 "own_names" s_own_names ["many"] xr_own_names :=
  def_r (k := 8) Fd hm sc_own_names (by decide) (fun _ _ _ _ _ _ us hl => match us, hl with | [_], _ => rfl) fun cdv Bk es s H E lk Z tk => by
    exact (rs_hd (r_expr (re_fn Z tk R_check_many (by decide) (as_cons (x_var 0) (as_cons (EX.of (d_gint M_MOST_PARTS)) as_nil)))))
abbrev s_line_words : Stmt := topS 18
theorem sc_line_words : FnScope ["line", "told", "found", "spot", "end"] ["line"] (defScope s_line_words) := ⟨rfl, rfl, rfl, by decide +kernel, rfl, by decide +kernel, by decide +kernel⟩
def m_line_words : Δ → Option Out :=
  (mSeq (mAsg 1 (eP (eIx (eP (ePart (eF (eVar 0)) (eC (.str "#")))) (eC (.int 0)))))
  (mSeq (mAsg 2 (eLst eNil))
  (mSeq (mAsg 3 (eP (eC (.int 0))))
  (mSeq (mWhile (eT (eOp ltI (eVar 3) (eP (eCall1 lenD (eVar 1))))) (mSeq (mAsg 4 (eOpF addO (eF (eVar 3)) (eC (.int 1))))
  (mSeq (mIf (eT (eF (eFn f_is_word_character (aCons (eP (eIxS (eF (eVar 1)) (eF (eVar 3)))) aNil))))
  (mSeq (mWhile (eAnd (eT (eOp ltI (eVar 4) (eP (eCall1 lenD (eVar 1))))) (eT (eF (eFn f_is_word_character (aCons (eP (eIxS (eF (eVar 1)) (eF (eVar 4)))) aNil))))) (mSeq (mAug 4 (augI (fun a b => a + b)) (eC (.int 1)))
  mPass) 4000)
  mPass)
  mPass)
  (mSeq (mIf (eT (eOp neX (eP (eIxS (eF (eVar 1)) (eF (eVar 3)))) (eP (eC (.str " ")))))
  (mSeq (mDrop (eP (eMeth 2 mApp (eCons (eTup (eCons (eF (eVar 3)) (eCons (eSlS (eF (eVar 1)) (eYes (eF (eVar 3))) (eYes (eF (eVar 4)))) eNil))) eNil))))
  mPass)
  mPass)
  (mSeq (mAsg 3 (eVar 4))
  mPass)))) 4000)
  (mSeq (mRet (eVar 2))
  mPass)))))
def f_line_words : List O → Option (O × Δ) := runM 1 5 m_line_words
theorem ok_line_words {Pg : Program} {w : World} {K : Lay} {mg : Str → Option Value} {base : Heap} {fd : FuncData} (B : Bl mg) (G_is_word_character : DefS Pg w K mg base 2 "is_word_character" s_is_word_character ["character"] f_is_word_character) (Fd : FunD K.K "line_words" "line_words" (defArgs s_line_words) (defBody s_line_words) (defScope s_line_words) [] [] (He.fAd K.K ("line_words", none)) fd) (hm : mg "line_words" = some (.ref (He.fAd K.K ("line_words", none)))) : DefS Pg w K mg base 3 "line_words" s_line_words ["line"] f_line_words :=
  def_v (k := 2) Fd hm sc_line_words (by decide) (fun _ _ _ _ _ _ us hl => match us, hl with | [_], _ => rfl) fun cdv Bk es s H E lk Z => by
    exact (bs_cons (b_asg 1 sc_line_words.nd (EX.of (d_ix Z (EX.of (d_part (DX.of (x_var 0)) d_str)) d_int)))
  (bs_cons (b_asg 2 sc_line_words.nd (x_lst a_nil))
  (bs_cons (b_asg 3 sc_line_words.nd (EX.of d_int))
  (bs_cons (b_while 4000 PassesOwn.never (t_cmp o_ltI (x_var 3) (EX.of (d_len Z (x_var 1) B.len))) (bs_cons (b_asg 4 sc_line_words.nd (x_bin (o_add Z) (DX.of (x_var 3)) d_int))
  (bs_cons (b_if (t_of (DX.of (x_fn Z G_is_word_character (by decide) (as_cons (EX.of (d_ixS (DX.of (x_var 1)) (DX.of (x_var 3)))) as_nil))))
  (bs_cons (b_while 4000 PassesOwn.never (t_w (w_and (t_cmp o_ltI (x_var 4) (EX.of (d_len Z (x_var 1) B.len))) (w_and1 (t_of (DX.of (x_fn Z G_is_word_character (by decide) (as_cons (EX.of (d_ixS (DX.of (x_var 1)) (DX.of (x_var 4)))) as_nil))))))) (bs_cons (b_augI 4 ip_add sc_line_words.nd d_int)
  bs_nil))
  bs_nil)
  bs_nil)
  (bs_cons (b_if (t_cmp (o_neX Z) (EX.of (d_ixS (DX.of (x_var 1)) (DX.of (x_var 3)))) (EX.of d_str))
  (bs_cons (b_expr (EX.of (x_meth Z 2 PySem.F.slot_list_append PySem.F.type_list_append mt_append mu_app (a_cons (d_tup (a_cons (DX.of (x_var 3)) (a_cons (d_slS (DX.of (x_var 1)) (o_yes (DX.of (x_var 3))) (o_yes (DX.of (x_var 4)))) a_nil))) a_nil))))
  bs_nil)
  bs_nil)
  (bs_cons (b_asg 3 sc_line_words.nd (x_var 4))
  bs_nil)))))
  (bs_cons (b_ret (x_var 2))
  bs_nil)))))
abbrev s_tokens : Stmt := topS 17
theorem sc_tokens : FnScope ["text", "found", "k", "line", "spot", "word"] ["text"] (defScope s_tokens) := ⟨rfl, rfl, rfl, by decide +kernel, rfl, by decide +kernel, by decide +kernel⟩
def m_tokens : Δ → Option Out :=
  (mSeq (mAsg 1 (eLst eNil))
  (mSeq (mFor (eEnum (eCons (eF (eSplit (eF (eVar 0)) (eC (.str "\n")))) eNil)) (hTup 2 (hCons (hName 2) (hCons (hName 3) hNil)))
  (mSeq (mFor (eSeq (eF (eFn f_line_words (aCons (eP (eF (eVar 3))) aNil)))) (hTup 2 (hCons (hName 4) (hCons (hName 5) hNil)))
  (mSeq (mDrop (eP (eMeth 1 mApp (eCons (eTup (eCons (eF (eOpF addO (eF (eVar 2)) (eC (.int 1)))) (eCons (eF (eVar 4)) (eCons (eF (eVar 5)) eNil)))) eNil))))
  mPass))
  (mSeq (mDrop (eP (eMeth 1 mApp (eCons (eTup (eCons (eF (eOpF addO (eF (eVar 2)) (eC (.int 1)))) (eCons (eCall1 lenD (eVar 3)) (eCons (eC (.str ";")) eNil)))) eNil))))
  mPass)))
  (mSeq (mRet (eVar 1))
  mPass)))
def f_tokens : List O → Option (O × Δ) := runM 1 6 m_tokens
theorem ok_tokens {Pg : Program} {w : World} {K : Lay} {mg : Str → Option Value} {base : Heap} {fd : FuncData} (B : Bl mg) (G_line_words : DefS Pg w K mg base 3 "line_words" s_line_words ["line"] f_line_words) (Fd : FunD K.K "tokens" "tokens" (defArgs s_tokens) (defBody s_tokens) (defScope s_tokens) [] [] (He.fAd K.K ("tokens", none)) fd) (hm : mg "tokens" = some (.ref (He.fAd K.K ("tokens", none)))) : DefS Pg w K mg base 4 "tokens" s_tokens ["text"] f_tokens :=
  def_v (k := 3) Fd hm sc_tokens (by decide) (fun _ _ _ _ _ _ us hl => match us, hl with | [_], _ => rfl) fun cdv Bk es s H E lk Z => by
    exact (bs_cons (b_asg 1 sc_tokens.nd (x_lst a_nil))
  (bs_cons (b_for Z PassesOwn.never (i_enum Z (a_cons (DX.of (x_split (DX.of (x_var 0)) d_str)) a_nil) B.enumerate) (g_tup Z (gs_cons (g_name 2 sc_tokens.nd) (gs_cons (g_name 3 sc_tokens.nd) gs_nil)))
  (bs_cons (b_for Z PassesOwn.never (i_list Z (DX.of (x_fn Z G_line_words (by decide) (as_cons (EX.of (DX.of (x_var 3))) as_nil)))) (g_tup Z (gs_cons (g_name 4 sc_tokens.nd) (gs_cons (g_name 5 sc_tokens.nd) gs_nil)))
  (bs_cons (b_expr (EX.of (x_meth Z 1 PySem.F.slot_list_append PySem.F.type_list_append mt_append mu_app (a_cons (d_tup (a_cons (DX.of (x_bin (o_add Z) (DX.of (x_var 2)) d_int)) (a_cons (DX.of (x_var 4)) (a_cons (DX.of (x_var 5)) a_nil)))) a_nil))))
  bs_nil))
  (bs_cons (b_expr (EX.of (x_meth Z 1 PySem.F.slot_list_append PySem.F.type_list_append mt_append mu_app (a_cons (d_tup (a_cons (DX.of (x_bin (o_add Z) (DX.of (x_var 2)) d_int)) (a_cons (d_len Z (x_var 3) B.len) (a_cons d_str a_nil)))) a_nil))))
  bs_nil)))
  (bs_cons (b_ret (x_var 1))
  bs_nil)))
abbrev s__law_pot : Stmt := topS 20
theorem sc__law_pot : FnScope ["_law_script", "_law_k", "_law_cell", "_law_mixed"] ["_law_script", "_law_k"] (defScope s__law_pot) := ⟨rfl, rfl, rfl, by decide +kernel, rfl, by decide +kernel, by decide +kernel⟩
def m__law_pot : Δ → Option Out :=
  (mSeq (mAsg 2 (eOpF addO (eOp mulI (eP (eC (.int 613))) (eVar 1)) (eC (.int 97))))
  (mSeq (mIf (eT (eOp ltI (eVar 1) (eP (eCall1 lenD (eVar 0)))))
  (mSeq (mAsg 2 (eP (eCall1 absD (eP (eIx (eVar 0) (eF (eVar 1)))))))
  mPass)
  mPass)
  (mSeq (mAsg 3 (eP (eOp modI (eP (eCall1 intD (eOpF addO (eF (eOpF addO (eOp mulI (eP (eOp modI (eP (eCall1 intD (eVar 2))) (eP (eC (.int 2147483549))))) (eP (eC (.int 41047)))) (eOp mulI (eP (eC (.int 2467))) (eVar 1)))) (eC (.int 41))))) (eP (eC (.int 2147483563))))))
  (mSeq (mRet (eLst (eCons (eF (eCall max2D (eCons (eC (.int 0)) (eCons (eOp subI (eVar 2) (eP (eOp powI (eP (eC (.int 10))) (eP (eC (.int 18)))))) eNil)))) (eCons (eF (eOpF addO (eF (eVar 3)) (eC (.int 1)))) eNil))))
  mPass))))
def f__law_pot : List O → Option (O × Δ) := runM 2 4 m__law_pot
theorem ok__law_pot {Pg : Program} {w : World} {K : Lay} {mg : Str → Option Value} {base : Heap} {fd : FuncData} (B : Bl mg)  (Fd : FunD K.K "_law_pot" "_law_pot" (defArgs s__law_pot) (defBody s__law_pot) (defScope s__law_pot) [] [] (He.fAd K.K ("_law_pot", none)) fd) (hm : mg "_law_pot" = some (.ref (He.fAd K.K ("_law_pot", none)))) : DefS Pg w K mg base 1 "_law_pot" s__law_pot ["_law_script", "_law_k"] f__law_pot :=
  def_v (k := 0) Fd hm sc__law_pot (by decide) (fun _ _ _ _ _ _ us hl => match us, hl with | [_, _], _ => rfl) fun cdv Bk es s H E lk Z => by
    exact (bs_cons (b_asg 2 sc__law_pot.nd (x_bin (o_add Z) (d_bin o_mulI (EX.of d_int) (x_var 1)) d_int))
  (bs_cons (b_if (t_cmp o_ltI (x_var 1) (EX.of (d_len Z (x_var 0) B.len)))
  (bs_cons (b_asg 2 sc__law_pot.nd (EX.of (d_abs (EX.of (d_ix Z (x_var 0) (DX.of (x_var 1)))) B.abs)))
  bs_nil)
  bs_nil)
  (bs_cons (b_asg 3 sc__law_pot.nd (EX.of (d_bin o_modI (EX.of (d_intc (x_bin (o_add Z) (DX.of (x_bin (o_add Z) (d_bin o_mulI (EX.of (d_bin o_modI (EX.of (d_intc (x_var 2) B.int)) (EX.of d_int))) (EX.of d_int)) (d_bin o_mulI (EX.of d_int) (x_var 1)))) d_int) B.int)) (EX.of d_int))))
  (bs_cons (b_ret (x_lst (a_cons (DX.of (x_max2 Z (a_cons d_int (a_cons (d_bin o_subI (x_var 2) (EX.of (d_bin o_powI (EX.of d_int) (EX.of d_int)))) a_nil)) B.max)) (a_cons (DX.of (x_bin (o_add Z) (DX.of (x_var 3)) d_int)) a_nil))))
  bs_nil))))
abbrev s__law_draw : Stmt := topS 21
theorem sc__law_draw : FnScope ["_law_pot_here", "_law_size", "_law_digit"] ["_law_pot_here", "_law_size"] (defScope s__law_draw) := ⟨rfl, rfl, rfl, by decide +kernel, rfl, by decide +kernel, by decide +kernel⟩
def m__law_draw : Δ → Option Out :=
  (mSeq (mIf (eT (eOp gtI (eP (eIx (eVar 0) (eC (.int 0)))) (eP (eC (.int 0)))))
  (mSeq (mTgt (eF (eCall dvmO (eCons (eIx (eVar 0) (eC (.int 0))) (eCons (eF (eVar 1)) eNil)))) (hTup 2 (hCons (hSub 0 (eC (.int 0))) (hCons (hName 2) hNil))))
  (mSeq (mRet (eVar 2))
  mPass))
  mPass)
  (mSeq (mTgt (eOp modI (eP (eCall1 intD (eOpF addO (eOp mulI (eP (eIx (eVar 0) (eC (.int 1)))) (eP (eC (.int 41059)))) (eC (.int 2467))))) (eP (eC (.int 2147483587)))) (hSub 0 (eC (.int 1))))
  (mSeq (mRet (eP (eOp modI (eP (eCall1 intD (eP (eOp fdvI (eP (eOp modI (eP (eCall1 intD (eP (eOp mulI (eP (eIx (eVar 0) (eC (.int 1)))) (eP (eIx (eVar 0) (eC (.int 1)))))))) (eP (eC (.int 2147483549))))) (eP (eC (.int 19))))))) (eVar 1))))
  mPass)))
def f__law_draw : List O → Option (O × Δ) := runM 2 3 m__law_draw
theorem ok__law_draw {Pg : Program} {w : World} {K : Lay} {mg : Str → Option Value} {base : Heap} {fd : FuncData} (B : Bl mg)  (Fd : FunD K.K "_law_draw" "_law_draw" (defArgs s__law_draw) (defBody s__law_draw) (defScope s__law_draw) [] [] (He.fAd K.K ("_law_draw", none)) fd) (hm : mg "_law_draw" = some (.ref (He.fAd K.K ("_law_draw", none)))) : DefS Pg w K mg base 1 "_law_draw" s__law_draw ["_law_pot_here", "_law_size"] f__law_draw :=
  def_v (k := 0) Fd hm sc__law_draw (by decide) (fun _ _ _ _ _ _ us hl => match us, hl with | [_, _], _ => rfl) fun cdv Bk es s H E lk Z => by
    exact (bs_cons (b_if (t_cmp o_gtI (EX.of (d_ix Z (x_var 0) d_int)) (EX.of d_int))
  (bs_cons (b_mtgt (DX.of (x_dvm (a_cons (d_ix Z (x_var 0) d_int) (a_cons (DX.of (x_var 1)) a_nil)) B.divmod)) (m_tup Z (ms_cons (m_sub 0 d_int) (ms_cons (m_of (g_name 2 sc__law_draw.nd)) ms_nil))))
  (bs_cons (b_ret (x_var 2))
  bs_nil))
  bs_nil)
  (bs_cons (b_mtgt (d_bin o_modI (EX.of (d_intc (x_bin (o_add Z) (d_bin o_mulI (EX.of (d_ix Z (x_var 0) d_int)) (EX.of d_int)) d_int) B.int)) (EX.of d_int)) (m_sub 0 d_int))
  (bs_cons (b_ret (EX.of (d_bin o_modI (EX.of (d_intc (EX.of (d_bin o_fdvI (EX.of (d_bin o_modI (EX.of (d_intc (EX.of (d_bin o_mulI (EX.of (d_ix Z (x_var 0) d_int)) (EX.of (d_ix Z (x_var 0) d_int)))) B.int)) (EX.of d_int))) (EX.of d_int))) B.int)) (x_var 1))))
  bs_nil)))
abbrev s__law_pick : Stmt := topS 22
theorem sc__law_pick : FnScope ["_law_pot_here", "_law_some"] ["_law_pot_here", "_law_some"] (defScope s__law_pick) := ⟨rfl, rfl, rfl, by decide +kernel, rfl, by decide +kernel, by decide +kernel⟩
def m__law_pick : Δ → Option Out :=
  (mSeq (mRet (eP (eIxA (eF (eVar 1)) (eF (eFn f__law_draw (aCons (eVar 0) (aCons (eP (eCall1 lenD (eVar 1))) aNil)))))))
  mPass)
def f__law_pick : List O → Option (O × Δ) := runM 2 2 m__law_pick
theorem ok__law_pick {Pg : Program} {w : World} {K : Lay} {mg : Str → Option Value} {base : Heap} {fd : FuncData} (B : Bl mg) (G__law_draw : DefS Pg w K mg base 1 "_law_draw" s__law_draw ["_law_pot_here", "_law_size"] f__law_draw) (Fd : FunD K.K "_law_pick" "_law_pick" (defArgs s__law_pick) (defBody s__law_pick) (defScope s__law_pick) [] [] (He.fAd K.K ("_law_pick", none)) fd) (hm : mg "_law_pick" = some (.ref (He.fAd K.K ("_law_pick", none)))) : DefS Pg w K mg base 2 "_law_pick" s__law_pick ["_law_pot_here", "_law_some"] f__law_pick :=
  def_v (k := 1) Fd hm sc__law_pick (by decide) (fun _ _ _ _ _ _ us hl => match us, hl with | [_, _], _ => rfl) fun cdv Bk es s H E lk Z => by
    exact (bs_cons (b_ret (EX.of (d_ixA Z (DX.of (x_var 1)) (DX.of (x_fn Z G__law_draw (by decide) (as_cons (x_var 0) (as_cons (EX.of (d_len Z (x_var 1) B.len)) as_nil)))))))
  bs_nil)
abbrev s__law_text : Stmt := topS 23
theorem sc__law_text : FnScope ["_law_pot_here", "_law_many", "_law_plain", "_law_found", "_law_signs", "_law_turn"] ["_law_pot_here", "_law_many"] (defScope s__law_text) := ⟨rfl, rfl, rfl, by decide +kernel, rfl, by decide +kernel, by decide +kernel⟩
def m__law_text : Δ → Option Out :=
  (mSeq (mTup [2, 3] (aCons (eP (eOp eqX (eFn f__law_draw (aCons (eVar 0) (aCons (eP (eC (.int 2))) aNil))) (eP (eC (.int 0))))) (aCons (eP (eC (.str ""))) aNil)))
  (mSeq (mAsg 4 (eP (eC (.str "abcdefghijklmnopqrstuvwxyzABCDEFGHIJKLMNOPQRSTUVWXYZ0123456789"))))
  (mSeq (mAsg 4 (eOpF addO (eF (eVar 4)) (eC (.str " !\"#$&'()*+,-./:;<=>?\x40[\\]^_`{|}~\n"))))
  (mSeq (mFor (eRng1 (eCons (eF (eFn f__law_draw (aCons (eVar 0) (aCons (eP (eF (eOpF addO (eF (eVar 1)) (eC (.int 1))))) aNil)))) eNil)) (hName 5)
  (mSeq (mAug 3 augS (eF (eFn f__law_pick (aCons (eVar 0) (aCons (eP (eF (eIf (eTru (eVar 2)) (eP (eC (.str "az09 hk:;+-#\n 5 x"))) (eVar 4)))) aNil)))))
  mPass))
  (mSeq (mRet (eVar 3))
  mPass)))))
def f__law_text : List O → Option (O × Δ) := runM 2 6 m__law_text
theorem ok__law_text {Pg : Program} {w : World} {K : Lay} {mg : Str → Option Value} {base : Heap} {fd : FuncData} (B : Bl mg) (G__law_draw : DefS Pg w K mg base 1 "_law_draw" s__law_draw ["_law_pot_here", "_law_size"] f__law_draw) (G__law_pick : DefS Pg w K mg base 2 "_law_pick" s__law_pick ["_law_pot_here", "_law_some"] f__law_pick) (Fd : FunD K.K "_law_text" "_law_text" (defArgs s__law_text) (defBody s__law_text) (defScope s__law_text) [] [] (He.fAd K.K ("_law_text", none)) fd) (hm : mg "_law_text" = some (.ref (He.fAd K.K ("_law_text", none)))) : DefS Pg w K mg base 3 "_law_text" s__law_text ["_law_pot_here", "_law_many"] f__law_text :=
  def_v (k := 2) Fd hm sc__law_text (by decide) (fun _ _ _ _ _ _ us hl => match us, hl with | [_, _], _ => rfl) fun cdv Bk es s H E lk Z => by
    exact (bs_cons (by first | exact b_tup Z [2, 3] (as_cons (EX.of (d_cmp (o_eqX Z) (x_fn Z G__law_draw (by decide) (as_cons (x_var 0) (as_cons (EX.of d_int) as_nil))) (EX.of d_int))) (as_cons (EX.of d_str) as_nil)) (n_cons 2 sc__law_text.nd (n_cons 3 sc__law_text.nd n_nil)) | exact b_par Z 2 3 sc__law_text.nd (as_cons (EX.of (d_cmp (o_eqX Z) (x_fn Z G__law_draw (by decide) (as_cons (x_var 0) (as_cons (EX.of d_int) as_nil))) (EX.of d_int))) (as_cons (EX.of d_str) as_nil)))
  (bs_cons (b_asg 4 sc__law_text.nd (EX.of d_str))
  (bs_cons (b_asg 4 sc__law_text.nd (x_bin (o_add Z) (DX.of (x_var 4)) d_str))
  (bs_cons (b_for Z PassesOwn.never (i_rng1 (a_cons (DX.of (x_fn Z G__law_draw (by decide) (as_cons (x_var 0) (as_cons (EX.of (DX.of (x_bin (o_add Z) (DX.of (x_var 1)) d_int))) as_nil)))) a_nil) B.range) (g_name 5 sc__law_text.nd)
  (bs_cons (b_augS 3 sc__law_text.nd (DX.of (x_fn Z G__law_pick (by decide) (as_cons (x_var 0) (as_cons (EX.of (DX.of (x_if (t_tru Z (x_var 2)) (EX.of d_str) (x_var 4)))) as_nil)))))
  bs_nil))
  (bs_cons (b_ret (x_var 3))
  bs_nil)))))
abbrev s__law_tokens : Stmt := topS 24
theorem sc__law_tokens : FnScope ["_law_text_here", "_law_found", "_law_at", "_law_line", "_law_word", "_law_start", "_law_spot", "_law_sign"] ["_law_text_here"] (defScope s__law_tokens) := ⟨rfl, rfl, rfl, by decide +kernel, rfl, by decide +kernel, by decide +kernel⟩
def m__law_tokens : Δ → Option Out :=
  (mSeq (mAsg 1 (eLst eNil))
  (mSeq (mFor (eEnum (eCons (eF (eSplit (eF (eVar 0)) (eC (.str "\n")))) eNil)) (hTup 2 (hCons (hName 2) (hCons (hName 3) hNil)))
  (mSeq (mTup [4, 5] (aCons (eP (eC (.str ""))) (aCons (eP (eC (.int 0))) aNil)))
  (mSeq (mFor (eEnumS (eCons (eF (eOpF addO (eIx (eSplit (eF (eVar 3)) (eC (.str "#"))) (eC (.int 0))) (eC (.str " ")))) eNil)) (hTup 2 (hCons (hName 6) (hCons (hName 7) hNil)))
  (mSeq (mIf (eT (eOp (inS false) (eVar 7) (eP (eC (.str "abcdefghijklmnopqrstuvwxyz0123456789")))))
  (mSeq (mAsg 5 (eIf (eT (eOp eqX (eVar 4) (eP (eC (.str ""))))) (eVar 6) (eVar 5)))
  (mSeq (mAug 4 augS (eF (eVar 7)))
  mPass))
  (mSeq (mIf (eT (eOp neX (eVar 4) (eP (eC (.str "")))))
  (mSeq (mDrop (eP (eMeth 1 mApp (eCons (eTup (eCons (eF (eOpF addO (eF (eVar 2)) (eC (.int 1)))) (eCons (eF (eVar 5)) (eCons (eF (eVar 4)) eNil)))) eNil))))
  mPass)
  mPass)
  (mSeq (mAsg 4 (eP (eC (.str ""))))
  (mSeq (mIf (eT (eOp neX (eVar 7) (eP (eC (.str " ")))))
  (mSeq (mDrop (eP (eMeth 1 mApp (eCons (eTup (eCons (eF (eOpF addO (eF (eVar 2)) (eC (.int 1)))) (eCons (eF (eVar 6)) (eCons (eF (eVar 7)) eNil)))) eNil))))
  mPass)
  mPass)
  mPass))))
  mPass))
  (mSeq (mDrop (eP (eMeth 1 mApp (eCons (eTup (eCons (eF (eOpF addO (eF (eVar 2)) (eC (.int 1)))) (eCons (eCall1 lenD (eVar 3)) (eCons (eC (.str ";")) eNil)))) eNil))))
  mPass))))
  (mSeq (mRet (eVar 1))
  mPass)))
def f__law_tokens : List O → Option (O × Δ) := runM 1 8 m__law_tokens
theorem ok__law_tokens {Pg : Program} {w : World} {K : Lay} {mg : Str → Option Value} {base : Heap} {fd : FuncData} (B : Bl mg)  (Fd : FunD K.K "_law_tokens" "_law_tokens" (defArgs s__law_tokens) (defBody s__law_tokens) (defScope s__law_tokens) [] [] (He.fAd K.K ("_law_tokens", none)) fd) (hm : mg "_law_tokens" = some (.ref (He.fAd K.K ("_law_tokens", none)))) : DefS Pg w K mg base 1 "_law_tokens" s__law_tokens ["_law_text_here"] f__law_tokens :=
  def_v (k := 0) Fd hm sc__law_tokens (by decide) (fun _ _ _ _ _ _ us hl => match us, hl with | [_], _ => rfl) fun cdv Bk es s H E lk Z => by
    exact (bs_cons (b_asg 1 sc__law_tokens.nd (x_lst a_nil))
  (bs_cons (b_for Z PassesOwn.never (i_enum Z (a_cons (DX.of (x_split (DX.of (x_var 0)) d_str)) a_nil) B.enumerate) (g_tup Z (gs_cons (g_name 2 sc__law_tokens.nd) (gs_cons (g_name 3 sc__law_tokens.nd) gs_nil)))
  (bs_cons (by first | exact b_tup Z [4, 5] (as_cons (EX.of d_str) (as_cons (EX.of d_int) as_nil)) (n_cons 4 sc__law_tokens.nd (n_cons 5 sc__law_tokens.nd n_nil)) | exact b_par Z 4 5 sc__law_tokens.nd (as_cons (EX.of d_str) (as_cons (EX.of d_int) as_nil)))
  (bs_cons (b_for Z PassesOwn.never (i_enumS Z (a_cons (DX.of (x_bin (o_add Z) (d_ix Z (x_split (DX.of (x_var 3)) d_str) d_int) d_str)) a_nil) B.enumerate) (g_tup Z (gs_cons (g_name 6 sc__law_tokens.nd) (gs_cons (g_name 7 sc__law_tokens.nd) gs_nil)))
  (bs_cons (b_if (t_cmp o_inS (x_var 7) (EX.of d_str))
  (bs_cons (b_asg 5 sc__law_tokens.nd (x_if (t_cmp (o_eqX Z) (x_var 4) (EX.of d_str)) (x_var 6) (x_var 5)))
  (bs_cons (b_augS 4 sc__law_tokens.nd (DX.of (x_var 7)))
  bs_nil))
  (bs_cons (b_if (t_cmp (o_neX Z) (x_var 4) (EX.of d_str))
  (bs_cons (b_expr (EX.of (x_meth Z 1 PySem.F.slot_list_append PySem.F.type_list_append mt_append mu_app (a_cons (d_tup (a_cons (DX.of (x_bin (o_add Z) (DX.of (x_var 2)) d_int)) (a_cons (DX.of (x_var 5)) (a_cons (DX.of (x_var 4)) a_nil)))) a_nil))))
  bs_nil)
  bs_nil)
  (bs_cons (b_asg 4 sc__law_tokens.nd (EX.of d_str))
  (bs_cons (b_if (t_cmp (o_neX Z) (x_var 7) (EX.of d_str))
  (bs_cons (b_expr (EX.of (x_meth Z 1 PySem.F.slot_list_append PySem.F.type_list_append mt_append mu_app (a_cons (d_tup (a_cons (DX.of (x_bin (o_add Z) (DX.of (x_var 2)) d_int)) (a_cons (DX.of (x_var 6)) (a_cons (DX.of (x_var 7)) a_nil)))) a_nil))))
  bs_nil)
  bs_nil)
  bs_nil))))
  bs_nil))
  (bs_cons (b_expr (EX.of (x_meth Z 1 PySem.F.slot_list_append PySem.F.type_list_append mt_append mu_app (a_cons (d_tup (a_cons (DX.of (x_bin (o_add Z) (DX.of (x_var 2)) d_int)) (a_cons (d_len Z (x_var 3) B.len) (a_cons d_str a_nil)))) a_nil))))
  bs_nil))))
  (bs_cons (b_ret (x_var 1))
  bs_nil)))
abbrev s__law_tokens_right : Stmt := topS 25
theorem sc__law_tokens_right : FnScope ["_law_pot_here", "_law_text_here", "_law_due", "_law_told"] ["_law_pot_here"] (defScope s__law_tokens_right) := ⟨rfl, rfl, rfl, by decide +kernel, rfl, by decide +kernel, by decide +kernel⟩
def m__law_tokens_right : Δ → Option Out :=
  (mSeq (mAsg 1 (eFn f__law_text (aCons (eVar 0) (aCons (eP (eC (.int 60))) aNil))))
  (mSeq (mAsg 2 (eP (eCall1 reprD (eFn f__law_tokens (aCons (eP (eF (eVar 1))) aNil)))))
  (mSeq (mAsg 3 (eFn f_tokens (aCons (eP (eF (eVar 1))) aNil)))
  (mSeq (mIf (eT (eOp neX (eP (eCall1 reprD (eVar 3))) (eVar 2)))
  (mSeq (mRet (eP (eC (.bool false))))
  mPass)
  mPass)
  (mSeq (mDrop (eP (eMeth 3 mApp (eCons (eTup (eCons (eC (.int 1)) (eCons (eC (.int 0)) (eCons (eC (.str "x")) eNil)))) eNil))))
  (mSeq (mTgt (eTup (eCons (eC (.int 0)) (eCons (eC (.int 0)) (eCons (eC (.str "")) eNil)))) (hSub 3 (eC (.int 0))))
  (mSeq (mIf (eT (eOp neX (eP (eCall1 reprD (eFnK 1 [0] f_tokens (aCons (eP (eF (eVar 1))) aNil)))) (eVar 2)))
  (mSeq (mRet (eP (eC (.bool false))))
  mPass)
  mPass)
  (mSeq (mRet (eP (eOp eqX (eP (eCall1 reprD (eFn f_tokens (aCons (eP (eF (eOpF addO (eC (.str "a")) (eF (eVar 1))))) aNil)))) (eP (eCall1 reprD (eFn f__law_tokens (aCons (eP (eF (eOpF addO (eC (.str "a")) (eF (eVar 1))))) aNil)))))))
  mPass))))))))
def f__law_tokens_right : List O → Option (O × Δ) := runM 1 4 m__law_tokens_right
theorem ok__law_tokens_right {Pg : Program} {w : World} {K : Lay} {mg : Str → Option Value} {base : Heap} {fd : FuncData} (B : Bl mg) (G_tokens : DefS Pg w K mg base 4 "tokens" s_tokens ["text"] f_tokens) (G__law_text : DefS Pg w K mg base 3 "_law_text" s__law_text ["_law_pot_here", "_law_many"] f__law_text) (G__law_tokens : DefS Pg w K mg base 1 "_law_tokens" s__law_tokens ["_law_text_here"] f__law_tokens) (Fd : FunD K.K "_law_tokens_right" "_law_tokens_right" (defArgs s__law_tokens_right) (defBody s__law_tokens_right) (defScope s__law_tokens_right) [] [] (He.fAd K.K ("_law_tokens_right", none)) fd) (hm : mg "_law_tokens_right" = some (.ref (He.fAd K.K ("_law_tokens_right", none)))) : DefS Pg w K mg base 5 "_law_tokens_right" s__law_tokens_right ["_law_pot_here"] f__law_tokens_right :=
  def_v (k := 4) Fd hm sc__law_tokens_right (by decide) (fun _ _ _ _ _ _ us hl => match us, hl with | [_], _ => rfl) fun cdv Bk es s H E lk Z => by
    exact (bs_cons (b_asg 1 sc__law_tokens_right.nd (x_fn Z G__law_text (by decide) (as_cons (x_var 0) (as_cons (EX.of d_int) as_nil))))
  (bs_cons (b_asg 2 sc__law_tokens_right.nd (EX.of (d_repr Z (x_fn Z G__law_tokens (by decide) (as_cons (EX.of (DX.of (x_var 1))) as_nil)) B.repr)))
  (bs_cons (b_asg 3 sc__law_tokens_right.nd (x_fn Z G_tokens (by decide) (as_cons (EX.of (DX.of (x_var 1))) as_nil)))
  (bs_cons (b_if (t_cmp (o_neX Z) (EX.of (d_repr Z (x_var 3) B.repr)) (x_var 2))
  (bs_cons (b_ret (EX.of d_bl))
  bs_nil)
  bs_nil)
  (bs_cons (b_expr (EX.of (x_meth Z 3 PySem.F.slot_list_append PySem.F.type_list_append mt_append mu_app (a_cons (d_tup (a_cons d_int (a_cons d_int (a_cons d_str a_nil)))) a_nil))))
  (bs_cons (b_mtgt (d_tup (a_cons d_int (a_cons d_int (a_cons d_str a_nil)))) (m_sub 3 d_int))
  (bs_cons (b_if (t_cmp (o_neX Z) (EX.of (d_repr Z (x_fnK Z G_tokens (by decide) ["text"] [0] (ks_cons (EX.of (DX.of (x_var 1))) ks_nil) (fun _ _ _ _ _ _ ws hl => match ws, hl with | [_], _ => rfl)) B.repr)) (x_var 2))
  (bs_cons (b_ret (EX.of d_bl))
  bs_nil)
  bs_nil)
  (bs_cons (b_ret (EX.of (d_cmp (o_eqX Z) (EX.of (d_repr Z (x_fn Z G_tokens (by decide) (as_cons (EX.of (DX.of (x_bin (o_add Z) d_str (DX.of (x_var 1))))) as_nil)) B.repr)) (EX.of (d_repr Z (x_fn Z G__law_tokens (by decide) (as_cons (EX.of (DX.of (x_bin (o_add Z) d_str (DX.of (x_var 1))))) as_nil)) B.repr)))))
  bs_nil))))))))
abbrev s__law_value : Stmt := topS 26
theorem sc__law_value : FnScope ["_law_pot_here", "_law_way", "_law_some", "_law_found", "_law_turn", "_law_at", "_law_odd"] ["_law_pot_here"] (defScope s__law_value) := ⟨rfl, rfl, rfl, by decide +kernel, rfl, by decide +kernel, by decide +kernel⟩
def m__law_value : Δ → Option Out :=
  (mSeq (mAsg 1 (eFn f__law_draw (aCons (eVar 0) (aCons (eP (eC (.int 4))) aNil))))
  (mSeq (mIf (eT (eOp eqX (eVar 1) (eP (eC (.int 0)))))
  (mSeq (mAsg 2 (eLst (eCons (eC .none) (eCons (eC (.bool true)) (eCons (eC (.int 1)) (eCons (eC (.int 0)) (eCons (eF (eLst eNil)) (eCons (eF (eLst (eCons (eC (.str "a")) eNil))) (eCons (eTup (eCons (eC (.str "a")) eNil)) (eCons (eC (.str "")) (eCons (eC (.str "hand")) (eCons (eC (.str "side")) (eCons (eC (.str "hands")) (eCons (eC (.str "p0")) (eCons (eC (.str "A")) eNil)))))))))))))))
  (mSeq (mRet (eFn f__law_pick (aCons (eVar 0) (aCons (eP (eF (eVar 2))) aNil))))
  mPass))
  mPass)
  (mSeq (mAsg 3 (eP (eC (.str ""))))
  (mSeq (mFor (eRng1 (eCons (eF (eFn f__law_draw (aCons (eVar 0) (aCons (eP (eC (.int 11))) aNil)))) eNil)) (hName 4)
  (mSeq (mAug 3 augS (eF (eFn f__law_pick (aCons (eVar 0) (aCons (eP (eC (.str "abcdefghijklmnopqrstuvwxyz0123456789"))) aNil)))))
  mPass))
  (mSeq (mAsg 5 (eFn f__law_draw (aCons (eVar 0) (aCons (eP (eF (eOpF addO (eCall1 lenD (eVar 3)) (eC (.int 1))))) aNil))))
  (mSeq (mAsg 6 (eFn f__law_pick (aCons (eVar 0) (aCons (eP (eF (eLst (eCons (eC (.str "A")) (eCons (eC (.str " ")) (eCons (eC (.str "_")) (eCons (eC (.str "-")) (eCons (eC (.str "\n")) (eCons (eC (.str ":")) (eCons (eC (.str "Z")) (eCons (eC (.str "~")) (eCons (eC (.str ";")) eNil)))))))))))) aNil))))
  (mSeq (mRet (eIf (eT (eOp eqX (eVar 1) (eP (eC (.int 1))))) (eOpF addO (eF (eOpF addO (eSlS (eF (eVar 3)) eNo (eYes (eF (eVar 5)))) (eF (eVar 6)))) (eSlS (eF (eVar 3)) (eYes (eF (eVar 5))) eNo)) (eVar 3)))
  mPass)))))))
def f__law_value : List O → Option (O × Δ) := runM 1 7 m__law_value
theorem ok__law_value {Pg : Program} {w : World} {K : Lay} {mg : Str → Option Value} {base : Heap} {fd : FuncData} (B : Bl mg) (G__law_draw : DefS Pg w K mg base 1 "_law_draw" s__law_draw ["_law_pot_here", "_law_size"] f__law_draw) (G__law_pick : DefS Pg w K mg base 2 "_law_pick" s__law_pick ["_law_pot_here", "_law_some"] f__law_pick) (Fd : FunD K.K "_law_value" "_law_value" (defArgs s__law_value) (defBody s__law_value) (defScope s__law_value) [] [] (He.fAd K.K ("_law_value", none)) fd) (hm : mg "_law_value" = some (.ref (He.fAd K.K ("_law_value", none)))) : DefS Pg w K mg base 3 "_law_value" s__law_value ["_law_pot_here"] f__law_value :=
  def_v (k := 2) Fd hm sc__law_value (by decide) (fun _ _ _ _ _ _ us hl => match us, hl with | [_], _ => rfl) fun cdv Bk es s H E lk Z => by
    exact (bs_cons (b_asg 1 sc__law_value.nd (x_fn Z G__law_draw (by decide) (as_cons (x_var 0) (as_cons (EX.of d_int) as_nil))))
  (bs_cons (b_if (t_cmp (o_eqX Z) (x_var 1) (EX.of d_int))
  (bs_cons (b_asg 2 sc__law_value.nd (x_lst (a_cons d_non (a_cons d_bl (a_cons d_int (a_cons d_int (a_cons (DX.of (x_lst a_nil)) (a_cons (DX.of (x_lst (a_cons d_str a_nil))) (a_cons (d_tup (a_cons d_str a_nil)) (a_cons d_str (a_cons d_str (a_cons d_str (a_cons d_str (a_cons d_str (a_cons d_str a_nil)))))))))))))))
  (bs_cons (b_ret (x_fn Z G__law_pick (by decide) (as_cons (x_var 0) (as_cons (EX.of (DX.of (x_var 2))) as_nil))))
  bs_nil))
  bs_nil)
  (bs_cons (b_asg 3 sc__law_value.nd (EX.of d_str))
  (bs_cons (b_for Z PassesOwn.never (i_rng1 (a_cons (DX.of (x_fn Z G__law_draw (by decide) (as_cons (x_var 0) (as_cons (EX.of d_int) as_nil)))) a_nil) B.range) (g_name 4 sc__law_value.nd)
  (bs_cons (b_augS 3 sc__law_value.nd (DX.of (x_fn Z G__law_pick (by decide) (as_cons (x_var 0) (as_cons (EX.of d_str) as_nil)))))
  bs_nil))
  (bs_cons (b_asg 5 sc__law_value.nd (x_fn Z G__law_draw (by decide) (as_cons (x_var 0) (as_cons (EX.of (DX.of (x_bin (o_add Z) (d_len Z (x_var 3) B.len) d_int))) as_nil))))
  (bs_cons (b_asg 6 sc__law_value.nd (x_fn Z G__law_pick (by decide) (as_cons (x_var 0) (as_cons (EX.of (DX.of (x_lst (a_cons d_str (a_cons d_str (a_cons d_str (a_cons d_str (a_cons d_str (a_cons d_str (a_cons d_str (a_cons d_str (a_cons d_str a_nil)))))))))))) as_nil))))
  (bs_cons (b_ret (x_if (t_cmp (o_eqX Z) (x_var 1) (EX.of d_int)) (x_bin (o_add Z) (DX.of (x_bin (o_add Z) (d_slS (DX.of (x_var 3)) o_no (o_yes (DX.of (x_var 5)))) (DX.of (x_var 6)))) (d_slS (DX.of (x_var 3)) (o_yes (DX.of (x_var 5))) o_no)) (x_var 3)))
  bs_nil)))))))
abbrev s__law_is_name : Stmt := topS 27
theorem sc__law_is_name : FnScope ["_law_value_here", "_law_odd", "_law_sign"] ["_law_value_here"] (defScope s__law_is_name) := ⟨rfl, rfl, rfl, by decide +kernel, rfl, by decide +kernel, by decide +kernel⟩
def m__law_is_name : Δ → Option Out :=
  (mSeq (mIf (eOr (eNot (eT (eIsi "str" (eVar 0)))) (eOr (eNot (eT (eChain leI leI (eC (.int 1)) (eCall1 lenD (eVar 0)) (eC (.int 8))))) (eT (eOp (inD false) (eVar 0) (eP (eTup (eCons (eC (.str "hand")) (eCons (eC (.str "side")) eNil))))))))
  (mSeq (mRet (eP (eC (.bool false))))
  mPass)
  mPass)
  (mSeq (mAsg 1 (eLc [2] (eStr (eF (eVar 0))) (hName 2) (eT (eOp (inS true) (eVar 2) (eP (eC (.str "abcdefghijklmnopqrstuvwxyz0123456789"))))) (eF (eVar 2))))
  (mSeq (mRet (eP (eAndV (eOp eqX (eVar 1) (eLst eNil)) (eOp (inS true) (eP (eIxS (eF (eVar 0)) (eC (.int 0)))) (eP (eC (.str "0123456789")))))))
  mPass)))
def f__law_is_name : List O → Option (O × Δ) := runM 1 3 m__law_is_name
theorem ok__law_is_name {Pg : Program} {w : World} {K : Lay} {mg : Str → Option Value} {base : Heap} {fd : FuncData} (B : Bl mg)  (Fd : FunD K.K "_law_is_name" "_law_is_name" (defArgs s__law_is_name) (defBody s__law_is_name) (defScope s__law_is_name) [] [] (He.fAd K.K ("_law_is_name", none)) fd) (hm : mg "_law_is_name" = some (.ref (He.fAd K.K ("_law_is_name", none)))) : DefS Pg w K mg base 1 "_law_is_name" s__law_is_name ["_law_value_here"] f__law_is_name :=
  def_v (k := 0) Fd hm sc__law_is_name (by decide) (fun _ _ _ _ _ _ us hl => match us, hl with | [_], _ => rfl) fun cdv Bk es s H E lk Z => by
    exact (bs_cons (b_if (t_w (w_or (t_not (t_of (d_isi (T := "str") Z (x_var 0) B.isinstance B.str))) (w_or (t_not (t_chain o_leI o_leI d_int (d_len Z (x_var 0) B.len) d_int)) (w_or1 (t_cmp (o_inD Z) (x_var 0) (EX.of (d_tup (a_cons d_str (a_cons d_str a_nil)))))))))
  (bs_cons (b_ret (EX.of d_bl))
  bs_nil)
  bs_nil)
  (bs_cons (by first | exact b_setLc Z sc__law_is_name.nd 1 [("_law_sign", 2)] (blk_of (by kernel_rfl)) (i_str (DX.of (x_var 0))) (fun _ => (g_name 2 sc__law_is_name.nd)) (fun _ => (c_one (t_cmp o_ninS (x_var 2) (EX.of d_str)))) (fun _ => (DX.of (x_var 2))) | exact b_asg 1 sc__law_is_name.nd (x_lc Z sc__law_is_name.nd [("_law_sign", 2)] (blk_of (by kernel_rfl)) (i_str (DX.of (x_var 0))) (fun _ => (g_name 2 sc__law_is_name.nd)) (fun _ => (c_one (t_cmp o_ninS (x_var 2) (EX.of d_str)))) (fun _ => (DX.of (x_var 2)))))
  (bs_cons (b_ret (EX.of (d_and (d_cmp (o_eqX Z) (x_var 1) (x_lst a_nil)) (d_one (d_cmp o_ninS (EX.of (d_ixS (DX.of (x_var 0)) d_int)) (EX.of d_str))))))
  bs_nil)))
abbrev s__law_name_right : Stmt := topS 28
theorem sc__law_name_right : FnScope ["_law_pot_here", "_law_value_here", "_law_first"] ["_law_pot_here"] (defScope s__law_name_right) := ⟨rfl, rfl, rfl, by decide +kernel, rfl, by decide +kernel, by decide +kernel⟩
def m__law_name_right : Δ → Option Out :=
  (mSeq (mAsg 1 (eFn f__law_value (aCons (eVar 0) aNil)))
  (mSeq (mAsg 2 (eFn f_is_part_name (aCons (eP (eF (eVar 1))) aNil)))
  (mSeq (mIf (eT (eOp neX (eP (eCall1 reprD (eVar 2))) (eP (eCall1 reprD (eFn f__law_is_name (aCons (eP (eF (eVar 1))) aNil))))))
  (mSeq (mRet (eP (eC (.bool false))))
  mPass)
  mPass)
  (mSeq (mRet (eP (eOp eqX (eP (eCall1 reprD (eFnK 1 [0] f_is_part_name (aCons (eP (eF (eVar 1))) aNil)))) (eP (eCall1 reprD (eFn f__law_is_name (aCons (eP (eF (eVar 1))) aNil)))))))
  mPass))))
def f__law_name_right : List O → Option (O × Δ) := runM 1 3 m__law_name_right
theorem ok__law_name_right {Pg : Program} {w : World} {K : Lay} {mg : Str → Option Value} {base : Heap} {fd : FuncData} (B : Bl mg) (G_is_part_name : DefS Pg w K mg base 4 "is_part_name" s_is_part_name ["value"] f_is_part_name) (G__law_value : DefS Pg w K mg base 3 "_law_value" s__law_value ["_law_pot_here"] f__law_value) (G__law_is_name : DefS Pg w K mg base 1 "_law_is_name" s__law_is_name ["_law_value_here"] f__law_is_name) (Fd : FunD K.K "_law_name_right" "_law_name_right" (defArgs s__law_name_right) (defBody s__law_name_right) (defScope s__law_name_right) [] [] (He.fAd K.K ("_law_name_right", none)) fd) (hm : mg "_law_name_right" = some (.ref (He.fAd K.K ("_law_name_right", none)))) : DefS Pg w K mg base 5 "_law_name_right" s__law_name_right ["_law_pot_here"] f__law_name_right :=
  def_v (k := 4) Fd hm sc__law_name_right (by decide) (fun _ _ _ _ _ _ us hl => match us, hl with | [_], _ => rfl) fun cdv Bk es s H E lk Z => by
    exact (bs_cons (b_asg 1 sc__law_name_right.nd (x_fn Z G__law_value (by decide) (as_cons (x_var 0) as_nil)))
  (bs_cons (b_asg 2 sc__law_name_right.nd (x_fn Z G_is_part_name (by decide) (as_cons (EX.of (DX.of (x_var 1))) as_nil)))
  (bs_cons (b_if (t_cmp (o_neX Z) (EX.of (d_repr Z (x_var 2) B.repr)) (EX.of (d_repr Z (x_fn Z G__law_is_name (by decide) (as_cons (EX.of (DX.of (x_var 1))) as_nil)) B.repr)))
  (bs_cons (b_ret (EX.of d_bl))
  bs_nil)
  bs_nil)
  (bs_cons (b_ret (EX.of (d_cmp (o_eqX Z) (EX.of (d_repr Z (x_fnK Z G_is_part_name (by decide) ["value"] [0] (ks_cons (EX.of (DX.of (x_var 1))) ks_nil) (fun _ _ _ _ _ _ ws hl => match ws, hl with | [_], _ => rfl)) B.repr)) (EX.of (d_repr Z (x_fn Z G__law_is_name (by decide) (as_cons (EX.of (DX.of (x_var 1))) as_nil)) B.repr)))))
  bs_nil))))
abbrev s__law_many_right : Stmt := topS 29
theorem sc__law_many_right : FnScope ["_law_pot_here", "_law_many", "_law_is_good", "_law_told", "e", "_law_k"] ["_law_pot_here"] (defScope s__law_many_right) := ⟨rfl, rfl, rfl, by decide +kernel, rfl, by decide +kernel, by decide +kernel⟩
def m__law_many_right : Δ → Option Out :=
  (mSeq (mAsg 1 (eP (eOp subI (eFn f__law_draw (aCons (eVar 0) (aCons (eP (eC (.int 29))) aNil))) (eP (eC (.int 2))))))
  (mSeq (mIf (eT (eOp eqX (eFn f__law_draw (aCons (eVar 0) (aCons (eP (eC (.int 6))) aNil))) (eP (eC (.int 0)))))
  (mSeq (mAsg 1 (eFn f__law_pick (aCons (eVar 0) (aCons (eP (eF (eLst (eCons (eC .none) (eCons (eC (.bool true)) (eCons (eC (.str "3")) (eCons (eF (eLst eNil)) (eCons (eC (.bool false)) eNil)))))))) aNil))))
  mPass)
  mPass)
  (mSeq (mAsg 2 (eP (eAndV (eIsi "int" (eVar 1)) (eAndV (eNotV (eIsi "bool" (eVar 1))) (eChain leI leI (eC (.int 0)) (eF (eVar 1)) (eC (.int 24)))))))
  (mSeq (mTry 4 ["InvalidMany"] (mSeq (mAsg 3 (eIf (eT (eOp eqX (eFn f__law_draw (aCons (eVar 0) (aCons (eP (eC (.int 2))) aNil))) (eP (eC (.int 0))))) (eFn f_own_names (aCons (eP (eF (eVar 1))) aNil)) (eFnK 1 [0] f_own_names (aCons (eP (eF (eVar 1))) aNil))))
  mPass) (rIf (eT (eOp eqX (eFn f__law_draw (aCons (eVar 0) (aCons (eP (eC (.int 2))) aNil))) (eP (eC (.int 0))))) (eFnR xr_own_names (aCons (eVar 1) aNil)) (eFnRK 1 [0] xr_own_names (aCons (eVar 1) aNil))) (fun ev => (mIfR (eOr (eNot (eT (eXi true))) (eNot (eT (eXi true)))) (mRetT (eP (eC (.bool false)))) (mIfR (eT (eXi false)) (mRetT (eP (eC (.bool false)))) (mRetT (eP (eAndV (eNotV (eF (eVar 2))) (eOp eqS (eP (eCall1 reprD (eP (eXa ev "value")))) (eP (eCall1 reprD (eVar 1)))))))))))
  (mSeq (mIf (eOr (eNot (eTru (eVar 2))) (eT (eOp neX (eP (eCall1 reprD (eVar 3))) (eP (eCall1 reprD (eLc [5] (eRng1 (eCons (eF (eVar 1)) eNil)) (hName 5) eYesT (eF (eOpF addO (eC (.str "p")) (eCall1 strD (eVar 5))))))))))
  (mSeq (mRet (eP (eC (.bool false))))
  mPass)
  mPass)
  (mSeq (mDrop (eP (eMeth 3 mApp (eCons (eC (.str "")) eNil))))
  (mSeq (mRet (eP (eOp eqX (eP (eCall1 reprD (eFn f_own_names (aCons (eP (eF (eVar 1))) aNil)))) (eP (eCall1 reprD (eLc [5] (eRng1 (eCons (eF (eVar 1)) eNil)) (hName 5) eYesT (eF (eOpF addO (eC (.str "p")) (eCall1 strD (eVar 5))))))))))
  mPass)))))))
def f__law_many_right : List O → Option (O × Δ) := runM 1 6 m__law_many_right
theorem ok__law_many_right {Pg : Program} {w : World} {K : Lay} {mg : Str → Option Value} {base : Heap} {fd : FuncData} (B : Bl mg) (G_own_names : DefS Pg w K mg base 9 "own_names" s_own_names ["many"] f_own_names) (G__law_draw : DefS Pg w K mg base 1 "_law_draw" s__law_draw ["_law_pot_here", "_law_size"] f__law_draw) (G__law_pick : DefS Pg w K mg base 2 "_law_pick" s__law_pick ["_law_pot_here", "_law_some"] f__law_pick) {C_InvalidMany : Addr} {C_MissingError : Addr} {C_TermError : Addr} {C_TooMany : Addr} (A_InvalidMany : ExcAll K.K C_InvalidMany) (E_InvalidMany_InvalidMany : PySem.W.exmOne K.K (.ref C_InvalidMany) (.ref C_InvalidMany) = some true) (H_InvalidMany_value : PySem.W.findIn K.K (.ref C_InvalidMany) "value" = some none) (K_InvalidMany_TermError : PySem.W.kitOne K.K (.ref C_InvalidMany) (.ref C_TermError) = some true) (K_InvalidMany_ValueError : PySem.W.kitOne K.K (.ref C_InvalidMany) (.type "ValueError") = some true) (KT_InvalidMany_MissingError_TooMany : PySem.W.kitAny K.K (.ref C_InvalidMany) [.ref C_MissingError, .ref C_TooMany] = some false) (R_own_names : DefR Pg w K mg base 9 "own_names" s_own_names ["many"] xr_own_names) (X_InvalidMany : ExcF Pg w K mg base 6 "InvalidMany" C_InvalidMany fi_InvalidMany) (m_InvalidMany : mg "InvalidMany" = some (.ref C_InvalidMany)) (m_MissingError : mg "MissingError" = some (.ref C_MissingError)) (m_TermError : mg "TermError" = some (.ref C_TermError)) (m_TooMany : mg "TooMany" = some (.ref C_TooMany)) (Fd : FunD K.K "_law_many_right" "_law_many_right" (defArgs s__law_many_right) (defBody s__law_many_right) (defScope s__law_many_right) [] [] (He.fAd K.K ("_law_many_right", none)) fd) (hm : mg "_law_many_right" = some (.ref (He.fAd K.K ("_law_many_right", none)))) : DefS Pg w K mg base 10 "_law_many_right" s__law_many_right ["_law_pot_here"] f__law_many_right :=
  def_v (k := 9) Fd hm sc__law_many_right (by decide) (fun _ _ _ _ _ _ us hl => match us, hl with | [_], _ => rfl) fun cdv Bk es s H E lk Z => by
    exact (bs_cons (b_asg 1 sc__law_many_right.nd (EX.of (d_bin o_subI (x_fn Z G__law_draw (by decide) (as_cons (x_var 0) (as_cons (EX.of d_int) as_nil))) (EX.of d_int))))
  (bs_cons (b_if (t_cmp (o_eqX Z) (x_fn Z G__law_draw (by decide) (as_cons (x_var 0) (as_cons (EX.of d_int) as_nil))) (EX.of d_int))
  (bs_cons (b_asg 1 sc__law_many_right.nd (x_fn Z G__law_pick (by decide) (as_cons (x_var 0) (as_cons (EX.of (DX.of (x_lst (a_cons d_non (a_cons d_bl (a_cons d_str (a_cons (DX.of (x_lst a_nil)) (a_cons d_bl a_nil)))))))) as_nil))))
  bs_nil)
  bs_nil)
  (bs_cons (b_asg 2 sc__law_many_right.nd (EX.of (d_and (d_isi (T := "int") Z (x_var 1) B.isinstance B.int) (d_and (d_not (d_isi (T := "bool") Z (x_var 1) B.isinstance B.bool)) (d_one (d_chain o_leI o_leI d_int (DX.of (x_var 1)) d_int))))))
  (bs_cons (b_try Z 4 ["InvalidMany"] rfl rfl (fun _ _ => rfl) sc__law_many_right.nd ⟨rfl, by decide, .inl m_InvalidMany⟩ (fun nm h => by obtain rfl := List.mem_singleton.mp h; exact ⟨_, X_InvalidMany.m, by rw [Z.K]; exact E_InvalidMany_InvalidMany⟩) (fun W pn xe tk Z => ⟨(bs_cons (b_asg 3 sc__law_many_right.nd (x_if (t_cmp (o_eqX Z) (x_fn Z G__law_draw (by decide) (as_cons (x_var 0) (as_cons (EX.of d_int) as_nil))) (EX.of d_int)) (x_fn Z G_own_names (by decide) (as_cons (EX.of (DX.of (x_var 1))) as_nil)) (x_fnK Z G_own_names (by decide) ["many"] [0] (ks_cons (EX.of (DX.of (x_var 1))) ks_nil) (fun _ _ _ _ _ _ ws hl => match ws, hl with | [_], _ => rfl))))
  bs_nil), (rs_hd (r_asg 3 sc__law_many_right.nd (re_if (t_cmp (o_eqX Z) (x_fn Z G__law_draw (by decide) (as_cons (x_var 0) (as_cons (EX.of d_int) as_nil))) (EX.of d_int)) (re_fn Z tk R_own_names (by decide) (as_cons (x_var 1) as_nil)) (re_fnK Z tk R_own_names (by decide) ["many"] [0] (ks_cons (x_var 1) ks_nil) (fun _ _ _ _ _ _ ws hl => match ws, hl with | [_], _ => rfl)))))⟩) (fun ev C a da oe pn hcs hm hz hf => by
      have hc := List.mem_singleton.mp hcs
      obtain rfl : C_InvalidMany = C := Value.ref.inj (Option.some.inj (X_InvalidMany.m.symm.trans (by have z := hm; rw [hc] at z; exact z)))
      exact (n_ifr (tn_w (wn_or (tn_not (tn_d (dn_isX (by rw [Z.K]; exact A_InvalidMany.i) (by rw [Z.K]; exact A_InvalidMany.c) hz hf rfl (.inl rfl) (by rfl) B.isinstance (by exact (pe_bltn rfl B.ValueError (by decide +kernel) (v := .ty "ValueError") rfl (by decide) (by decide))) (by exact fun _ h => h) (by rw [Z.K]; exact K_InvalidMany_ValueError)))) (wn_or1 (tn_not (tn_d (dn_isX (by rw [Z.K]; exact A_InvalidMany.i) (by rw [Z.K]; exact A_InvalidMany.c) hz hf rfl (.inl rfl) (by rfl) B.isinstance (by exact (pe_glob (v := .ref C_TermError) rfl m_TermError rfl)) (by exact fun _ h => h) (by rw [Z.K]; exact K_InvalidMany_TermError))))))) (n_ret (EN.of (DX.n d_bl))) (n_ifr (tn_d (dn_isXT (by rw [Z.K]; exact A_InvalidMany.i) (by rw [Z.K]; exact A_InvalidMany.c) hz hf rfl (.inl rfl) (by rfl) B.isinstance (by exact (pe_glob (v := .ref C_MissingError) rfl m_MissingError rfl)) (by exact (pe_glob (v := .ref C_TooMany) rfl m_TooMany rfl)) (by exact fun _ h => h) (by exact fun _ h => h) (by rw [Z.K]; exact KT_InvalidMany_MissingError_TooMany))) (n_ret (EN.of (DX.n d_bl))) (n_ret (EN.of (dn_and (dn_not (DN.of (EX.n (x_var 2)))) (dn_one (dn_cmp o_eqS (EN.of (dn_repr Z (EN.of (dn_attr Z.K (by rw [Z.K]; exact A_InvalidMany.f) (by rw [Z.K]; exact H_InvalidMany_value) hz hf rfl (.inl rfl))) B.repr)) (EN.of (dn_repr Z (EX.n (x_var 1)) B.repr)))))))))))
  (bs_cons (b_if (t_w (w_or (t_not (t_tru Z (x_var 2))) (w_or1 (t_cmp (o_neX Z) (EX.of (d_repr Z (x_var 3) B.repr)) (EX.of (d_repr Z (x_lc Z sc__law_many_right.nd [("_law_k", 5)] (blk_of (by kernel_rfl)) (i_rng1 (a_cons (DX.of (x_var 1)) a_nil) B.range) (fun _ => (g_name 5 sc__law_many_right.nd)) (fun _ => c_nil) (fun _ => (DX.of (x_bin (o_add (fits_b Z)) d_str (d_strI (fits_b Z) (x_var 5) B.str))))) B.repr))))))
  (bs_cons (b_ret (EX.of d_bl))
  bs_nil)
  bs_nil)
  (bs_cons (b_expr (EX.of (x_meth Z 3 PySem.F.slot_list_append PySem.F.type_list_append mt_append mu_app (a_cons d_str a_nil))))
  (bs_cons (b_ret (EX.of (d_cmp (o_eqX Z) (EX.of (d_repr Z (x_fn Z G_own_names (by decide) (as_cons (EX.of (DX.of (x_var 1))) as_nil)) B.repr)) (EX.of (d_repr Z (x_lc Z sc__law_many_right.nd [("_law_k", 5)] (blk_of (by kernel_rfl)) (i_rng1 (a_cons (DX.of (x_var 1)) a_nil) B.range) (fun _ => (g_name 5 sc__law_many_right.nd)) (fun _ => c_nil) (fun _ => (DX.of (x_bin (o_add (fits_b Z)) d_str (d_strI (fits_b Z) (x_var 5) B.str))))) B.repr)))))
  bs_nil)))))))
abbrev s_law : Stmt := topS 30
theorem sc_law : FnScope ["_law_script", "_law_pot_here"] ["_law_script"] (defScope s_law) := ⟨rfl, rfl, rfl, by decide +kernel, rfl, by decide +kernel, by decide +kernel⟩
def m_law : Δ → Option Out :=
  (mSeq (mAsg 1 (eFn f__law_pot (aCons (eP (eF (eVar 0))) (aCons (eP (eC (.int 0))) aNil))))
  (mSeq (mRet (eP (eAndV (eF (eFn f__law_tokens_right (aCons (eVar 1) aNil))) (eAndV (eF (eFn f__law_name_right (aCons (eVar 1) aNil))) (eF (eFn f__law_many_right (aCons (eVar 1) aNil)))))))
  mPass))
def f_law : List O → Option (O × Δ) := runM 1 2 m_law
end K25
end
section
set_option Elab.async false
set_option linter.all false
set_option maxRecDepth 100000
set_option maxHeartbeats 8000000
namespace Ec
open PySem PySem.Spec PyProof.Rows L2 Vi Vf Vo Vp Vs Vt Vu Vv Vg Vw Vx Vy Va Vb Vc Vk Vm Vl Ev
def rngD : List D → Option (List D)
  | [.int j] => if rgOk j = true then some (rangeD 0 j.toNat) else none
  | _ => none
theorem rng1_D {as : Δ → Option (List D × Δ)} {δ : Δ} : eRng1 as δ = (as δ).bind fun r => (rngD r.1).map fun z => (z, r.2) := by
  unfold eRng1
  congr 1
  funext r
  obtain ⟨ds, δ1⟩ := r
  dsimp only
  split
  · rename_i j
    unfold rngD
    dsimp only
    split <;> rfl
  · rename_i h
    unfold rngD
    split
    · rename_i j
      exact absurd rfl (h j)
    · rfl
def lrD : D → Option O
  | .int i => if rgS i = true then some (.ow (rangeD 0 i.toNat)) else none
  | _ => none
theorem lr1_D {g : Δ → Option (D × Δ)} {δ : Δ} : eListR1 g δ = (g δ).bind fun r => (lrD r.1).map fun o => (.tm o, r.2) := by
  unfold eListR1
  congr 1
  funext r
  obtain ⟨ds, δ1⟩ := r
  dsimp only
  split
  · rename_i j
    unfold lrD
    dsimp only
    split <;> rfl
  · rename_i h
    unfold lrD
    split
    · rename_i j
      exact absurd rfl (h j)
    · rfl
theorem rngD_of {j : Int} (h : rgOk j = true) : rngD [.int j] = some (rangeD 0 j.toNat) := by
  unfold rngD
  dsimp only
  rw [if_pos h]
def isInt : D → Bool
  | .int _ => true
  | _ => false
def isBool : D → Bool
  | .bool _ => true
  | _ => false
theorem kit_int {d : D} (h : d.hasDict = false) : isiD "int" d = some (.bool (isInt d || isBool d)) := by
  cases d <;> first | (simp [PyData.hasDict] at h; done) | (unfold isiD tyName; rw [show kitB _ "int" = some _ by kernel_rfl]; rfl)
theorem kit_bool {d : D} (h : d.hasDict = false) : isiD "bool" d = some (.bool (isBool d)) := by
  cases d <;> first | (simp [PyData.hasDict] at h; done) | (unfold isiD tyName; rw [show kitB _ "bool" = some _ by kernel_rfl]; rfl)
theorem kit_list {d : D} (h : d.hasDict = false) : isiD "list" d = some (.bool (isList d)) := by
  cases d <;> first | (simp [PyData.hasDict] at h; done) | (unfold isiD tyName; rw [show kitB _ "list" = some _ by kernel_rfl]; rfl)
theorem in64_small {i : Int} (h1 : -(2 ^ 64) < i) (h2 : i < 2 ^ 64) : in64 i = true := by
  unfold in64
  simp only [Bool.and_eq_true, decide_eq_true_eq]
  exact ⟨h1, h2⟩
theorem fmod_range {a n : Int} (h : 0 < n) : 0 ≤ a.fmod n ∧ a.fmod n < n := by
  rw [Int.fmod_eq_emod_of_nonneg _ (by omega)]
  exact ⟨Int.emod_nonneg _ (by omega), Int.emod_lt_of_pos _ h⟩
theorem rgOk_of {i : Int} (h1 : -(2 ^ 62) ≤ i) (h2 : i < 2 ^ 62) : rgOk i = true := by
  unfold rgOk
  simp only [Bool.and_eq_true, decide_eq_true_eq]
  exact ⟨h1, h2⟩
theorem rangeD_succ (lo : Int) (k : Nat) : rangeD lo (k + 1) = .int lo :: rangeD (lo + 1) k := by
  unfold rangeD
  rw [List.range_succ_eq_map, List.map_cons, List.map_map]
  congr 1
  · simp
  · refine List.map_congr_left fun i _ => ?_
    show PyData.int (lo + ((i + 1 : Nat) : Int)) = .int (lo + 1 + (i : Int))
    congr 1
    omega
abbrev L (ns : List Int) : D := .list (ns.map .int)
/-- 0, 1, .. -/
def upto (n : Nat) : List Int := (List.range n).map fun (i : Nat) => (i : Int)
theorem upto_len (n : Nat) : (upto n).length = n := by simp [upto]
theorem shaped_i {i : Int} : SeqAt.shaped (.int i) = true := rfl
theorem eq_ii (a b : Int) : eqX (.int a) (.int b) = some (.bool (decide (a = b))) := by
  show eqD _ _ = _
  unfold eqD
  rw [if_pos ⟨shaped_i, shaped_i⟩]
  have : PyData.eqv (.int a) (.int b) = decide (a = b) := by
    rw [Bool.eq_iff_iff]
    simp [PyData.eqv]
  rw [this]
theorem ne_ss (a b : Str) : neX (.str a) (.str b) = some (.bool (!decide (a = b))) := rfl
theorem eq_ss (a b : Str) : eqX (.str a) (.str b) = some (.bool (decide (a = b))) := rfl
def dstep (acc : List Int) (x : Int) : List Int := if acc = [] ∨ acc.getLast? ≠ some x then acc ++ [x] else acc
def unl (ks : List Int) : List Int := (sortI ks).foldl dstep []
theorem rest_nil {δ η : Δ} : restΔ δ η [] = η := rfl
theorem rest_cons {δ η : Δ} {v : Nat} {vs : List Nat} : restΔ δ η (v :: vs) = (restΔ δ η vs).set v (δ[v]?.getD none) := rfl
theorem wipe_nil {δ : Δ} : wipeΔ δ [] = δ := rfl
theorem wipe_cons {δ : Δ} {v : Nat} {vs : List Nat} : wipeΔ δ (v :: vs) = (wipeΔ δ vs).set v none := rfl
structure Sm (k : Nat) (d : D) : Prop where
  nd : d.hasDict = false
  sh : d.showable = true
  dp : d.depth ≤ k
  lv : d.leavesShort 40 = true
  bk : d.bulk ≤ 64 ^ k
theorem sm_int {i : Int} (h : i.natAbs < 10 ^ 39) : Sm 0 (.int i) := by
  refine ⟨rfl, ?_, Nat.zero_le _, ?_, Nat.zero_le _⟩
  · simp only [PyData.showable, decide_eq_true_eq]
    exact PySem.Spec.log2_small (Nat.lt_of_lt_of_le h (by decide +kernel))
  · simp only [PyData.leavesShort, decide_eq_true_eq]
    have e := int_text_length_le10 (k := 39) (by decide) h
    show (Str.ofString (toString i)).length ≤ 40
    rw [PySem.ofString_length]
    exact e
theorem Sm.up {k : Nat} {d : D} (h : Sm k d) : Sm (k + 1) d := ⟨h.nd, h.sh, Nat.le_succ_of_le h.dp, h.lv, Nat.le_trans h.bk (Nat.pow_le_pow_right (by decide) (Nat.le_succ k))⟩
theorem smAll {k : Nat} : ∀ {ds : List D}, (∀ x ∈ ds, Sm k x) → PyData.hasDictAll ds = false ∧ PyData.showableAll ds = true ∧ PyData.depthAll ds ≤ k ∧ PyData.leavesShortAll 40 ds = true ∧ PyData.bulkAll ds ≤ ds.length * (64 ^ k + 1)
  | [], _ => ⟨rfl, rfl, Nat.zero_le _, rfl, Nat.zero_le _⟩
  | d :: ds, h => by
    obtain ⟨a1, a2, a3, a4, a5⟩ := smAll (ds := ds) fun x hx => h x (List.mem_cons_of_mem _ hx)
    have b := h d List.mem_cons_self
    refine ⟨by simp [PyData.hasDictAll, b.nd, a1], by simp [PyData.showableAll, b.sh, a2], ?_, by simp [PyData.leavesShortAll, b.lv, a4], ?_⟩
    · simp only [PyData.depthAll]
      exact Nat.max_le.mpr ⟨b.dp, a3⟩
    · simp only [PyData.bulkAll, List.length_cons]
      have := b.bk
      rw [Nat.add_mul, Nat.one_mul]
      omega
theorem sm_list {k : Nat} {ds : List D} (h : ∀ x ∈ ds, Sm k x) (hl : ds.length ≤ 32) : Sm (k + 1) (.list ds) := by
  obtain ⟨a1, a2, a3, a4, a5⟩ := smAll h
  have hp : 0 < 64 ^ k := Nat.pow_pos (by decide)
  refine ⟨a1, a2, Nat.succ_le_succ a3, a4, ?_⟩
  have e : (64 : Nat) ^ (k + 1) = 64 ^ k * 64 := Nat.pow_succ ..
  have h1 : ds.length * (64 ^ k + 1) ≤ 32 * (64 ^ k + 1) := Nat.mul_le_mul_right _ hl
  show PyData.bulkAll ds ≤ _
  omega
theorem sm_tup {k : Nat} {ds : List D} (h : ∀ x ∈ ds, Sm k x) (hl : ds.length ≤ 32) : Sm (k + 1) (.tuple ds) := by
  have := sm_list h hl
  exact ⟨this.nd, this.sh, this.dp, this.lv, this.bk⟩
theorem upto_mem {n : Nat} {x : Int} : x ∈ upto n ↔ 0 ≤ x ∧ x < n := by
  unfold upto
  rw [List.mem_map]
  constructor
  · rintro ⟨i, hi, rfl⟩
    have := List.mem_range.mp hi
    omega
  · intro h
    exact ⟨x.toNat, List.mem_range.mpr (by omega), by omega⟩
theorem upto_nodup (n : Nat) : (upto n).Nodup := List.Pairwise.map _ (fun a b hne e => hne (by omega)) List.nodup_range
theorem at_L {s : List Int} {i : Nat} (h : i < s.length) : atI (s.map PyData.int) (i : Int) = some (.int (s.getD i 0)) := by
  rw [Ev.atI_nat' (by simpa using h)]
  simp [h]
def ci (b : List Int) (i : Nat) (x : Int) : Nat → List Int → Bool
  | _, [] => true
  | lo, y :: ys => !(decide (x = y) && !decide (b.getD i 0 = b.getD lo 0)) && ci b i x (lo + 1) ys
/-- the places of x -/
def pl (x : Int) : Nat → List Int → List Int
  | _, [] => []
  | lo, y :: ys => if y = x then (lo : Int) :: pl x (lo + 1) ys else pl x (lo + 1) ys
/-- how many colours -/
def cz (c : List Int) : Nat := (dd c).length
def cells (c : List Int) : List (List Int) := (List.range (cz c)).map fun (j : Nat) => pl (j : Int) 0 c
def fl (c : List Int) : Nat → Nat → List D
  | _, 0 => []
  | lo, k + 1 => if pl (lo : Int) 0 c = [] then fl c (lo + 1) k else L (pl (lo : Int) 0 c) :: fl c (lo + 1) k
/-- a numbering of n parts -/
def Num (n : Nat) (p : List Int) : Prop := p.Perm (upto n)
theorem Num.len {n : Nat} {p : List Int} (h : Num n p) : p.length = n := by rw [h.length_eq, upto_len]
theorem Num.mem {n : Nat} {p : List Int} (h : Num n p) {x : Int} : x ∈ p ↔ 0 ≤ x ∧ x < n := by rw [h.mem_iff, upto_mem]
theorem Num.nd {n : Nat} {p : List Int} (h : Num n p) : p.Nodup := h.nodup_iff.mpr (upto_nodup n)
def bk : Nat → List Int → List (Nat × Int)
  | _, [] => []
  | lo, p :: ps => (p.toNat, (lo : Int)) :: bk (lo + 1) ps
theorem at_I {c : List Int} {j : Int} (h0 : 0 ≤ j) (h1 : j < c.length) : atI (c.map PyData.int) j = some (.int (c.getD j.toNat 0)) := by
  have := at_L (s := c) (i := j.toNat) (by omega)
  rw [show ((j.toNat : Nat) : Int) = j by omega] at this
  exact this
theorem ne_same {s : Str} : neX (.str s) (.str s) = some (.bool false) := by rw [ne_ss]; simp
theorem eq_same {s : Str} : eqX (.str s) (.str s) = some (.bool true) := by rw [eq_ss]; simp
end Ec
end
section
set_option Elab.async false
set_option linter.all false
set_option maxRecDepth 100000
set_option maxHeartbeats 2000000
/-! Parts that rows lead to: orbits, words, made lists. -/
namespace Mo
open PySem PyProof.Rows Vi Vp Vt Ec
def ap (r : List Int) (x : Int) : Int := r.getD x.toNat 0
def Rg (n : Nat) (x : Int) : Prop := 0 ≤ x ∧ x < n
def Row (n : Nat) (r : List Int) : Prop := r.length = n ∧ ∀ y ∈ r, Rg n y
inductive Reach (rows : List (List Int)) (a : Int) : Int → Prop
  | refl : Reach rows a a
  | step {x : Int} {r : List Int} : Reach rows a x → r ∈ rows → Reach rows a (ap r x)
theorem le_of_lt {l : List Int} (h : l.Pairwise (· < ·)) : l.Pairwise (· ≤ ·) := h.imp fun h => by omega
/-! ### one part looked at -/
def new (h : Int) : List Int → List (List Int) → List Int
  | _, [] => []
  | ks, r :: rs => if ap r h ∈ ks then new h ks rs else ap r h :: new h (ks ++ [ap r h]) rs
/-! ### rows that keep parts -/
def keep (rows : List (List Int)) (parts : List Int) : List (List Int) := rows.filter fun r => parts.all fun p => decide (ap r p = p)
/-! ### this law's orbits -/
/-- what holds of the parts found -/
structure Fnd (n : Nat) (rows : List (List Int)) (a : Int) (f : List Int) : Prop where
  lt : f.Pairwise (· < ·)
  ha : a ∈ f
  re : ∀ x ∈ f, Reach rows a x
/-! ### words -/
def thn (a b : List Int) : List Int := a.map (ap b)
inductive Word (rows : List (List Int)) (n : Nat) : Nat → List Int → Prop
  | one : Word rows n 0 (upto n)
  | more {j : Nat} {w r : List Int} : Word rows n j w → r ∈ rows → Word rows n (j + 1) (thn w r)
/-! ### this law's made lists -/
structure Made (n : Nat) (rows ws last : List (List Int)) (k : Nat) : Prop where
  nd : ws.Nodup
  row : ∀ w ∈ ws, Row n w
  lst : ∀ w ∈ last, w ∈ ws
  cl : ∀ w ∈ ws, w ∈ last ∨ ∀ r ∈ rows, thn w r ∈ ws
  wd : ∀ j w, j ≤ k → Word rows n j w → w ∈ ws
/-- the new ones of a turn -/
def fresh (ws : List (List Int)) (acc : List (List Int)) (c : List Int) : List (List Int) := if c ∉ ws ∧ c ∉ acc then acc ++ [c] else acc
/-- rows of n parts, as numbers -/
def code (n : Nat) : List Int → Nat
  | [] => 0
  | x :: xs => x.toNat + n * code n xs
end Mo
end
section
set_option Elab.async false
set_option linter.all false
set_option maxRecDepth 100000
set_option maxHeartbeats 2000000
/-! Own dicts, things read where they stand: evaluated. -/
namespace Ew
open PySem PySem.Spec PyProof.Rows L2 Vi Vf Vo Vp Vs Vt Vu Vv Vg Vw Vx Vy Va Vb Vc Vk Vm Vl Vn Vd Ev Ec
variable {δ : Δ} {i j : Nat} {g h ga gb : Δ → Option (D × Δ)} {f : Δ → Option (P × Δ)} {fv : List O → Option (O × Δ)}
theorem dsp1_at : eDsp1 g f δ = (g δ).bind fun r => (keyD r.1).bind fun n => (f r.2).bind fun s => (mixI [s.1]).map fun is => (.tm (.dc [n] is), s.2) := rfl
theorem putP_dc {ks : List Int} {is : List I} : putP i (.tm (.dc ks is)) δ = if noLn δ i = true then some (δ.set i (some (.dc ks is))) else none := rfl
theorem swapNew_at : mSwapNew i j δ = (match δ[j]? with | some (some (.ow ds)) => if i ≠ j ∧ noLn δ i = true then some (.nx (((δ.set j none).set i (some (.ow ds))).set j (some (.ow [])))) else none | _ => none) := rfl
theorem key_i {n : Int} : keyD (.int n) = some n := rfl
theorem dc_at : dcAt δ i = (match δ[i]? with | some (some (.dc ks is)) => some (ks, is) | _ => none) := rfl
theorem din_at {neg : Bool} : eDIn neg i g δ = (g δ).bind fun r => (keyD r.1).bind fun n => (dcAt r.2 i).map fun q => (.bool (neg ^^ decide (n ∈ q.1)), r.2) := rfl
theorem dput_at : mDPut i g f δ = (f δ).bind fun r => (mixI [r.1]).bind fun is => (dcAt r.2 i).bind fun _ => (g r.2).bind fun s => (keyD s.1).bind fun n => (dcAt s.2 i).bind fun q => if n ∉ q.1 ∧ q.1.length < sizeLine then some (.nx (s.2.set i (some (.dc (q.1 ++ [n]) (q.2 ++ is))))) else none := rfl
theorem fnD_at : eFnD fv i g h δ = (dcAt δ i).bind fun _ => (g δ).bind fun r => (keyD r.1).bind fun n => (dcAt r.2 i).bind fun q => (itK q.1 q.2 n).bind fun it => (h r.2).bind fun s => (val fv [.fz it.toD, .fz s.1]).bind fun z => if scO z.1 = true then some (.tm z.1, s.2) else none := by
  unfold eFnD val
  refine congrArg _ (funext fun _ => congrArg _ (funext fun _ => congrArg _ (funext fun _ => congrArg _ (funext fun _ => congrArg _ (funext fun _ => congrArg _ (funext fun s => ?_))))))
  cases fv [.fz _, .fz _] <;> rfl
theorem retGet_at : mRetGet i g δ = (dcAt δ i).bind fun _ => (g δ).bind fun r => (keyD r.1).bind fun n => (dcAt r.2 i).bind fun q => if n ∈ q.1 → (itK q.1 q.2 n).isSome = true then some (.rt (outI (itK q.1 q.2 n)) (r.2.set i none)) else none := rfl
theorem sortD_at : eSortD i δ = (dcAt δ i).bind fun q => if q.1.length < 64 then some (.tm (.ow ((sortI q.1).map .int)), δ) else none := rfl
theorem ext_at : eExt i f δ = (ownAt δ i).bind fun _ => (f δ).bind fun r => (match r.1 with | .tm (.ow es) => (ownAt r.2 i).bind fun ds => if ds.length + es.length ≤ sizeLine then some (.none, setOwn r.2 i (ds ++ es)) else none | _ => none) := rfl
theorem L_at : eL f δ = (f δ).bind fun r => (r.1.data r.2).map fun d => (d, r.2) := rfl
theorem LIx_at : eLIx g h δ = (g δ).bind fun r => (h r.2).bind fun s => (ixD r.1 s.1).map fun z => (z, s.2) := rfl
theorem Sc_at : eSc g δ = (g δ).bind fun r => if (sv r.1).isSome = true then some r else none := rfl
theorem callL_at {q : D → Option D} : eCallL q g δ = (g δ).bind fun r => (q r.1).map fun z => (z, r.2) := rfl
theorem opNil_at {q : D → D → Option D} : eOpNil q g δ = (g δ).bind fun r => (q r.1 (.list [])).map fun z => (z, r.2) := rfl
theorem sv_i {n : Int} : sv (.int n) = some (.int n) := rfl
theorem oo_at : ooAt δ i = (match δ[i]? with | some (some (.oo dss)) => some (.oo dss, dss) | some (some (.ow [])) => some (.ow [], []) | _ => none) := by
  unfold ooAt
  cases δ[i]? with
  | none => rfl
  | some u => cases u with
    | none => rfl
    | some o => cases o with
      | ow ds => cases ds <;> rfl
      | _ => rfl
theorem appO_at : mAppO i f δ = (ooAt δ i).bind fun _ => (f δ).bind fun r => (match r.1 with | .tm (.ow es) => (ooAt r.2 i).bind fun q => if q.2.length < sizeLine then some (.nx (r.2.set i (some (.oo (q.2 ++ [es]))))) else none | _ => none) := rfl
theorem sub2_at {d : D} : hSub2 i ga gb d δ = (δ[i]?.bind id).bind fun _ => (ga δ).bind fun r => (match r.1 with
  | .int n => (r.2[i]?.bind id).bind fun o1 => (rowAt n o1).bind fun _ => (gb r.2).bind fun s => (match s.1 with
    | .int m => (s.2[i]?.bind id).bind fun o => (rowAt n o).bind fun q => (ixN q.2.length m).map fun l => s.2.set i (some (setRow q.1 (q.2.set l d) o))
    | _ => none)
  | _ => none) := rfl
theorem fnL_at {m0 : Int} : eFnL fv j m0 δ = (match δ[j]? with
  | some (some (.ln ds)) => (val fv [.ln ds, .fz (.int m0)]).map fun z => (z.1, backΔ [.sl j, .tm (.fz (.int m0))] z.2 δ)
  | _ => none) := by
  unfold eFnL val
  cases δ[j]? with
  | none => rfl
  | some u => cases u with
    | none => rfl
    | some o => cases o with
      | ln ds => dsimp only; cases fv [.ln ds, .fz (.int m0)] <;> rfl
      | _ => rfl
theorem subAppL_at {c0 m0 : Int} : eSubAppL i g c0 fv j m0 δ = (δ[i]?.bind id).bind fun _ => (g δ).bind fun r => (match r.1 with
  | .int n => (r.2[i]?.bind id).bind fun o1 => (rowAt n o1).bind fun _ => (eFnL fv j m0 r.2).bind fun s => (match s.1 with
    | .fz (.int t) => (s.2[i]?.bind id).bind fun o => (rowAt n o).bind fun q => if q.2.length < sizeLine then some (.none, s.2.set i (some (setRow q.1 (q.2 ++ [.int (c0 + t)]) o))) else none
    | _ => none)
  | _ => none) := rfl
theorem lcO_at {vs : List Nat} {c : Δ → Option (List D × Δ)} {hh : D → Δ → Option Δ} {cf : Δ → Option (List D)} : eLcO vs c hh cf δ = (c δ).bind fun r => if r.1.length ≤ sizeLine ∧ vs.all (okv r.2) = true then (goO hh cf (wipeΔ r.2 vs) r.1).map fun dss => (.tm (.oo dss), restΔ r.2 (wipeΔ r.2 vs) vs) else none := rfl
theorem walk_at {e : Bool} {nt : Nat} {cap : List Nat} {c : Δ → Option (List D × Δ)} {hh : D → Δ → Option Δ} : eWalk e nt cap c hh g δ = (c δ).bind fun r => (walkG e hh g r.1 (gΔ nt cap (frzAll cap r.2))).map fun b => (.bool b, frzAll cap r.2) := rfl
def rng2D (es : List D) : Option (List D) := match es with
  | [.int i, .int j] => if rgOk i = true ∧ rgOk j = true then some (rangeD i (j - i).toNat) else none
  | _ => none
theorem rng2_at {a : Δ → Option (List D × Δ)} : eRng2 a δ = (a δ).bind fun r => (rng2D r.1).map fun z => (z, r.2) := by
  unfold eRng2
  refine congrArg _ (funext fun r => ?_)
  obtain ⟨es, δ'⟩ := r
  unfold rng2D
  rcases es with _ | ⟨x, _ | ⟨y, _ | ⟨z, l⟩⟩⟩
  · rfl
  · cases x <;> rfl
  · cases x <;> cases y <;> first | rfl | (dsimp only; split <;> rfl)
  · cases x <;> cases y <;> rfl
def rngDD (es : List D) : Option (List D) := match es with
  | [.int i, .int j, .int c] => if rgOk i = true ∧ rgOk j = true ∧ c = -1 then some (downD i (i - j).toNat) else none
  | _ => none
theorem rngD_at {a : Δ → Option (List D × Δ)} : eRngD a δ = (a δ).bind fun r => (rngDD r.1).map fun z => (z, r.2) := by
  unfold eRngD
  refine congrArg _ (funext fun r => ?_)
  obtain ⟨es, δ'⟩ := r
  unfold rngDD
  rcases es with _ | ⟨x, _ | ⟨y, _ | ⟨z, _ | ⟨u, l⟩⟩⟩⟩
  · rfl
  · cases x <;> rfl
  · cases x <;> cases y <;> rfl
  · cases x <;> cases y <;> cases z <;> first | rfl | (dsimp only; split <;> rfl)
  · cases x <;> cases y <;> cases z <;> rfl
theorem rngD_of {i j : Int} (h1 : rgOk i = true) (h2 : rgOk j = true) : rngDD [.int i, .int j, .int (-1)] = some (downD i (i - j).toNat) := if_pos ⟨h1, h2, rfl⟩
theorem while_s {c : Δ → Option (Bool × Δ)} {b : Δ → Option Out} {n : Nat} : mWhile c b (n + 1) δ = (c δ).bind fun r => if r.1 = true then (b r.2).bind fun o => (match o with
  | .nx δ' => mWhile c b n δ'
  | .ct δ' => mWhile c b n δ'
  | .bk δ' => some (.nx δ')
  | .rt o δ' => some (.rt o δ')) else some (.nx r.2) := by
  show (c δ).bind _ = _
  refine congrArg _ (funext fun r => ?_)
  split
  · refine congrArg _ (funext fun o => ?_)
    cases o <;> rfl
  · rfl
end Ew
end
section
set_option Elab.async false
set_option linter.all false
set_option maxRecDepth 100000
set_option maxHeartbeats 8000000
/-! Forward: a value is there, and something holds of it. -/
namespace Gd
open PySem PySem.Spec PyProof.Rows L2 Vi Vf Vo Vp Vs Vt Vu Vv Vg Vw Vx Vy Va Vb Vc Vk Vm Vl Vn Vd Ev Ec Ew
/-- there is a value, and Q holds of it -/
def Good {α : Type} (o : Option α) (Q : α → Prop) : Prop := ∃ x, o = some x ∧ Q x
/-- what is to come, out of simp's sight -/
class W (α : Type) where
  p : α → Prop
def Run {α : Type} (o : Option α) [w : W α] : Prop := ∃ x, o = some x ∧ w.p x
section
variable {α β γ : Type} {o o' : Option α} {Q P : α → Prop}
theorem Run.of (h : Good o P) (k : ∀ x, P x → Q x) : @Run α o ⟨Q⟩ := h.elim fun x hx => ⟨x, hx.1, k x hx.2⟩
theorem Run.to (h : Good o Q) : @Run α o ⟨Q⟩ := h
theorem Run.eq {x : α} (h : o = some x) (k : Q x) : @Run α o ⟨Q⟩ := ⟨x, h, k⟩
theorem Run.no {c : Prop} [Decidable c] (h : ¬ c) (k : @Run α o' ⟨Q⟩) : @Run α (if c then o else o') ⟨Q⟩ := by rw [if_neg h]; exact k
theorem Run.ite {c : Prop} [Decidable c] (h : c → @Run α o ⟨Q⟩) (g : ¬ c → @Run α o' ⟨Q⟩) : @Run α (if c then o else o') ⟨Q⟩ := by
  by_cases z : c
  · rw [if_pos z]; exact h z
  · rw [if_neg z]; exact g z
theorem Good.imp (h : Good o P) (k : ∀ x, P x → Q x) : Good o Q := h.elim fun x hx => ⟨x, hx.1, k x hx.2⟩
theorem Good.eq {x : α} (h : o = some x) (k : Q x) : Good o Q := ⟨x, h, k⟩
theorem Good.ite {c : Prop} [Decidable c] (h : c → Good o Q) (g : ¬ c → Good o' Q) : Good (if c then o else o') Q := by
  by_cases z : c
  · rw [if_pos z]; exact h z
  · rw [if_neg z]; exact g z
theorem Good.out {o : Option α} {x : α} (h : Good o fun y => y = x) : o = some x := h.elim fun y hy => hy.2 ▸ hy.1
/-- behind a turn -/
def TP (J : Δ → Prop) (Q : Out → Prop) : Out → Prop
  | .nx δ => J δ
  | .ct δ => J δ
  | .bk δ => Q (.nx δ)
  | .rt o δ => Q (.rt o δ)
theorem turns_go {h : D → Δ → Option Δ} {b : Δ → Option Out} {enc : α → D} {Q : Out → Prop} (I : List α → Δ → Prop) (xs : List α)
    (hs : ∀ pre a post δ, xs = pre ++ a :: post → I pre δ → Good (h (enc a) δ) fun δ1 => Good (b δ1) (TP (I (pre ++ [a])) Q)) (he : ∀ δ, I xs δ → Q (.nx δ)) :
    ∀ (post pre : List α) (δ : Δ), xs = pre ++ post → I pre δ → Good (turns h b (post.map enc) δ) Q
  | [], pre, δ, e, hi => ⟨_, rfl, he δ (by rw [e, List.append_nil]; exact hi)⟩
  | a :: post, pre, δ, e, hi => by
    obtain ⟨δ1, e1, r, e2, h2⟩ := hs pre a post δ e hi
    rw [List.map_cons]
    cases r with
    | nx δ2 =>
      have := turns_go I xs hs he post (pre ++ [a]) δ2 (by rw [e, List.append_assoc]; rfl) h2
      obtain ⟨x, e3, h3⟩ := this
      exact ⟨x, by rw [turns, e1, Option.bind_some, e2]; exact e3, h3⟩
    | ct δ2 =>
      have := turns_go I xs hs he post (pre ++ [a]) δ2 (by rw [e, List.append_assoc]; rfl) h2
      obtain ⟨x, e3, h3⟩ := this
      exact ⟨x, by rw [turns, e1, Option.bind_some, e2]; exact e3, h3⟩
    | bk δ2 => exact ⟨_, by rw [turns, e1, Option.bind_some, e2]; rfl, h2⟩
    | rt o δ2 => exact ⟨_, by rw [turns, e1, Option.bind_some, e2]; rfl, h2⟩
/-- a loop over a list: I of the state ahead, of what is done, of the state now -/
theorem Good.turns {h : D → Δ → Option Δ} {b : Δ → Option Out} {enc : α → D} {Q : Out → Prop} {xs : List α} {δ0 : Δ} (I : Δ → List α → Δ → Prop) (h0 : I δ0 [] δ0)
    (hs : ∀ pre a post δ, xs = pre ++ a :: post → I δ0 pre δ → Good (h (enc a) δ) fun δ1 => Good (b δ1) (TP (I δ0 (pre ++ [a])) Q)) (he : ∀ δ, I δ0 xs δ → Q (.nx δ)) :
    Good (Vi.turns h b (xs.map enc) δ0) Q := turns_go (I δ0) xs hs he xs [] δ0 rfl h0
/-- all or any -/
theorem walk_eq {e : Bool} {h : D → Δ → Option Δ} {f : Δ → Option (D × Δ)} {enc : α → D} {p : α → Bool} {J : Δ → Prop} : ∀ {xs : List α} {δ : Δ}, J δ → (∀ a ∈ xs, ∀ δ, J δ → Good (h (enc a) δ) fun δ1 => Good (f δ1) fun r => r.1 = .bool (p a) ∧ J r.2) → walkG e h f (xs.map enc) δ = some (if e = true then xs.any p else xs.all p)
  | [], δ, _, _ => by cases e <;> rfl
  | a :: xs, δ, hj, H => by
    obtain ⟨δ1, e1, ⟨d, δ2⟩, e2, e3, h4⟩ := H a List.mem_cons_self δ hj
    dsimp only at e3 h4
    subst e3
    have ih := walk_eq (e := e) (xs := xs) (δ := δ2) h4 fun x hx => H x (List.mem_cons_of_mem _ hx)
    rw [List.map_cons, walkG, e1, Option.bind_some, e2, Option.bind_some, Ev.bOf_b, Option.bind_some, ih]
    cases e <;> cases hp : p a <;> simp [hp]
theorem Good.walk {e : Bool} {h : D → Δ → Option Δ} {f : Δ → Option (D × Δ)} {enc : α → D} {Q : Bool → Prop} {xs : List α} {δ : Δ} (p : α → Bool) (J : Δ → Δ → Prop) (hj : J δ δ)
    (H : ∀ a ∈ xs, ∀ δ1, J δ δ1 → Good (h (enc a) δ1) fun δ2 => Good (f δ2) fun r => r.1 = .bool (p a) ∧ J δ r.2) (k : Q (if e = true then xs.any p else xs.all p)) : Good (walkG e h f (xs.map enc) δ) Q := ⟨_, walk_eq (J := J δ) hj H, k⟩
/-- a while: I with a bound of the turns to come -/
theorem while_go {c : Δ → Option (Bool × Δ)} {b : Δ → Option Out} {Q : Out → Prop} (I : Nat → Δ → Prop)
    (hs : ∀ k δ, I k δ → Good (c δ) fun r => if r.1 = true then ∃ j, k = j + 1 ∧ Good (b r.2) (TP (I j) Q) else Q (.nx r.2)) : ∀ (n k : Nat) (δ : Δ), k < n → I k δ → Good (mWhile c b n δ) Q
  | 0, k, δ, hk, _ => absurd hk (Nat.not_lt_zero _)
  | n + 1, k, δ, hk, hi => by
    obtain ⟨⟨t, δ1⟩, e1, h1⟩ := hs k δ hi
    dsimp only at h1
    rw [mWhile, e1, Option.bind_some]
    dsimp only
    cases t with
    | false => rw [if_neg (by decide)] at h1 ⊢; exact ⟨_, rfl, h1⟩
    | true =>
      rw [if_pos rfl] at h1 ⊢
      obtain ⟨j, e2, r, e3, h3⟩ := h1
      rw [e3, Option.bind_some]
      cases r with
      | nx δ2 => exact while_go I hs n j δ2 (by omega) h3
      | ct δ2 => exact while_go I hs n j δ2 (by omega) h3
      | bk δ2 => exact ⟨_, rfl, h3⟩
      | rt o δ2 => exact ⟨_, rfl, h3⟩
theorem Good.while {c : Δ → Option (Bool × Δ)} {b : Δ → Option Out} {Q : Out → Prop} {δ0 : Δ} {n : Nat} (I : Δ → Nat → Δ → Prop) (k : Nat) (hk : k < n) (h0 : I δ0 k δ0)
    (hs : ∀ k δ, I δ0 k δ → Good (c δ) fun r => if r.1 = true then ∃ j, k = j + 1 ∧ Good (b r.2) (TP (I δ0 j) Q) else Q (.nx r.2)) : Good (mWhile c b n δ0) Q := while_go (I δ0) hs n k δ0 hk h0
end
/-- a slot that a name may be put into; one that a comprehension may use -/
def nl : Option (Option O) → Bool
  | some (some (.ln _)) => false
  | some _ => true
  | none => false
theorem app_1 {ds : List D} {d : D} : mApp ds [d] = if ds.length < sizeLine then some (.none, ds ++ [d]) else none := rfl
def pm1 {α : Type} : Option α → List α → List α
  | some a, r => a :: r
  | none, r => r
theorem pmI_n {α : Type} {l : List α} : pmI [] l = [] := rfl
theorem pmI_c {α : Type} {l : List α} {i : Nat} {ix : List Nat} : pmI (i :: ix) l = pm1 l[i]? (pmI ix l) := by
  show (i :: ix).filterMap _ = _
  rw [List.filterMap_cons]
  cases l[i]? <;> rfl
theorem pm1_s {α : Type} {a : α} {r : List α} : pm1 (some a) r = a :: r := rfl
theorem turns_c {h : D → Δ → Option Δ} {b : Δ → Option Out} {d : D} {ds : List D} {δ : Δ} : turns h b (d :: ds) δ = (h d δ).bind fun δ1 => (b δ1).bind fun r => (match r with
    | .nx δ2 => turns h b ds δ2
    | .ct δ2 => turns h b ds δ2
    | .bk δ2 => some (.nx δ2)
    | .rt o δ2 => some (.rt o δ2)) := by
  first
    | (rw [turns]; done)
    | (rw [turns]
       refine congrArg _ (funext fun x => congrArg _ (funext fun r => ?_))
       cases r <;> rfl)
def chK (z : D) (k : Option (D × Δ)) (δ : Δ) : Option (D × Δ) := match z with
  | .bool true => k
  | .bool false => some (.bool false, δ)
  | _ => none
theorem chain_at {g g' : D → D → Option D} {f h l : Δ → Option (D × Δ)} {δ : Δ} : eChain g g' f h l δ = (f δ).bind fun r => (h r.2).bind fun s => (g r.1 s.1).bind fun z => chK z ((l s.2).bind fun t => (g' s.1 t.1).map fun w => (w, t.2)) s.2 := by
  unfold eChain
  refine congrArg _ (funext fun r => congrArg _ (funext fun s => congrArg _ (funext fun z => ?_)))
  unfold chK
  cases z with
  | bool b => cases b <;> rfl
  | _ => rfl
def fzAt : Option (Option O) → Option D
  | some (some (.fz d)) => some d
  | _ => none
theorem fzAt_s {d : D} : fzAt (some (some (.fz d))) = some d := rfl
theorem aug_at {δ : Δ} {i : Nat} {g : D → D → Option D} {a : Δ → Option (D × Δ)} : mAug i g a δ = (fzAt δ[i]?).bind fun d => (a δ).bind fun r => (g d r.1).bind fun z => if noLn r.2 i = true then some (.nx (r.2.set i (some (.fz z)))) else none := by
  unfold mAug
  cases δ[i]? with
  | none => rfl
  | some u =>
    cases u with
    | none => rfl
    | some o => cases o <;> rfl
end Gd
end
section
set_option Elab.async false
set_option linter.all false
set_option maxRecDepth 100000
set_option maxHeartbeats 4000000
/-! How deep and how large data are: what repr and == ask. -/
namespace Gd
open PySem PySem.Spec PyProof.Rows L2 Vi Vf Vo Vp Vs Vt Vu Vv Vg Vw Vx Vy Va Vb Vc Vk Vm Vl Vn Vd Ev Ec Ew
/-- at most n deep, at most m large -/
structure Sz (n m : Nat) (d : D) : Prop where
  nd : d.hasDict = false
  sh : d.showable = true
  dp : d.depth ≤ n
  lv : d.leavesShort 40 = true
  bk : d.bulk ≤ m
  cl : d.canLay0 = true
structure Szs (n m : Nat) (ds : List D) : Prop where
  nd : PyData.hasDictAll ds = false
  sh : PyData.showableAll ds = true
  dp : PyData.depthAll ds ≤ n
  lv : PyData.leavesShortAll 40 ds = true
  bk : PyData.bulkAll ds ≤ m
  cl : PyData.canLayAll0 ds = true
theorem Sz.up {n m a b : Nat} {d : D} (h : Sz a b d) (h1 : a ≤ n) (h2 : b ≤ m) : Sz n m d := ⟨h.nd, h.sh, Nat.le_trans h.dp h1, h.lv, Nat.le_trans h.bk h2, h.cl⟩
theorem sz_i {i : Int} (h : i.natAbs < 10 ^ 39) : Sz 0 0 (.int i) := by
  have := sm_int h
  exact ⟨this.nd, this.sh, Nat.zero_le _, this.lv, Nat.zero_le _, rfl⟩
theorem sz_b {b : Bool} : Sz 0 0 (.bool b) := ⟨rfl, rfl, Nat.zero_le _, rfl, Nat.zero_le _, rfl⟩
theorem sz_n : Sz 0 0 .none := ⟨rfl, rfl, Nat.zero_le _, rfl, Nat.zero_le _, rfl⟩
theorem sz_s {x : Str} {k : Nat} (h1 : x.cps.size ≤ k) (hk : k ≤ 4000) (h2 : ∀ c ∈ x.cps.toList, c < 55296) : Sz 0 k (.str x) := by
  refine ⟨rfl, rfl, Nat.zero_le _, ?_, h1, ?_⟩
  · simp only [PyData.leavesShort, List.all_eq_true, decide_eq_true_eq]
    exact fun c hc => Nat.lt_trans (h2 c hc) (by decide)
  · show x.cps.all _ = true
    rw [← Array.all_toList, List.all_eq_true]
    exact fun c hc => by have := h2 c hc; simp; omega
theorem szs_nil : Szs 0 0 [] := ⟨rfl, rfl, Nat.le_refl _, rfl, Nat.le_refl _, rfl⟩
theorem szs_cons {a b n m : Nat} {x : D} {xs : List D} (h : Sz a b x) (g : Szs n m xs) : Szs (max a n) (b + 1 + m) (x :: xs) :=
  ⟨by rw [PyData.hasDictAll, h.nd, g.nd]; rfl, by rw [PyData.showableAll, h.sh, g.sh]; rfl, by
    rw [PyData.depthAll]
    exact Nat.max_le.mpr ⟨Nat.le_trans h.dp (Nat.le_max_left ..), Nat.le_trans g.dp (Nat.le_max_right ..)⟩, by rw [PyData.leavesShortAll, h.lv, g.lv]; rfl, by
    rw [PyData.bulkAll]
    have := h.bk
    have := g.bk
    omega, by rw [PyData.canLayAll0, h.cl, g.cl]; rfl⟩
theorem szs_all {a b : Nat} : ∀ {xs : List D}, (∀ x ∈ xs, Sz a b x) → Szs a (xs.length * (b + 1)) xs
  | [], _ => ⟨rfl, rfl, Nat.zero_le _, rfl, Nat.zero_le _, rfl⟩
  | x :: xs, h => by
    have := szs_cons (h x List.mem_cons_self) (szs_all fun y hy => h y (List.mem_cons_of_mem _ hy))
    rw [Nat.max_self] at this
    refine ⟨this.nd, this.sh, this.dp, this.lv, Nat.le_trans this.bk ?_, this.cl⟩
    rw [List.length_cons, Nat.add_mul, Nat.one_mul]
    omega
theorem szs_map {α : Type} {a b l : Nat} {f : α → D} {xs : List α} (h : ∀ x ∈ xs, Sz a b (f x)) (hl : xs.length ≤ l) : Szs a (l * (b + 1)) (xs.map f) := by
  have := szs_all (xs := xs.map f) fun y hy => by
    obtain ⟨x, hx, rfl⟩ := List.mem_map.mp hy
    exact h x hx
  rw [List.length_map] at this
  exact ⟨this.nd, this.sh, this.dp, this.lv, Nat.le_trans this.bk (Nat.mul_le_mul_right _ hl), this.cl⟩
theorem sz_list {n m : Nat} {xs : List D} (h : Szs n m xs) : Sz (n + 1) m (.list xs) := ⟨h.nd, h.sh, Nat.succ_le_succ h.dp, h.lv, h.bk, h.cl⟩
theorem sz_tup {n m : Nat} {xs : List D} (h : Szs n m xs) : Sz (n + 1) m (.tuple xs) := ⟨h.nd, h.sh, Nat.succ_le_succ h.dp, h.lv, h.bk, h.cl⟩
theorem Sz.repr {n m : Nat} {d : D} (h : Sz n m d) (hn : n ≤ 64) (hm : m ≤ 390000) : reprD d = some (.str d.shown) := by
  have hs : d.shown.length ≤ sizeLine := by
    have h1 := PyData.shown_le_bulk 40 (by decide) d h.lv
    have h2 := h.bk
    have h3 : (40 + 2) * d.bulk ≤ 42 * 390000 := Nat.mul_le_mul (by omega) (by omega)
    rw [sizeLine_eq]
    omega
  exact if_pos ⟨h.sh, h.nd, Nat.le_trans h.dp (by omega), hs⟩
theorem Sz.shaped {n m : Nat} {d : D} (h : Sz n m d) (hn : n ≤ 64) : SeqAt.shaped d = true := by
  unfold SeqAt.shaped
  rw [h.cl, Bool.true_and, decide_eq_true_eq]
  exact Nat.le_trans h.dp hn
theorem Sz.eq {n m n' m' : Nat} {d e : D} (h : Sz n m d) (g : Sz n' m' e) (hn : n ≤ 64) (hn' : n' ≤ 64) : eqX d e = some (.bool (PyData.eqv d e)) := by
  have : eqD d e = some (.bool (PyData.eqv d e)) := if_pos ⟨h.shaped hn, g.shaped hn'⟩
  unfold eqX
  split
  · rename_i x y
    show some (PyData.bool _) = some (PyData.bool _)
    by_cases e : x = y
    · subst e; simp [PyData.eqv]
    · simp [PyData.eqv, e]
  · exact this
theorem Sz.ne {n m n' m' : Nat} {d e : D} (h : Sz n m d) (g : Sz n' m' e) (hn : n ≤ 64) (hn' : n' ≤ 64) : neX d e = some (.bool (!PyData.eqv d e)) := by
  have : neD d e = some (.bool (!PyData.eqv d e)) := if_pos ⟨h.shaped hn, g.shaped hn'⟩
  unfold neX
  split
  · rename_i x y
    show some (PyData.bool _) = some (PyData.bool _)
    by_cases e : x = y
    · subst e; simp [PyData.eqv]
    · simp [PyData.eqv, e]
  · exact this
theorem Sz.same {n m : Nat} {d : D} (h : Sz n m d) (hn : n ≤ 64) : eqX d d = some (.bool true) := by rw [h.eq h hn hn, PySem.SeqAt.eqv_refl d h.cl]
theorem Sz.unlike {n m : Nat} {d : D} (h : Sz n m d) (hn : n ≤ 64) : neX d d = some (.bool false) := by rw [h.ne h hn hn, PySem.SeqAt.eqv_refl d h.cl]; rfl
theorem Run.repr {n m : Nat} {d : D} {Q : D → Prop} (h : Sz n m d) (hn : n ≤ 64) (hm : m ≤ 390000) (k : Q (.str d.shown)) : @Run D (reprD d) ⟨Q⟩ := ⟨_, h.repr hn hm, k⟩
/-- the same, found by itself -/
class SzC (d : D) (n m : outParam Nat) : Prop where
  h : Sz n m d
class SzsC (ds : List D) (n m : outParam Nat) : Prop where
  h : Szs n m ds
instance : SzC (.bool b) 0 0 := ⟨sz_b⟩
instance : SzC .none 0 0 := ⟨sz_n⟩
instance : SzsC [] 0 0 := ⟨szs_nil⟩
instance {x : D} {xs : List D} {a b n m : Nat} [h : SzC x a b] [g : SzsC xs n m] : SzsC (x :: xs) (max a n) (b + 1 + m) := ⟨szs_cons h.h g.h⟩
instance {xs : List D} {n m : Nat} [h : SzsC xs n m] : SzC (.list xs) (n + 1) m := ⟨sz_list h.h⟩
instance {xs : List D} {n m : Nat} [h : SzsC xs n m] : SzC (.tuple xs) (n + 1) m := ⟨sz_tup h.h⟩
theorem Run.reprC {n m : Nat} {d : D} {Q : D → Prop} [h : SzC d n m] (hb : (decide (n ≤ 64) && decide (m ≤ 390000)) = true) (k : Q (.str d.shown)) : @Run D (reprD d) ⟨Q⟩ := by
  rw [Bool.and_eq_true, decide_eq_true_eq, decide_eq_true_eq] at hb
  exact ⟨_, h.h.repr hb.1 hb.2, k⟩
theorem reprC {n m : Nat} {d : D} [h : SzC d n m] (hb : (decide (n ≤ 64) && decide (m ≤ 390000)) = true) : reprD d = some (.str d.shown) := by
  rw [Bool.and_eq_true, decide_eq_true_eq, decide_eq_true_eq] at hb
  exact h.h.repr hb.1 hb.2
end Gd
end
section
set_option Elab.async false
set_option linter.all false
set_option maxRecDepth 100000
set_option maxHeartbeats 8000000
/-! The later rules, forward. -/
namespace Gx
open PySem PySem.Spec PyProof.Rows L2 Vi Vf Vo Vp Vs Vt Vu Vv Vg Vw Vx Vy Va Vb Vc Vk Vm Vl Vn Vd Vq Vr Vj Ev Ec Ew Gd
section
variable {δ : Δ} {i j : Nat} {d e : D} {ds : List D} {ks : List (List Int)} {f g : Δ → Option (P × Δ)} {a b : Δ → Option D} {as : Δ → Option (List D)} {c : Δ → Option (List D × Δ)} {n m : Int}
theorem tru_b {b : Bool} : truD (.bool b) = some b := rfl
theorem str_at {h : Δ → Option (D × Δ)} : eStr h δ = (h δ).bind fun r => (match r.1 with
  | .str s => some (Vi.strD s, r.2)
  | _ => none) := rfl
end
end Gx
end
section
set_option Elab.async false
set_option linter.all false
set_option maxRecDepth 100000
set_option maxHeartbeats 8000000
/-! The rules of own things moved, forward. -/
namespace Gy
open PySem PySem.Spec PyProof.Rows L2 Vi Vf Vo Vp Vs Vt Vu Vv Vg Vw Vx Vy Va Vb Vc Vk Vm Vl Vn Vd Vq Vr Vj Vfr Ev Ec Ew Gd Gx
section
variable {δ : Δ} {i j k n m : Nat} {d e rd : D} {ds c0 : List D} {dss : List (List D)} {is : List I} {o : O} {os : List O} {f g : Δ → Option (P × Δ)} {a b : Δ → Option (O × Δ)} {as : Δ → Option (List O × Δ)} {c : Δ → Option (List D × Δ)} {t : Δ → Option (Bool × Δ)} {body : Δ → Option Out} {fn : List O → Option (O × Δ)} {h : D → Δ → Option Δ} {vs : List Nat}
theorem goO_map {α β : Type} {enc : α → D} {enc' : β → List D} {gg : α → β} {fx : Δ → Option (List D)} : ∀ {xs : List α}, (∀ a ∈ xs, Good (h (enc a) δ) fun δ' => fx δ' = some (enc' (gg a))) → goO h fx δ (xs.map enc) = some ((xs.map gg).map enc')
  | [], _ => rfl
  | x :: xs, H => by
    obtain ⟨δ', e1, e2⟩ := H x List.mem_cons_self
    rw [List.map_cons, goO, e1, Option.bind_some, e2, Option.bind_some, goO_map fun a ha => H a (List.mem_cons_of_mem _ ha)]
    rfl
theorem Good.goO {α β : Type} {enc : α → D} (enc' : β → List D) (gg : α → β) {fx : Δ → Option (List D)} {xs : List α} {Q : List (List D) → Prop} (H : ∀ a ∈ xs, Good (h (enc a) δ) fun δ' => Good (fx δ') fun r => r = enc' (gg a)) (k : Q ((xs.map gg).map enc')) : Good (Vd.goO h fx δ (xs.map enc)) Q :=
  ⟨_, goO_map (gg := gg) (enc' := enc') fun a ha => by
    obtain ⟨δ', e1, e2⟩ := H a ha
    exact ⟨δ', e1, e2.out⟩, k⟩
theorem turnsC_c {it : I} : turnsC j body (it :: is) δ = if noLn δ j = true then (body (δ.set j (some (iO it)))).bind fun r => (match r with
    | .nx δ2 => turnsC j body is δ2
    | .ct δ2 => turnsC j body is δ2
    | .bk δ2 => some (.nx δ2)
    | .rt o δ2 => some (.rt o δ2)) else none := by
  first
  | (rw [turnsC]; done)
  | (rw [turnsC]
     split
     · refine congrArg _ (funext fun r => ?_)
       cases r <;> rfl
     · rfl)
/-- a consuming loop -/
theorem turnsC_go {Q : Out → Prop} (J : List I → Δ → Prop) (xs : List I)
    (hs : ∀ pre it post δ, xs = pre ++ it :: post → J pre δ → noLn δ j = true ∧ Good (body (δ.set j (some (iO it)))) (TP (J (pre ++ [it])) Q)) (he : ∀ δ, J xs δ → Q (.nx δ)) :
    ∀ (post pre : List I) (δ : Δ), xs = pre ++ post → J pre δ → Good (turnsC j body post δ) Q
  | [], pre, δ, e, hi => ⟨_, rfl, he δ (by rw [e, List.append_nil]; exact hi)⟩
  | it :: post, pre, δ, e, hi => by
    obtain ⟨hn, r, e2, h2⟩ := hs pre it post δ e hi
    rw [turnsC_c, if_pos hn, e2, Option.bind_some]
    cases r with
    | nx δ2 => exact turnsC_go J xs hs he post (pre ++ [it]) δ2 (by rw [e, List.append_assoc]; rfl) h2
    | ct δ2 => exact turnsC_go J xs hs he post (pre ++ [it]) δ2 (by rw [e, List.append_assoc]; rfl) h2
    | bk δ2 => exact ⟨_, rfl, h2⟩
    | rt o δ2 => exact ⟨_, rfl, h2⟩
theorem Good.turnsC {Q : Out → Prop} {xs : List I} {δ0 : Δ} (J : Δ → List I → Δ → Prop) (h0 : J δ0 [] δ0)
    (hs : ∀ pre it post δ, xs = pre ++ it :: post → J δ0 pre δ → noLn δ j = true ∧ Good (body (δ.set j (some (iO it)))) (TP (J δ0 (pre ++ [it])) Q)) (he : ∀ δ, J δ0 xs δ → Q (.nx δ)) :
    Good (Vfr.turnsC j body xs δ0) Q := turnsC_go (J δ0) xs hs he xs [] δ0 rfl h0
end
end Gy
end
section
set_option Elab.async false
set_option linter.all false
set_option maxRecDepth 100000
set_option maxHeartbeats 8000000
/-! The rules that go forward, in a few. -/
namespace Gw
open PySem PySem.Spec PyProof.Rows L2 Vi Vf Vo Vp Vs Vt Vu Vv Vg Vw Vx Vy Va Vb Vc Vk Vm Vl Vn Vd Vq Vr Vj Vfr Ev Ec Ew Gd Gx Gy
end Gw
end
section
set_option Elab.async false
set_option linter.all false
set_option maxRecDepth 100000
/-! The plain rules of a walk, in one. -/
namespace Gd
end Gd
end
section
set_option Elab.async false
set_option linter.all false
set_option maxRecDepth 100000
set_option maxHeartbeats 8000000
/-! The rules of tuples with own lists, forward. -/
namespace Gt
open PySem PySem.Spec PyProof.Rows L2 Vi Vf Vo Vp Vs Vt Vu Vv Vg Vw Vx Vy Va Vb Vc Vk Vm Vl Vn Vd Vq Vr Vj Vfr Ev Ec Ew Gd Gx
section
variable {δ : Δ} {i j : Nat} {d d0 : D} {ds es : List D} {dss : List (List D)} {is : List I} {g : Δ → Option (List P × Δ)} {m : Δ → Option Out} {ps : List P}
end
end Gt
end
section
set_option Elab.async false
set_option linter.all false
set_option maxRecDepth 100000
/-! Forward rules: list(x) of a slot's list, dicts told, list(zip), reversed, what is lent as it stands. -/
namespace Gd
open PySem PySem.Spec PyProof.Rows L2 Vi Vf Vo Vp Vs Vt Vu Vv Vg Vw Vx Vy Va Vb Vc Vk Vm Vl Vn Vd Vfr Vbo
def dcO : Option (Option O) → Option (List Int × List I)
  | some (some (.dc ks is)) => some (ks, is)
  | _ => none
theorem dcAt_at {δ : Δ} {i : Nat} : dcAt δ i = dcO δ[i]? := by
  unfold dcAt dcO
  cases δ[i]? with
  | none => rfl
  | some u =>
    cases u with
    | none => rfl
    | some o => cases o <;> rfl
theorem din_at {neg : Bool} {i : Nat} {g : Δ → Option (D × Δ)} {δ : Δ} : eDIn neg i g δ = (g δ).bind fun r => (keyD r.1).bind fun n => (dcO r.2[i]?).map fun q => (.bool (neg ^^ decide (n ∈ q.1)), r.2) := by
  unfold eDIn
  simp only [dcAt_at]
theorem dc_at {vs : List Nat} {c : Δ → Option (List D × Δ)} {h : D → Δ → Option Δ} {t : Δ → Option (Bool × Δ)} {g f : Δ → Option (D × Δ)} {δ : Δ} : eDc vs c h t g f δ = (c δ).bind fun r => if r.1.length ≤ sizeLine ∧ vs.all (okv r.2) = true then (lcGo vs h t (pairD g f) r.1 (wipeΔ r.2 vs)).bind fun z => (unpr z.1).bind fun q => if (q.map (·.1)).Nodup then some (.tm (.dc (q.map (·.1)) (q.map fun x => I.fz x.2)), restΔ r.2 z.2 vs) else none else none := rfl
def rv : List D → Option (List D)
  | [.list ds] => some ds.reverse
  | _ => none
end Gd
end
section
set_option Elab.async false
set_option linter.all false
set_option maxRecDepth 100000
set_option maxHeartbeats 4000000
/-! Ranks: by a strict order, how many unlike keys are less. -/
namespace Rk
open PySem PySem.Spec PyProof.Rows L2 Vi Vd Ev Ec Gd
section
variable {α β : Type} [DecidableEq α] [DecidableEq β]
structure Sto (lt : α → α → Bool) : Prop where
  irr : ∀ a, lt a a = false
  tr : ∀ a b c, lt a b = true → lt b c = true → lt a c = true
  tot : ∀ a b, lt a b = false → lt b a = false → a = b
def dq : List α → List α
  | [] => []
  | x :: r => if x ∈ r then dq r else x :: dq r
variable {lt : α → α → Bool} {lt' : β → β → Bool}
/-- the rank of k among ks -/
def rk (lt : α → α → Bool) (ks : List α) (k : α) : Nat := ((dq ks).filter fun x => lt x k).length
end
/-! ### data as keys -/
def Ky := List (Int ⊕ List Nat)
instance : DecidableEq Ky := inferInstanceAs (DecidableEq (List (Int ⊕ List Nat)))
end Rk
end
section
set_option Elab.async false
set_option linter.all false
set_option maxRecDepth 100000
set_option maxHeartbeats 8000000
/-! Defs that many laws share. -/
namespace Lb
open PySem PySem.Spec PyProof.Rows L2 Vi Vf Vo Vp Vs Vt Vu Vv Vg Vw Vx Vy Va Vb Vc Vk Vm Vl Vn Vd Ev Ec Ew Gd Rk
/-- what ranked asks of its keys -/
structure Dat (ds : List D) : Prop where
  b : datB ds = true
  sh : ∀ d ∈ ds, SeqAt.shaped d = true
theorem at_I {c : List Int} {j : Int} (h0 : 0 ≤ j) (h1 : j < c.length) : atI (c.map PyData.int) j = some (.int (c.getD j.toNat 0)) := by
  rw [Ev.atI_int h0 (by simpa using h1), List.getElem?_map, List.getD_eq_getElem?_getD, List.getElem?_eq_getElem (by omega)]
  rfl
/-! ### sorted, each once, the place in it -/
def unD (acc : List D) (d : D) : List D := if (acc.any fun z => PyData.eqv z d) = true then acc else acc ++ [d]
def unl (ds : List D) : List D := (srtD ds).foldl unD []
end Lb
end
section
set_option Elab.async false
set_option linter.all false
set_option maxRecDepth 100000
set_option maxHeartbeats 8000000
namespace K25
open PySem PySem.Spec PyProof.Rows L2 Vi Vf Vo Vp Vs Vt Vu Vv Vg Vw Vx Vy Va Vb Vc Vk Vm Vl Vn Vd Vq Vr Vj Vfr Ev Ec Mo Ew Gd Gx Gy Gt Rk Vxt
open SX (S S_cat S_len S_tl S_inj)
theorem v_draw (a b n : Int) (h : 0 < n) (h2 : n < 1073741824) : ∃ r a' b' : Int, 0 ≤ r ∧ r < n ∧ val f__law_draw [.ln [.int a, .int b], .fz (.int n)] = some (.fz (.int r), [some (.ln [.int a', .int b']), none]) := by
  unfold val f__law_draw m__law_draw
  by_cases ha : 0 < a
  · refine ⟨a % n, a / n, b, Int.emod_nonneg _ (by omega), Int.emod_lt_of_pos _ h, ?_⟩
    simp -implicitDefEqProofs only [Ev.nd1, Ev.nd2, Ev.lent_fz, Ev.lent_ow, Ev.lent_oo, Ev.lent_mx, Ev.lent_ln, Ev.lent_nil, Ev.back_nil, Ev.back_tm, Ev.back_sl, Ev.runM_at, Ev.start_at, Ev.seq_at, Ev.pass_at, Ev.brk_at, Ev.cnt_at, Ev.ret_at, Ev.retN_at, Ev.asg_at, Ev.if_at, Ev.drop_at, Ev.tgt_at, Ev.tup_at, Ev.for_at, Ev.P_at, Ev.F_at, Ev.var_at, Ev.c_at, Ev.op_at, Ev.opF_at, Ev.call_at, Ev.call1_at, Ev.un_at, Ev.isi_at, Ev.nil_at, Ev.cons_at, Ev.aNil_at, Ev.aCons_at, Ev.lst_at', Ev.tupE_at, Ev.mix_at, Ev.t_at, Ev.tru_at, Ev.and_at, Ev.or_at, Ev.not_at, Ev.andV_at, Ev.orV_at, Ev.notV_at, Ev.if2_at, Ev.ix_at', Ev.no_at, Ev.yes_at, Ev.sl_at, Ev.rep_at, Ev.fn_at, Ev.fnK_at, Ev.seqL_at, Ev.seqT_at, Ev.enum_at, Ev.zip_at, Ec.rng1_D, Ec.lr1_D, Ev.lc_at, Ev.lcE_at, Ev.yesT_at, Ev.meth_at, Ev.idx_at, Ev.subApp_at, Ev.sortSet_at, Ev.hName_at, Ev.hNil_at, Ev.hCons_at, Ev.hTup_at, Ev.hSub_at, Ev.turns_nil, Ev.force_fz, Ev.force_ow, Ev.force_oo, Ev.force_mx, Ev.force_sl, Ev.norm_fz, Ev.norm_ow, Ev.norm_sl, Ev.argO_sl, Ev.own_at, Ev.setOwn_at, Ev.flatF, Ev.flatO, Ev.flatL, Ev.data_tm, Ev.data_sl, Ev.toD_fz, Ev.toD_ow, Ev.toD_ln, Ev.toD_oo, Ev.toD_mx, Ev.flat_fz, Ev.flat_ow, Ev.flat_sl, Ev.retP_fz, Ev.retP_ow, Ev.retP_oo, Ev.retP_sl, Ev.putP_fz, Ev.putP_ow, Ev.putP_oo, Ev.putP_mx, Ev.putP_sl, Ev.noLn_at, Ev.argOs_nil, Ev.argOs_cons, Ev.argO_fz, Ev.argO_ow, Ev.slots_nil, Ev.slots_tm, Ev.slots_sl, Ev.bOf_b, Ev.ownP_fz, Ev.ownP_ow, Ev.ownP_sl, Ev.ownPs_nil, Ev.ownPs_cons, Ev.putAll_nil, Ev.putAll_cons, Ev.mixI_nil, Ev.mixI_fz, Ev.mixI_ow, Ev.mixI_oo, Ev.ixD_list, Ev.ixD_tup, Ev.atI_0, Ev.atI_1, Ev.ixN_0, Ev.ixN_1, Ev.gt_ii, Ev.ge_ii, Ev.lt_ii, Ev.le_ii, Ev.add_ii, Ev.add_ll, Ev.sub_ii, Ev.mul_ii, Ev.fdv_ii, Ev.mod_ii, Ev.neg_i, Ev.int_i, Ev.abs_i, Ev.max2_ii, Ev.dvm_ii, Ev.len_l, Ev.len_t, Ev.listO_l, Ev.tupO_l, Ev.ints_map, Ev.intsD_map, Ev.sorted_l, Ev.sl_list, List.map_cons, List.map_nil, List.length_cons, List.length_nil, List.replicate_succ, List.replicate_zero, List.append_nil, List.nil_append, List.cons_append, List.getElem?_cons_zero, List.getElem?_cons_succ, List.getElem?_nil, List.set_cons_zero, List.set_cons_succ, List.set_nil, Option.bind_some, Option.bind_none, Option.map_some, Option.map_none, Nat.reduceAdd, Nat.reduceSub, Nat.reduceEqDiff, Nat.reduceLeDiff, if_true, if_false, reduceCtorEq, List.nodup_nil, Bool.false_eq_true, Bool.not_true, Bool.not_false, Bool.true_and, Bool.false_and, Bool.and_true, Bool.and_false, ↓reduceIte, id_eq, List.tail_cons, Nat.zero_add, List.all_cons, List.all_nil, ne_eq, not_false_eq_true, and_self, and_true, true_and, Ew.dsp1_at, Ew.key_i, Ew.swapNew_at, Ew.rng2_at, Ew.rngD_at, Ew.putP_dc, Ew.dc_at, Ew.din_at, Ew.dput_at, Ew.fnD_at, Ew.retGet_at, Ew.sortD_at, Ew.ext_at, Ew.L_at, Ew.LIx_at, Ew.Sc_at, Ew.callL_at, Ew.opNil_at, Ew.sv_i, Ew.oo_at, Ew.appO_at, Ew.sub2_at, Ew.fnL_at, Ew.subAppL_at, Ew.lcO_at, Ew.walk_at, Bool.true_xor, Bool.false_xor
, ha, decide_true, h, h2]
  · have hb := fmod_range (a := b * 41059 + 2467) (n := 2147483587) (by decide)
    have e1 : in64 ((b * 41059 + 2467).fmod 2147483587) = true := in64_small (by omega) (by omega)
    have hr := fmod_range (a := (((((b * 41059 + 2467).fmod 2147483587) * ((b * 41059 + 2467).fmod 2147483587)).fmod 2147483549).fdiv 19)) h
    refine ⟨_, a, (b * 41059 + 2467).fmod 2147483587, hr.1, hr.2, ?_⟩
    simp -implicitDefEqProofs only [Ev.nd1, Ev.nd2, Ev.lent_fz, Ev.lent_ow, Ev.lent_oo, Ev.lent_mx, Ev.lent_ln, Ev.lent_nil, Ev.back_nil, Ev.back_tm, Ev.back_sl, Ev.runM_at, Ev.start_at, Ev.seq_at, Ev.pass_at, Ev.brk_at, Ev.cnt_at, Ev.ret_at, Ev.retN_at, Ev.asg_at, Ev.if_at, Ev.drop_at, Ev.tgt_at, Ev.tup_at, Ev.for_at, Ev.P_at, Ev.F_at, Ev.var_at, Ev.c_at, Ev.op_at, Ev.opF_at, Ev.call_at, Ev.call1_at, Ev.un_at, Ev.isi_at, Ev.nil_at, Ev.cons_at, Ev.aNil_at, Ev.aCons_at, Ev.lst_at', Ev.tupE_at, Ev.mix_at, Ev.t_at, Ev.tru_at, Ev.and_at, Ev.or_at, Ev.not_at, Ev.andV_at, Ev.orV_at, Ev.notV_at, Ev.if2_at, Ev.ix_at', Ev.no_at, Ev.yes_at, Ev.sl_at, Ev.rep_at, Ev.fn_at, Ev.fnK_at, Ev.seqL_at, Ev.seqT_at, Ev.enum_at, Ev.zip_at, Ec.rng1_D, Ec.lr1_D, Ev.lc_at, Ev.lcE_at, Ev.yesT_at, Ev.meth_at, Ev.idx_at, Ev.subApp_at, Ev.sortSet_at, Ev.hName_at, Ev.hNil_at, Ev.hCons_at, Ev.hTup_at, Ev.hSub_at, Ev.turns_nil, Ev.force_fz, Ev.force_ow, Ev.force_oo, Ev.force_mx, Ev.force_sl, Ev.norm_fz, Ev.norm_ow, Ev.norm_sl, Ev.argO_sl, Ev.own_at, Ev.setOwn_at, Ev.flatF, Ev.flatO, Ev.flatL, Ev.data_tm, Ev.data_sl, Ev.toD_fz, Ev.toD_ow, Ev.toD_ln, Ev.toD_oo, Ev.toD_mx, Ev.flat_fz, Ev.flat_ow, Ev.flat_sl, Ev.retP_fz, Ev.retP_ow, Ev.retP_oo, Ev.retP_sl, Ev.putP_fz, Ev.putP_ow, Ev.putP_oo, Ev.putP_mx, Ev.putP_sl, Ev.noLn_at, Ev.argOs_nil, Ev.argOs_cons, Ev.argO_fz, Ev.argO_ow, Ev.slots_nil, Ev.slots_tm, Ev.slots_sl, Ev.bOf_b, Ev.ownP_fz, Ev.ownP_ow, Ev.ownP_sl, Ev.ownPs_nil, Ev.ownPs_cons, Ev.putAll_nil, Ev.putAll_cons, Ev.mixI_nil, Ev.mixI_fz, Ev.mixI_ow, Ev.mixI_oo, Ev.ixD_list, Ev.ixD_tup, Ev.atI_0, Ev.atI_1, Ev.ixN_0, Ev.ixN_1, Ev.gt_ii, Ev.ge_ii, Ev.lt_ii, Ev.le_ii, Ev.add_ii, Ev.add_ll, Ev.sub_ii, Ev.mul_ii, Ev.fdv_ii, Ev.mod_ii, Ev.neg_i, Ev.int_i, Ev.abs_i, Ev.max2_ii, Ev.dvm_ii, Ev.len_l, Ev.len_t, Ev.listO_l, Ev.tupO_l, Ev.ints_map, Ev.intsD_map, Ev.sorted_l, Ev.sl_list, List.map_cons, List.map_nil, List.length_cons, List.length_nil, List.replicate_succ, List.replicate_zero, List.append_nil, List.nil_append, List.cons_append, List.getElem?_cons_zero, List.getElem?_cons_succ, List.getElem?_nil, List.set_cons_zero, List.set_cons_succ, List.set_nil, Option.bind_some, Option.bind_none, Option.map_some, Option.map_none, Nat.reduceAdd, Nat.reduceSub, Nat.reduceEqDiff, Nat.reduceLeDiff, if_true, if_false, reduceCtorEq, List.nodup_nil, Bool.false_eq_true, Bool.not_true, Bool.not_false, Bool.true_and, Bool.false_and, Bool.and_true, Bool.and_false, ↓reduceIte, id_eq, List.tail_cons, Nat.zero_add, List.all_cons, List.all_nil, ne_eq, not_false_eq_true, and_self, and_true, true_and, Ew.dsp1_at, Ew.key_i, Ew.swapNew_at, Ew.rng2_at, Ew.rngD_at, Ew.putP_dc, Ew.dc_at, Ew.din_at, Ew.dput_at, Ew.fnD_at, Ew.retGet_at, Ew.sortD_at, Ew.ext_at, Ew.L_at, Ew.LIx_at, Ew.Sc_at, Ew.callL_at, Ew.opNil_at, Ew.sv_i, Ew.oo_at, Ew.appO_at, Ew.sub2_at, Ew.fnL_at, Ew.subAppL_at, Ew.lcO_at, Ew.walk_at, Bool.true_xor, Bool.false_xor
, ha, decide_false, e1, (by decide : in64 41059 = true), Bool.or_true, Bool.or_self, (by decide : (2147483587 : Int) ≠ 0), (by decide : (2147483549 : Int) ≠ 0), (by decide : (19 : Int) ≠ 0 ∧ (19 : Int).natAbs < 1073741824), (show n ≠ 0 by omega)]
theorem v_pot (ns : List Int) (k : Int) (hk : 0 ≤ k) : ∃ a b : Int, val f__law_pot [.fz (.list (ns.map .int)), .fz (.int k)] = some (.ow [.int a, .int b], [none, none]) := by
  unfold val f__law_pot m__law_pot
  by_cases h : k < ((ns.map PyData.int).length : Int)
  · have hg : ∃ c : Int, atI (ns.map PyData.int) k = some (.int c) := by
      rw [Ev.atI_int hk h]
      have : k.toNat < ns.length := by rw [List.length_map] at h; omega
      exact ⟨ns[k.toNat], by simp [this]⟩
    obtain ⟨c, hc⟩ := hg
    simp -implicitDefEqProofs only [Ev.nd1, Ev.nd2, Ev.lent_fz, Ev.lent_ow, Ev.lent_oo, Ev.lent_mx, Ev.lent_ln, Ev.lent_nil, Ev.back_nil, Ev.back_tm, Ev.back_sl, Ev.runM_at, Ev.start_at, Ev.seq_at, Ev.pass_at, Ev.brk_at, Ev.cnt_at, Ev.ret_at, Ev.retN_at, Ev.asg_at, Ev.if_at, Ev.drop_at, Ev.tgt_at, Ev.tup_at, Ev.for_at, Ev.P_at, Ev.F_at, Ev.var_at, Ev.c_at, Ev.op_at, Ev.opF_at, Ev.call_at, Ev.call1_at, Ev.un_at, Ev.isi_at, Ev.nil_at, Ev.cons_at, Ev.aNil_at, Ev.aCons_at, Ev.lst_at', Ev.tupE_at, Ev.mix_at, Ev.t_at, Ev.tru_at, Ev.and_at, Ev.or_at, Ev.not_at, Ev.andV_at, Ev.orV_at, Ev.notV_at, Ev.if2_at, Ev.ix_at', Ev.no_at, Ev.yes_at, Ev.sl_at, Ev.rep_at, Ev.fn_at, Ev.fnK_at, Ev.seqL_at, Ev.seqT_at, Ev.enum_at, Ev.zip_at, Ec.rng1_D, Ec.lr1_D, Ev.lc_at, Ev.lcE_at, Ev.yesT_at, Ev.meth_at, Ev.idx_at, Ev.subApp_at, Ev.sortSet_at, Ev.hName_at, Ev.hNil_at, Ev.hCons_at, Ev.hTup_at, Ev.hSub_at, Ev.turns_nil, Ev.force_fz, Ev.force_ow, Ev.force_oo, Ev.force_mx, Ev.force_sl, Ev.norm_fz, Ev.norm_ow, Ev.norm_sl, Ev.argO_sl, Ev.own_at, Ev.setOwn_at, Ev.flatF, Ev.flatO, Ev.flatL, Ev.data_tm, Ev.data_sl, Ev.toD_fz, Ev.toD_ow, Ev.toD_ln, Ev.toD_oo, Ev.toD_mx, Ev.flat_fz, Ev.flat_ow, Ev.flat_sl, Ev.retP_fz, Ev.retP_ow, Ev.retP_oo, Ev.retP_sl, Ev.putP_fz, Ev.putP_ow, Ev.putP_oo, Ev.putP_mx, Ev.putP_sl, Ev.noLn_at, Ev.argOs_nil, Ev.argOs_cons, Ev.argO_fz, Ev.argO_ow, Ev.slots_nil, Ev.slots_tm, Ev.slots_sl, Ev.bOf_b, Ev.ownP_fz, Ev.ownP_ow, Ev.ownP_sl, Ev.ownPs_nil, Ev.ownPs_cons, Ev.putAll_nil, Ev.putAll_cons, Ev.mixI_nil, Ev.mixI_fz, Ev.mixI_ow, Ev.mixI_oo, Ev.ixD_list, Ev.ixD_tup, Ev.atI_0, Ev.atI_1, Ev.ixN_0, Ev.ixN_1, Ev.gt_ii, Ev.ge_ii, Ev.lt_ii, Ev.le_ii, Ev.add_ii, Ev.add_ll, Ev.sub_ii, Ev.mul_ii, Ev.fdv_ii, Ev.mod_ii, Ev.neg_i, Ev.int_i, Ev.abs_i, Ev.max2_ii, Ev.dvm_ii, Ev.len_l, Ev.len_t, Ev.listO_l, Ev.tupO_l, Ev.ints_map, Ev.intsD_map, Ev.sorted_l, Ev.sl_list, List.map_cons, List.map_nil, List.length_cons, List.length_nil, List.replicate_succ, List.replicate_zero, List.append_nil, List.nil_append, List.cons_append, List.getElem?_cons_zero, List.getElem?_cons_succ, List.getElem?_nil, List.set_cons_zero, List.set_cons_succ, List.set_nil, Option.bind_some, Option.bind_none, Option.map_some, Option.map_none, Nat.reduceAdd, Nat.reduceSub, Nat.reduceEqDiff, Nat.reduceLeDiff, if_true, if_false, reduceCtorEq, List.nodup_nil, Bool.false_eq_true, Bool.not_true, Bool.not_false, Bool.true_and, Bool.false_and, Bool.and_true, Bool.and_false, ↓reduceIte, id_eq, List.tail_cons, Nat.zero_add, List.all_cons, List.all_nil, ne_eq, not_false_eq_true, and_self, and_true, true_and, Ew.dsp1_at, Ew.key_i, Ew.swapNew_at, Ew.rng2_at, Ew.rngD_at, Ew.putP_dc, Ew.dc_at, Ew.din_at, Ew.dput_at, Ew.fnD_at, Ew.retGet_at, Ew.sortD_at, Ew.ext_at, Ew.L_at, Ew.LIx_at, Ew.Sc_at, Ew.callL_at, Ew.opNil_at, Ew.sv_i, Ew.oo_at, Ew.appO_at, Ew.sub2_at, Ew.fnL_at, Ew.subAppL_at, Ew.lcO_at, Ew.walk_at, Bool.true_xor, Bool.false_xor
, h, hc, decide_true, (by decide : in64 613 = true), (by decide : in64 41047 = true), (by decide : in64 2467 = true), Bool.or_true, Bool.true_or, (by decide : (2147483549 : Int) ≠ 0), (by decide : (2147483563 : Int) ≠ 0), (show powI (.int 10) (.int 18) = some (.int (10 ^ 18)) from rfl), (by decide : 2 ≤ sizeLine)]
    exact ⟨_, _, rfl⟩
  · simp -implicitDefEqProofs only [Ev.nd1, Ev.nd2, Ev.lent_fz, Ev.lent_ow, Ev.lent_oo, Ev.lent_mx, Ev.lent_ln, Ev.lent_nil, Ev.back_nil, Ev.back_tm, Ev.back_sl, Ev.runM_at, Ev.start_at, Ev.seq_at, Ev.pass_at, Ev.brk_at, Ev.cnt_at, Ev.ret_at, Ev.retN_at, Ev.asg_at, Ev.if_at, Ev.drop_at, Ev.tgt_at, Ev.tup_at, Ev.for_at, Ev.P_at, Ev.F_at, Ev.var_at, Ev.c_at, Ev.op_at, Ev.opF_at, Ev.call_at, Ev.call1_at, Ev.un_at, Ev.isi_at, Ev.nil_at, Ev.cons_at, Ev.aNil_at, Ev.aCons_at, Ev.lst_at', Ev.tupE_at, Ev.mix_at, Ev.t_at, Ev.tru_at, Ev.and_at, Ev.or_at, Ev.not_at, Ev.andV_at, Ev.orV_at, Ev.notV_at, Ev.if2_at, Ev.ix_at', Ev.no_at, Ev.yes_at, Ev.sl_at, Ev.rep_at, Ev.fn_at, Ev.fnK_at, Ev.seqL_at, Ev.seqT_at, Ev.enum_at, Ev.zip_at, Ec.rng1_D, Ec.lr1_D, Ev.lc_at, Ev.lcE_at, Ev.yesT_at, Ev.meth_at, Ev.idx_at, Ev.subApp_at, Ev.sortSet_at, Ev.hName_at, Ev.hNil_at, Ev.hCons_at, Ev.hTup_at, Ev.hSub_at, Ev.turns_nil, Ev.force_fz, Ev.force_ow, Ev.force_oo, Ev.force_mx, Ev.force_sl, Ev.norm_fz, Ev.norm_ow, Ev.norm_sl, Ev.argO_sl, Ev.own_at, Ev.setOwn_at, Ev.flatF, Ev.flatO, Ev.flatL, Ev.data_tm, Ev.data_sl, Ev.toD_fz, Ev.toD_ow, Ev.toD_ln, Ev.toD_oo, Ev.toD_mx, Ev.flat_fz, Ev.flat_ow, Ev.flat_sl, Ev.retP_fz, Ev.retP_ow, Ev.retP_oo, Ev.retP_sl, Ev.putP_fz, Ev.putP_ow, Ev.putP_oo, Ev.putP_mx, Ev.putP_sl, Ev.noLn_at, Ev.argOs_nil, Ev.argOs_cons, Ev.argO_fz, Ev.argO_ow, Ev.slots_nil, Ev.slots_tm, Ev.slots_sl, Ev.bOf_b, Ev.ownP_fz, Ev.ownP_ow, Ev.ownP_sl, Ev.ownPs_nil, Ev.ownPs_cons, Ev.putAll_nil, Ev.putAll_cons, Ev.mixI_nil, Ev.mixI_fz, Ev.mixI_ow, Ev.mixI_oo, Ev.ixD_list, Ev.ixD_tup, Ev.atI_0, Ev.atI_1, Ev.ixN_0, Ev.ixN_1, Ev.gt_ii, Ev.ge_ii, Ev.lt_ii, Ev.le_ii, Ev.add_ii, Ev.add_ll, Ev.sub_ii, Ev.mul_ii, Ev.fdv_ii, Ev.mod_ii, Ev.neg_i, Ev.int_i, Ev.abs_i, Ev.max2_ii, Ev.dvm_ii, Ev.len_l, Ev.len_t, Ev.listO_l, Ev.tupO_l, Ev.ints_map, Ev.intsD_map, Ev.sorted_l, Ev.sl_list, List.map_cons, List.map_nil, List.length_cons, List.length_nil, List.replicate_succ, List.replicate_zero, List.append_nil, List.nil_append, List.cons_append, List.getElem?_cons_zero, List.getElem?_cons_succ, List.getElem?_nil, List.set_cons_zero, List.set_cons_succ, List.set_nil, Option.bind_some, Option.bind_none, Option.map_some, Option.map_none, Nat.reduceAdd, Nat.reduceSub, Nat.reduceEqDiff, Nat.reduceLeDiff, if_true, if_false, reduceCtorEq, List.nodup_nil, Bool.false_eq_true, Bool.not_true, Bool.not_false, Bool.true_and, Bool.false_and, Bool.and_true, Bool.and_false, ↓reduceIte, id_eq, List.tail_cons, Nat.zero_add, List.all_cons, List.all_nil, ne_eq, not_false_eq_true, and_self, and_true, true_and, Ew.dsp1_at, Ew.key_i, Ew.swapNew_at, Ew.rng2_at, Ew.rngD_at, Ew.putP_dc, Ew.dc_at, Ew.din_at, Ew.dput_at, Ew.fnD_at, Ew.retGet_at, Ew.sortD_at, Ew.ext_at, Ew.L_at, Ew.LIx_at, Ew.Sc_at, Ew.callL_at, Ew.opNil_at, Ew.sv_i, Ew.oo_at, Ew.appO_at, Ew.sub2_at, Ew.fnL_at, Ew.subAppL_at, Ew.lcO_at, Ew.walk_at, Bool.true_xor, Bool.false_xor
, h, decide_false, (by decide : in64 613 = true), (by decide : in64 41047 = true), (by decide : in64 2467 = true), Bool.or_true, Bool.true_or, (by decide : (2147483549 : Int) ≠ 0), (by decide : (2147483563 : Int) ≠ 0), (show powI (.int 10) (.int 18) = some (.int (10 ^ 18)) from rfl), (by decide : 2 ≤ sizeLine)]
    exact ⟨_, _, rfl⟩
/-! ### signs -/
def isW (c : Nat) : Bool := decide (97 ≤ c ∧ c ≤ 122) || decide (48 ≤ c ∧ c ≤ 57)
def isL (c : Nat) : Bool := decide (97 ≤ c ∧ c ≤ 122)
theorem ixS_list {ds : List D} {e : D} : ixS (.list ds) e = none := rfl
theorem ixS_str {z : Str} {i : Int} : ixS (.str z) (.int i) = if z.length ≤ sizeLine then (atI z.cps.toList i).map fun c => .str ⟨#[c]⟩ else none := rfl
theorem cs_a : (Str.ofString "a") = S [97] := by decide +kernel
theorem cs_z : (Str.ofString "z") = S [122] := by decide +kernel
theorem cs_0 : (Str.ofString "0") = S [48] := by decide +kernel
theorem cs_9 : (Str.ofString "9") = S [57] := by decide +kernel
theorem cs_sp : (Str.ofString " ") = S [32] := by decide +kernel
theorem cs_no : (Str.ofString "") = S [] := by decide +kernel
theorem cs_hash : (Str.ofString "#") = S [35] := by decide +kernel
theorem cs_nl : (Str.ofString "\n") = S [10] := by decide +kernel
theorem cs_sc : (Str.ofString ";") = S [59] := by decide +kernel
theorem mem_abc (c : Nat) : decide (c ∈ (Str.ofString "abcdefghijklmnopqrstuvwxyz0123456789").cps.toList) = isW c := by
  have e : (Str.ofString "abcdefghijklmnopqrstuvwxyz0123456789").cps.toList = (List.range 26).map (· + 97) ++ (List.range 10).map (· + 48) := by decide +kernel
  rw [e, isW, Bool.eq_iff_iff]
  simp only [decide_eq_true_eq, Bool.or_eq_true, List.mem_append, List.mem_map, List.mem_range]
  constructor
  · rintro (⟨x, h, rfl⟩ | ⟨x, h, rfl⟩) <;> omega
  · rintro (h | h)
    · exact .inl ⟨c - 97, by omega, by omega⟩
    · exact .inr ⟨c - 48, by omega, by omega⟩
theorem mem_dig (c : Nat) : decide (c ∈ (Str.ofString "0123456789").cps.toList) = decide (48 ≤ c ∧ c ≤ 57) := by
  have e : (Str.ofString "0123456789").cps.toList = (List.range 10).map (· + 48) := by decide +kernel
  rw [e, Bool.eq_iff_iff]
  simp only [decide_eq_true_eq, List.mem_map, List.mem_range]
  constructor
  · rintro ⟨x, h, rfl⟩; omega
  · rintro h
    exact ⟨c - 48, by omega, by omega⟩
theorem le_ss (a b : Nat) : leA (.str ⟨#[a]⟩) (.str ⟨#[b]⟩) = some (.bool (decide (a ≤ b))) := by
  have e : PySem.W.dataLt (.str ⟨#[b]⟩) (.str ⟨#[a]⟩) = decide (b < a) := by
    rw [PySem.W.dataLt_str]
    show decide ([b] < [a]) = _
    refine decide_eq_decide.mpr ⟨fun h => ?_, fun h => List.Lex.rel h⟩
    cases h with
    | rel h => exact h
    | cons h => cases h
  unfold leA
  dsimp only
  show (if _ then some (PyData.bool (!PySem.W.dataLt (.str ⟨#[b]⟩) (.str ⟨#[a]⟩))) else none) = _
  rw [if_pos ⟨by simp [PySem.W.alike], rfl, by show min 0 0 ≤ 64; omega⟩, e]
  congr 2
  rw [Bool.eq_iff_iff]
  simp
theorem le_ii {a b : Int} : leA (.int a) (.int b) = some (.bool (decide (a ≤ b))) := rfl
theorem chK_t {x : Option (D × Δ)} {δ : Δ} : chK (.bool true) x δ = x := rfl
theorem chK_f {x : Option (D × Δ)} {δ : Δ} : chK (.bool false) x δ = some (.bool false, δ) := rfl
theorem v_isl (c : Nat) : val f_is_letter [.fz (.str ⟨#[c]⟩)] = some (.fz (.bool (isL c)), [none]) := by
  unfold val f_is_letter m_is_letter isL
  by_cases h1 : 97 ≤ c <;> by_cases h2 : c ≤ 122 <;> simp -implicitDefEqProofs only [Ev.nd1, Ev.nd2, Ev.lent_fz, Ev.lent_ow, Ev.lent_oo, Ev.lent_mx, Ev.lent_ln, Ev.lent_nil, Ev.back_nil, Ev.back_tm, Ev.back_sl, Ev.runM_at, Ev.start_at, Ev.seq_at, Ev.pass_at, Ev.brk_at, Ev.cnt_at, Ev.ret_at, Ev.retN_at, Ev.asg_at, Ev.if_at, Ev.drop_at, Ev.tgt_at, Ev.tup_at, Ev.for_at, Ev.P_at, Ev.F_at, Ev.var_at, Ev.c_at, Ev.op_at, Ev.opF_at, Ev.call_at, Ev.call1_at, Ev.un_at, Ev.isi_at, Ev.nil_at, Ev.cons_at, Ev.aNil_at, Ev.aCons_at, Ev.lst_at', Ev.tupE_at, Ev.mix_at, Ev.t_at, Ev.tru_at, Ev.and_at, Ev.or_at, Ev.not_at, Ev.andV_at, Ev.orV_at, Ev.notV_at, Ev.if2_at, Ev.ix_at', Ev.no_at, Ev.yes_at, Ev.sl_at, Ev.rep_at, Ev.fn_at, Ev.fnK_at, Ev.seqL_at, Ev.seqT_at, Ev.enum_at, Ev.zip_at, Ec.rng1_D, Ec.lr1_D, Ev.lc_at, Ev.lcE_at, Ev.yesT_at, Ev.meth_at, Ev.idx_at, Ev.subApp_at, Ev.sortSet_at, Ev.hName_at, Ev.hNil_at, Ev.hCons_at, Ev.hTup_at, Ev.hSub_at, Ev.turns_nil, Ev.force_fz, Ev.force_ow, Ev.force_oo, Ev.force_mx, Ev.force_sl, Ev.norm_fz, Ev.norm_ow, Ev.norm_sl, Ev.argO_sl, Ev.own_at, Ev.setOwn_at, Ev.flatF, Ev.flatO, Ev.flatL, Ev.data_tm, Ev.data_sl, Ev.toD_fz, Ev.toD_ow, Ev.toD_ln, Ev.toD_oo, Ev.toD_mx, Ev.flat_fz, Ev.flat_ow, Ev.flat_sl, Ev.retP_fz, Ev.retP_ow, Ev.retP_oo, Ev.retP_sl, Ev.putP_fz, Ev.putP_ow, Ev.putP_oo, Ev.putP_mx, Ev.putP_sl, Ev.noLn_at, Ev.argOs_nil, Ev.argOs_cons, Ev.argO_fz, Ev.argO_ow, Ev.slots_nil, Ev.slots_tm, Ev.slots_sl, Ev.bOf_b, Ev.ownP_fz, Ev.ownP_ow, Ev.ownP_sl, Ev.ownPs_nil, Ev.ownPs_cons, Ev.putAll_nil, Ev.putAll_cons, Ev.mixI_nil, Ev.mixI_fz, Ev.mixI_ow, Ev.mixI_oo, Ev.ixD_list, Ev.ixD_tup, Ev.atI_0, Ev.atI_1, Ev.ixN_0, Ev.ixN_1, Ev.gt_ii, Ev.ge_ii, Ev.lt_ii, Ev.le_ii, Ev.add_ii, Ev.add_ll, Ev.sub_ii, Ev.mul_ii, Ev.fdv_ii, Ev.mod_ii, Ev.neg_i, Ev.int_i, Ev.abs_i, Ev.max2_ii, Ev.dvm_ii, Ev.len_l, Ev.len_t, Ev.listO_l, Ev.tupO_l, Ev.ints_map, Ev.intsD_map, Ev.sorted_l, Ev.sl_list, List.map_cons, List.map_nil, List.length_cons, List.length_nil, List.replicate_succ, List.replicate_zero, List.append_nil, List.nil_append, List.cons_append, List.getElem?_cons_zero, List.getElem?_cons_succ, List.getElem?_nil, List.set_cons_zero, List.set_cons_succ, List.set_nil, Option.bind_some, Option.bind_none, Option.map_some, Option.map_none, Nat.reduceAdd, Nat.reduceSub, Nat.reduceEqDiff, Nat.reduceLeDiff, if_true, if_false, reduceCtorEq, List.nodup_nil, Bool.false_eq_true, Bool.not_true, Bool.not_false, Bool.true_and, Bool.false_and, Bool.and_true, Bool.and_false, ↓reduceIte, id_eq, List.tail_cons, Nat.zero_add, List.all_cons, List.all_nil, ne_eq, not_false_eq_true, and_self, and_true, true_and, Ew.dsp1_at, Ew.key_i, Ew.swapNew_at, Ew.rng2_at, Ew.rngD_at, Ew.putP_dc, Ew.dc_at, Ew.din_at, Ew.dput_at, Ew.fnD_at, Ew.retGet_at, Ew.sortD_at, Ew.ext_at, Ew.L_at, Ew.LIx_at, Ew.Sc_at, Ew.callL_at, Ew.opNil_at, Ew.sv_i, Ew.oo_at, Ew.appO_at, Ew.sub2_at, Ew.fnL_at, Ew.subAppL_at, Ew.lcO_at, Ew.walk_at, Bool.true_xor, Bool.false_xor
, cs_a, cs_z, chain_at, chK_t, chK_f, le_ss, h1, h2, decide_true, decide_false]
theorem v_isw (c : Nat) : val f_is_word_character [.fz (.str ⟨#[c]⟩)] = some (.fz (.bool (isW c)), [none]) := by
  have e := v_isl c
  unfold val f_is_word_character m_is_word_character
  unfold isW
  unfold isL at e
  by_cases h1 : 97 ≤ c ∧ c ≤ 122 <;> by_cases h3 : 48 ≤ c <;> by_cases h4 : c ≤ 57 <;> simp only [h1, decide_true, decide_false] at e <;> simp -implicitDefEqProofs only [Ev.nd1, Ev.nd2, Ev.lent_fz, Ev.lent_ow, Ev.lent_oo, Ev.lent_mx, Ev.lent_ln, Ev.lent_nil, Ev.back_nil, Ev.back_tm, Ev.back_sl, Ev.runM_at, Ev.start_at, Ev.seq_at, Ev.pass_at, Ev.brk_at, Ev.cnt_at, Ev.ret_at, Ev.retN_at, Ev.asg_at, Ev.if_at, Ev.drop_at, Ev.tgt_at, Ev.tup_at, Ev.for_at, Ev.P_at, Ev.F_at, Ev.var_at, Ev.c_at, Ev.op_at, Ev.opF_at, Ev.call_at, Ev.call1_at, Ev.un_at, Ev.isi_at, Ev.nil_at, Ev.cons_at, Ev.aNil_at, Ev.aCons_at, Ev.lst_at', Ev.tupE_at, Ev.mix_at, Ev.t_at, Ev.tru_at, Ev.and_at, Ev.or_at, Ev.not_at, Ev.andV_at, Ev.orV_at, Ev.notV_at, Ev.if2_at, Ev.ix_at', Ev.no_at, Ev.yes_at, Ev.sl_at, Ev.rep_at, Ev.fn_at, Ev.fnK_at, Ev.seqL_at, Ev.seqT_at, Ev.enum_at, Ev.zip_at, Ec.rng1_D, Ec.lr1_D, Ev.lc_at, Ev.lcE_at, Ev.yesT_at, Ev.meth_at, Ev.idx_at, Ev.subApp_at, Ev.sortSet_at, Ev.hName_at, Ev.hNil_at, Ev.hCons_at, Ev.hTup_at, Ev.hSub_at, Ev.turns_nil, Ev.force_fz, Ev.force_ow, Ev.force_oo, Ev.force_mx, Ev.force_sl, Ev.norm_fz, Ev.norm_ow, Ev.norm_sl, Ev.argO_sl, Ev.own_at, Ev.setOwn_at, Ev.flatF, Ev.flatO, Ev.flatL, Ev.data_tm, Ev.data_sl, Ev.toD_fz, Ev.toD_ow, Ev.toD_ln, Ev.toD_oo, Ev.toD_mx, Ev.flat_fz, Ev.flat_ow, Ev.flat_sl, Ev.retP_fz, Ev.retP_ow, Ev.retP_oo, Ev.retP_sl, Ev.putP_fz, Ev.putP_ow, Ev.putP_oo, Ev.putP_mx, Ev.putP_sl, Ev.noLn_at, Ev.argOs_nil, Ev.argOs_cons, Ev.argO_fz, Ev.argO_ow, Ev.slots_nil, Ev.slots_tm, Ev.slots_sl, Ev.bOf_b, Ev.ownP_fz, Ev.ownP_ow, Ev.ownP_sl, Ev.ownPs_nil, Ev.ownPs_cons, Ev.putAll_nil, Ev.putAll_cons, Ev.mixI_nil, Ev.mixI_fz, Ev.mixI_ow, Ev.mixI_oo, Ev.ixD_list, Ev.ixD_tup, Ev.atI_0, Ev.atI_1, Ev.ixN_0, Ev.ixN_1, Ev.gt_ii, Ev.ge_ii, Ev.lt_ii, Ev.le_ii, Ev.add_ii, Ev.add_ll, Ev.sub_ii, Ev.mul_ii, Ev.fdv_ii, Ev.mod_ii, Ev.neg_i, Ev.int_i, Ev.abs_i, Ev.max2_ii, Ev.dvm_ii, Ev.len_l, Ev.len_t, Ev.listO_l, Ev.tupO_l, Ev.ints_map, Ev.intsD_map, Ev.sorted_l, Ev.sl_list, List.map_cons, List.map_nil, List.length_cons, List.length_nil, List.replicate_succ, List.replicate_zero, List.append_nil, List.nil_append, List.cons_append, List.getElem?_cons_zero, List.getElem?_cons_succ, List.getElem?_nil, List.set_cons_zero, List.set_cons_succ, List.set_nil, Option.bind_some, Option.bind_none, Option.map_some, Option.map_none, Nat.reduceAdd, Nat.reduceSub, Nat.reduceEqDiff, Nat.reduceLeDiff, if_true, if_false, reduceCtorEq, List.nodup_nil, Bool.false_eq_true, Bool.not_true, Bool.not_false, Bool.true_and, Bool.false_and, Bool.and_true, Bool.and_false, ↓reduceIte, id_eq, List.tail_cons, Nat.zero_add, List.all_cons, List.all_nil, ne_eq, not_false_eq_true, and_self, and_true, true_and, Ew.dsp1_at, Ew.key_i, Ew.swapNew_at, Ew.rng2_at, Ew.rngD_at, Ew.putP_dc, Ew.dc_at, Ew.din_at, Ew.dput_at, Ew.fnD_at, Ew.retGet_at, Ew.sortD_at, Ew.ext_at, Ew.L_at, Ew.LIx_at, Ew.Sc_at, Ew.callL_at, Ew.opNil_at, Ew.sv_i, Ew.oo_at, Ew.appO_at, Ew.sub2_at, Ew.fnL_at, Ew.subAppL_at, Ew.lcO_at, Ew.walk_at, Bool.true_xor, Bool.false_xor
, e, cs_0, cs_9, chain_at, chK_t, chK_f, le_ss, h1, h3, h4, decide_true, decide_false, Bool.or_true, Bool.or_false, Bool.or_self]
end K25
end
section
set_option Elab.async false
set_option linter.all false
set_option maxRecDepth 100000
set_option maxHeartbeats 8000000
namespace K25
open PySem PySem.Spec PyProof.Rows L2 Vi Vf Vo Vp Vs Vt Vu Vv Vg Vw Vx Vy Va Vb Vc Vk Vm Vl Vn Vd Vq Vr Vj Vfr Ev Ec Mo Ew Gd Gx Gy Gt Rk Vxt
open SX (S S_cat S_len S_tl S_inj)
/-! ### the words of a line -/
def told (l : List Nat) : List Nat := l.takeWhile fun c => decide (c ≠ 35)
theorem told_cut (l : List Nat) : 35 ∉ told l ∧ (told l = l ∨ ∃ r, l = told l ++ 35 :: r) := by
  induction l with
  | nil => exact ⟨by simp [told], .inl rfl⟩
  | cons c l ih =>
    by_cases h : c = 35
    · subst h
      have e : told (35 :: l) = [] := by simp [told]
      rw [e]
      exact ⟨by simp, .inr ⟨l, rfl⟩⟩
    · have e : told (c :: l) = c :: told l := by simp [told, h]
      rw [e]
      refine ⟨fun m => ?_, ?_⟩
      · rcases List.mem_cons.mp m with z | z
        · exact h z.symm
        · exact ih.1 z
      · rcases ih.2 with z | ⟨r, z⟩
        · exact .inl (by rw [z])
        · exact .inr ⟨r, by rw [List.cons_append, ← z]⟩
theorem told_part (l : List Nat) : (Txt.partition (S l) (S [35])).1 = S (told l) := by
  obtain ⟨h1, h2⟩ := told_cut l
  rcases h2 with z | ⟨r, z⟩
  · rw [SX.partition_none (by simp) (TL.par_none1 (by rw [← z]; exact h1)), z]
  · have := TL.par_part1 (s := 35) (S := []) (acc := []) (rest := r) h1
    rw [SX.partition_some (p := told l) (q := r) (by simp) (by rw [z]; simpa [← z] using this)]
theorem told_split (l : List Nat) : ∃ ps, Txt.split (S l) (S [35]) = S (told l) :: ps := by
  obtain ⟨h1, h2⟩ := told_cut l
  rw [SX.split_S (by simp) (by decide)]
  rcases h2 with z | ⟨r, z⟩
  · rw [TL.spl_last1 (by rw [← z]; exact h1), z]
    exact ⟨[], rfl⟩
  · have := TL.spl_part1 (s := 35) (S := []) (acc := []) (rest := r) h1
    rw [List.nil_append] at this
    refine ⟨(TL.spl [35] 0 [] r).map S, ?_⟩
    have e : TL.spl [35] 0 [] l = told l :: TL.spl [35] 0 [] r := by
      rw [show TL.spl [35] 0 [] l = TL.spl [35] 0 [] (told l ++ ([35] ++ r)) from congrArg _ z]
      exact this
    rw [e, List.map_cons]
theorem told_len (l : List Nat) : (told l).length ≤ l.length := List.Sublist.length_le (List.takeWhile_sublist _)
theorem told_mem {l : List Nat} {c : Nat} (h : c ∈ told l) : c ∈ l := (List.takeWhile_sublist _).mem h
/-- the words and signs of a line, by one walk: st where the word began that is open, w the word -/
def sc : Nat → Nat → List Nat → List Nat → List (Nat × List Nat)
  | _, _, _, [] => []
  | pos, st, w, c :: cs => if isW c = true then sc (pos + 1) (if w = [] then pos else st) (w ++ [c]) cs else
      (if w = [] then [] else [(st, w)]) ++ ((if c = 32 then [] else [(pos, [c])]) ++ sc (pos + 1) st [] cs)
theorem sc_st {cs : List Nat} : ∀ {pos st st' : Nat}, sc pos st [] cs = sc pos st' [] cs := by
  induction cs with
  | nil => intros; rfl
  | cons c cs ih =>
    intro pos st st'
    rw [sc, sc]
    by_cases h : isW c = true
    · rw [if_pos h, if_pos h, if_pos rfl, if_pos rfl]
    · rw [if_neg h, if_neg h, if_pos rfl, if_pos rfl, ih]
theorem sc_run {rest : List Nat} : ∀ {w u : List Nat} {pos st : Nat}, (∀ c ∈ w, isW c = true) → u ≠ [] → sc pos st u (w ++ rest) = sc (pos + w.length) st (u ++ w) rest
  | [], u, pos, st, _, _ => by simp
  | c :: w, u, pos, st, h, hu => by
    rw [List.cons_append, sc, if_pos (h c (by simp)), if_neg hu, sc_run (fun d hd => h d (by simp [hd])) (by simp), List.length_cons, List.append_assoc, show pos + 1 + w.length = pos + (w.length + 1) by omega]
    rfl
theorem sc_end {d : Nat} {rs u : List Nat} {pos st : Nat} (hd : isW d = false) (hu : u ≠ []) : sc pos st u (d :: rs) = (st, u) :: sc pos st [] (d :: rs) := by
  have h : ¬ isW d = true := by rw [hd]; decide
  rw [sc, sc, if_neg h, if_neg h, if_neg hu, if_pos rfl]
  rfl
/-- a word's own turn -/
theorem sc_word {c : Nat} {r : List Nat} {pos st : Nat} (h : isW c = true) : sc pos st [] (c :: r ++ [32]) = (pos, c :: r.takeWhile isW) :: sc (pos + 1 + (r.takeWhile isW).length) pos [] (r.dropWhile isW ++ [32]) := by
  have e : r ++ [32] = r.takeWhile isW ++ (r.dropWhile isW ++ [32]) := by rw [← List.append_assoc, List.takeWhile_append_dropWhile]
  have hd : ∃ d rs, r.dropWhile isW ++ [32] = d :: rs ∧ isW d = false := by
    cases q : r.dropWhile isW with
    | nil => exact ⟨32, [], rfl, rfl⟩
    | cons d rs =>
      refine ⟨d, rs ++ [32], rfl, ?_⟩
      have := List.head_dropWhile_not isW (l := r) (by rw [q]; simp)
      simpa [q] using this
  obtain ⟨d, rs, e2, e3⟩ := hd
  rw [List.cons_append, sc, if_pos h, if_pos rfl, e, sc_run (fun x hx => List.all_eq_true.mp List.all_takeWhile x hx) (by simp), e2, sc_end e3 (by simp)]
  rfl
def tup2 (p : Nat × List Nat) : D := .tuple [.int p.1, .str (S p.2)]
/-! ### line_words -/
theorem atI_S {t : List Nat} {e : Nat} {c : Nat} {r : List Nat} (h : t.drop e = c :: r) : atI t (e : Int) = some c := by
  have hl : e < t.length := by
    have := congrArg List.length h
    rw [List.length_drop, List.length_cons] at this
    omega
  unfold atI
  rw [Ev.ixN_int (by omega) (by omega), Option.bind_some, Int.toNat_natCast]
  have := List.getElem?_drop (xs := t) (i := e) (j := 0)
  rw [h] at this
  simpa using this.symm
theorem len_s {t : List Nat} (h : t.length ≤ 1000) : lenD (.str (S t)) = some (.int (t.length : Nat)) := (if_pos (by rw [S_len, sizeLine_eq]; omega)).trans (by rw [S_len])
theorem inner_lw (line t : List Nat) (fd : List D) (sp : Nat) (ht : t.length ≤ 1000) : ∀ (r : List Nat) (e f : Nat), t.drop e = r → r.length < f →
    mWhile (eAnd (eT (eOp ltI (eVar 4) (eP (eCall1 lenD (eVar 1))))) (eT (eF (eFn f_is_word_character (aCons (eP (eIxS (eF (eVar 1)) (eF (eVar 4)))) aNil))))) (mSeq (mAug 4 (augI (fun a b => a + b)) (eC (.int 1))) mPass) f
      [some (.fz (.str (S line))), some (.fz (.str (S t))), some (.ow (fd)), some (.fz (.int (sp : Nat))), some (.fz (.int (e : Nat)))] = some (.nx [some (.fz (.str (S line))), some (.fz (.str (S t))), some (.ow (fd)), some (.fz (.int (sp : Nat))), some (.fz (.int ((e + (r.takeWhile isW).length : Nat) : Int)))]) := by
  intro r
  induction r with
  | nil =>
    intro e f h hf
    obtain ⟨g, rfl⟩ : ∃ g, f = g + 1 := ⟨f - 1, by omega⟩
    have hl : t.length ≤ e := List.drop_eq_nil_iff.mp h
    rw [while_s]
    simp -implicitDefEqProofs only [Ev.nd1, Ev.nd2, Ev.lent_fz, Ev.lent_ow, Ev.lent_oo, Ev.lent_mx, Ev.lent_ln, Ev.lent_nil, Ev.back_nil, Ev.back_tm, Ev.back_sl, Ev.runM_at, Ev.start_at, Ev.seq_at, Ev.pass_at, Ev.brk_at, Ev.cnt_at, Ev.ret_at, Ev.retN_at, Ev.asg_at, Ev.if_at, Ev.drop_at, Ev.tgt_at, Ev.tup_at, Ev.for_at, Ev.P_at, Ev.F_at, Ev.var_at, Ev.c_at, Ev.op_at, Ev.opF_at, Ev.call_at, Ev.call1_at, Ev.un_at, Ev.isi_at, Ev.nil_at, Ev.cons_at, Ev.aNil_at, Ev.aCons_at, Ev.lst_at', Ev.tupE_at, Ev.mix_at, Ev.t_at, Ev.tru_at, Ev.and_at, Ev.or_at, Ev.not_at, Ev.andV_at, Ev.orV_at, Ev.notV_at, Ev.if2_at, Ev.ix_at', Ev.no_at, Ev.yes_at, Ev.sl_at, Ev.rep_at, Ev.fn_at, Ev.fnK_at, Ev.seqL_at, Ev.seqT_at, Ev.enum_at, Ev.zip_at, Ec.rng1_D, Ec.lr1_D, Ev.lc_at, Ev.lcE_at, Ev.yesT_at, Ev.meth_at, Ev.idx_at, Ev.subApp_at, Ev.sortSet_at, Ev.hName_at, Ev.hNil_at, Ev.hCons_at, Ev.hTup_at, Ev.hSub_at, Ev.turns_nil, Ev.force_fz, Ev.force_ow, Ev.force_oo, Ev.force_mx, Ev.force_sl, Ev.norm_fz, Ev.norm_ow, Ev.norm_sl, Ev.argO_sl, Ev.own_at, Ev.setOwn_at, Ev.flatF, Ev.flatO, Ev.flatL, Ev.data_tm, Ev.data_sl, Ev.toD_fz, Ev.toD_ow, Ev.toD_ln, Ev.toD_oo, Ev.toD_mx, Ev.flat_fz, Ev.flat_ow, Ev.flat_sl, Ev.retP_fz, Ev.retP_ow, Ev.retP_oo, Ev.retP_sl, Ev.putP_fz, Ev.putP_ow, Ev.putP_oo, Ev.putP_mx, Ev.putP_sl, Ev.noLn_at, Ev.argOs_nil, Ev.argOs_cons, Ev.argO_fz, Ev.argO_ow, Ev.slots_nil, Ev.slots_tm, Ev.slots_sl, Ev.bOf_b, Ev.ownP_fz, Ev.ownP_ow, Ev.ownP_sl, Ev.ownPs_nil, Ev.ownPs_cons, Ev.putAll_nil, Ev.putAll_cons, Ev.mixI_nil, Ev.mixI_fz, Ev.mixI_ow, Ev.mixI_oo, Ev.ixD_list, Ev.ixD_tup, Ev.atI_0, Ev.atI_1, Ev.ixN_0, Ev.ixN_1, Ev.gt_ii, Ev.ge_ii, Ev.lt_ii, Ev.le_ii, Ev.add_ii, Ev.add_ll, Ev.sub_ii, Ev.mul_ii, Ev.fdv_ii, Ev.mod_ii, Ev.neg_i, Ev.int_i, Ev.abs_i, Ev.max2_ii, Ev.dvm_ii, Ev.len_l, Ev.len_t, Ev.listO_l, Ev.tupO_l, Ev.ints_map, Ev.intsD_map, Ev.sorted_l, Ev.sl_list, List.map_cons, List.map_nil, List.length_cons, List.length_nil, List.replicate_succ, List.replicate_zero, List.append_nil, List.nil_append, List.cons_append, List.getElem?_cons_zero, List.getElem?_cons_succ, List.getElem?_nil, List.set_cons_zero, List.set_cons_succ, List.set_nil, Option.bind_some, Option.bind_none, Option.map_some, Option.map_none, Nat.reduceAdd, Nat.reduceSub, Nat.reduceEqDiff, Nat.reduceLeDiff, if_true, if_false, reduceCtorEq, List.nodup_nil, Bool.false_eq_true, Bool.not_true, Bool.not_false, Bool.true_and, Bool.false_and, Bool.and_true, Bool.and_false, ↓reduceIte, id_eq, List.tail_cons, Nat.zero_add, List.all_cons, List.all_nil, ne_eq, not_false_eq_true, and_self, and_true, true_and, Ew.dsp1_at, Ew.key_i, Ew.swapNew_at, Ew.rng2_at, Ew.rngD_at, Ew.putP_dc, Ew.dc_at, Ew.din_at, Ew.dput_at, Ew.fnD_at, Ew.retGet_at, Ew.sortD_at, Ew.ext_at, Ew.L_at, Ew.LIx_at, Ew.Sc_at, Ew.callL_at, Ew.opNil_at, Ew.sv_i, Ew.oo_at, Ew.appO_at, Ew.sub2_at, Ew.fnL_at, Ew.subAppL_at, Ew.lcO_at, Ew.walk_at, Bool.true_xor, Bool.false_xor
, len_s ht, (show ¬ (e : Int) < (t.length : Int) by omega), decide_false]
    rfl
  | cons c r ih =>
    intro e f h hf
    obtain ⟨g, rfl⟩ : ∃ g, f = g + 1 := ⟨f - 1, by omega⟩
    have hl : e < t.length := by
      have := congrArg List.length h
      rw [List.length_drop, List.length_cons] at this
      omega
    have hz : (S t).length ≤ sizeLine := by rw [S_len, sizeLine_eq]; omega
    have hd : t.drop (e + 1) = r := by rw [← List.drop_drop, h]; rfl
    have ii := ih (e + 1) g hd (by rw [List.length_cons] at hf; omega)
    have e2 : ((e : Int) + 1) = ((e + 1 : Nat) : Int) := by omega
    have eat : atI (S t).cps.toList (e : Int) = some c := atI_S h
    rw [while_s]
    by_cases hw : isW c = true
    · have e3 : (List.takeWhile isW (c :: r)).length = 1 + (r.takeWhile isW).length := by rw [List.takeWhile_cons_of_pos hw, List.length_cons]; omega
      rw [e3, ← Nat.add_assoc]
      simp -implicitDefEqProofs only [Ev.nd1, Ev.nd2, Ev.lent_fz, Ev.lent_ow, Ev.lent_oo, Ev.lent_mx, Ev.lent_ln, Ev.lent_nil, Ev.back_nil, Ev.back_tm, Ev.back_sl, Ev.runM_at, Ev.start_at, Ev.seq_at, Ev.pass_at, Ev.brk_at, Ev.cnt_at, Ev.ret_at, Ev.retN_at, Ev.asg_at, Ev.if_at, Ev.drop_at, Ev.tgt_at, Ev.tup_at, Ev.for_at, Ev.P_at, Ev.F_at, Ev.var_at, Ev.c_at, Ev.op_at, Ev.opF_at, Ev.call_at, Ev.call1_at, Ev.un_at, Ev.isi_at, Ev.nil_at, Ev.cons_at, Ev.aNil_at, Ev.aCons_at, Ev.lst_at', Ev.tupE_at, Ev.mix_at, Ev.t_at, Ev.tru_at, Ev.and_at, Ev.or_at, Ev.not_at, Ev.andV_at, Ev.orV_at, Ev.notV_at, Ev.if2_at, Ev.ix_at', Ev.no_at, Ev.yes_at, Ev.sl_at, Ev.rep_at, Ev.fn_at, Ev.fnK_at, Ev.seqL_at, Ev.seqT_at, Ev.enum_at, Ev.zip_at, Ec.rng1_D, Ec.lr1_D, Ev.lc_at, Ev.lcE_at, Ev.yesT_at, Ev.meth_at, Ev.idx_at, Ev.subApp_at, Ev.sortSet_at, Ev.hName_at, Ev.hNil_at, Ev.hCons_at, Ev.hTup_at, Ev.hSub_at, Ev.turns_nil, Ev.force_fz, Ev.force_ow, Ev.force_oo, Ev.force_mx, Ev.force_sl, Ev.norm_fz, Ev.norm_ow, Ev.norm_sl, Ev.argO_sl, Ev.own_at, Ev.setOwn_at, Ev.flatF, Ev.flatO, Ev.flatL, Ev.data_tm, Ev.data_sl, Ev.toD_fz, Ev.toD_ow, Ev.toD_ln, Ev.toD_oo, Ev.toD_mx, Ev.flat_fz, Ev.flat_ow, Ev.flat_sl, Ev.retP_fz, Ev.retP_ow, Ev.retP_oo, Ev.retP_sl, Ev.putP_fz, Ev.putP_ow, Ev.putP_oo, Ev.putP_mx, Ev.putP_sl, Ev.noLn_at, Ev.argOs_nil, Ev.argOs_cons, Ev.argO_fz, Ev.argO_ow, Ev.slots_nil, Ev.slots_tm, Ev.slots_sl, Ev.bOf_b, Ev.ownP_fz, Ev.ownP_ow, Ev.ownP_sl, Ev.ownPs_nil, Ev.ownPs_cons, Ev.putAll_nil, Ev.putAll_cons, Ev.mixI_nil, Ev.mixI_fz, Ev.mixI_ow, Ev.mixI_oo, Ev.ixD_list, Ev.ixD_tup, Ev.atI_0, Ev.atI_1, Ev.ixN_0, Ev.ixN_1, Ev.gt_ii, Ev.ge_ii, Ev.lt_ii, Ev.le_ii, Ev.add_ii, Ev.add_ll, Ev.sub_ii, Ev.mul_ii, Ev.fdv_ii, Ev.mod_ii, Ev.neg_i, Ev.int_i, Ev.abs_i, Ev.max2_ii, Ev.dvm_ii, Ev.len_l, Ev.len_t, Ev.listO_l, Ev.tupO_l, Ev.ints_map, Ev.intsD_map, Ev.sorted_l, Ev.sl_list, List.map_cons, List.map_nil, List.length_cons, List.length_nil, List.replicate_succ, List.replicate_zero, List.append_nil, List.nil_append, List.cons_append, List.getElem?_cons_zero, List.getElem?_cons_succ, List.getElem?_nil, List.set_cons_zero, List.set_cons_succ, List.set_nil, Option.bind_some, Option.bind_none, Option.map_some, Option.map_none, Nat.reduceAdd, Nat.reduceSub, Nat.reduceEqDiff, Nat.reduceLeDiff, if_true, if_false, reduceCtorEq, List.nodup_nil, Bool.false_eq_true, Bool.not_true, Bool.not_false, Bool.true_and, Bool.false_and, Bool.and_true, Bool.and_false, ↓reduceIte, id_eq, List.tail_cons, Nat.zero_add, List.all_cons, List.all_nil, ne_eq, not_false_eq_true, and_self, and_true, true_and, Ew.dsp1_at, Ew.key_i, Ew.swapNew_at, Ew.rng2_at, Ew.rngD_at, Ew.putP_dc, Ew.dc_at, Ew.din_at, Ew.dput_at, Ew.fnD_at, Ew.retGet_at, Ew.sortD_at, Ew.ext_at, Ew.L_at, Ew.LIx_at, Ew.Sc_at, Ew.callL_at, Ew.opNil_at, Ew.sv_i, Ew.oo_at, Ew.appO_at, Ew.sub2_at, Ew.fnL_at, Ew.subAppL_at, Ew.lcO_at, Ew.walk_at, Bool.true_xor, Bool.false_xor
, len_s ht, (show (e : Int) < (t.length : Int) by omega), eIxS, ixS_str, hz, eat, v_isw c, hw, Gd.aug_at, Gd.fzAt_s, augI, e2, ii, decide_true]
    · have e3 : (List.takeWhile isW (c :: r)).length = 0 := by rw [List.takeWhile_cons_of_neg hw]; rfl
      rw [e3]
      simp -implicitDefEqProofs only [Ev.nd1, Ev.nd2, Ev.lent_fz, Ev.lent_ow, Ev.lent_oo, Ev.lent_mx, Ev.lent_ln, Ev.lent_nil, Ev.back_nil, Ev.back_tm, Ev.back_sl, Ev.runM_at, Ev.start_at, Ev.seq_at, Ev.pass_at, Ev.brk_at, Ev.cnt_at, Ev.ret_at, Ev.retN_at, Ev.asg_at, Ev.if_at, Ev.drop_at, Ev.tgt_at, Ev.tup_at, Ev.for_at, Ev.P_at, Ev.F_at, Ev.var_at, Ev.c_at, Ev.op_at, Ev.opF_at, Ev.call_at, Ev.call1_at, Ev.un_at, Ev.isi_at, Ev.nil_at, Ev.cons_at, Ev.aNil_at, Ev.aCons_at, Ev.lst_at', Ev.tupE_at, Ev.mix_at, Ev.t_at, Ev.tru_at, Ev.and_at, Ev.or_at, Ev.not_at, Ev.andV_at, Ev.orV_at, Ev.notV_at, Ev.if2_at, Ev.ix_at', Ev.no_at, Ev.yes_at, Ev.sl_at, Ev.rep_at, Ev.fn_at, Ev.fnK_at, Ev.seqL_at, Ev.seqT_at, Ev.enum_at, Ev.zip_at, Ec.rng1_D, Ec.lr1_D, Ev.lc_at, Ev.lcE_at, Ev.yesT_at, Ev.meth_at, Ev.idx_at, Ev.subApp_at, Ev.sortSet_at, Ev.hName_at, Ev.hNil_at, Ev.hCons_at, Ev.hTup_at, Ev.hSub_at, Ev.turns_nil, Ev.force_fz, Ev.force_ow, Ev.force_oo, Ev.force_mx, Ev.force_sl, Ev.norm_fz, Ev.norm_ow, Ev.norm_sl, Ev.argO_sl, Ev.own_at, Ev.setOwn_at, Ev.flatF, Ev.flatO, Ev.flatL, Ev.data_tm, Ev.data_sl, Ev.toD_fz, Ev.toD_ow, Ev.toD_ln, Ev.toD_oo, Ev.toD_mx, Ev.flat_fz, Ev.flat_ow, Ev.flat_sl, Ev.retP_fz, Ev.retP_ow, Ev.retP_oo, Ev.retP_sl, Ev.putP_fz, Ev.putP_ow, Ev.putP_oo, Ev.putP_mx, Ev.putP_sl, Ev.noLn_at, Ev.argOs_nil, Ev.argOs_cons, Ev.argO_fz, Ev.argO_ow, Ev.slots_nil, Ev.slots_tm, Ev.slots_sl, Ev.bOf_b, Ev.ownP_fz, Ev.ownP_ow, Ev.ownP_sl, Ev.ownPs_nil, Ev.ownPs_cons, Ev.putAll_nil, Ev.putAll_cons, Ev.mixI_nil, Ev.mixI_fz, Ev.mixI_ow, Ev.mixI_oo, Ev.ixD_list, Ev.ixD_tup, Ev.atI_0, Ev.atI_1, Ev.ixN_0, Ev.ixN_1, Ev.gt_ii, Ev.ge_ii, Ev.lt_ii, Ev.le_ii, Ev.add_ii, Ev.add_ll, Ev.sub_ii, Ev.mul_ii, Ev.fdv_ii, Ev.mod_ii, Ev.neg_i, Ev.int_i, Ev.abs_i, Ev.max2_ii, Ev.dvm_ii, Ev.len_l, Ev.len_t, Ev.listO_l, Ev.tupO_l, Ev.ints_map, Ev.intsD_map, Ev.sorted_l, Ev.sl_list, List.map_cons, List.map_nil, List.length_cons, List.length_nil, List.replicate_succ, List.replicate_zero, List.append_nil, List.nil_append, List.cons_append, List.getElem?_cons_zero, List.getElem?_cons_succ, List.getElem?_nil, List.set_cons_zero, List.set_cons_succ, List.set_nil, Option.bind_some, Option.bind_none, Option.map_some, Option.map_none, Nat.reduceAdd, Nat.reduceSub, Nat.reduceEqDiff, Nat.reduceLeDiff, if_true, if_false, reduceCtorEq, List.nodup_nil, Bool.false_eq_true, Bool.not_true, Bool.not_false, Bool.true_and, Bool.false_and, Bool.and_true, Bool.and_false, ↓reduceIte, id_eq, List.tail_cons, Nat.zero_add, List.all_cons, List.all_nil, ne_eq, not_false_eq_true, and_self, and_true, true_and, Ew.dsp1_at, Ew.key_i, Ew.swapNew_at, Ew.rng2_at, Ew.rngD_at, Ew.putP_dc, Ew.dc_at, Ew.din_at, Ew.dput_at, Ew.fnD_at, Ew.retGet_at, Ew.sortD_at, Ew.ext_at, Ew.L_at, Ew.LIx_at, Ew.Sc_at, Ew.callL_at, Ew.opNil_at, Ew.sv_i, Ew.oo_at, Ew.appO_at, Ew.sub2_at, Ew.fnL_at, Ew.subAppL_at, Ew.lcO_at, Ew.walk_at, Bool.true_xor, Bool.false_xor
, len_s ht, (show (e : Int) < (t.length : Int) by omega), eIxS, ixS_str, hz, eat, v_isw c, hw, decide_true]
      rfl
end K25
end
section
set_option Elab.async false
set_option linter.all false
set_option maxRecDepth 100000
set_option maxHeartbeats 8000000
namespace K25
open PySem PySem.Spec PyProof.Rows L2 Vi Vf Vo Vp Vs Vt Vu Vv Vg Vw Vx Vy Va Vb Vc Vk Vm Vl Vn Vd Vq Vr Vj Vfr Ev Ec Mo Ew Gd Gx Gy Gt Rk Vxt
open SX (S S_cat S_len S_tl S_inj)
theorem ne_S1 {c d : Nat} : neX (.str ⟨#[c]⟩) (.str (S [d])) = some (.bool (decide (c ≠ d))) := by
  rw [Ec.ne_ss]
  congr 2
  rw [Bool.eq_iff_iff]
  simp [S]
theorem slice_S {t : List Nat} {a b : Nat} (h : a ≤ b) (hb : b ≤ t.length) : Txt.slice (S t) (some (a : Int)) (some (b : Int)) = S ((t.drop a).take (b - a)) :=
  TL.ext_tl (PySem.W.os_slice (t := S t) h (by rw [S_len]; exact hb))
theorem outer_lw (line t : List Nat) (ht : t.length ≤ 1000) : ∀ (n : Nat) (sp f : Nat) (fd : List D) (e0 : Option O), (t.drop sp).length ≤ n → n < f → fd.length + n ≤ 4000 → (e0 = none ∨ ∃ z, e0 = some (.fz (.int z))) → ∃ (sp' : Nat) (e' : Option O),
    mWhile (eT (eOp ltI (eVar 3) (eP (eCall1 lenD (eVar 1))))) (mSeq (mAsg 4 (eOpF addO (eF (eVar 3)) (eC (.int 1)))) (mSeq (mIf (eT (eF (eFn f_is_word_character (aCons (eP (eIxS (eF (eVar 1)) (eF (eVar 3)))) aNil)))) (mSeq (mWhile (eAnd (eT (eOp ltI (eVar 4) (eP (eCall1 lenD (eVar 1))))) (eT (eF (eFn f_is_word_character (aCons (eP (eIxS (eF (eVar 1)) (eF (eVar 4)))) aNil))))) (mSeq (mAug 4 (augI (fun a b => a + b)) (eC (.int 1))) mPass) 4000) mPass) mPass) (mSeq (mIf (eT (eOp neX (eP (eIxS (eF (eVar 1)) (eF (eVar 3)))) (eP (eC (.str " "))))) (mSeq (mDrop (eP (eMeth 2 mApp (eCons (eTup (eCons (eF (eVar 3)) (eCons (eSlS (eF (eVar 1)) (eYes (eF (eVar 3))) (eYes (eF (eVar 4)))) eNil))) eNil)))) mPass) mPass) (mSeq (mAsg 3 (eVar 4)) mPass)))) f [some (.fz (.str (S line))), some (.fz (.str (S t))), some (.ow (fd)), some (.fz (.int (sp : Nat))), e0] = some (.nx [some (.fz (.str (S line))), some (.fz (.str (S t))), some (.ow (fd ++ (sc sp 0 [] (t.drop sp ++ [32])).map tup2)), some (.fz (.int (sp' : Nat))), e']) := by
  intro n
  induction n with
  | zero =>
    intro sp f fd e0 h hf hfd he
    obtain ⟨g, rfl⟩ : ∃ g, f = g + 1 := ⟨f - 1, by omega⟩
    have h0 : t.drop sp = [] := List.length_eq_zero_iff.mp (by omega)
    have hl : t.length ≤ sp := List.drop_eq_nil_iff.mp h0
    refine ⟨sp, e0, ?_⟩
    rw [while_s, h0, (show sc sp 0 [] ([] ++ [32]) = [] from rfl)]
    simp -implicitDefEqProofs only [Ev.nd1, Ev.nd2, Ev.lent_fz, Ev.lent_ow, Ev.lent_oo, Ev.lent_mx, Ev.lent_ln, Ev.lent_nil, Ev.back_nil, Ev.back_tm, Ev.back_sl, Ev.runM_at, Ev.start_at, Ev.seq_at, Ev.pass_at, Ev.brk_at, Ev.cnt_at, Ev.ret_at, Ev.retN_at, Ev.asg_at, Ev.if_at, Ev.drop_at, Ev.tgt_at, Ev.tup_at, Ev.for_at, Ev.P_at, Ev.F_at, Ev.var_at, Ev.c_at, Ev.op_at, Ev.opF_at, Ev.call_at, Ev.call1_at, Ev.un_at, Ev.isi_at, Ev.nil_at, Ev.cons_at, Ev.aNil_at, Ev.aCons_at, Ev.lst_at', Ev.tupE_at, Ev.mix_at, Ev.t_at, Ev.tru_at, Ev.and_at, Ev.or_at, Ev.not_at, Ev.andV_at, Ev.orV_at, Ev.notV_at, Ev.if2_at, Ev.ix_at', Ev.no_at, Ev.yes_at, Ev.sl_at, Ev.rep_at, Ev.fn_at, Ev.fnK_at, Ev.seqL_at, Ev.seqT_at, Ev.enum_at, Ev.zip_at, Ec.rng1_D, Ec.lr1_D, Ev.lc_at, Ev.lcE_at, Ev.yesT_at, Ev.meth_at, Ev.idx_at, Ev.subApp_at, Ev.sortSet_at, Ev.hName_at, Ev.hNil_at, Ev.hCons_at, Ev.hTup_at, Ev.hSub_at, Ev.turns_nil, Ev.force_fz, Ev.force_ow, Ev.force_oo, Ev.force_mx, Ev.force_sl, Ev.norm_fz, Ev.norm_ow, Ev.norm_sl, Ev.argO_sl, Ev.own_at, Ev.setOwn_at, Ev.flatF, Ev.flatO, Ev.flatL, Ev.data_tm, Ev.data_sl, Ev.toD_fz, Ev.toD_ow, Ev.toD_ln, Ev.toD_oo, Ev.toD_mx, Ev.flat_fz, Ev.flat_ow, Ev.flat_sl, Ev.retP_fz, Ev.retP_ow, Ev.retP_oo, Ev.retP_sl, Ev.putP_fz, Ev.putP_ow, Ev.putP_oo, Ev.putP_mx, Ev.putP_sl, Ev.noLn_at, Ev.argOs_nil, Ev.argOs_cons, Ev.argO_fz, Ev.argO_ow, Ev.slots_nil, Ev.slots_tm, Ev.slots_sl, Ev.bOf_b, Ev.ownP_fz, Ev.ownP_ow, Ev.ownP_sl, Ev.ownPs_nil, Ev.ownPs_cons, Ev.putAll_nil, Ev.putAll_cons, Ev.mixI_nil, Ev.mixI_fz, Ev.mixI_ow, Ev.mixI_oo, Ev.ixD_list, Ev.ixD_tup, Ev.atI_0, Ev.atI_1, Ev.ixN_0, Ev.ixN_1, Ev.gt_ii, Ev.ge_ii, Ev.lt_ii, Ev.le_ii, Ev.add_ii, Ev.add_ll, Ev.sub_ii, Ev.mul_ii, Ev.fdv_ii, Ev.mod_ii, Ev.neg_i, Ev.int_i, Ev.abs_i, Ev.max2_ii, Ev.dvm_ii, Ev.len_l, Ev.len_t, Ev.listO_l, Ev.tupO_l, Ev.ints_map, Ev.intsD_map, Ev.sorted_l, Ev.sl_list, List.map_cons, List.map_nil, List.length_cons, List.length_nil, List.replicate_succ, List.replicate_zero, List.append_nil, List.nil_append, List.cons_append, List.getElem?_cons_zero, List.getElem?_cons_succ, List.getElem?_nil, List.set_cons_zero, List.set_cons_succ, List.set_nil, Option.bind_some, Option.bind_none, Option.map_some, Option.map_none, Nat.reduceAdd, Nat.reduceSub, Nat.reduceEqDiff, Nat.reduceLeDiff, if_true, if_false, reduceCtorEq, List.nodup_nil, Bool.false_eq_true, Bool.not_true, Bool.not_false, Bool.true_and, Bool.false_and, Bool.and_true, Bool.and_false, ↓reduceIte, id_eq, List.tail_cons, Nat.zero_add, List.all_cons, List.all_nil, ne_eq, not_false_eq_true, and_self, and_true, true_and, Ew.dsp1_at, Ew.key_i, Ew.swapNew_at, Ew.rng2_at, Ew.rngD_at, Ew.putP_dc, Ew.dc_at, Ew.din_at, Ew.dput_at, Ew.fnD_at, Ew.retGet_at, Ew.sortD_at, Ew.ext_at, Ew.L_at, Ew.LIx_at, Ew.Sc_at, Ew.callL_at, Ew.opNil_at, Ew.sv_i, Ew.oo_at, Ew.appO_at, Ew.sub2_at, Ew.fnL_at, Ew.subAppL_at, Ew.lcO_at, Ew.walk_at, Bool.true_xor, Bool.false_xor
, len_s ht, (show ¬ (sp : Int) < (t.length : Int) by omega), decide_false]
  | succ n ih =>
    intro sp f fd e0 h hf hfd he
    obtain ⟨g, rfl⟩ : ∃ g, f = g + 1 := ⟨f - 1, by omega⟩
    cases q : t.drop sp with
    | nil =>
      have hl : t.length ≤ sp := List.drop_eq_nil_iff.mp q
      refine ⟨sp, e0, ?_⟩
      rw [while_s, (show sc sp 0 [] ([] ++ [32]) = [] from rfl)]
      simp -implicitDefEqProofs only [Ev.nd1, Ev.nd2, Ev.lent_fz, Ev.lent_ow, Ev.lent_oo, Ev.lent_mx, Ev.lent_ln, Ev.lent_nil, Ev.back_nil, Ev.back_tm, Ev.back_sl, Ev.runM_at, Ev.start_at, Ev.seq_at, Ev.pass_at, Ev.brk_at, Ev.cnt_at, Ev.ret_at, Ev.retN_at, Ev.asg_at, Ev.if_at, Ev.drop_at, Ev.tgt_at, Ev.tup_at, Ev.for_at, Ev.P_at, Ev.F_at, Ev.var_at, Ev.c_at, Ev.op_at, Ev.opF_at, Ev.call_at, Ev.call1_at, Ev.un_at, Ev.isi_at, Ev.nil_at, Ev.cons_at, Ev.aNil_at, Ev.aCons_at, Ev.lst_at', Ev.tupE_at, Ev.mix_at, Ev.t_at, Ev.tru_at, Ev.and_at, Ev.or_at, Ev.not_at, Ev.andV_at, Ev.orV_at, Ev.notV_at, Ev.if2_at, Ev.ix_at', Ev.no_at, Ev.yes_at, Ev.sl_at, Ev.rep_at, Ev.fn_at, Ev.fnK_at, Ev.seqL_at, Ev.seqT_at, Ev.enum_at, Ev.zip_at, Ec.rng1_D, Ec.lr1_D, Ev.lc_at, Ev.lcE_at, Ev.yesT_at, Ev.meth_at, Ev.idx_at, Ev.subApp_at, Ev.sortSet_at, Ev.hName_at, Ev.hNil_at, Ev.hCons_at, Ev.hTup_at, Ev.hSub_at, Ev.turns_nil, Ev.force_fz, Ev.force_ow, Ev.force_oo, Ev.force_mx, Ev.force_sl, Ev.norm_fz, Ev.norm_ow, Ev.norm_sl, Ev.argO_sl, Ev.own_at, Ev.setOwn_at, Ev.flatF, Ev.flatO, Ev.flatL, Ev.data_tm, Ev.data_sl, Ev.toD_fz, Ev.toD_ow, Ev.toD_ln, Ev.toD_oo, Ev.toD_mx, Ev.flat_fz, Ev.flat_ow, Ev.flat_sl, Ev.retP_fz, Ev.retP_ow, Ev.retP_oo, Ev.retP_sl, Ev.putP_fz, Ev.putP_ow, Ev.putP_oo, Ev.putP_mx, Ev.putP_sl, Ev.noLn_at, Ev.argOs_nil, Ev.argOs_cons, Ev.argO_fz, Ev.argO_ow, Ev.slots_nil, Ev.slots_tm, Ev.slots_sl, Ev.bOf_b, Ev.ownP_fz, Ev.ownP_ow, Ev.ownP_sl, Ev.ownPs_nil, Ev.ownPs_cons, Ev.putAll_nil, Ev.putAll_cons, Ev.mixI_nil, Ev.mixI_fz, Ev.mixI_ow, Ev.mixI_oo, Ev.ixD_list, Ev.ixD_tup, Ev.atI_0, Ev.atI_1, Ev.ixN_0, Ev.ixN_1, Ev.gt_ii, Ev.ge_ii, Ev.lt_ii, Ev.le_ii, Ev.add_ii, Ev.add_ll, Ev.sub_ii, Ev.mul_ii, Ev.fdv_ii, Ev.mod_ii, Ev.neg_i, Ev.int_i, Ev.abs_i, Ev.max2_ii, Ev.dvm_ii, Ev.len_l, Ev.len_t, Ev.listO_l, Ev.tupO_l, Ev.ints_map, Ev.intsD_map, Ev.sorted_l, Ev.sl_list, List.map_cons, List.map_nil, List.length_cons, List.length_nil, List.replicate_succ, List.replicate_zero, List.append_nil, List.nil_append, List.cons_append, List.getElem?_cons_zero, List.getElem?_cons_succ, List.getElem?_nil, List.set_cons_zero, List.set_cons_succ, List.set_nil, Option.bind_some, Option.bind_none, Option.map_some, Option.map_none, Nat.reduceAdd, Nat.reduceSub, Nat.reduceEqDiff, Nat.reduceLeDiff, if_true, if_false, reduceCtorEq, List.nodup_nil, Bool.false_eq_true, Bool.not_true, Bool.not_false, Bool.true_and, Bool.false_and, Bool.and_true, Bool.and_false, ↓reduceIte, id_eq, List.tail_cons, Nat.zero_add, List.all_cons, List.all_nil, ne_eq, not_false_eq_true, and_self, and_true, true_and, Ew.dsp1_at, Ew.key_i, Ew.swapNew_at, Ew.rng2_at, Ew.rngD_at, Ew.putP_dc, Ew.dc_at, Ew.din_at, Ew.dput_at, Ew.fnD_at, Ew.retGet_at, Ew.sortD_at, Ew.ext_at, Ew.L_at, Ew.LIx_at, Ew.Sc_at, Ew.callL_at, Ew.opNil_at, Ew.sv_i, Ew.oo_at, Ew.appO_at, Ew.sub2_at, Ew.fnL_at, Ew.subAppL_at, Ew.lcO_at, Ew.walk_at, Bool.true_xor, Bool.false_xor
, len_s ht, (show ¬ (sp : Int) < (t.length : Int) by omega), decide_false]
    | cons c r =>
      have hln : (c :: r).length = t.length - sp := by rw [← q, List.length_drop]
      have hl : sp < t.length := by rw [List.length_cons] at hln; omega
      have hz : (S t).length ≤ sizeLine := by rw [S_len, sizeLine_eq]; omega
      have hd : t.drop (sp + 1) = r := by rw [← List.drop_drop, q]; rfl
      have e2 : ((sp : Int) + 1) = ((sp + 1 : Nat) : Int) := by omega
      have eat : atI (S t).cps.toList (sp : Int) = some c := atI_S q
      have hfz : fd.length < sizeLine := by rw [sizeLine_eq]; omega
      rw [q] at h
      by_cases hw : isW c = true
      · have hr : (r.takeWhile isW).length ≤ r.length := List.Sublist.length_le (List.takeWhile_sublist _)
        have ii := inner_lw (line := line) (t := t) (fd := fd) (sp := sp) ht r (sp + 1) 4000 hd (by rw [List.length_cons] at hln; omega)
        have c32 : c ≠ 32 := fun z => by rw [z] at hw; cases hw
        have hsl : Txt.slice (S t) (some (sp : Int)) (some ((sp + 1 + (r.takeWhile isW).length : Nat) : Int)) = S (c :: r.takeWhile isW) := by
          rw [slice_S (by omega) (by rw [List.length_cons] at hln; omega), q, show sp + 1 + (r.takeWhile isW).length - sp = (r.takeWhile isW).length + 1 by omega, List.take_succ_cons]
          congr 2
          exact (List.prefix_iff_eq_take.mp (List.takeWhile_prefix isW)).symm
        have hd2 : t.drop (sp + 1 + (r.takeWhile isW).length) = r.dropWhile isW := by
          rw [← List.drop_drop, hd]
          have e := List.takeWhile_append_dropWhile (p := isW) (l := r)
          calc r.drop (r.takeWhile isW).length = (r.takeWhile isW ++ r.dropWhile isW).drop (r.takeWhile isW).length := by rw [e]
            _ = _ := List.drop_left
        obtain ⟨sp', e', i2⟩ := ih (sp + 1 + (r.takeWhile isW).length) g (fd ++ [tup2 (sp, c :: r.takeWhile isW)]) (some (.fz (.int ((sp + 1 + (r.takeWhile isW).length : Nat) : Int)))) (by
          rw [hd2]
          have : (r.dropWhile isW).length ≤ r.length := List.Sublist.length_le (List.dropWhile_sublist _)
          rw [List.length_cons] at h
          omega) (by omega) (by rw [List.length_append, List.length_singleton]; omega) (.inr ⟨_, rfl⟩)
        refine ⟨sp', e', ?_⟩
        rw [sc_word hw, List.map_cons, sc_st (st' := 0)]
        rw [hd2, List.append_assoc, List.singleton_append] at i2
        refine Eq.trans ?_ i2
        rw [while_s]
        rcases he with rfl | ⟨z0, rfl⟩ <;> simp -implicitDefEqProofs only [Ev.nd1, Ev.nd2, Ev.lent_fz, Ev.lent_ow, Ev.lent_oo, Ev.lent_mx, Ev.lent_ln, Ev.lent_nil, Ev.back_nil, Ev.back_tm, Ev.back_sl, Ev.runM_at, Ev.start_at, Ev.seq_at, Ev.pass_at, Ev.brk_at, Ev.cnt_at, Ev.ret_at, Ev.retN_at, Ev.asg_at, Ev.if_at, Ev.drop_at, Ev.tgt_at, Ev.tup_at, Ev.for_at, Ev.P_at, Ev.F_at, Ev.var_at, Ev.c_at, Ev.op_at, Ev.opF_at, Ev.call_at, Ev.call1_at, Ev.un_at, Ev.isi_at, Ev.nil_at, Ev.cons_at, Ev.aNil_at, Ev.aCons_at, Ev.lst_at', Ev.tupE_at, Ev.mix_at, Ev.t_at, Ev.tru_at, Ev.and_at, Ev.or_at, Ev.not_at, Ev.andV_at, Ev.orV_at, Ev.notV_at, Ev.if2_at, Ev.ix_at', Ev.no_at, Ev.yes_at, Ev.sl_at, Ev.rep_at, Ev.fn_at, Ev.fnK_at, Ev.seqL_at, Ev.seqT_at, Ev.enum_at, Ev.zip_at, Ec.rng1_D, Ec.lr1_D, Ev.lc_at, Ev.lcE_at, Ev.yesT_at, Ev.meth_at, Ev.idx_at, Ev.subApp_at, Ev.sortSet_at, Ev.hName_at, Ev.hNil_at, Ev.hCons_at, Ev.hTup_at, Ev.hSub_at, Ev.turns_nil, Ev.force_fz, Ev.force_ow, Ev.force_oo, Ev.force_mx, Ev.force_sl, Ev.norm_fz, Ev.norm_ow, Ev.norm_sl, Ev.argO_sl, Ev.own_at, Ev.setOwn_at, Ev.flatF, Ev.flatO, Ev.flatL, Ev.data_tm, Ev.data_sl, Ev.toD_fz, Ev.toD_ow, Ev.toD_ln, Ev.toD_oo, Ev.toD_mx, Ev.flat_fz, Ev.flat_ow, Ev.flat_sl, Ev.retP_fz, Ev.retP_ow, Ev.retP_oo, Ev.retP_sl, Ev.putP_fz, Ev.putP_ow, Ev.putP_oo, Ev.putP_mx, Ev.putP_sl, Ev.noLn_at, Ev.argOs_nil, Ev.argOs_cons, Ev.argO_fz, Ev.argO_ow, Ev.slots_nil, Ev.slots_tm, Ev.slots_sl, Ev.bOf_b, Ev.ownP_fz, Ev.ownP_ow, Ev.ownP_sl, Ev.ownPs_nil, Ev.ownPs_cons, Ev.putAll_nil, Ev.putAll_cons, Ev.mixI_nil, Ev.mixI_fz, Ev.mixI_ow, Ev.mixI_oo, Ev.ixD_list, Ev.ixD_tup, Ev.atI_0, Ev.atI_1, Ev.ixN_0, Ev.ixN_1, Ev.gt_ii, Ev.ge_ii, Ev.lt_ii, Ev.le_ii, Ev.add_ii, Ev.add_ll, Ev.sub_ii, Ev.mul_ii, Ev.fdv_ii, Ev.mod_ii, Ev.neg_i, Ev.int_i, Ev.abs_i, Ev.max2_ii, Ev.dvm_ii, Ev.len_l, Ev.len_t, Ev.listO_l, Ev.tupO_l, Ev.ints_map, Ev.intsD_map, Ev.sorted_l, Ev.sl_list, List.map_cons, List.map_nil, List.length_cons, List.length_nil, List.replicate_succ, List.replicate_zero, List.append_nil, List.nil_append, List.cons_append, List.getElem?_cons_zero, List.getElem?_cons_succ, List.getElem?_nil, List.set_cons_zero, List.set_cons_succ, List.set_nil, Option.bind_some, Option.bind_none, Option.map_some, Option.map_none, Nat.reduceAdd, Nat.reduceSub, Nat.reduceEqDiff, Nat.reduceLeDiff, if_true, if_false, reduceCtorEq, List.nodup_nil, Bool.false_eq_true, Bool.not_true, Bool.not_false, Bool.true_and, Bool.false_and, Bool.and_true, Bool.and_false, ↓reduceIte, id_eq, List.tail_cons, Nat.zero_add, List.all_cons, List.all_nil, ne_eq, not_false_eq_true, and_self, and_true, true_and, Ew.dsp1_at, Ew.key_i, Ew.swapNew_at, Ew.rng2_at, Ew.rngD_at, Ew.putP_dc, Ew.dc_at, Ew.din_at, Ew.dput_at, Ew.fnD_at, Ew.retGet_at, Ew.sortD_at, Ew.ext_at, Ew.L_at, Ew.LIx_at, Ew.Sc_at, Ew.callL_at, Ew.opNil_at, Ew.sv_i, Ew.oo_at, Ew.appO_at, Ew.sub2_at, Ew.fnL_at, Ew.subAppL_at, Ew.lcO_at, Ew.walk_at, Bool.true_xor, Bool.false_xor
, len_s ht, (show (sp : Int) < (t.length : Int) by omega), decide_true, not_true_eq_false, (by decide : 2 ≤ sizeLine), eIxS, ixS_str, hz, eat, v_isw c, hw, e2, ii, cs_sp, ne_S1, c32, eSlS, hsl, Gd.app_1, hfz] <;> rfl
      · have hw' : isW c = false := by simpa using hw
        have hsl : Txt.slice (S t) (some (sp : Int)) (some ((sp + 1 : Nat) : Int)) = S [c] := by
          rw [slice_S (by omega) (by omega), q, show sp + 1 - sp = 1 by omega]
          rfl
        have hsc : sc sp 0 [] (c :: r ++ [32]) = (if c = 32 then [] else [(sp, [c])]) ++ sc (sp + 1) 0 [] (r ++ [32]) := by
          rw [List.cons_append, sc, if_neg hw, if_pos rfl]
          rfl
        rw [hsc]
        by_cases c32 : c = 32
        · subst c32
          obtain ⟨sp', e', i2⟩ := ih (sp + 1) g fd (some (.fz (.int ((sp + 1 : Nat) : Int)))) (by rw [hd]; rw [List.length_cons] at h; omega) (by omega) (by omega) (.inr ⟨_, rfl⟩)
          refine ⟨sp', e', ?_⟩
          rw [if_pos rfl, List.nil_append]
          rw [hd] at i2
          refine Eq.trans ?_ i2
          rw [while_s]
          rcases he with rfl | ⟨z0, rfl⟩ <;> simp -implicitDefEqProofs only [Ev.nd1, Ev.nd2, Ev.lent_fz, Ev.lent_ow, Ev.lent_oo, Ev.lent_mx, Ev.lent_ln, Ev.lent_nil, Ev.back_nil, Ev.back_tm, Ev.back_sl, Ev.runM_at, Ev.start_at, Ev.seq_at, Ev.pass_at, Ev.brk_at, Ev.cnt_at, Ev.ret_at, Ev.retN_at, Ev.asg_at, Ev.if_at, Ev.drop_at, Ev.tgt_at, Ev.tup_at, Ev.for_at, Ev.P_at, Ev.F_at, Ev.var_at, Ev.c_at, Ev.op_at, Ev.opF_at, Ev.call_at, Ev.call1_at, Ev.un_at, Ev.isi_at, Ev.nil_at, Ev.cons_at, Ev.aNil_at, Ev.aCons_at, Ev.lst_at', Ev.tupE_at, Ev.mix_at, Ev.t_at, Ev.tru_at, Ev.and_at, Ev.or_at, Ev.not_at, Ev.andV_at, Ev.orV_at, Ev.notV_at, Ev.if2_at, Ev.ix_at', Ev.no_at, Ev.yes_at, Ev.sl_at, Ev.rep_at, Ev.fn_at, Ev.fnK_at, Ev.seqL_at, Ev.seqT_at, Ev.enum_at, Ev.zip_at, Ec.rng1_D, Ec.lr1_D, Ev.lc_at, Ev.lcE_at, Ev.yesT_at, Ev.meth_at, Ev.idx_at, Ev.subApp_at, Ev.sortSet_at, Ev.hName_at, Ev.hNil_at, Ev.hCons_at, Ev.hTup_at, Ev.hSub_at, Ev.turns_nil, Ev.force_fz, Ev.force_ow, Ev.force_oo, Ev.force_mx, Ev.force_sl, Ev.norm_fz, Ev.norm_ow, Ev.norm_sl, Ev.argO_sl, Ev.own_at, Ev.setOwn_at, Ev.flatF, Ev.flatO, Ev.flatL, Ev.data_tm, Ev.data_sl, Ev.toD_fz, Ev.toD_ow, Ev.toD_ln, Ev.toD_oo, Ev.toD_mx, Ev.flat_fz, Ev.flat_ow, Ev.flat_sl, Ev.retP_fz, Ev.retP_ow, Ev.retP_oo, Ev.retP_sl, Ev.putP_fz, Ev.putP_ow, Ev.putP_oo, Ev.putP_mx, Ev.putP_sl, Ev.noLn_at, Ev.argOs_nil, Ev.argOs_cons, Ev.argO_fz, Ev.argO_ow, Ev.slots_nil, Ev.slots_tm, Ev.slots_sl, Ev.bOf_b, Ev.ownP_fz, Ev.ownP_ow, Ev.ownP_sl, Ev.ownPs_nil, Ev.ownPs_cons, Ev.putAll_nil, Ev.putAll_cons, Ev.mixI_nil, Ev.mixI_fz, Ev.mixI_ow, Ev.mixI_oo, Ev.ixD_list, Ev.ixD_tup, Ev.atI_0, Ev.atI_1, Ev.ixN_0, Ev.ixN_1, Ev.gt_ii, Ev.ge_ii, Ev.lt_ii, Ev.le_ii, Ev.add_ii, Ev.add_ll, Ev.sub_ii, Ev.mul_ii, Ev.fdv_ii, Ev.mod_ii, Ev.neg_i, Ev.int_i, Ev.abs_i, Ev.max2_ii, Ev.dvm_ii, Ev.len_l, Ev.len_t, Ev.listO_l, Ev.tupO_l, Ev.ints_map, Ev.intsD_map, Ev.sorted_l, Ev.sl_list, List.map_cons, List.map_nil, List.length_cons, List.length_nil, List.replicate_succ, List.replicate_zero, List.append_nil, List.nil_append, List.cons_append, List.getElem?_cons_zero, List.getElem?_cons_succ, List.getElem?_nil, List.set_cons_zero, List.set_cons_succ, List.set_nil, Option.bind_some, Option.bind_none, Option.map_some, Option.map_none, Nat.reduceAdd, Nat.reduceSub, Nat.reduceEqDiff, Nat.reduceLeDiff, if_true, if_false, reduceCtorEq, List.nodup_nil, Bool.false_eq_true, Bool.not_true, Bool.not_false, Bool.true_and, Bool.false_and, Bool.and_true, Bool.and_false, ↓reduceIte, id_eq, List.tail_cons, Nat.zero_add, List.all_cons, List.all_nil, ne_eq, not_false_eq_true, and_self, and_true, true_and, Ew.dsp1_at, Ew.key_i, Ew.swapNew_at, Ew.rng2_at, Ew.rngD_at, Ew.putP_dc, Ew.dc_at, Ew.din_at, Ew.dput_at, Ew.fnD_at, Ew.retGet_at, Ew.sortD_at, Ew.ext_at, Ew.L_at, Ew.LIx_at, Ew.Sc_at, Ew.callL_at, Ew.opNil_at, Ew.sv_i, Ew.oo_at, Ew.appO_at, Ew.sub2_at, Ew.fnL_at, Ew.subAppL_at, Ew.lcO_at, Ew.walk_at, Bool.true_xor, Bool.false_xor
, len_s ht, (show (sp : Int) < (t.length : Int) by omega), decide_true, decide_false, not_true_eq_false, (by decide : 2 ≤ sizeLine), eIxS, ixS_str, hz, eat, v_isw 32, hw', e2, cs_sp, ne_S1]
        · obtain ⟨sp', e', i2⟩ := ih (sp + 1) g (fd ++ [tup2 (sp, [c])]) (some (.fz (.int ((sp + 1 : Nat) : Int)))) (by rw [hd]; rw [List.length_cons] at h; omega) (by omega) (by rw [List.length_append, List.length_singleton]; omega) (.inr ⟨_, rfl⟩)
          refine ⟨sp', e', ?_⟩
          rw [if_neg c32, List.map_append, ← List.append_assoc]
          rw [hd] at i2
          refine Eq.trans ?_ i2
          rw [while_s]
          rcases he with rfl | ⟨z0, rfl⟩ <;> simp -implicitDefEqProofs only [Ev.nd1, Ev.nd2, Ev.lent_fz, Ev.lent_ow, Ev.lent_oo, Ev.lent_mx, Ev.lent_ln, Ev.lent_nil, Ev.back_nil, Ev.back_tm, Ev.back_sl, Ev.runM_at, Ev.start_at, Ev.seq_at, Ev.pass_at, Ev.brk_at, Ev.cnt_at, Ev.ret_at, Ev.retN_at, Ev.asg_at, Ev.if_at, Ev.drop_at, Ev.tgt_at, Ev.tup_at, Ev.for_at, Ev.P_at, Ev.F_at, Ev.var_at, Ev.c_at, Ev.op_at, Ev.opF_at, Ev.call_at, Ev.call1_at, Ev.un_at, Ev.isi_at, Ev.nil_at, Ev.cons_at, Ev.aNil_at, Ev.aCons_at, Ev.lst_at', Ev.tupE_at, Ev.mix_at, Ev.t_at, Ev.tru_at, Ev.and_at, Ev.or_at, Ev.not_at, Ev.andV_at, Ev.orV_at, Ev.notV_at, Ev.if2_at, Ev.ix_at', Ev.no_at, Ev.yes_at, Ev.sl_at, Ev.rep_at, Ev.fn_at, Ev.fnK_at, Ev.seqL_at, Ev.seqT_at, Ev.enum_at, Ev.zip_at, Ec.rng1_D, Ec.lr1_D, Ev.lc_at, Ev.lcE_at, Ev.yesT_at, Ev.meth_at, Ev.idx_at, Ev.subApp_at, Ev.sortSet_at, Ev.hName_at, Ev.hNil_at, Ev.hCons_at, Ev.hTup_at, Ev.hSub_at, Ev.turns_nil, Ev.force_fz, Ev.force_ow, Ev.force_oo, Ev.force_mx, Ev.force_sl, Ev.norm_fz, Ev.norm_ow, Ev.norm_sl, Ev.argO_sl, Ev.own_at, Ev.setOwn_at, Ev.flatF, Ev.flatO, Ev.flatL, Ev.data_tm, Ev.data_sl, Ev.toD_fz, Ev.toD_ow, Ev.toD_ln, Ev.toD_oo, Ev.toD_mx, Ev.flat_fz, Ev.flat_ow, Ev.flat_sl, Ev.retP_fz, Ev.retP_ow, Ev.retP_oo, Ev.retP_sl, Ev.putP_fz, Ev.putP_ow, Ev.putP_oo, Ev.putP_mx, Ev.putP_sl, Ev.noLn_at, Ev.argOs_nil, Ev.argOs_cons, Ev.argO_fz, Ev.argO_ow, Ev.slots_nil, Ev.slots_tm, Ev.slots_sl, Ev.bOf_b, Ev.ownP_fz, Ev.ownP_ow, Ev.ownP_sl, Ev.ownPs_nil, Ev.ownPs_cons, Ev.putAll_nil, Ev.putAll_cons, Ev.mixI_nil, Ev.mixI_fz, Ev.mixI_ow, Ev.mixI_oo, Ev.ixD_list, Ev.ixD_tup, Ev.atI_0, Ev.atI_1, Ev.ixN_0, Ev.ixN_1, Ev.gt_ii, Ev.ge_ii, Ev.lt_ii, Ev.le_ii, Ev.add_ii, Ev.add_ll, Ev.sub_ii, Ev.mul_ii, Ev.fdv_ii, Ev.mod_ii, Ev.neg_i, Ev.int_i, Ev.abs_i, Ev.max2_ii, Ev.dvm_ii, Ev.len_l, Ev.len_t, Ev.listO_l, Ev.tupO_l, Ev.ints_map, Ev.intsD_map, Ev.sorted_l, Ev.sl_list, List.map_cons, List.map_nil, List.length_cons, List.length_nil, List.replicate_succ, List.replicate_zero, List.append_nil, List.nil_append, List.cons_append, List.getElem?_cons_zero, List.getElem?_cons_succ, List.getElem?_nil, List.set_cons_zero, List.set_cons_succ, List.set_nil, Option.bind_some, Option.bind_none, Option.map_some, Option.map_none, Nat.reduceAdd, Nat.reduceSub, Nat.reduceEqDiff, Nat.reduceLeDiff, if_true, if_false, reduceCtorEq, List.nodup_nil, Bool.false_eq_true, Bool.not_true, Bool.not_false, Bool.true_and, Bool.false_and, Bool.and_true, Bool.and_false, ↓reduceIte, id_eq, List.tail_cons, Nat.zero_add, List.all_cons, List.all_nil, ne_eq, not_false_eq_true, and_self, and_true, true_and, Ew.dsp1_at, Ew.key_i, Ew.swapNew_at, Ew.rng2_at, Ew.rngD_at, Ew.putP_dc, Ew.dc_at, Ew.din_at, Ew.dput_at, Ew.fnD_at, Ew.retGet_at, Ew.sortD_at, Ew.ext_at, Ew.L_at, Ew.LIx_at, Ew.Sc_at, Ew.callL_at, Ew.opNil_at, Ew.sv_i, Ew.oo_at, Ew.appO_at, Ew.sub2_at, Ew.fnL_at, Ew.subAppL_at, Ew.lcO_at, Ew.walk_at, Bool.true_xor, Bool.false_xor
, len_s ht, (show (sp : Int) < (t.length : Int) by omega), decide_true, decide_false, not_true_eq_false, (by decide : 2 ≤ sizeLine), eIxS, ixS_str, hz, eat, v_isw c, hw', e2, cs_sp, ne_S1, c32, eSlS, hsl, Gd.app_1, hfz] <;> rfl
theorem part_S (l : List Nat) (hl : l.length ≤ 1000) : ∃ x y, partD (.str (S l)) (.str (S [35])) = some (.tuple [.str (S (told l)), x, y]) :=
  ⟨_, _, (if_pos ⟨rfl, by rw [S_len, sizeLine_eq]; omega⟩).trans (by rw [told_part])⟩
theorem v_lw (l : List Nat) (hl : l.length ≤ 1000) : val f_line_words [.fz (.str (S l))] = some (.ow ((sc 0 0 [] (told l ++ [32])).map tup2), [none]) := by
  have h2 := told_len l
  obtain ⟨sp', e', i⟩ := outer_lw l (told l) (by omega) 1000 0 4000 [] none (by rw [List.drop_zero]; omega) (by omega) (by simp) (.inl rfl)
  rw [List.drop_zero, List.nil_append, show ((0 : Nat) : Int) = 0 from rfl] at i
  obtain ⟨x, y, ep⟩ := part_S l hl
  unfold val f_line_words m_line_words
  simp -implicitDefEqProofs only [Ev.nd1, Ev.nd2, Ev.lent_fz, Ev.lent_ow, Ev.lent_oo, Ev.lent_mx, Ev.lent_ln, Ev.lent_nil, Ev.back_nil, Ev.back_tm, Ev.back_sl, Ev.runM_at, Ev.start_at, Ev.seq_at, Ev.pass_at, Ev.brk_at, Ev.cnt_at, Ev.ret_at, Ev.retN_at, Ev.asg_at, Ev.if_at, Ev.drop_at, Ev.tgt_at, Ev.tup_at, Ev.for_at, Ev.P_at, Ev.F_at, Ev.var_at, Ev.c_at, Ev.op_at, Ev.opF_at, Ev.call_at, Ev.call1_at, Ev.un_at, Ev.isi_at, Ev.nil_at, Ev.cons_at, Ev.aNil_at, Ev.aCons_at, Ev.lst_at', Ev.tupE_at, Ev.mix_at, Ev.t_at, Ev.tru_at, Ev.and_at, Ev.or_at, Ev.not_at, Ev.andV_at, Ev.orV_at, Ev.notV_at, Ev.if2_at, Ev.ix_at', Ev.no_at, Ev.yes_at, Ev.sl_at, Ev.rep_at, Ev.fn_at, Ev.fnK_at, Ev.seqL_at, Ev.seqT_at, Ev.enum_at, Ev.zip_at, Ec.rng1_D, Ec.lr1_D, Ev.lc_at, Ev.lcE_at, Ev.yesT_at, Ev.meth_at, Ev.idx_at, Ev.subApp_at, Ev.sortSet_at, Ev.hName_at, Ev.hNil_at, Ev.hCons_at, Ev.hTup_at, Ev.hSub_at, Ev.turns_nil, Ev.force_fz, Ev.force_ow, Ev.force_oo, Ev.force_mx, Ev.force_sl, Ev.norm_fz, Ev.norm_ow, Ev.norm_sl, Ev.argO_sl, Ev.own_at, Ev.setOwn_at, Ev.flatF, Ev.flatO, Ev.flatL, Ev.data_tm, Ev.data_sl, Ev.toD_fz, Ev.toD_ow, Ev.toD_ln, Ev.toD_oo, Ev.toD_mx, Ev.flat_fz, Ev.flat_ow, Ev.flat_sl, Ev.retP_fz, Ev.retP_ow, Ev.retP_oo, Ev.retP_sl, Ev.putP_fz, Ev.putP_ow, Ev.putP_oo, Ev.putP_mx, Ev.putP_sl, Ev.noLn_at, Ev.argOs_nil, Ev.argOs_cons, Ev.argO_fz, Ev.argO_ow, Ev.slots_nil, Ev.slots_tm, Ev.slots_sl, Ev.bOf_b, Ev.ownP_fz, Ev.ownP_ow, Ev.ownP_sl, Ev.ownPs_nil, Ev.ownPs_cons, Ev.putAll_nil, Ev.putAll_cons, Ev.mixI_nil, Ev.mixI_fz, Ev.mixI_ow, Ev.mixI_oo, Ev.ixD_list, Ev.ixD_tup, Ev.atI_0, Ev.atI_1, Ev.ixN_0, Ev.ixN_1, Ev.gt_ii, Ev.ge_ii, Ev.lt_ii, Ev.le_ii, Ev.add_ii, Ev.add_ll, Ev.sub_ii, Ev.mul_ii, Ev.fdv_ii, Ev.mod_ii, Ev.neg_i, Ev.int_i, Ev.abs_i, Ev.max2_ii, Ev.dvm_ii, Ev.len_l, Ev.len_t, Ev.listO_l, Ev.tupO_l, Ev.ints_map, Ev.intsD_map, Ev.sorted_l, Ev.sl_list, List.map_cons, List.map_nil, List.length_cons, List.length_nil, List.replicate_succ, List.replicate_zero, List.append_nil, List.nil_append, List.cons_append, List.getElem?_cons_zero, List.getElem?_cons_succ, List.getElem?_nil, List.set_cons_zero, List.set_cons_succ, List.set_nil, Option.bind_some, Option.bind_none, Option.map_some, Option.map_none, Nat.reduceAdd, Nat.reduceSub, Nat.reduceEqDiff, Nat.reduceLeDiff, if_true, if_false, reduceCtorEq, List.nodup_nil, Bool.false_eq_true, Bool.not_true, Bool.not_false, Bool.true_and, Bool.false_and, Bool.and_true, Bool.and_false, ↓reduceIte, id_eq, List.tail_cons, Nat.zero_add, List.all_cons, List.all_nil, ne_eq, not_false_eq_true, and_self, and_true, true_and, Ew.dsp1_at, Ew.key_i, Ew.swapNew_at, Ew.rng2_at, Ew.rngD_at, Ew.putP_dc, Ew.dc_at, Ew.din_at, Ew.dput_at, Ew.fnD_at, Ew.retGet_at, Ew.sortD_at, Ew.ext_at, Ew.L_at, Ew.LIx_at, Ew.Sc_at, Ew.callL_at, Ew.opNil_at, Ew.sv_i, Ew.oo_at, Ew.appO_at, Ew.sub2_at, Ew.fnL_at, Ew.subAppL_at, Ew.lcO_at, Ew.walk_at, Bool.true_xor, Bool.false_xor
, ePart, cs_hash, ep, (by decide : 0 ≤ sizeLine), i]
end K25
end
section
set_option Elab.async false
set_option linter.all false
set_option maxRecDepth 100000
set_option maxHeartbeats 8000000
namespace K25
open PySem PySem.Spec PyProof.Rows L2 Vi Vf Vo Vp Vs Vt Vu Vv Vg Vw Vx Vy Va Vb Vc Vk Vm Vl Vn Vd Vq Vr Vj Vfr Ev Ec Mo Ew Gd Gx Gy Gt Rk Vxt
open SX (S S_cat S_len S_tl S_inj)
def tk (n : Int) (p : Nat × List Nat) : D := .tuple [.int n, .int p.1, .str (S p.2)]
def en : Nat → List Nat → List D
  | _, [] => []
  | p, c :: l => .tuple [.int p, .str ⟨#[c]⟩] :: en (p + 1) l
theorem enumD_S (l : List Nat) : enumD (Vi.strD (S l)) = en 0 l := by
  have key : ∀ (l : List Nat) (k : Nat), ((l.map fun c => PyData.str ⟨#[c]⟩).zipIdx k).map (fun p => PyData.tuple [.int (p.2 : Nat), p.1]) = en k l := by
    intro l
    induction l with
    | nil => intro k; rfl
    | cons c l ih => intro k; rw [List.map_cons, List.zipIdx_cons, List.map_cons, ih, en]
  exact key l 0
def enL : Nat → List (List Nat) → List D
  | _, [] => []
  | p, c :: l => .tuple [.int p, .str (S c)] :: enL (p + 1) l
theorem enumD_L (l : List (List Nat)) : enumD ((l.map S).map .str) = enL 0 l := by
  have key : ∀ (l : List (List Nat)) (k : Nat), (((l.map S).map PyData.str).zipIdx k).map (fun p => PyData.tuple [.int (p.2 : Nat), p.1]) = enL k l := by
    intro l
    induction l with
    | nil => intro k; rfl
    | cons c l ih => intro k; rw [List.map_cons, List.map_cons, List.zipIdx_cons, List.map_cons, ih, enL]
  exact key l 0
theorem in_abc (c : Nat) : inS false (.str ⟨#[c]⟩) (.str (Str.ofString "abcdefghijklmnopqrstuvwxyz0123456789")) = some (.bool (isW c)) := by
  rw [← mem_abc]
  show some (PyData.bool (false ^^ _)) = _
  rw [Bool.false_xor]
theorem eq_S {a b : List Nat} : eqX (.str (S a)) (.str (S b)) = some (.bool (decide (a = b))) := by
  rw [Ec.eq_ss]
  congr 2
  exact decide_eq_decide.mpr ⟨S_inj, fun h => by rw [h]⟩
theorem ne_S {a b : List Nat} : neX (.str (S a)) (.str (S b)) = some (.bool (decide (a ≠ b))) := by
  rw [Ec.ne_ss]
  congr 2
  rw [Bool.eq_iff_iff]
  simp only [Bool.not_eq_true', decide_eq_false_iff_not, decide_eq_true_eq, ne_eq]
  exact not_congr ⟨S_inj, fun h => by rw [h]⟩
theorem aug_S1 {u : List Nat} {c : Nat} (h : u.length ≤ 2000) : augS (.str (S u)) (.str ⟨#[c]⟩) = some (.str (S (u ++ [c]))) := by
  show (if (S u).length + (S [c]).length ≤ sizeLine then some (PyData.str (S u ++ S [c])) else none) = _
  rw [if_pos (by rw [S_len, S_len, sizeLine_eq, List.length_singleton]; omega), S_cat]
def fzo (x : Option O) : Prop := x = none ∨ ∃ z, x = some (.fz z)
theorem inner_lt (text line : List Nat) (k : Int) : ∀ (l : List Nat) (pos st : Nat) (u : List Nat) (fd : List D) (x6 x7 : Option O), u.length + l.length ≤ 2000 → fd.length + 2 * l.length ≤ 100000 → fzo x6 → fzo x7 → ∃ (u' : List Nat) (st' : Nat) (x6' x7' : Option O), fzo x6' ∧ fzo x7' ∧
    turns (hTup 2 (hCons (hName 6) (hCons (hName 7) hNil))) (mSeq (mIf (eT (eOp (inS false) (eVar 7) (eP (eC (.str "abcdefghijklmnopqrstuvwxyz0123456789"))))) (mSeq (mAsg 5 (eIf (eT (eOp eqX (eVar 4) (eP (eC (.str ""))))) (eVar 6) (eVar 5))) (mSeq (mAug 4 augS (eF (eVar 7))) mPass)) (mSeq (mIf (eT (eOp neX (eVar 4) (eP (eC (.str ""))))) (mSeq (mDrop (eP (eMeth 1 mApp (eCons (eTup (eCons (eF (eOpF addO (eF (eVar 2)) (eC (.int 1)))) (eCons (eF (eVar 5)) (eCons (eF (eVar 4)) eNil)))) eNil)))) mPass) mPass) (mSeq (mAsg 4 (eP (eC (.str "")))) (mSeq (mIf (eT (eOp neX (eVar 7) (eP (eC (.str " "))))) (mSeq (mDrop (eP (eMeth 1 mApp (eCons (eTup (eCons (eF (eOpF addO (eF (eVar 2)) (eC (.int 1)))) (eCons (eF (eVar 6)) (eCons (eF (eVar 7)) eNil)))) eNil)))) mPass) mPass) mPass)))) mPass) (en pos l) [some (.fz (.str (S text))), some (.ow (fd)), some (.fz (.int k)), some (.fz (.str (S line))), some (.fz (.str (S u))), some (.fz (.int (st : Nat))), x6, x7] =
      some (.nx [some (.fz (.str (S text))), some (.ow (fd ++ (sc pos st u l).map (tk (k + 1)))), some (.fz (.int k)), some (.fz (.str (S line))), some (.fz (.str (S u'))), some (.fz (.int (st' : Nat))), x6', x7']) := by
  intro l
  induction l with
  | nil =>
    intro pos st u fd x6 x7 _ _ h6 h7
    refine ⟨u, st, x6, x7, h6, h7, ?_⟩
    rw [en, sc, List.map_nil, List.append_nil]
    rfl
  | cons c l ih =>
    intro pos st u fd x6 x7 hu hf h6 h7
    have hfz : fd.length < sizeLine := by rw [sizeLine_eq]; rw [List.length_cons] at hf; omega
    have hu2 : u.length ≤ 2000 := by omega
    rw [en, Gd.turns_c]
    by_cases hw : isW c = true
    · by_cases hn : u = []
      · subst hn
        obtain ⟨u', st', x6', x7', q6, q7, i⟩ := ih (pos + 1) pos [c] fd (some (.fz (.int pos))) (some (.fz (.str ⟨#[c]⟩))) (by simp at hu ⊢; omega) (by rw [List.length_cons] at hf; omega) (.inr ⟨_, rfl⟩) (.inr ⟨_, rfl⟩)
        refine ⟨u', st', x6', x7', q6, q7, ?_⟩
        rw [sc, if_pos hw, if_pos rfl, List.nil_append, ← i]
        rcases h6 with rfl | ⟨z6, rfl⟩ <;> rcases h7 with rfl | ⟨z7, rfl⟩ <;> simp -implicitDefEqProofs only [Ev.nd1, Ev.nd2, Ev.lent_fz, Ev.lent_ow, Ev.lent_oo, Ev.lent_mx, Ev.lent_ln, Ev.lent_nil, Ev.back_nil, Ev.back_tm, Ev.back_sl, Ev.runM_at, Ev.start_at, Ev.seq_at, Ev.pass_at, Ev.brk_at, Ev.cnt_at, Ev.ret_at, Ev.retN_at, Ev.asg_at, Ev.if_at, Ev.drop_at, Ev.tgt_at, Ev.tup_at, Ev.for_at, Ev.P_at, Ev.F_at, Ev.var_at, Ev.c_at, Ev.op_at, Ev.opF_at, Ev.call_at, Ev.call1_at, Ev.un_at, Ev.isi_at, Ev.nil_at, Ev.cons_at, Ev.aNil_at, Ev.aCons_at, Ev.lst_at', Ev.tupE_at, Ev.mix_at, Ev.t_at, Ev.tru_at, Ev.and_at, Ev.or_at, Ev.not_at, Ev.andV_at, Ev.orV_at, Ev.notV_at, Ev.if2_at, Ev.ix_at', Ev.no_at, Ev.yes_at, Ev.sl_at, Ev.rep_at, Ev.fn_at, Ev.fnK_at, Ev.seqL_at, Ev.seqT_at, Ev.enum_at, Ev.zip_at, Ec.rng1_D, Ec.lr1_D, Ev.lc_at, Ev.lcE_at, Ev.yesT_at, Ev.meth_at, Ev.idx_at, Ev.subApp_at, Ev.sortSet_at, Ev.hName_at, Ev.hNil_at, Ev.hCons_at, Ev.hTup_at, Ev.hSub_at, Ev.turns_nil, Ev.force_fz, Ev.force_ow, Ev.force_oo, Ev.force_mx, Ev.force_sl, Ev.norm_fz, Ev.norm_ow, Ev.norm_sl, Ev.argO_sl, Ev.own_at, Ev.setOwn_at, Ev.flatF, Ev.flatO, Ev.flatL, Ev.data_tm, Ev.data_sl, Ev.toD_fz, Ev.toD_ow, Ev.toD_ln, Ev.toD_oo, Ev.toD_mx, Ev.flat_fz, Ev.flat_ow, Ev.flat_sl, Ev.retP_fz, Ev.retP_ow, Ev.retP_oo, Ev.retP_sl, Ev.putP_fz, Ev.putP_ow, Ev.putP_oo, Ev.putP_mx, Ev.putP_sl, Ev.noLn_at, Ev.argOs_nil, Ev.argOs_cons, Ev.argO_fz, Ev.argO_ow, Ev.slots_nil, Ev.slots_tm, Ev.slots_sl, Ev.bOf_b, Ev.ownP_fz, Ev.ownP_ow, Ev.ownP_sl, Ev.ownPs_nil, Ev.ownPs_cons, Ev.putAll_nil, Ev.putAll_cons, Ev.mixI_nil, Ev.mixI_fz, Ev.mixI_ow, Ev.mixI_oo, Ev.ixD_list, Ev.ixD_tup, Ev.atI_0, Ev.atI_1, Ev.ixN_0, Ev.ixN_1, Ev.gt_ii, Ev.ge_ii, Ev.lt_ii, Ev.le_ii, Ev.add_ii, Ev.add_ll, Ev.sub_ii, Ev.mul_ii, Ev.fdv_ii, Ev.mod_ii, Ev.neg_i, Ev.int_i, Ev.abs_i, Ev.max2_ii, Ev.dvm_ii, Ev.len_l, Ev.len_t, Ev.listO_l, Ev.tupO_l, Ev.ints_map, Ev.intsD_map, Ev.sorted_l, Ev.sl_list, List.map_cons, List.map_nil, List.length_cons, List.length_nil, List.replicate_succ, List.replicate_zero, List.append_nil, List.nil_append, List.cons_append, List.getElem?_cons_zero, List.getElem?_cons_succ, List.getElem?_nil, List.set_cons_zero, List.set_cons_succ, List.set_nil, Option.bind_some, Option.bind_none, Option.map_some, Option.map_none, Nat.reduceAdd, Nat.reduceSub, Nat.reduceEqDiff, Nat.reduceLeDiff, if_true, if_false, reduceCtorEq, List.nodup_nil, Bool.false_eq_true, Bool.not_true, Bool.not_false, Bool.true_and, Bool.false_and, Bool.and_true, Bool.and_false, ↓reduceIte, id_eq, List.tail_cons, Nat.zero_add, List.all_cons, List.all_nil, ne_eq, not_false_eq_true, and_self, and_true, true_and, Ew.dsp1_at, Ew.key_i, Ew.swapNew_at, Ew.rng2_at, Ew.rngD_at, Ew.putP_dc, Ew.dc_at, Ew.din_at, Ew.dput_at, Ew.fnD_at, Ew.retGet_at, Ew.sortD_at, Ew.ext_at, Ew.L_at, Ew.LIx_at, Ew.Sc_at, Ew.callL_at, Ew.opNil_at, Ew.sv_i, Ew.oo_at, Ew.appO_at, Ew.sub2_at, Ew.fnL_at, Ew.subAppL_at, Ew.lcO_at, Ew.walk_at, Bool.true_xor, Bool.false_xor
, in_abc, hw, cs_no, eq_S, decide_true, Gd.aug_at, Gd.fzAt_s, aug_S1 hu2]
      · obtain ⟨u', st', x6', x7', q6, q7, i⟩ := ih (pos + 1) st (u ++ [c]) fd (some (.fz (.int pos))) (some (.fz (.str ⟨#[c]⟩))) (by simp at hu ⊢; omega) (by rw [List.length_cons] at hf; omega) (.inr ⟨_, rfl⟩) (.inr ⟨_, rfl⟩)
        refine ⟨u', st', x6', x7', q6, q7, ?_⟩
        rw [sc, if_pos hw, if_neg hn, ← i]
        rcases h6 with rfl | ⟨z6, rfl⟩ <;> rcases h7 with rfl | ⟨z7, rfl⟩ <;> simp -implicitDefEqProofs only [Ev.nd1, Ev.nd2, Ev.lent_fz, Ev.lent_ow, Ev.lent_oo, Ev.lent_mx, Ev.lent_ln, Ev.lent_nil, Ev.back_nil, Ev.back_tm, Ev.back_sl, Ev.runM_at, Ev.start_at, Ev.seq_at, Ev.pass_at, Ev.brk_at, Ev.cnt_at, Ev.ret_at, Ev.retN_at, Ev.asg_at, Ev.if_at, Ev.drop_at, Ev.tgt_at, Ev.tup_at, Ev.for_at, Ev.P_at, Ev.F_at, Ev.var_at, Ev.c_at, Ev.op_at, Ev.opF_at, Ev.call_at, Ev.call1_at, Ev.un_at, Ev.isi_at, Ev.nil_at, Ev.cons_at, Ev.aNil_at, Ev.aCons_at, Ev.lst_at', Ev.tupE_at, Ev.mix_at, Ev.t_at, Ev.tru_at, Ev.and_at, Ev.or_at, Ev.not_at, Ev.andV_at, Ev.orV_at, Ev.notV_at, Ev.if2_at, Ev.ix_at', Ev.no_at, Ev.yes_at, Ev.sl_at, Ev.rep_at, Ev.fn_at, Ev.fnK_at, Ev.seqL_at, Ev.seqT_at, Ev.enum_at, Ev.zip_at, Ec.rng1_D, Ec.lr1_D, Ev.lc_at, Ev.lcE_at, Ev.yesT_at, Ev.meth_at, Ev.idx_at, Ev.subApp_at, Ev.sortSet_at, Ev.hName_at, Ev.hNil_at, Ev.hCons_at, Ev.hTup_at, Ev.hSub_at, Ev.turns_nil, Ev.force_fz, Ev.force_ow, Ev.force_oo, Ev.force_mx, Ev.force_sl, Ev.norm_fz, Ev.norm_ow, Ev.norm_sl, Ev.argO_sl, Ev.own_at, Ev.setOwn_at, Ev.flatF, Ev.flatO, Ev.flatL, Ev.data_tm, Ev.data_sl, Ev.toD_fz, Ev.toD_ow, Ev.toD_ln, Ev.toD_oo, Ev.toD_mx, Ev.flat_fz, Ev.flat_ow, Ev.flat_sl, Ev.retP_fz, Ev.retP_ow, Ev.retP_oo, Ev.retP_sl, Ev.putP_fz, Ev.putP_ow, Ev.putP_oo, Ev.putP_mx, Ev.putP_sl, Ev.noLn_at, Ev.argOs_nil, Ev.argOs_cons, Ev.argO_fz, Ev.argO_ow, Ev.slots_nil, Ev.slots_tm, Ev.slots_sl, Ev.bOf_b, Ev.ownP_fz, Ev.ownP_ow, Ev.ownP_sl, Ev.ownPs_nil, Ev.ownPs_cons, Ev.putAll_nil, Ev.putAll_cons, Ev.mixI_nil, Ev.mixI_fz, Ev.mixI_ow, Ev.mixI_oo, Ev.ixD_list, Ev.ixD_tup, Ev.atI_0, Ev.atI_1, Ev.ixN_0, Ev.ixN_1, Ev.gt_ii, Ev.ge_ii, Ev.lt_ii, Ev.le_ii, Ev.add_ii, Ev.add_ll, Ev.sub_ii, Ev.mul_ii, Ev.fdv_ii, Ev.mod_ii, Ev.neg_i, Ev.int_i, Ev.abs_i, Ev.max2_ii, Ev.dvm_ii, Ev.len_l, Ev.len_t, Ev.listO_l, Ev.tupO_l, Ev.ints_map, Ev.intsD_map, Ev.sorted_l, Ev.sl_list, List.map_cons, List.map_nil, List.length_cons, List.length_nil, List.replicate_succ, List.replicate_zero, List.append_nil, List.nil_append, List.cons_append, List.getElem?_cons_zero, List.getElem?_cons_succ, List.getElem?_nil, List.set_cons_zero, List.set_cons_succ, List.set_nil, Option.bind_some, Option.bind_none, Option.map_some, Option.map_none, Nat.reduceAdd, Nat.reduceSub, Nat.reduceEqDiff, Nat.reduceLeDiff, if_true, if_false, reduceCtorEq, List.nodup_nil, Bool.false_eq_true, Bool.not_true, Bool.not_false, Bool.true_and, Bool.false_and, Bool.and_true, Bool.and_false, ↓reduceIte, id_eq, List.tail_cons, Nat.zero_add, List.all_cons, List.all_nil, ne_eq, not_false_eq_true, and_self, and_true, true_and, Ew.dsp1_at, Ew.key_i, Ew.swapNew_at, Ew.rng2_at, Ew.rngD_at, Ew.putP_dc, Ew.dc_at, Ew.din_at, Ew.dput_at, Ew.fnD_at, Ew.retGet_at, Ew.sortD_at, Ew.ext_at, Ew.L_at, Ew.LIx_at, Ew.Sc_at, Ew.callL_at, Ew.opNil_at, Ew.sv_i, Ew.oo_at, Ew.appO_at, Ew.sub2_at, Ew.fnL_at, Ew.subAppL_at, Ew.lcO_at, Ew.walk_at, Bool.true_xor, Bool.false_xor
, in_abc, hw, cs_no, eq_S, hn, decide_false, decide_true, Gd.aug_at, Gd.fzAt_s, aug_S1 hu2]
    · have hw' : isW c = false := by simpa using hw
      have go : ∀ fd2, fd2 = fd ++ ((if u = [] then [] else [(st, u)]) ++ (if c = 32 then [] else [(pos, [c])])).map (tk (k + 1)) → ∃ (u' : List Nat) (st' : Nat) (x6' x7' : Option O), fzo x6' ∧ fzo x7' ∧
          turns (hTup 2 (hCons (hName 6) (hCons (hName 7) hNil))) (mSeq (mIf (eT (eOp (inS false) (eVar 7) (eP (eC (.str "abcdefghijklmnopqrstuvwxyz0123456789"))))) (mSeq (mAsg 5 (eIf (eT (eOp eqX (eVar 4) (eP (eC (.str ""))))) (eVar 6) (eVar 5))) (mSeq (mAug 4 augS (eF (eVar 7))) mPass)) (mSeq (mIf (eT (eOp neX (eVar 4) (eP (eC (.str ""))))) (mSeq (mDrop (eP (eMeth 1 mApp (eCons (eTup (eCons (eF (eOpF addO (eF (eVar 2)) (eC (.int 1)))) (eCons (eF (eVar 5)) (eCons (eF (eVar 4)) eNil)))) eNil)))) mPass) mPass) (mSeq (mAsg 4 (eP (eC (.str "")))) (mSeq (mIf (eT (eOp neX (eVar 7) (eP (eC (.str " "))))) (mSeq (mDrop (eP (eMeth 1 mApp (eCons (eTup (eCons (eF (eOpF addO (eF (eVar 2)) (eC (.int 1)))) (eCons (eF (eVar 6)) (eCons (eF (eVar 7)) eNil)))) eNil)))) mPass) mPass) mPass)))) mPass) (en (pos + 1) l) [some (.fz (.str (S text))), some (.ow (fd2)), some (.fz (.int k)), some (.fz (.str (S line))), some (.fz (.str (S []))), some (.fz (.int (st : Nat))), some (.fz (.int pos)), some (.fz (.str ⟨#[c]⟩))] =
            some (.nx [some (.fz (.str (S text))), some (.ow (fd ++ (sc pos st u (c :: l)).map (tk (k + 1)))), some (.fz (.int k)), some (.fz (.str (S line))), some (.fz (.str (S u'))), some (.fz (.int (st' : Nat))), x6', x7']) := fun fd2 e => by
        obtain ⟨u', st', x6', x7', q6, q7, i⟩ := ih (pos + 1) st [] fd2 (some (.fz (.int pos))) (some (.fz (.str ⟨#[c]⟩))) (by simp at hu ⊢; omega) (by
          rw [e, List.length_cons] at *
          rw [List.length_append, List.length_map, List.length_append]
          split <;> split <;> simp <;> omega) (.inr ⟨_, rfl⟩) (.inr ⟨_, rfl⟩)
        refine ⟨u', st', x6', x7', q6, q7, ?_⟩
        rw [sc, if_neg hw, ← List.append_assoc, List.map_append, ← List.append_assoc, ← e, i]
      by_cases hn : u = [] <;> by_cases c32 : c = 32
      · subst hn c32
        obtain ⟨u', st', x6', x7', q6, q7, i⟩ := go fd (by simp)
        refine ⟨u', st', x6', x7', q6, q7, ?_⟩
        rw [← i]
        rcases h6 with rfl | ⟨z6, rfl⟩ <;> rcases h7 with rfl | ⟨z7, rfl⟩ <;> simp -implicitDefEqProofs only [Ev.nd1, Ev.nd2, Ev.lent_fz, Ev.lent_ow, Ev.lent_oo, Ev.lent_mx, Ev.lent_ln, Ev.lent_nil, Ev.back_nil, Ev.back_tm, Ev.back_sl, Ev.runM_at, Ev.start_at, Ev.seq_at, Ev.pass_at, Ev.brk_at, Ev.cnt_at, Ev.ret_at, Ev.retN_at, Ev.asg_at, Ev.if_at, Ev.drop_at, Ev.tgt_at, Ev.tup_at, Ev.for_at, Ev.P_at, Ev.F_at, Ev.var_at, Ev.c_at, Ev.op_at, Ev.opF_at, Ev.call_at, Ev.call1_at, Ev.un_at, Ev.isi_at, Ev.nil_at, Ev.cons_at, Ev.aNil_at, Ev.aCons_at, Ev.lst_at', Ev.tupE_at, Ev.mix_at, Ev.t_at, Ev.tru_at, Ev.and_at, Ev.or_at, Ev.not_at, Ev.andV_at, Ev.orV_at, Ev.notV_at, Ev.if2_at, Ev.ix_at', Ev.no_at, Ev.yes_at, Ev.sl_at, Ev.rep_at, Ev.fn_at, Ev.fnK_at, Ev.seqL_at, Ev.seqT_at, Ev.enum_at, Ev.zip_at, Ec.rng1_D, Ec.lr1_D, Ev.lc_at, Ev.lcE_at, Ev.yesT_at, Ev.meth_at, Ev.idx_at, Ev.subApp_at, Ev.sortSet_at, Ev.hName_at, Ev.hNil_at, Ev.hCons_at, Ev.hTup_at, Ev.hSub_at, Ev.turns_nil, Ev.force_fz, Ev.force_ow, Ev.force_oo, Ev.force_mx, Ev.force_sl, Ev.norm_fz, Ev.norm_ow, Ev.norm_sl, Ev.argO_sl, Ev.own_at, Ev.setOwn_at, Ev.flatF, Ev.flatO, Ev.flatL, Ev.data_tm, Ev.data_sl, Ev.toD_fz, Ev.toD_ow, Ev.toD_ln, Ev.toD_oo, Ev.toD_mx, Ev.flat_fz, Ev.flat_ow, Ev.flat_sl, Ev.retP_fz, Ev.retP_ow, Ev.retP_oo, Ev.retP_sl, Ev.putP_fz, Ev.putP_ow, Ev.putP_oo, Ev.putP_mx, Ev.putP_sl, Ev.noLn_at, Ev.argOs_nil, Ev.argOs_cons, Ev.argO_fz, Ev.argO_ow, Ev.slots_nil, Ev.slots_tm, Ev.slots_sl, Ev.bOf_b, Ev.ownP_fz, Ev.ownP_ow, Ev.ownP_sl, Ev.ownPs_nil, Ev.ownPs_cons, Ev.putAll_nil, Ev.putAll_cons, Ev.mixI_nil, Ev.mixI_fz, Ev.mixI_ow, Ev.mixI_oo, Ev.ixD_list, Ev.ixD_tup, Ev.atI_0, Ev.atI_1, Ev.ixN_0, Ev.ixN_1, Ev.gt_ii, Ev.ge_ii, Ev.lt_ii, Ev.le_ii, Ev.add_ii, Ev.add_ll, Ev.sub_ii, Ev.mul_ii, Ev.fdv_ii, Ev.mod_ii, Ev.neg_i, Ev.int_i, Ev.abs_i, Ev.max2_ii, Ev.dvm_ii, Ev.len_l, Ev.len_t, Ev.listO_l, Ev.tupO_l, Ev.ints_map, Ev.intsD_map, Ev.sorted_l, Ev.sl_list, List.map_cons, List.map_nil, List.length_cons, List.length_nil, List.replicate_succ, List.replicate_zero, List.append_nil, List.nil_append, List.cons_append, List.getElem?_cons_zero, List.getElem?_cons_succ, List.getElem?_nil, List.set_cons_zero, List.set_cons_succ, List.set_nil, Option.bind_some, Option.bind_none, Option.map_some, Option.map_none, Nat.reduceAdd, Nat.reduceSub, Nat.reduceEqDiff, Nat.reduceLeDiff, if_true, if_false, reduceCtorEq, List.nodup_nil, Bool.false_eq_true, Bool.not_true, Bool.not_false, Bool.true_and, Bool.false_and, Bool.and_true, Bool.and_false, ↓reduceIte, id_eq, List.tail_cons, Nat.zero_add, List.all_cons, List.all_nil, ne_eq, not_false_eq_true, and_self, and_true, true_and, Ew.dsp1_at, Ew.key_i, Ew.swapNew_at, Ew.rng2_at, Ew.rngD_at, Ew.putP_dc, Ew.dc_at, Ew.din_at, Ew.dput_at, Ew.fnD_at, Ew.retGet_at, Ew.sortD_at, Ew.ext_at, Ew.L_at, Ew.LIx_at, Ew.Sc_at, Ew.callL_at, Ew.opNil_at, Ew.sv_i, Ew.oo_at, Ew.appO_at, Ew.sub2_at, Ew.fnL_at, Ew.subAppL_at, Ew.lcO_at, Ew.walk_at, Bool.true_xor, Bool.false_xor
, in_abc, hw', cs_no, cs_sp, ne_S, ne_S1, decide_true, decide_false, not_true_eq_false]
      · subst hn
        obtain ⟨u', st', x6', x7', q6, q7, i⟩ := go (fd ++ [.tuple [.int (k + 1), .int (pos : Nat), .str ⟨#[c]⟩]]) (by rw [if_pos rfl, if_neg c32]; rfl)
        refine ⟨u', st', x6', x7', q6, q7, ?_⟩
        rw [← i]
        rcases h6 with rfl | ⟨z6, rfl⟩ <;> rcases h7 with rfl | ⟨z7, rfl⟩ <;> simp -implicitDefEqProofs only [Ev.nd1, Ev.nd2, Ev.lent_fz, Ev.lent_ow, Ev.lent_oo, Ev.lent_mx, Ev.lent_ln, Ev.lent_nil, Ev.back_nil, Ev.back_tm, Ev.back_sl, Ev.runM_at, Ev.start_at, Ev.seq_at, Ev.pass_at, Ev.brk_at, Ev.cnt_at, Ev.ret_at, Ev.retN_at, Ev.asg_at, Ev.if_at, Ev.drop_at, Ev.tgt_at, Ev.tup_at, Ev.for_at, Ev.P_at, Ev.F_at, Ev.var_at, Ev.c_at, Ev.op_at, Ev.opF_at, Ev.call_at, Ev.call1_at, Ev.un_at, Ev.isi_at, Ev.nil_at, Ev.cons_at, Ev.aNil_at, Ev.aCons_at, Ev.lst_at', Ev.tupE_at, Ev.mix_at, Ev.t_at, Ev.tru_at, Ev.and_at, Ev.or_at, Ev.not_at, Ev.andV_at, Ev.orV_at, Ev.notV_at, Ev.if2_at, Ev.ix_at', Ev.no_at, Ev.yes_at, Ev.sl_at, Ev.rep_at, Ev.fn_at, Ev.fnK_at, Ev.seqL_at, Ev.seqT_at, Ev.enum_at, Ev.zip_at, Ec.rng1_D, Ec.lr1_D, Ev.lc_at, Ev.lcE_at, Ev.yesT_at, Ev.meth_at, Ev.idx_at, Ev.subApp_at, Ev.sortSet_at, Ev.hName_at, Ev.hNil_at, Ev.hCons_at, Ev.hTup_at, Ev.hSub_at, Ev.turns_nil, Ev.force_fz, Ev.force_ow, Ev.force_oo, Ev.force_mx, Ev.force_sl, Ev.norm_fz, Ev.norm_ow, Ev.norm_sl, Ev.argO_sl, Ev.own_at, Ev.setOwn_at, Ev.flatF, Ev.flatO, Ev.flatL, Ev.data_tm, Ev.data_sl, Ev.toD_fz, Ev.toD_ow, Ev.toD_ln, Ev.toD_oo, Ev.toD_mx, Ev.flat_fz, Ev.flat_ow, Ev.flat_sl, Ev.retP_fz, Ev.retP_ow, Ev.retP_oo, Ev.retP_sl, Ev.putP_fz, Ev.putP_ow, Ev.putP_oo, Ev.putP_mx, Ev.putP_sl, Ev.noLn_at, Ev.argOs_nil, Ev.argOs_cons, Ev.argO_fz, Ev.argO_ow, Ev.slots_nil, Ev.slots_tm, Ev.slots_sl, Ev.bOf_b, Ev.ownP_fz, Ev.ownP_ow, Ev.ownP_sl, Ev.ownPs_nil, Ev.ownPs_cons, Ev.putAll_nil, Ev.putAll_cons, Ev.mixI_nil, Ev.mixI_fz, Ev.mixI_ow, Ev.mixI_oo, Ev.ixD_list, Ev.ixD_tup, Ev.atI_0, Ev.atI_1, Ev.ixN_0, Ev.ixN_1, Ev.gt_ii, Ev.ge_ii, Ev.lt_ii, Ev.le_ii, Ev.add_ii, Ev.add_ll, Ev.sub_ii, Ev.mul_ii, Ev.fdv_ii, Ev.mod_ii, Ev.neg_i, Ev.int_i, Ev.abs_i, Ev.max2_ii, Ev.dvm_ii, Ev.len_l, Ev.len_t, Ev.listO_l, Ev.tupO_l, Ev.ints_map, Ev.intsD_map, Ev.sorted_l, Ev.sl_list, List.map_cons, List.map_nil, List.length_cons, List.length_nil, List.replicate_succ, List.replicate_zero, List.append_nil, List.nil_append, List.cons_append, List.getElem?_cons_zero, List.getElem?_cons_succ, List.getElem?_nil, List.set_cons_zero, List.set_cons_succ, List.set_nil, Option.bind_some, Option.bind_none, Option.map_some, Option.map_none, Nat.reduceAdd, Nat.reduceSub, Nat.reduceEqDiff, Nat.reduceLeDiff, if_true, if_false, reduceCtorEq, List.nodup_nil, Bool.false_eq_true, Bool.not_true, Bool.not_false, Bool.true_and, Bool.false_and, Bool.and_true, Bool.and_false, ↓reduceIte, id_eq, List.tail_cons, Nat.zero_add, List.all_cons, List.all_nil, ne_eq, not_false_eq_true, and_self, and_true, true_and, Ew.dsp1_at, Ew.key_i, Ew.swapNew_at, Ew.rng2_at, Ew.rngD_at, Ew.putP_dc, Ew.dc_at, Ew.din_at, Ew.dput_at, Ew.fnD_at, Ew.retGet_at, Ew.sortD_at, Ew.ext_at, Ew.L_at, Ew.LIx_at, Ew.Sc_at, Ew.callL_at, Ew.opNil_at, Ew.sv_i, Ew.oo_at, Ew.appO_at, Ew.sub2_at, Ew.fnL_at, Ew.subAppL_at, Ew.lcO_at, Ew.walk_at, Bool.true_xor, Bool.false_xor
, in_abc, hw', cs_no, cs_sp, ne_S, ne_S1, c32, (show ¬ [c] = [32] by simpa using c32), decide_true, decide_false, not_true_eq_false, Gd.app_1, hfz, (by decide : 3 ≤ sizeLine)]
      · subst c32
        obtain ⟨u', st', x6', x7', q6, q7, i⟩ := go (fd ++ [.tuple [.int (k + 1), .int (st : Nat), .str (S u)]]) (by rw [if_neg hn, if_pos rfl]; rfl)
        refine ⟨u', st', x6', x7', q6, q7, ?_⟩
        rw [← i]
        rcases h6 with rfl | ⟨z6, rfl⟩ <;> rcases h7 with rfl | ⟨z7, rfl⟩ <;> simp -implicitDefEqProofs only [Ev.nd1, Ev.nd2, Ev.lent_fz, Ev.lent_ow, Ev.lent_oo, Ev.lent_mx, Ev.lent_ln, Ev.lent_nil, Ev.back_nil, Ev.back_tm, Ev.back_sl, Ev.runM_at, Ev.start_at, Ev.seq_at, Ev.pass_at, Ev.brk_at, Ev.cnt_at, Ev.ret_at, Ev.retN_at, Ev.asg_at, Ev.if_at, Ev.drop_at, Ev.tgt_at, Ev.tup_at, Ev.for_at, Ev.P_at, Ev.F_at, Ev.var_at, Ev.c_at, Ev.op_at, Ev.opF_at, Ev.call_at, Ev.call1_at, Ev.un_at, Ev.isi_at, Ev.nil_at, Ev.cons_at, Ev.aNil_at, Ev.aCons_at, Ev.lst_at', Ev.tupE_at, Ev.mix_at, Ev.t_at, Ev.tru_at, Ev.and_at, Ev.or_at, Ev.not_at, Ev.andV_at, Ev.orV_at, Ev.notV_at, Ev.if2_at, Ev.ix_at', Ev.no_at, Ev.yes_at, Ev.sl_at, Ev.rep_at, Ev.fn_at, Ev.fnK_at, Ev.seqL_at, Ev.seqT_at, Ev.enum_at, Ev.zip_at, Ec.rng1_D, Ec.lr1_D, Ev.lc_at, Ev.lcE_at, Ev.yesT_at, Ev.meth_at, Ev.idx_at, Ev.subApp_at, Ev.sortSet_at, Ev.hName_at, Ev.hNil_at, Ev.hCons_at, Ev.hTup_at, Ev.hSub_at, Ev.turns_nil, Ev.force_fz, Ev.force_ow, Ev.force_oo, Ev.force_mx, Ev.force_sl, Ev.norm_fz, Ev.norm_ow, Ev.norm_sl, Ev.argO_sl, Ev.own_at, Ev.setOwn_at, Ev.flatF, Ev.flatO, Ev.flatL, Ev.data_tm, Ev.data_sl, Ev.toD_fz, Ev.toD_ow, Ev.toD_ln, Ev.toD_oo, Ev.toD_mx, Ev.flat_fz, Ev.flat_ow, Ev.flat_sl, Ev.retP_fz, Ev.retP_ow, Ev.retP_oo, Ev.retP_sl, Ev.putP_fz, Ev.putP_ow, Ev.putP_oo, Ev.putP_mx, Ev.putP_sl, Ev.noLn_at, Ev.argOs_nil, Ev.argOs_cons, Ev.argO_fz, Ev.argO_ow, Ev.slots_nil, Ev.slots_tm, Ev.slots_sl, Ev.bOf_b, Ev.ownP_fz, Ev.ownP_ow, Ev.ownP_sl, Ev.ownPs_nil, Ev.ownPs_cons, Ev.putAll_nil, Ev.putAll_cons, Ev.mixI_nil, Ev.mixI_fz, Ev.mixI_ow, Ev.mixI_oo, Ev.ixD_list, Ev.ixD_tup, Ev.atI_0, Ev.atI_1, Ev.ixN_0, Ev.ixN_1, Ev.gt_ii, Ev.ge_ii, Ev.lt_ii, Ev.le_ii, Ev.add_ii, Ev.add_ll, Ev.sub_ii, Ev.mul_ii, Ev.fdv_ii, Ev.mod_ii, Ev.neg_i, Ev.int_i, Ev.abs_i, Ev.max2_ii, Ev.dvm_ii, Ev.len_l, Ev.len_t, Ev.listO_l, Ev.tupO_l, Ev.ints_map, Ev.intsD_map, Ev.sorted_l, Ev.sl_list, List.map_cons, List.map_nil, List.length_cons, List.length_nil, List.replicate_succ, List.replicate_zero, List.append_nil, List.nil_append, List.cons_append, List.getElem?_cons_zero, List.getElem?_cons_succ, List.getElem?_nil, List.set_cons_zero, List.set_cons_succ, List.set_nil, Option.bind_some, Option.bind_none, Option.map_some, Option.map_none, Nat.reduceAdd, Nat.reduceSub, Nat.reduceEqDiff, Nat.reduceLeDiff, if_true, if_false, reduceCtorEq, List.nodup_nil, Bool.false_eq_true, Bool.not_true, Bool.not_false, Bool.true_and, Bool.false_and, Bool.and_true, Bool.and_false, ↓reduceIte, id_eq, List.tail_cons, Nat.zero_add, List.all_cons, List.all_nil, ne_eq, not_false_eq_true, and_self, and_true, true_and, Ew.dsp1_at, Ew.key_i, Ew.swapNew_at, Ew.rng2_at, Ew.rngD_at, Ew.putP_dc, Ew.dc_at, Ew.din_at, Ew.dput_at, Ew.fnD_at, Ew.retGet_at, Ew.sortD_at, Ew.ext_at, Ew.L_at, Ew.LIx_at, Ew.Sc_at, Ew.callL_at, Ew.opNil_at, Ew.sv_i, Ew.oo_at, Ew.appO_at, Ew.sub2_at, Ew.fnL_at, Ew.subAppL_at, Ew.lcO_at, Ew.walk_at, Bool.true_xor, Bool.false_xor
, in_abc, hw', cs_no, cs_sp, ne_S, ne_S1, hn, decide_true, decide_false, not_true_eq_false, Gd.app_1, hfz, (by decide : 3 ≤ sizeLine)]
      · have hfz2 : fd.length + 1 < sizeLine := by rw [sizeLine_eq]; rw [List.length_cons] at hf; omega
        obtain ⟨u', st', x6', x7', q6, q7, i⟩ := go (fd ++ [.tuple [.int (k + 1), .int (st : Nat), .str (S u)], .tuple [.int (k + 1), .int (pos : Nat), .str ⟨#[c]⟩]]) (by rw [if_neg hn, if_neg c32]; rfl)
        refine ⟨u', st', x6', x7', q6, q7, ?_⟩
        rw [← i]
        rcases h6 with rfl | ⟨z6, rfl⟩ <;> rcases h7 with rfl | ⟨z7, rfl⟩ <;> simp -implicitDefEqProofs only [Ev.nd1, Ev.nd2, Ev.lent_fz, Ev.lent_ow, Ev.lent_oo, Ev.lent_mx, Ev.lent_ln, Ev.lent_nil, Ev.back_nil, Ev.back_tm, Ev.back_sl, Ev.runM_at, Ev.start_at, Ev.seq_at, Ev.pass_at, Ev.brk_at, Ev.cnt_at, Ev.ret_at, Ev.retN_at, Ev.asg_at, Ev.if_at, Ev.drop_at, Ev.tgt_at, Ev.tup_at, Ev.for_at, Ev.P_at, Ev.F_at, Ev.var_at, Ev.c_at, Ev.op_at, Ev.opF_at, Ev.call_at, Ev.call1_at, Ev.un_at, Ev.isi_at, Ev.nil_at, Ev.cons_at, Ev.aNil_at, Ev.aCons_at, Ev.lst_at', Ev.tupE_at, Ev.mix_at, Ev.t_at, Ev.tru_at, Ev.and_at, Ev.or_at, Ev.not_at, Ev.andV_at, Ev.orV_at, Ev.notV_at, Ev.if2_at, Ev.ix_at', Ev.no_at, Ev.yes_at, Ev.sl_at, Ev.rep_at, Ev.fn_at, Ev.fnK_at, Ev.seqL_at, Ev.seqT_at, Ev.enum_at, Ev.zip_at, Ec.rng1_D, Ec.lr1_D, Ev.lc_at, Ev.lcE_at, Ev.yesT_at, Ev.meth_at, Ev.idx_at, Ev.subApp_at, Ev.sortSet_at, Ev.hName_at, Ev.hNil_at, Ev.hCons_at, Ev.hTup_at, Ev.hSub_at, Ev.turns_nil, Ev.force_fz, Ev.force_ow, Ev.force_oo, Ev.force_mx, Ev.force_sl, Ev.norm_fz, Ev.norm_ow, Ev.norm_sl, Ev.argO_sl, Ev.own_at, Ev.setOwn_at, Ev.flatF, Ev.flatO, Ev.flatL, Ev.data_tm, Ev.data_sl, Ev.toD_fz, Ev.toD_ow, Ev.toD_ln, Ev.toD_oo, Ev.toD_mx, Ev.flat_fz, Ev.flat_ow, Ev.flat_sl, Ev.retP_fz, Ev.retP_ow, Ev.retP_oo, Ev.retP_sl, Ev.putP_fz, Ev.putP_ow, Ev.putP_oo, Ev.putP_mx, Ev.putP_sl, Ev.noLn_at, Ev.argOs_nil, Ev.argOs_cons, Ev.argO_fz, Ev.argO_ow, Ev.slots_nil, Ev.slots_tm, Ev.slots_sl, Ev.bOf_b, Ev.ownP_fz, Ev.ownP_ow, Ev.ownP_sl, Ev.ownPs_nil, Ev.ownPs_cons, Ev.putAll_nil, Ev.putAll_cons, Ev.mixI_nil, Ev.mixI_fz, Ev.mixI_ow, Ev.mixI_oo, Ev.ixD_list, Ev.ixD_tup, Ev.atI_0, Ev.atI_1, Ev.ixN_0, Ev.ixN_1, Ev.gt_ii, Ev.ge_ii, Ev.lt_ii, Ev.le_ii, Ev.add_ii, Ev.add_ll, Ev.sub_ii, Ev.mul_ii, Ev.fdv_ii, Ev.mod_ii, Ev.neg_i, Ev.int_i, Ev.abs_i, Ev.max2_ii, Ev.dvm_ii, Ev.len_l, Ev.len_t, Ev.listO_l, Ev.tupO_l, Ev.ints_map, Ev.intsD_map, Ev.sorted_l, Ev.sl_list, List.map_cons, List.map_nil, List.length_cons, List.length_nil, List.replicate_succ, List.replicate_zero, List.append_nil, List.nil_append, List.cons_append, List.getElem?_cons_zero, List.getElem?_cons_succ, List.getElem?_nil, List.set_cons_zero, List.set_cons_succ, List.set_nil, Option.bind_some, Option.bind_none, Option.map_some, Option.map_none, Nat.reduceAdd, Nat.reduceSub, Nat.reduceEqDiff, Nat.reduceLeDiff, if_true, if_false, reduceCtorEq, List.nodup_nil, Bool.false_eq_true, Bool.not_true, Bool.not_false, Bool.true_and, Bool.false_and, Bool.and_true, Bool.and_false, ↓reduceIte, id_eq, List.tail_cons, Nat.zero_add, List.all_cons, List.all_nil, ne_eq, not_false_eq_true, and_self, and_true, true_and, Ew.dsp1_at, Ew.key_i, Ew.swapNew_at, Ew.rng2_at, Ew.rngD_at, Ew.putP_dc, Ew.dc_at, Ew.din_at, Ew.dput_at, Ew.fnD_at, Ew.retGet_at, Ew.sortD_at, Ew.ext_at, Ew.L_at, Ew.LIx_at, Ew.Sc_at, Ew.callL_at, Ew.opNil_at, Ew.sv_i, Ew.oo_at, Ew.appO_at, Ew.sub2_at, Ew.fnL_at, Ew.subAppL_at, Ew.lcO_at, Ew.walk_at, Bool.true_xor, Bool.false_xor
, in_abc, hw', cs_no, cs_sp, ne_S, ne_S1, hn, c32, (show ¬ [c] = [32] by simpa using c32), decide_true, decide_false, not_true_eq_false, Gd.app_1, hfz, hfz2, List.length_append, List.append_assoc, List.singleton_append, (by decide : 3 ≤ sizeLine)]
end K25
end
section
set_option Elab.async false
set_option linter.all false
set_option maxRecDepth 100000
set_option maxHeartbeats 8000000
namespace K25
open PySem PySem.Spec PyProof.Rows L2 Vi Vf Vo Vp Vs Vt Vu Vv Vg Vw Vx Vy Va Vb Vc Vk Vm Vl Vn Vd Vq Vr Vj Vfr Ev Ec Mo Ew Gd Gx Gy Gt Rk Vxt
open SX (S S_cat S_len S_tl S_inj)
def lineT (k : Int) (l : List Nat) : List D := (sc 0 0 [] (told l ++ [32])).map (tk (k + 1)) ++ [.tuple [.int (k + 1), .int (l.length : Nat), .str (S [59])]]
def toks : Nat → List (List Nat) → List D
  | _, [] => []
  | k, l :: ls => lineT (k : Int) l ++ toks (k + 1) ls
theorem sc_len : ∀ {l : List Nat} {pos st : Nat} {u : List Nat}, (sc pos st u l).length ≤ 2 * l.length
  | [], _, _, _ => by simp [sc]
  | c :: l, pos, st, u => by
    rw [sc]
    have i1 := sc_len (l := l) (pos := pos + 1) (st := if u = [] then pos else st) (u := u ++ [c])
    have i2 := sc_len (l := l) (pos := pos + 1) (st := st) (u := [])
    split
    · simp; omega
    · split <;> split <;> simp <;> omega
theorem add_S {a b : List Nat} (h : a.length + b.length ≤ 4000) : addO (.str (S a)) (.str (S b)) = some (.fz (.str (S (a ++ b)))) := by
  show (if (S a).length + (S b).length ≤ sizeLine then some (O.fz (.str (S a ++ S b))) else none) = _
  rw [if_pos (by rw [S_len, S_len, sizeLine_eq]; omega), S_cat]
theorem split_hash (l : List Nat) (hl : l.length ≤ 1000) : ∃ ps, splitO (.str (S l)) (.str (S [35])) = some (.ow (.str (S (told l)) :: ps)) := by
  obtain ⟨ps, e⟩ := told_split l
  refine ⟨ps.map .str, (if_pos ⟨rfl, by rw [S_len, sizeLine_eq]; omega⟩).trans ?_⟩
  rw [e, List.map_cons]
theorem split_nl (l : List Nat) (hl : l.length ≤ 1000) : splitO (.str (S l)) (.str (S [10])) = some (.ow (((TL.spl [10] 0 [] l).map S).map .str)) :=
  (if_pos ⟨rfl, by rw [S_len, sizeLine_eq]; omega⟩).trans (by rw [SX.split_S (by simp) (by decide)])
theorem step_lt (text line : List Nat) (k : Int) (fd : List D) (x2 x3 x4 x5 x6 x7 : Option O) (h : (x2 = none ∧ x3 = none ∧ x4 = none ∧ x5 = none) ∨ (∃ z2 z3 z4 z5, x2 = some (.fz z2) ∧ x3 = some (.fz z3) ∧ x4 = some (.fz z4) ∧ x5 = some (.fz z5))) (h6 : fzo x6) (h7 : fzo x7)
    (hl : line.length ≤ 1000) (hf : fd.length ≤ 80000) : ∃ (u' : List Nat) (st' : Nat) (x6' x7' : Option O), fzo x6' ∧ fzo x7' ∧
    ((hTup 2 (hCons (hName 2) (hCons (hName 3) hNil)) (.tuple [.int k, .str (S line)]) [some (.fz (.str (S text))), some (.ow (fd)), x2, x3, x4, x5, x6, x7]).bind fun δ => (mSeq (mTup [4, 5] (aCons (eP (eC (.str ""))) (aCons (eP (eC (.int 0))) aNil))) (mSeq (mFor (eEnumS (eCons (eF (eOpF addO (eIx (eSplit (eF (eVar 3)) (eC (.str "#"))) (eC (.int 0))) (eC (.str " ")))) eNil)) (hTup 2 (hCons (hName 6) (hCons (hName 7) hNil))) (mSeq (mIf (eT (eOp (inS false) (eVar 7) (eP (eC (.str "abcdefghijklmnopqrstuvwxyz0123456789"))))) (mSeq (mAsg 5 (eIf (eT (eOp eqX (eVar 4) (eP (eC (.str ""))))) (eVar 6) (eVar 5))) (mSeq (mAug 4 augS (eF (eVar 7))) mPass)) (mSeq (mIf (eT (eOp neX (eVar 4) (eP (eC (.str ""))))) (mSeq (mDrop (eP (eMeth 1 mApp (eCons (eTup (eCons (eF (eOpF addO (eF (eVar 2)) (eC (.int 1)))) (eCons (eF (eVar 5)) (eCons (eF (eVar 4)) eNil)))) eNil)))) mPass) mPass) (mSeq (mAsg 4 (eP (eC (.str "")))) (mSeq (mIf (eT (eOp neX (eVar 7) (eP (eC (.str " "))))) (mSeq (mDrop (eP (eMeth 1 mApp (eCons (eTup (eCons (eF (eOpF addO (eF (eVar 2)) (eC (.int 1)))) (eCons (eF (eVar 6)) (eCons (eF (eVar 7)) eNil)))) eNil)))) mPass) mPass) mPass)))) mPass)) (mSeq (mDrop (eP (eMeth 1 mApp (eCons (eTup (eCons (eF (eOpF addO (eF (eVar 2)) (eC (.int 1)))) (eCons (eCall1 lenD (eVar 3)) (eCons (eC (.str ";")) eNil)))) eNil)))) mPass))) δ) =
      some (.nx [some (.fz (.str (S text))), some (.ow (fd ++ lineT k line)), some (.fz (.int k)), some (.fz (.str (S line))), some (.fz (.str (S u'))), some (.fz (.int (st' : Nat))), x6', x7']) := by
  have h2 := told_len line
  obtain ⟨u', st', x6', x7', q6, q7, i⟩ := inner_lt text line k (told line ++ [32]) 0 0 [] fd x6 x7 (by simp; omega) (by simp; omega) h6 h7
  rw [show ((0 : Nat) : Int) = 0 from rfl] at i
  simp only [cs_no, cs_sp] at i
  obtain ⟨ps, es⟩ := split_hash line hl
  have hsc := sc_len (l := told line ++ [32]) (pos := 0) (st := 0) (u := [])
  have hfz : (fd ++ (sc 0 0 [] (told line ++ [32])).map (tk (k + 1))).length < sizeLine := by
    rw [List.length_append, List.length_map, sizeLine_eq]
    simp at hsc
    omega
  refine ⟨u', st', x6', x7', q6, q7, ?_⟩
  unfold lineT
  rw [← List.append_assoc]
  rcases h with ⟨rfl, rfl, rfl, rfl⟩ | ⟨z2, z3, z4, z5, rfl, rfl, rfl, rfl⟩
  · simp -implicitDefEqProofs only [Ev.nd1, Ev.nd2, Ev.lent_fz, Ev.lent_ow, Ev.lent_oo, Ev.lent_mx, Ev.lent_ln, Ev.lent_nil, Ev.back_nil, Ev.back_tm, Ev.back_sl, Ev.runM_at, Ev.start_at, Ev.seq_at, Ev.pass_at, Ev.brk_at, Ev.cnt_at, Ev.ret_at, Ev.retN_at, Ev.asg_at, Ev.if_at, Ev.drop_at, Ev.tgt_at, Ev.tup_at, Ev.for_at, Ev.P_at, Ev.F_at, Ev.var_at, Ev.c_at, Ev.op_at, Ev.opF_at, Ev.call_at, Ev.call1_at, Ev.un_at, Ev.isi_at, Ev.nil_at, Ev.cons_at, Ev.aNil_at, Ev.aCons_at, Ev.lst_at', Ev.tupE_at, Ev.mix_at, Ev.t_at, Ev.tru_at, Ev.and_at, Ev.or_at, Ev.not_at, Ev.andV_at, Ev.orV_at, Ev.notV_at, Ev.if2_at, Ev.ix_at', Ev.no_at, Ev.yes_at, Ev.sl_at, Ev.rep_at, Ev.fn_at, Ev.fnK_at, Ev.seqL_at, Ev.seqT_at, Ev.enum_at, Ev.zip_at, Ec.rng1_D, Ec.lr1_D, Ev.lc_at, Ev.lcE_at, Ev.yesT_at, Ev.meth_at, Ev.idx_at, Ev.subApp_at, Ev.sortSet_at, Ev.hName_at, Ev.hNil_at, Ev.hCons_at, Ev.hTup_at, Ev.hSub_at, Ev.turns_nil, Ev.force_fz, Ev.force_ow, Ev.force_oo, Ev.force_mx, Ev.force_sl, Ev.norm_fz, Ev.norm_ow, Ev.norm_sl, Ev.argO_sl, Ev.own_at, Ev.setOwn_at, Ev.flatF, Ev.flatO, Ev.flatL, Ev.data_tm, Ev.data_sl, Ev.toD_fz, Ev.toD_ow, Ev.toD_ln, Ev.toD_oo, Ev.toD_mx, Ev.flat_fz, Ev.flat_ow, Ev.flat_sl, Ev.retP_fz, Ev.retP_ow, Ev.retP_oo, Ev.retP_sl, Ev.putP_fz, Ev.putP_ow, Ev.putP_oo, Ev.putP_mx, Ev.putP_sl, Ev.noLn_at, Ev.argOs_nil, Ev.argOs_cons, Ev.argO_fz, Ev.argO_ow, Ev.slots_nil, Ev.slots_tm, Ev.slots_sl, Ev.bOf_b, Ev.ownP_fz, Ev.ownP_ow, Ev.ownP_sl, Ev.ownPs_nil, Ev.ownPs_cons, Ev.putAll_nil, Ev.putAll_cons, Ev.mixI_nil, Ev.mixI_fz, Ev.mixI_ow, Ev.mixI_oo, Ev.ixD_list, Ev.ixD_tup, Ev.atI_0, Ev.atI_1, Ev.ixN_0, Ev.ixN_1, Ev.gt_ii, Ev.ge_ii, Ev.lt_ii, Ev.le_ii, Ev.add_ii, Ev.add_ll, Ev.sub_ii, Ev.mul_ii, Ev.fdv_ii, Ev.mod_ii, Ev.neg_i, Ev.int_i, Ev.abs_i, Ev.max2_ii, Ev.dvm_ii, Ev.len_l, Ev.len_t, Ev.listO_l, Ev.tupO_l, Ev.ints_map, Ev.intsD_map, Ev.sorted_l, Ev.sl_list, List.map_cons, List.map_nil, List.length_cons, List.length_nil, List.replicate_succ, List.replicate_zero, List.append_nil, List.nil_append, List.cons_append, List.getElem?_cons_zero, List.getElem?_cons_succ, List.getElem?_nil, List.set_cons_zero, List.set_cons_succ, List.set_nil, Option.bind_some, Option.bind_none, Option.map_some, Option.map_none, Nat.reduceAdd, Nat.reduceSub, Nat.reduceEqDiff, Nat.reduceLeDiff, if_true, if_false, reduceCtorEq, List.nodup_nil, Bool.false_eq_true, Bool.not_true, Bool.not_false, Bool.true_and, Bool.false_and, Bool.and_true, Bool.and_false, ↓reduceIte, id_eq, List.tail_cons, Nat.zero_add, List.all_cons, List.all_nil, ne_eq, not_false_eq_true, and_self, and_true, true_and, Ew.dsp1_at, Ew.key_i, Ew.swapNew_at, Ew.rng2_at, Ew.rngD_at, Ew.putP_dc, Ew.dc_at, Ew.din_at, Ew.dput_at, Ew.fnD_at, Ew.retGet_at, Ew.sortD_at, Ew.ext_at, Ew.L_at, Ew.LIx_at, Ew.Sc_at, Ew.callL_at, Ew.opNil_at, Ew.sv_i, Ew.oo_at, Ew.appO_at, Ew.sub2_at, Ew.fnL_at, Ew.subAppL_at, Ew.lcO_at, Ew.walk_at, Bool.true_xor, Bool.false_xor
, eEnumS, eSplit, cs_hash, cs_sp, cs_no, cs_sc, es, add_S (show (told line).length + [32].length ≤ 4000 by simp; omega), enumD_S, (by decide : 2 ≤ sizeLine), (by decide : 3 ≤ sizeLine), i, len_s hl, Gd.app_1, hfz]
  · simp -implicitDefEqProofs only [Ev.nd1, Ev.nd2, Ev.lent_fz, Ev.lent_ow, Ev.lent_oo, Ev.lent_mx, Ev.lent_ln, Ev.lent_nil, Ev.back_nil, Ev.back_tm, Ev.back_sl, Ev.runM_at, Ev.start_at, Ev.seq_at, Ev.pass_at, Ev.brk_at, Ev.cnt_at, Ev.ret_at, Ev.retN_at, Ev.asg_at, Ev.if_at, Ev.drop_at, Ev.tgt_at, Ev.tup_at, Ev.for_at, Ev.P_at, Ev.F_at, Ev.var_at, Ev.c_at, Ev.op_at, Ev.opF_at, Ev.call_at, Ev.call1_at, Ev.un_at, Ev.isi_at, Ev.nil_at, Ev.cons_at, Ev.aNil_at, Ev.aCons_at, Ev.lst_at', Ev.tupE_at, Ev.mix_at, Ev.t_at, Ev.tru_at, Ev.and_at, Ev.or_at, Ev.not_at, Ev.andV_at, Ev.orV_at, Ev.notV_at, Ev.if2_at, Ev.ix_at', Ev.no_at, Ev.yes_at, Ev.sl_at, Ev.rep_at, Ev.fn_at, Ev.fnK_at, Ev.seqL_at, Ev.seqT_at, Ev.enum_at, Ev.zip_at, Ec.rng1_D, Ec.lr1_D, Ev.lc_at, Ev.lcE_at, Ev.yesT_at, Ev.meth_at, Ev.idx_at, Ev.subApp_at, Ev.sortSet_at, Ev.hName_at, Ev.hNil_at, Ev.hCons_at, Ev.hTup_at, Ev.hSub_at, Ev.turns_nil, Ev.force_fz, Ev.force_ow, Ev.force_oo, Ev.force_mx, Ev.force_sl, Ev.norm_fz, Ev.norm_ow, Ev.norm_sl, Ev.argO_sl, Ev.own_at, Ev.setOwn_at, Ev.flatF, Ev.flatO, Ev.flatL, Ev.data_tm, Ev.data_sl, Ev.toD_fz, Ev.toD_ow, Ev.toD_ln, Ev.toD_oo, Ev.toD_mx, Ev.flat_fz, Ev.flat_ow, Ev.flat_sl, Ev.retP_fz, Ev.retP_ow, Ev.retP_oo, Ev.retP_sl, Ev.putP_fz, Ev.putP_ow, Ev.putP_oo, Ev.putP_mx, Ev.putP_sl, Ev.noLn_at, Ev.argOs_nil, Ev.argOs_cons, Ev.argO_fz, Ev.argO_ow, Ev.slots_nil, Ev.slots_tm, Ev.slots_sl, Ev.bOf_b, Ev.ownP_fz, Ev.ownP_ow, Ev.ownP_sl, Ev.ownPs_nil, Ev.ownPs_cons, Ev.putAll_nil, Ev.putAll_cons, Ev.mixI_nil, Ev.mixI_fz, Ev.mixI_ow, Ev.mixI_oo, Ev.ixD_list, Ev.ixD_tup, Ev.atI_0, Ev.atI_1, Ev.ixN_0, Ev.ixN_1, Ev.gt_ii, Ev.ge_ii, Ev.lt_ii, Ev.le_ii, Ev.add_ii, Ev.add_ll, Ev.sub_ii, Ev.mul_ii, Ev.fdv_ii, Ev.mod_ii, Ev.neg_i, Ev.int_i, Ev.abs_i, Ev.max2_ii, Ev.dvm_ii, Ev.len_l, Ev.len_t, Ev.listO_l, Ev.tupO_l, Ev.ints_map, Ev.intsD_map, Ev.sorted_l, Ev.sl_list, List.map_cons, List.map_nil, List.length_cons, List.length_nil, List.replicate_succ, List.replicate_zero, List.append_nil, List.nil_append, List.cons_append, List.getElem?_cons_zero, List.getElem?_cons_succ, List.getElem?_nil, List.set_cons_zero, List.set_cons_succ, List.set_nil, Option.bind_some, Option.bind_none, Option.map_some, Option.map_none, Nat.reduceAdd, Nat.reduceSub, Nat.reduceEqDiff, Nat.reduceLeDiff, if_true, if_false, reduceCtorEq, List.nodup_nil, Bool.false_eq_true, Bool.not_true, Bool.not_false, Bool.true_and, Bool.false_and, Bool.and_true, Bool.and_false, ↓reduceIte, id_eq, List.tail_cons, Nat.zero_add, List.all_cons, List.all_nil, ne_eq, not_false_eq_true, and_self, and_true, true_and, Ew.dsp1_at, Ew.key_i, Ew.swapNew_at, Ew.rng2_at, Ew.rngD_at, Ew.putP_dc, Ew.dc_at, Ew.din_at, Ew.dput_at, Ew.fnD_at, Ew.retGet_at, Ew.sortD_at, Ew.ext_at, Ew.L_at, Ew.LIx_at, Ew.Sc_at, Ew.callL_at, Ew.opNil_at, Ew.sv_i, Ew.oo_at, Ew.appO_at, Ew.sub2_at, Ew.fnL_at, Ew.subAppL_at, Ew.lcO_at, Ew.walk_at, Bool.true_xor, Bool.false_xor
, eEnumS, eSplit, cs_hash, cs_sp, cs_no, cs_sc, es, add_S (show (told line).length + [32].length ≤ 4000 by simp; omega), enumD_S, (by decide : 2 ≤ sizeLine), (by decide : 3 ≤ sizeLine), i, len_s hl, Gd.app_1, hfz]
end K25
end
section
set_option Elab.async false
set_option linter.all false
set_option maxRecDepth 100000
set_option maxHeartbeats 8000000
namespace K25
open PySem PySem.Spec PyProof.Rows L2 Vi Vf Vo Vp Vs Vt Vu Vv Vg Vw Vx Vy Va Vb Vc Vk Vm Vl Vn Vd Vq Vr Vj Vfr Ev Ec Mo Ew Gd Gx Gy Gt Rk Vxt
open SX (S S_cat S_len S_tl S_inj)
theorem lineT_len (k : Int) (l : List Nat) (h : l.length ≤ 100) : (lineT k l).length ≤ 300 := by
  have := sc_len (l := told l ++ [32]) (pos := 0) (st := 0) (u := [])
  have := told_len l
  unfold lineT
  simp at *
  omega
theorem outer_lt (text : List Nat) : ∀ (ls : List (List Nat)) (k : Nat) (fd : List D) (x2 x3 x4 x5 x6 x7 : Option O), ((x2 = none ∧ x3 = none ∧ x4 = none ∧ x5 = none) ∨ (∃ z2 z3 z4 z5, x2 = some (.fz z2) ∧ x3 = some (.fz z3) ∧ x4 = some (.fz z4) ∧ x5 = some (.fz z5))) → fzo x6 → fzo x7 →
    (∀ l ∈ ls, l.length ≤ 100) → fd.length + 300 * ls.length ≤ 80000 → ∃ x2' x3' x4' x5' x6' x7' : Option O,
    turns (hTup 2 (hCons (hName 2) (hCons (hName 3) hNil))) (mSeq (mTup [4, 5] (aCons (eP (eC (.str ""))) (aCons (eP (eC (.int 0))) aNil))) (mSeq (mFor (eEnumS (eCons (eF (eOpF addO (eIx (eSplit (eF (eVar 3)) (eC (.str "#"))) (eC (.int 0))) (eC (.str " ")))) eNil)) (hTup 2 (hCons (hName 6) (hCons (hName 7) hNil))) (mSeq (mIf (eT (eOp (inS false) (eVar 7) (eP (eC (.str "abcdefghijklmnopqrstuvwxyz0123456789"))))) (mSeq (mAsg 5 (eIf (eT (eOp eqX (eVar 4) (eP (eC (.str ""))))) (eVar 6) (eVar 5))) (mSeq (mAug 4 augS (eF (eVar 7))) mPass)) (mSeq (mIf (eT (eOp neX (eVar 4) (eP (eC (.str ""))))) (mSeq (mDrop (eP (eMeth 1 mApp (eCons (eTup (eCons (eF (eOpF addO (eF (eVar 2)) (eC (.int 1)))) (eCons (eF (eVar 5)) (eCons (eF (eVar 4)) eNil)))) eNil)))) mPass) mPass) (mSeq (mAsg 4 (eP (eC (.str "")))) (mSeq (mIf (eT (eOp neX (eVar 7) (eP (eC (.str " "))))) (mSeq (mDrop (eP (eMeth 1 mApp (eCons (eTup (eCons (eF (eOpF addO (eF (eVar 2)) (eC (.int 1)))) (eCons (eF (eVar 6)) (eCons (eF (eVar 7)) eNil)))) eNil)))) mPass) mPass) mPass)))) mPass)) (mSeq (mDrop (eP (eMeth 1 mApp (eCons (eTup (eCons (eF (eOpF addO (eF (eVar 2)) (eC (.int 1)))) (eCons (eCall1 lenD (eVar 3)) (eCons (eC (.str ";")) eNil)))) eNil)))) mPass))) (enL k ls) [some (.fz (.str (S text))), some (.ow (fd)), x2, x3, x4, x5, x6, x7] = some (.nx [some (.fz (.str (S text))), some (.ow (fd ++ toks k ls)), x2', x3', x4', x5', x6', x7']) := by
  intro ls
  induction ls with
  | nil =>
    intro k fd x2 x3 x4 x5 x6 x7 _ _ _ _ _
    exact ⟨x2, x3, x4, x5, x6, x7, by rw [enL, toks, List.append_nil]; rfl⟩
  | cons l ls ih =>
    intro k fd x2 x3 x4 x5 x6 x7 h h6 h7 hl hf
    rw [List.length_cons] at hf
    have hll := hl l (by simp)
    obtain ⟨u', st', x6', x7', q6, q7, i⟩ := step_lt text l k fd x2 x3 x4 x5 x6 x7 h h6 h7 (by omega) (by omega)
    have := lineT_len k l hll
    obtain ⟨y2, y3, y4, y5, y6, y7, j⟩ := ih (k + 1) (fd ++ lineT k l) _ _ _ _ x6' x7' (.inr ⟨.int k, .str (S l), .str (S u'), .int (st' : Nat), rfl, rfl, rfl, rfl⟩) q6 q7 (fun z hz => hl z (by simp [hz])) (by rw [List.length_append]; omega)
    refine ⟨y2, y3, y4, y5, y6, y7, ?_⟩
    rw [enL, Gd.turns_c, toks, ← List.append_assoc]
    obtain ⟨δ1, e1, e2⟩ := Option.bind_eq_some_iff.mp i
    rw [e1, Option.bind_some, e2, Option.bind_some]
    exact j
theorem v_lt (t : List Nat) (ht : t.length ≤ 100) (hls : ∀ l ∈ TL.spl [10] 0 [] t, l.length ≤ 100) (hn : (TL.spl [10] 0 [] t).length ≤ 200) : val f__law_tokens [.fz (.str (S t))] = some (.ow (toks 0 (TL.spl [10] 0 [] t)), [none]) := by
  obtain ⟨x2, x3, x4, x5, x6, x7, i⟩ := outer_lt t (TL.spl [10] 0 [] t) 0 [] none none none none none none (.inl ⟨rfl, rfl, rfl, rfl⟩) (.inl rfl) (.inl rfl) hls (by simp; omega)
  rw [List.nil_append] at i
  unfold val f__law_tokens m__law_tokens
  simp only [cs_no, cs_sp, cs_hash, cs_sc] at i
  simp -implicitDefEqProofs only [Ev.nd1, Ev.nd2, Ev.lent_fz, Ev.lent_ow, Ev.lent_oo, Ev.lent_mx, Ev.lent_ln, Ev.lent_nil, Ev.back_nil, Ev.back_tm, Ev.back_sl, Ev.runM_at, Ev.start_at, Ev.seq_at, Ev.pass_at, Ev.brk_at, Ev.cnt_at, Ev.ret_at, Ev.retN_at, Ev.asg_at, Ev.if_at, Ev.drop_at, Ev.tgt_at, Ev.tup_at, Ev.for_at, Ev.P_at, Ev.F_at, Ev.var_at, Ev.c_at, Ev.op_at, Ev.opF_at, Ev.call_at, Ev.call1_at, Ev.un_at, Ev.isi_at, Ev.nil_at, Ev.cons_at, Ev.aNil_at, Ev.aCons_at, Ev.lst_at', Ev.tupE_at, Ev.mix_at, Ev.t_at, Ev.tru_at, Ev.and_at, Ev.or_at, Ev.not_at, Ev.andV_at, Ev.orV_at, Ev.notV_at, Ev.if2_at, Ev.ix_at', Ev.no_at, Ev.yes_at, Ev.sl_at, Ev.rep_at, Ev.fn_at, Ev.fnK_at, Ev.seqL_at, Ev.seqT_at, Ev.enum_at, Ev.zip_at, Ec.rng1_D, Ec.lr1_D, Ev.lc_at, Ev.lcE_at, Ev.yesT_at, Ev.meth_at, Ev.idx_at, Ev.subApp_at, Ev.sortSet_at, Ev.hName_at, Ev.hNil_at, Ev.hCons_at, Ev.hTup_at, Ev.hSub_at, Ev.turns_nil, Ev.force_fz, Ev.force_ow, Ev.force_oo, Ev.force_mx, Ev.force_sl, Ev.norm_fz, Ev.norm_ow, Ev.norm_sl, Ev.argO_sl, Ev.own_at, Ev.setOwn_at, Ev.flatF, Ev.flatO, Ev.flatL, Ev.data_tm, Ev.data_sl, Ev.toD_fz, Ev.toD_ow, Ev.toD_ln, Ev.toD_oo, Ev.toD_mx, Ev.flat_fz, Ev.flat_ow, Ev.flat_sl, Ev.retP_fz, Ev.retP_ow, Ev.retP_oo, Ev.retP_sl, Ev.putP_fz, Ev.putP_ow, Ev.putP_oo, Ev.putP_mx, Ev.putP_sl, Ev.noLn_at, Ev.argOs_nil, Ev.argOs_cons, Ev.argO_fz, Ev.argO_ow, Ev.slots_nil, Ev.slots_tm, Ev.slots_sl, Ev.bOf_b, Ev.ownP_fz, Ev.ownP_ow, Ev.ownP_sl, Ev.ownPs_nil, Ev.ownPs_cons, Ev.putAll_nil, Ev.putAll_cons, Ev.mixI_nil, Ev.mixI_fz, Ev.mixI_ow, Ev.mixI_oo, Ev.ixD_list, Ev.ixD_tup, Ev.atI_0, Ev.atI_1, Ev.ixN_0, Ev.ixN_1, Ev.gt_ii, Ev.ge_ii, Ev.lt_ii, Ev.le_ii, Ev.add_ii, Ev.add_ll, Ev.sub_ii, Ev.mul_ii, Ev.fdv_ii, Ev.mod_ii, Ev.neg_i, Ev.int_i, Ev.abs_i, Ev.max2_ii, Ev.dvm_ii, Ev.len_l, Ev.len_t, Ev.listO_l, Ev.tupO_l, Ev.ints_map, Ev.intsD_map, Ev.sorted_l, Ev.sl_list, List.map_cons, List.map_nil, List.length_cons, List.length_nil, List.replicate_succ, List.replicate_zero, List.append_nil, List.nil_append, List.cons_append, List.getElem?_cons_zero, List.getElem?_cons_succ, List.getElem?_nil, List.set_cons_zero, List.set_cons_succ, List.set_nil, Option.bind_some, Option.bind_none, Option.map_some, Option.map_none, Nat.reduceAdd, Nat.reduceSub, Nat.reduceEqDiff, Nat.reduceLeDiff, if_true, if_false, reduceCtorEq, List.nodup_nil, Bool.false_eq_true, Bool.not_true, Bool.not_false, Bool.true_and, Bool.false_and, Bool.and_true, Bool.and_false, ↓reduceIte, id_eq, List.tail_cons, Nat.zero_add, List.all_cons, List.all_nil, ne_eq, not_false_eq_true, and_self, and_true, true_and, Ew.dsp1_at, Ew.key_i, Ew.swapNew_at, Ew.rng2_at, Ew.rngD_at, Ew.putP_dc, Ew.dc_at, Ew.din_at, Ew.dput_at, Ew.fnD_at, Ew.retGet_at, Ew.sortD_at, Ew.ext_at, Ew.L_at, Ew.LIx_at, Ew.Sc_at, Ew.callL_at, Ew.opNil_at, Ew.sv_i, Ew.oo_at, Ew.appO_at, Ew.sub2_at, Ew.fnL_at, Ew.subAppL_at, Ew.lcO_at, Ew.walk_at, Bool.true_xor, Bool.false_xor
, eSplit, cs_hash, cs_sp, cs_no, cs_sc, cs_nl, split_nl t (by omega), enumD_L, (by decide : 0 ≤ sizeLine), i]
/-! ### tokens -/
theorem inner_tk (text line : List Nat) (k : Int) : ∀ (ps : List (Nat × List Nat)) (fd : List D) (x4 x5 : Option O), fzo x4 → fzo x5 → fd.length + ps.length ≤ 100000 → ∃ x4' x5' : Option O, fzo x4' ∧ fzo x5' ∧
    turns (hTup 2 (hCons (hName 4) (hCons (hName 5) hNil))) (mSeq (mDrop (eP (eMeth 1 mApp (eCons (eTup (eCons (eF (eOpF addO (eF (eVar 2)) (eC (.int 1)))) (eCons (eF (eVar 4)) (eCons (eF (eVar 5)) eNil)))) eNil)))) mPass) (ps.map tup2) [some (.fz (.str (S text))), some (.ow (fd)), some (.fz (.int k)), some (.fz (.str (S line))), x4, x5] =
      some (.nx [some (.fz (.str (S text))), some (.ow (fd ++ ps.map (tk (k + 1)))), some (.fz (.int k)), some (.fz (.str (S line))), x4', x5']) := by
  intro ps
  induction ps with
  | nil =>
    intro fd x4 x5 h4 h5 _
    exact ⟨x4, x5, h4, h5, by rw [List.map_nil, List.map_nil, List.append_nil]; rfl⟩
  | cons p ps ih =>
    intro fd x4 x5 h4 h5 hf
    have hfz : fd.length < sizeLine := by rw [sizeLine_eq]; rw [List.length_cons] at hf; omega
    obtain ⟨x4', x5', q4, q5, i⟩ := ih (fd ++ [tk (k + 1) p]) (some (.fz (.int p.1))) (some (.fz (.str (S p.2)))) (.inr ⟨_, rfl⟩) (.inr ⟨_, rfl⟩) (by rw [List.length_append, List.length_singleton]; rw [List.length_cons] at hf; omega)
    refine ⟨x4', x5', q4, q5, ?_⟩
    rw [List.append_assoc, List.singleton_append] at i
    rw [List.map_cons, List.map_cons, Gd.turns_c, ← i, tup2]
    rcases h4 with rfl | ⟨z4, rfl⟩ <;> rcases h5 with rfl | ⟨z5, rfl⟩ <;> simp -implicitDefEqProofs only [Ev.nd1, Ev.nd2, Ev.lent_fz, Ev.lent_ow, Ev.lent_oo, Ev.lent_mx, Ev.lent_ln, Ev.lent_nil, Ev.back_nil, Ev.back_tm, Ev.back_sl, Ev.runM_at, Ev.start_at, Ev.seq_at, Ev.pass_at, Ev.brk_at, Ev.cnt_at, Ev.ret_at, Ev.retN_at, Ev.asg_at, Ev.if_at, Ev.drop_at, Ev.tgt_at, Ev.tup_at, Ev.for_at, Ev.P_at, Ev.F_at, Ev.var_at, Ev.c_at, Ev.op_at, Ev.opF_at, Ev.call_at, Ev.call1_at, Ev.un_at, Ev.isi_at, Ev.nil_at, Ev.cons_at, Ev.aNil_at, Ev.aCons_at, Ev.lst_at', Ev.tupE_at, Ev.mix_at, Ev.t_at, Ev.tru_at, Ev.and_at, Ev.or_at, Ev.not_at, Ev.andV_at, Ev.orV_at, Ev.notV_at, Ev.if2_at, Ev.ix_at', Ev.no_at, Ev.yes_at, Ev.sl_at, Ev.rep_at, Ev.fn_at, Ev.fnK_at, Ev.seqL_at, Ev.seqT_at, Ev.enum_at, Ev.zip_at, Ec.rng1_D, Ec.lr1_D, Ev.lc_at, Ev.lcE_at, Ev.yesT_at, Ev.meth_at, Ev.idx_at, Ev.subApp_at, Ev.sortSet_at, Ev.hName_at, Ev.hNil_at, Ev.hCons_at, Ev.hTup_at, Ev.hSub_at, Ev.turns_nil, Ev.force_fz, Ev.force_ow, Ev.force_oo, Ev.force_mx, Ev.force_sl, Ev.norm_fz, Ev.norm_ow, Ev.norm_sl, Ev.argO_sl, Ev.own_at, Ev.setOwn_at, Ev.flatF, Ev.flatO, Ev.flatL, Ev.data_tm, Ev.data_sl, Ev.toD_fz, Ev.toD_ow, Ev.toD_ln, Ev.toD_oo, Ev.toD_mx, Ev.flat_fz, Ev.flat_ow, Ev.flat_sl, Ev.retP_fz, Ev.retP_ow, Ev.retP_oo, Ev.retP_sl, Ev.putP_fz, Ev.putP_ow, Ev.putP_oo, Ev.putP_mx, Ev.putP_sl, Ev.noLn_at, Ev.argOs_nil, Ev.argOs_cons, Ev.argO_fz, Ev.argO_ow, Ev.slots_nil, Ev.slots_tm, Ev.slots_sl, Ev.bOf_b, Ev.ownP_fz, Ev.ownP_ow, Ev.ownP_sl, Ev.ownPs_nil, Ev.ownPs_cons, Ev.putAll_nil, Ev.putAll_cons, Ev.mixI_nil, Ev.mixI_fz, Ev.mixI_ow, Ev.mixI_oo, Ev.ixD_list, Ev.ixD_tup, Ev.atI_0, Ev.atI_1, Ev.ixN_0, Ev.ixN_1, Ev.gt_ii, Ev.ge_ii, Ev.lt_ii, Ev.le_ii, Ev.add_ii, Ev.add_ll, Ev.sub_ii, Ev.mul_ii, Ev.fdv_ii, Ev.mod_ii, Ev.neg_i, Ev.int_i, Ev.abs_i, Ev.max2_ii, Ev.dvm_ii, Ev.len_l, Ev.len_t, Ev.listO_l, Ev.tupO_l, Ev.ints_map, Ev.intsD_map, Ev.sorted_l, Ev.sl_list, List.map_cons, List.map_nil, List.length_cons, List.length_nil, List.replicate_succ, List.replicate_zero, List.append_nil, List.nil_append, List.cons_append, List.getElem?_cons_zero, List.getElem?_cons_succ, List.getElem?_nil, List.set_cons_zero, List.set_cons_succ, List.set_nil, Option.bind_some, Option.bind_none, Option.map_some, Option.map_none, Nat.reduceAdd, Nat.reduceSub, Nat.reduceEqDiff, Nat.reduceLeDiff, if_true, if_false, reduceCtorEq, List.nodup_nil, Bool.false_eq_true, Bool.not_true, Bool.not_false, Bool.true_and, Bool.false_and, Bool.and_true, Bool.and_false, ↓reduceIte, id_eq, List.tail_cons, Nat.zero_add, List.all_cons, List.all_nil, ne_eq, not_false_eq_true, and_self, and_true, true_and, Ew.dsp1_at, Ew.key_i, Ew.swapNew_at, Ew.rng2_at, Ew.rngD_at, Ew.putP_dc, Ew.dc_at, Ew.din_at, Ew.dput_at, Ew.fnD_at, Ew.retGet_at, Ew.sortD_at, Ew.ext_at, Ew.L_at, Ew.LIx_at, Ew.Sc_at, Ew.callL_at, Ew.opNil_at, Ew.sv_i, Ew.oo_at, Ew.appO_at, Ew.sub2_at, Ew.fnL_at, Ew.subAppL_at, Ew.lcO_at, Ew.walk_at, Bool.true_xor, Bool.false_xor
, Gd.app_1, hfz, (by decide : 3 ≤ sizeLine), (by decide : 2 ≤ sizeLine)] <;> rfl
theorem step_tk (text line : List Nat) (k : Int) (fd : List D) (x2 x3 x4 x5 : Option O) (h : (x2 = none ∧ x3 = none) ∨ (∃ z2 z3, x2 = some (.fz z2) ∧ x3 = some (.fz z3))) (h4 : fzo x4) (h5 : fzo x5)
    (hl : line.length ≤ 1000) (hf : fd.length ≤ 80000) : ∃ (x4' x5' : Option O), fzo x4' ∧ fzo x5' ∧
    ((hTup 2 (hCons (hName 2) (hCons (hName 3) hNil)) (.tuple [.int k, .str (S line)]) [some (.fz (.str (S text))), some (.ow (fd)), x2, x3, x4, x5]).bind fun δ => (mSeq (mFor (eSeq (eF (eFn f_line_words (aCons (eP (eF (eVar 3))) aNil)))) (hTup 2 (hCons (hName 4) (hCons (hName 5) hNil))) (mSeq (mDrop (eP (eMeth 1 mApp (eCons (eTup (eCons (eF (eOpF addO (eF (eVar 2)) (eC (.int 1)))) (eCons (eF (eVar 4)) (eCons (eF (eVar 5)) eNil)))) eNil)))) mPass)) (mSeq (mDrop (eP (eMeth 1 mApp (eCons (eTup (eCons (eF (eOpF addO (eF (eVar 2)) (eC (.int 1)))) (eCons (eCall1 lenD (eVar 3)) (eCons (eC (.str ";")) eNil)))) eNil)))) mPass)) δ) =
      some (.nx [some (.fz (.str (S text))), some (.ow (fd ++ lineT k line)), some (.fz (.int k)), some (.fz (.str (S line))), x4', x5']) := by
  have h2 := told_len line
  have hsc := sc_len (l := told line ++ [32]) (pos := 0) (st := 0) (u := [])
  obtain ⟨x4', x5', q4, q5, i⟩ := inner_tk text line k (sc 0 0 [] (told line ++ [32])) fd x4 x5 h4 h5 (by simp at hsc; omega)
  have hfz : (fd ++ (sc 0 0 [] (told line ++ [32])).map (tk (k + 1))).length < sizeLine := by
    rw [List.length_append, List.length_map, sizeLine_eq]
    simp at hsc
    omega
  refine ⟨x4', x5', q4, q5, ?_⟩
  unfold lineT
  rw [← List.append_assoc]
  rcases h with ⟨rfl, rfl⟩ | ⟨z2, z3, rfl, rfl⟩
  · simp -implicitDefEqProofs only [Ev.nd1, Ev.nd2, Ev.lent_fz, Ev.lent_ow, Ev.lent_oo, Ev.lent_mx, Ev.lent_ln, Ev.lent_nil, Ev.back_nil, Ev.back_tm, Ev.back_sl, Ev.runM_at, Ev.start_at, Ev.seq_at, Ev.pass_at, Ev.brk_at, Ev.cnt_at, Ev.ret_at, Ev.retN_at, Ev.asg_at, Ev.if_at, Ev.drop_at, Ev.tgt_at, Ev.tup_at, Ev.for_at, Ev.P_at, Ev.F_at, Ev.var_at, Ev.c_at, Ev.op_at, Ev.opF_at, Ev.call_at, Ev.call1_at, Ev.un_at, Ev.isi_at, Ev.nil_at, Ev.cons_at, Ev.aNil_at, Ev.aCons_at, Ev.lst_at', Ev.tupE_at, Ev.mix_at, Ev.t_at, Ev.tru_at, Ev.and_at, Ev.or_at, Ev.not_at, Ev.andV_at, Ev.orV_at, Ev.notV_at, Ev.if2_at, Ev.ix_at', Ev.no_at, Ev.yes_at, Ev.sl_at, Ev.rep_at, Ev.fn_at, Ev.fnK_at, Ev.seqL_at, Ev.seqT_at, Ev.enum_at, Ev.zip_at, Ec.rng1_D, Ec.lr1_D, Ev.lc_at, Ev.lcE_at, Ev.yesT_at, Ev.meth_at, Ev.idx_at, Ev.subApp_at, Ev.sortSet_at, Ev.hName_at, Ev.hNil_at, Ev.hCons_at, Ev.hTup_at, Ev.hSub_at, Ev.turns_nil, Ev.force_fz, Ev.force_ow, Ev.force_oo, Ev.force_mx, Ev.force_sl, Ev.norm_fz, Ev.norm_ow, Ev.norm_sl, Ev.argO_sl, Ev.own_at, Ev.setOwn_at, Ev.flatF, Ev.flatO, Ev.flatL, Ev.data_tm, Ev.data_sl, Ev.toD_fz, Ev.toD_ow, Ev.toD_ln, Ev.toD_oo, Ev.toD_mx, Ev.flat_fz, Ev.flat_ow, Ev.flat_sl, Ev.retP_fz, Ev.retP_ow, Ev.retP_oo, Ev.retP_sl, Ev.putP_fz, Ev.putP_ow, Ev.putP_oo, Ev.putP_mx, Ev.putP_sl, Ev.noLn_at, Ev.argOs_nil, Ev.argOs_cons, Ev.argO_fz, Ev.argO_ow, Ev.slots_nil, Ev.slots_tm, Ev.slots_sl, Ev.bOf_b, Ev.ownP_fz, Ev.ownP_ow, Ev.ownP_sl, Ev.ownPs_nil, Ev.ownPs_cons, Ev.putAll_nil, Ev.putAll_cons, Ev.mixI_nil, Ev.mixI_fz, Ev.mixI_ow, Ev.mixI_oo, Ev.ixD_list, Ev.ixD_tup, Ev.atI_0, Ev.atI_1, Ev.ixN_0, Ev.ixN_1, Ev.gt_ii, Ev.ge_ii, Ev.lt_ii, Ev.le_ii, Ev.add_ii, Ev.add_ll, Ev.sub_ii, Ev.mul_ii, Ev.fdv_ii, Ev.mod_ii, Ev.neg_i, Ev.int_i, Ev.abs_i, Ev.max2_ii, Ev.dvm_ii, Ev.len_l, Ev.len_t, Ev.listO_l, Ev.tupO_l, Ev.ints_map, Ev.intsD_map, Ev.sorted_l, Ev.sl_list, List.map_cons, List.map_nil, List.length_cons, List.length_nil, List.replicate_succ, List.replicate_zero, List.append_nil, List.nil_append, List.cons_append, List.getElem?_cons_zero, List.getElem?_cons_succ, List.getElem?_nil, List.set_cons_zero, List.set_cons_succ, List.set_nil, Option.bind_some, Option.bind_none, Option.map_some, Option.map_none, Nat.reduceAdd, Nat.reduceSub, Nat.reduceEqDiff, Nat.reduceLeDiff, if_true, if_false, reduceCtorEq, List.nodup_nil, Bool.false_eq_true, Bool.not_true, Bool.not_false, Bool.true_and, Bool.false_and, Bool.and_true, Bool.and_false, ↓reduceIte, id_eq, List.tail_cons, Nat.zero_add, List.all_cons, List.all_nil, ne_eq, not_false_eq_true, and_self, and_true, true_and, Ew.dsp1_at, Ew.key_i, Ew.swapNew_at, Ew.rng2_at, Ew.rngD_at, Ew.putP_dc, Ew.dc_at, Ew.din_at, Ew.dput_at, Ew.fnD_at, Ew.retGet_at, Ew.sortD_at, Ew.ext_at, Ew.L_at, Ew.LIx_at, Ew.Sc_at, Ew.callL_at, Ew.opNil_at, Ew.sv_i, Ew.oo_at, Ew.appO_at, Ew.sub2_at, Ew.fnL_at, Ew.subAppL_at, Ew.lcO_at, Ew.walk_at, Bool.true_xor, Bool.false_xor
, v_lw line hl, cs_sc, (by decide : 2 ≤ sizeLine), (by decide : 3 ≤ sizeLine), i, len_s hl, Gd.app_1, hfz]
  · simp -implicitDefEqProofs only [Ev.nd1, Ev.nd2, Ev.lent_fz, Ev.lent_ow, Ev.lent_oo, Ev.lent_mx, Ev.lent_ln, Ev.lent_nil, Ev.back_nil, Ev.back_tm, Ev.back_sl, Ev.runM_at, Ev.start_at, Ev.seq_at, Ev.pass_at, Ev.brk_at, Ev.cnt_at, Ev.ret_at, Ev.retN_at, Ev.asg_at, Ev.if_at, Ev.drop_at, Ev.tgt_at, Ev.tup_at, Ev.for_at, Ev.P_at, Ev.F_at, Ev.var_at, Ev.c_at, Ev.op_at, Ev.opF_at, Ev.call_at, Ev.call1_at, Ev.un_at, Ev.isi_at, Ev.nil_at, Ev.cons_at, Ev.aNil_at, Ev.aCons_at, Ev.lst_at', Ev.tupE_at, Ev.mix_at, Ev.t_at, Ev.tru_at, Ev.and_at, Ev.or_at, Ev.not_at, Ev.andV_at, Ev.orV_at, Ev.notV_at, Ev.if2_at, Ev.ix_at', Ev.no_at, Ev.yes_at, Ev.sl_at, Ev.rep_at, Ev.fn_at, Ev.fnK_at, Ev.seqL_at, Ev.seqT_at, Ev.enum_at, Ev.zip_at, Ec.rng1_D, Ec.lr1_D, Ev.lc_at, Ev.lcE_at, Ev.yesT_at, Ev.meth_at, Ev.idx_at, Ev.subApp_at, Ev.sortSet_at, Ev.hName_at, Ev.hNil_at, Ev.hCons_at, Ev.hTup_at, Ev.hSub_at, Ev.turns_nil, Ev.force_fz, Ev.force_ow, Ev.force_oo, Ev.force_mx, Ev.force_sl, Ev.norm_fz, Ev.norm_ow, Ev.norm_sl, Ev.argO_sl, Ev.own_at, Ev.setOwn_at, Ev.flatF, Ev.flatO, Ev.flatL, Ev.data_tm, Ev.data_sl, Ev.toD_fz, Ev.toD_ow, Ev.toD_ln, Ev.toD_oo, Ev.toD_mx, Ev.flat_fz, Ev.flat_ow, Ev.flat_sl, Ev.retP_fz, Ev.retP_ow, Ev.retP_oo, Ev.retP_sl, Ev.putP_fz, Ev.putP_ow, Ev.putP_oo, Ev.putP_mx, Ev.putP_sl, Ev.noLn_at, Ev.argOs_nil, Ev.argOs_cons, Ev.argO_fz, Ev.argO_ow, Ev.slots_nil, Ev.slots_tm, Ev.slots_sl, Ev.bOf_b, Ev.ownP_fz, Ev.ownP_ow, Ev.ownP_sl, Ev.ownPs_nil, Ev.ownPs_cons, Ev.putAll_nil, Ev.putAll_cons, Ev.mixI_nil, Ev.mixI_fz, Ev.mixI_ow, Ev.mixI_oo, Ev.ixD_list, Ev.ixD_tup, Ev.atI_0, Ev.atI_1, Ev.ixN_0, Ev.ixN_1, Ev.gt_ii, Ev.ge_ii, Ev.lt_ii, Ev.le_ii, Ev.add_ii, Ev.add_ll, Ev.sub_ii, Ev.mul_ii, Ev.fdv_ii, Ev.mod_ii, Ev.neg_i, Ev.int_i, Ev.abs_i, Ev.max2_ii, Ev.dvm_ii, Ev.len_l, Ev.len_t, Ev.listO_l, Ev.tupO_l, Ev.ints_map, Ev.intsD_map, Ev.sorted_l, Ev.sl_list, List.map_cons, List.map_nil, List.length_cons, List.length_nil, List.replicate_succ, List.replicate_zero, List.append_nil, List.nil_append, List.cons_append, List.getElem?_cons_zero, List.getElem?_cons_succ, List.getElem?_nil, List.set_cons_zero, List.set_cons_succ, List.set_nil, Option.bind_some, Option.bind_none, Option.map_some, Option.map_none, Nat.reduceAdd, Nat.reduceSub, Nat.reduceEqDiff, Nat.reduceLeDiff, if_true, if_false, reduceCtorEq, List.nodup_nil, Bool.false_eq_true, Bool.not_true, Bool.not_false, Bool.true_and, Bool.false_and, Bool.and_true, Bool.and_false, ↓reduceIte, id_eq, List.tail_cons, Nat.zero_add, List.all_cons, List.all_nil, ne_eq, not_false_eq_true, and_self, and_true, true_and, Ew.dsp1_at, Ew.key_i, Ew.swapNew_at, Ew.rng2_at, Ew.rngD_at, Ew.putP_dc, Ew.dc_at, Ew.din_at, Ew.dput_at, Ew.fnD_at, Ew.retGet_at, Ew.sortD_at, Ew.ext_at, Ew.L_at, Ew.LIx_at, Ew.Sc_at, Ew.callL_at, Ew.opNil_at, Ew.sv_i, Ew.oo_at, Ew.appO_at, Ew.sub2_at, Ew.fnL_at, Ew.subAppL_at, Ew.lcO_at, Ew.walk_at, Bool.true_xor, Bool.false_xor
, v_lw line hl, cs_sc, (by decide : 2 ≤ sizeLine), (by decide : 3 ≤ sizeLine), i, len_s hl, Gd.app_1, hfz]
theorem outer_tk (text : List Nat) : ∀ (ls : List (List Nat)) (k : Nat) (fd : List D) (x2 x3 x4 x5 : Option O), ((x2 = none ∧ x3 = none) ∨ (∃ z2 z3, x2 = some (.fz z2) ∧ x3 = some (.fz z3))) → fzo x4 → fzo x5 →
    (∀ l ∈ ls, l.length ≤ 100) → fd.length + 300 * ls.length ≤ 80000 → ∃ x2' x3' x4' x5' : Option O,
    turns (hTup 2 (hCons (hName 2) (hCons (hName 3) hNil))) (mSeq (mFor (eSeq (eF (eFn f_line_words (aCons (eP (eF (eVar 3))) aNil)))) (hTup 2 (hCons (hName 4) (hCons (hName 5) hNil))) (mSeq (mDrop (eP (eMeth 1 mApp (eCons (eTup (eCons (eF (eOpF addO (eF (eVar 2)) (eC (.int 1)))) (eCons (eF (eVar 4)) (eCons (eF (eVar 5)) eNil)))) eNil)))) mPass)) (mSeq (mDrop (eP (eMeth 1 mApp (eCons (eTup (eCons (eF (eOpF addO (eF (eVar 2)) (eC (.int 1)))) (eCons (eCall1 lenD (eVar 3)) (eCons (eC (.str ";")) eNil)))) eNil)))) mPass)) (enL k ls) [some (.fz (.str (S text))), some (.ow (fd)), x2, x3, x4, x5] = some (.nx [some (.fz (.str (S text))), some (.ow (fd ++ toks k ls)), x2', x3', x4', x5']) := by
  intro ls
  induction ls with
  | nil =>
    intro k fd x2 x3 x4 x5 _ _ _ _ _
    exact ⟨x2, x3, x4, x5, by rw [enL, toks, List.append_nil]; rfl⟩
  | cons l ls ih =>
    intro k fd x2 x3 x4 x5 h h4 h5 hl hf
    rw [List.length_cons] at hf
    have hll := hl l (by simp)
    obtain ⟨x4', x5', q4, q5, i⟩ := step_tk text l k fd x2 x3 x4 x5 h h4 h5 (by omega) (by omega)
    have := lineT_len k l hll
    obtain ⟨y2, y3, y4, y5, j⟩ := ih (k + 1) (fd ++ lineT k l) _ _ x4' x5' (.inr ⟨.int k, .str (S l), rfl, rfl⟩) q4 q5 (fun z hz => hl z (by simp [hz])) (by rw [List.length_append]; omega)
    refine ⟨y2, y3, y4, y5, ?_⟩
    rw [enL, Gd.turns_c, toks, ← List.append_assoc]
    obtain ⟨δ1, e1, e2⟩ := Option.bind_eq_some_iff.mp i
    rw [e1, Option.bind_some, e2, Option.bind_some]
    exact j
theorem v_tk (t : List Nat) (ht : t.length ≤ 100) (hls : ∀ l ∈ TL.spl [10] 0 [] t, l.length ≤ 100) (hn : (TL.spl [10] 0 [] t).length ≤ 200) : val f_tokens [.fz (.str (S t))] = some (.ow (toks 0 (TL.spl [10] 0 [] t)), [none]) := by
  obtain ⟨x2, x3, x4, x5, i⟩ := outer_tk t (TL.spl [10] 0 [] t) 0 [] none none none none (.inl ⟨rfl, rfl⟩) (.inl rfl) (.inl rfl) hls (by simp; omega)
  rw [List.nil_append] at i
  unfold val f_tokens m_tokens
  simp only [cs_no, cs_sp, cs_hash, cs_sc] at i
  simp -implicitDefEqProofs only [Ev.nd1, Ev.nd2, Ev.lent_fz, Ev.lent_ow, Ev.lent_oo, Ev.lent_mx, Ev.lent_ln, Ev.lent_nil, Ev.back_nil, Ev.back_tm, Ev.back_sl, Ev.runM_at, Ev.start_at, Ev.seq_at, Ev.pass_at, Ev.brk_at, Ev.cnt_at, Ev.ret_at, Ev.retN_at, Ev.asg_at, Ev.if_at, Ev.drop_at, Ev.tgt_at, Ev.tup_at, Ev.for_at, Ev.P_at, Ev.F_at, Ev.var_at, Ev.c_at, Ev.op_at, Ev.opF_at, Ev.call_at, Ev.call1_at, Ev.un_at, Ev.isi_at, Ev.nil_at, Ev.cons_at, Ev.aNil_at, Ev.aCons_at, Ev.lst_at', Ev.tupE_at, Ev.mix_at, Ev.t_at, Ev.tru_at, Ev.and_at, Ev.or_at, Ev.not_at, Ev.andV_at, Ev.orV_at, Ev.notV_at, Ev.if2_at, Ev.ix_at', Ev.no_at, Ev.yes_at, Ev.sl_at, Ev.rep_at, Ev.fn_at, Ev.fnK_at, Ev.seqL_at, Ev.seqT_at, Ev.enum_at, Ev.zip_at, Ec.rng1_D, Ec.lr1_D, Ev.lc_at, Ev.lcE_at, Ev.yesT_at, Ev.meth_at, Ev.idx_at, Ev.subApp_at, Ev.sortSet_at, Ev.hName_at, Ev.hNil_at, Ev.hCons_at, Ev.hTup_at, Ev.hSub_at, Ev.turns_nil, Ev.force_fz, Ev.force_ow, Ev.force_oo, Ev.force_mx, Ev.force_sl, Ev.norm_fz, Ev.norm_ow, Ev.norm_sl, Ev.argO_sl, Ev.own_at, Ev.setOwn_at, Ev.flatF, Ev.flatO, Ev.flatL, Ev.data_tm, Ev.data_sl, Ev.toD_fz, Ev.toD_ow, Ev.toD_ln, Ev.toD_oo, Ev.toD_mx, Ev.flat_fz, Ev.flat_ow, Ev.flat_sl, Ev.retP_fz, Ev.retP_ow, Ev.retP_oo, Ev.retP_sl, Ev.putP_fz, Ev.putP_ow, Ev.putP_oo, Ev.putP_mx, Ev.putP_sl, Ev.noLn_at, Ev.argOs_nil, Ev.argOs_cons, Ev.argO_fz, Ev.argO_ow, Ev.slots_nil, Ev.slots_tm, Ev.slots_sl, Ev.bOf_b, Ev.ownP_fz, Ev.ownP_ow, Ev.ownP_sl, Ev.ownPs_nil, Ev.ownPs_cons, Ev.putAll_nil, Ev.putAll_cons, Ev.mixI_nil, Ev.mixI_fz, Ev.mixI_ow, Ev.mixI_oo, Ev.ixD_list, Ev.ixD_tup, Ev.atI_0, Ev.atI_1, Ev.ixN_0, Ev.ixN_1, Ev.gt_ii, Ev.ge_ii, Ev.lt_ii, Ev.le_ii, Ev.add_ii, Ev.add_ll, Ev.sub_ii, Ev.mul_ii, Ev.fdv_ii, Ev.mod_ii, Ev.neg_i, Ev.int_i, Ev.abs_i, Ev.max2_ii, Ev.dvm_ii, Ev.len_l, Ev.len_t, Ev.listO_l, Ev.tupO_l, Ev.ints_map, Ev.intsD_map, Ev.sorted_l, Ev.sl_list, List.map_cons, List.map_nil, List.length_cons, List.length_nil, List.replicate_succ, List.replicate_zero, List.append_nil, List.nil_append, List.cons_append, List.getElem?_cons_zero, List.getElem?_cons_succ, List.getElem?_nil, List.set_cons_zero, List.set_cons_succ, List.set_nil, Option.bind_some, Option.bind_none, Option.map_some, Option.map_none, Nat.reduceAdd, Nat.reduceSub, Nat.reduceEqDiff, Nat.reduceLeDiff, if_true, if_false, reduceCtorEq, List.nodup_nil, Bool.false_eq_true, Bool.not_true, Bool.not_false, Bool.true_and, Bool.false_and, Bool.and_true, Bool.and_false, ↓reduceIte, id_eq, List.tail_cons, Nat.zero_add, List.all_cons, List.all_nil, ne_eq, not_false_eq_true, and_self, and_true, true_and, Ew.dsp1_at, Ew.key_i, Ew.swapNew_at, Ew.rng2_at, Ew.rngD_at, Ew.putP_dc, Ew.dc_at, Ew.din_at, Ew.dput_at, Ew.fnD_at, Ew.retGet_at, Ew.sortD_at, Ew.ext_at, Ew.L_at, Ew.LIx_at, Ew.Sc_at, Ew.callL_at, Ew.opNil_at, Ew.sv_i, Ew.oo_at, Ew.appO_at, Ew.sub2_at, Ew.fnL_at, Ew.subAppL_at, Ew.lcO_at, Ew.walk_at, Bool.true_xor, Bool.false_xor
, eSplit, cs_hash, cs_sp, cs_no, cs_sc, cs_nl, split_nl t (by omega), enumD_L, (by decide : 0 ≤ sizeLine), i]
end K25
end
section
set_option Elab.async false
set_option linter.all false
set_option maxRecDepth 100000
set_option maxHeartbeats 8000000
namespace K25
open PySem PySem.Spec PyProof.Rows L2 Vi Vf Vo Vp Vs Vt Vu Vv Vg Vw Vx Vy Va Vb Vc Vk Vm Vl Vn Vd Vq Vr Vj Vfr Ev Ec Mo Ew Gd Gx Gy Gt Rk Vxt
open SX (S S_cat S_len S_tl S_inj)
theorem v_pickS (a b : Int) (z : Str) (h0 : z.cps.toList ≠ []) (hl : z.cps.toList.length ≤ 1000) : ∃ (c : Nat) (a' b' : Int), c ∈ z.cps.toList ∧ val f__law_pick [.ln [.int a, .int b], .fz (.str z)] = some (.fz (.str ⟨#[c]⟩), [some (.ln [.int a', .int b']), none]) := by
  have hp : 0 < z.cps.toList.length := List.length_pos_iff.mpr h0
  have el : z.length = z.cps.toList.length := by rw [Array.length_toList]; rfl
  obtain ⟨r, a1, b1, r0, r1, e1⟩ := v_draw a b (z.length : Int) (by omega) (by omega)
  have at_ : atI z.cps.toList r = some z.cps.toList[r.toNat] := by
    unfold atI
    rw [Ev.ixN_int r0 (by omega), Option.bind_some, List.getElem?_eq_getElem (by omega)]
  have hz : z.length ≤ sizeLine := by rw [sizeLine_eq]; omega
  refine ⟨z.cps.toList[r.toNat]'(by omega), a1, b1, List.getElem_mem _, ?_⟩
  have ln : lenD (.str z) = some (.int (z.length : Nat)) := if_pos hz
  unfold val f__law_pick m__law_pick
  simp -implicitDefEqProofs only [Ev.nd1, Ev.nd2, Ev.lent_fz, Ev.lent_ow, Ev.lent_oo, Ev.lent_mx, Ev.lent_ln, Ev.lent_nil, Ev.back_nil, Ev.back_tm, Ev.back_sl, Ev.runM_at, Ev.start_at, Ev.seq_at, Ev.pass_at, Ev.brk_at, Ev.cnt_at, Ev.ret_at, Ev.retN_at, Ev.asg_at, Ev.if_at, Ev.drop_at, Ev.tgt_at, Ev.tup_at, Ev.for_at, Ev.P_at, Ev.F_at, Ev.var_at, Ev.c_at, Ev.op_at, Ev.opF_at, Ev.call_at, Ev.call1_at, Ev.un_at, Ev.isi_at, Ev.nil_at, Ev.cons_at, Ev.aNil_at, Ev.aCons_at, Ev.lst_at', Ev.tupE_at, Ev.mix_at, Ev.t_at, Ev.tru_at, Ev.and_at, Ev.or_at, Ev.not_at, Ev.andV_at, Ev.orV_at, Ev.notV_at, Ev.if2_at, Ev.ix_at', Ev.no_at, Ev.yes_at, Ev.sl_at, Ev.rep_at, Ev.fn_at, Ev.fnK_at, Ev.seqL_at, Ev.seqT_at, Ev.enum_at, Ev.zip_at, Ec.rng1_D, Ec.lr1_D, Ev.lc_at, Ev.lcE_at, Ev.yesT_at, Ev.meth_at, Ev.idx_at, Ev.subApp_at, Ev.sortSet_at, Ev.hName_at, Ev.hNil_at, Ev.hCons_at, Ev.hTup_at, Ev.hSub_at, Ev.turns_nil, Ev.force_fz, Ev.force_ow, Ev.force_oo, Ev.force_mx, Ev.force_sl, Ev.norm_fz, Ev.norm_ow, Ev.norm_sl, Ev.argO_sl, Ev.own_at, Ev.setOwn_at, Ev.flatF, Ev.flatO, Ev.flatL, Ev.data_tm, Ev.data_sl, Ev.toD_fz, Ev.toD_ow, Ev.toD_ln, Ev.toD_oo, Ev.toD_mx, Ev.flat_fz, Ev.flat_ow, Ev.flat_sl, Ev.retP_fz, Ev.retP_ow, Ev.retP_oo, Ev.retP_sl, Ev.putP_fz, Ev.putP_ow, Ev.putP_oo, Ev.putP_mx, Ev.putP_sl, Ev.noLn_at, Ev.argOs_nil, Ev.argOs_cons, Ev.argO_fz, Ev.argO_ow, Ev.slots_nil, Ev.slots_tm, Ev.slots_sl, Ev.bOf_b, Ev.ownP_fz, Ev.ownP_ow, Ev.ownP_sl, Ev.ownPs_nil, Ev.ownPs_cons, Ev.putAll_nil, Ev.putAll_cons, Ev.mixI_nil, Ev.mixI_fz, Ev.mixI_ow, Ev.mixI_oo, Ev.ixD_list, Ev.ixD_tup, Ev.atI_0, Ev.atI_1, Ev.ixN_0, Ev.ixN_1, Ev.gt_ii, Ev.ge_ii, Ev.lt_ii, Ev.le_ii, Ev.add_ii, Ev.add_ll, Ev.sub_ii, Ev.mul_ii, Ev.fdv_ii, Ev.mod_ii, Ev.neg_i, Ev.int_i, Ev.abs_i, Ev.max2_ii, Ev.dvm_ii, Ev.len_l, Ev.len_t, Ev.listO_l, Ev.tupO_l, Ev.ints_map, Ev.intsD_map, Ev.sorted_l, Ev.sl_list, List.map_cons, List.map_nil, List.length_cons, List.length_nil, List.replicate_succ, List.replicate_zero, List.append_nil, List.nil_append, List.cons_append, List.getElem?_cons_zero, List.getElem?_cons_succ, List.getElem?_nil, List.set_cons_zero, List.set_cons_succ, List.set_nil, Option.bind_some, Option.bind_none, Option.map_some, Option.map_none, Nat.reduceAdd, Nat.reduceSub, Nat.reduceEqDiff, Nat.reduceLeDiff, if_true, if_false, reduceCtorEq, List.nodup_nil, Bool.false_eq_true, Bool.not_true, Bool.not_false, Bool.true_and, Bool.false_and, Bool.and_true, Bool.and_false, ↓reduceIte, id_eq, List.tail_cons, Nat.zero_add, List.all_cons, List.all_nil, ne_eq, not_false_eq_true, and_self, and_true, true_and, Ew.dsp1_at, Ew.key_i, Ew.swapNew_at, Ew.rng2_at, Ew.rngD_at, Ew.putP_dc, Ew.dc_at, Ew.din_at, Ew.dput_at, Ew.fnD_at, Ew.retGet_at, Ew.sortD_at, Ew.ext_at, Ew.L_at, Ew.LIx_at, Ew.Sc_at, Ew.callL_at, Ew.opNil_at, Ew.sv_i, Ew.oo_at, Ew.appO_at, Ew.sub2_at, Ew.fnL_at, Ew.subAppL_at, Ew.lcO_at, Ew.walk_at, Bool.true_xor, Bool.false_xor
, e1, at_, eIxA, eIxS, ixS_str, hz, ln]
theorem v_pickD (a b : Int) (ds : List D) (h0 : ds ≠ []) (hl : ds.length ≤ 1000) : ∃ (d : D) (a' b' : Int), d ∈ ds ∧ val f__law_pick [.ln [.int a, .int b], .fz (.list ds)] = some (.fz d, [some (.ln [.int a', .int b']), none]) := by
  have hp : 0 < ds.length := List.length_pos_iff.mpr h0
  obtain ⟨r, a1, b1, r0, r1, e1⟩ := v_draw a b (ds.length : Int) (by omega) (by omega)
  have at_ : atI ds r = some ds[r.toNat] := by
    rw [Ev.atI_int r0 r1, List.getElem?_eq_getElem (by omega)]
  refine ⟨ds[r.toNat]'(by omega), a1, b1, List.getElem_mem _, ?_⟩
  unfold val f__law_pick m__law_pick
  simp -implicitDefEqProofs only [Ev.nd1, Ev.nd2, Ev.lent_fz, Ev.lent_ow, Ev.lent_oo, Ev.lent_mx, Ev.lent_ln, Ev.lent_nil, Ev.back_nil, Ev.back_tm, Ev.back_sl, Ev.runM_at, Ev.start_at, Ev.seq_at, Ev.pass_at, Ev.brk_at, Ev.cnt_at, Ev.ret_at, Ev.retN_at, Ev.asg_at, Ev.if_at, Ev.drop_at, Ev.tgt_at, Ev.tup_at, Ev.for_at, Ev.P_at, Ev.F_at, Ev.var_at, Ev.c_at, Ev.op_at, Ev.opF_at, Ev.call_at, Ev.call1_at, Ev.un_at, Ev.isi_at, Ev.nil_at, Ev.cons_at, Ev.aNil_at, Ev.aCons_at, Ev.lst_at', Ev.tupE_at, Ev.mix_at, Ev.t_at, Ev.tru_at, Ev.and_at, Ev.or_at, Ev.not_at, Ev.andV_at, Ev.orV_at, Ev.notV_at, Ev.if2_at, Ev.ix_at', Ev.no_at, Ev.yes_at, Ev.sl_at, Ev.rep_at, Ev.fn_at, Ev.fnK_at, Ev.seqL_at, Ev.seqT_at, Ev.enum_at, Ev.zip_at, Ec.rng1_D, Ec.lr1_D, Ev.lc_at, Ev.lcE_at, Ev.yesT_at, Ev.meth_at, Ev.idx_at, Ev.subApp_at, Ev.sortSet_at, Ev.hName_at, Ev.hNil_at, Ev.hCons_at, Ev.hTup_at, Ev.hSub_at, Ev.turns_nil, Ev.force_fz, Ev.force_ow, Ev.force_oo, Ev.force_mx, Ev.force_sl, Ev.norm_fz, Ev.norm_ow, Ev.norm_sl, Ev.argO_sl, Ev.own_at, Ev.setOwn_at, Ev.flatF, Ev.flatO, Ev.flatL, Ev.data_tm, Ev.data_sl, Ev.toD_fz, Ev.toD_ow, Ev.toD_ln, Ev.toD_oo, Ev.toD_mx, Ev.flat_fz, Ev.flat_ow, Ev.flat_sl, Ev.retP_fz, Ev.retP_ow, Ev.retP_oo, Ev.retP_sl, Ev.putP_fz, Ev.putP_ow, Ev.putP_oo, Ev.putP_mx, Ev.putP_sl, Ev.noLn_at, Ev.argOs_nil, Ev.argOs_cons, Ev.argO_fz, Ev.argO_ow, Ev.slots_nil, Ev.slots_tm, Ev.slots_sl, Ev.bOf_b, Ev.ownP_fz, Ev.ownP_ow, Ev.ownP_sl, Ev.ownPs_nil, Ev.ownPs_cons, Ev.putAll_nil, Ev.putAll_cons, Ev.mixI_nil, Ev.mixI_fz, Ev.mixI_ow, Ev.mixI_oo, Ev.ixD_list, Ev.ixD_tup, Ev.atI_0, Ev.atI_1, Ev.ixN_0, Ev.ixN_1, Ev.gt_ii, Ev.ge_ii, Ev.lt_ii, Ev.le_ii, Ev.add_ii, Ev.add_ll, Ev.sub_ii, Ev.mul_ii, Ev.fdv_ii, Ev.mod_ii, Ev.neg_i, Ev.int_i, Ev.abs_i, Ev.max2_ii, Ev.dvm_ii, Ev.len_l, Ev.len_t, Ev.listO_l, Ev.tupO_l, Ev.ints_map, Ev.intsD_map, Ev.sorted_l, Ev.sl_list, List.map_cons, List.map_nil, List.length_cons, List.length_nil, List.replicate_succ, List.replicate_zero, List.append_nil, List.nil_append, List.cons_append, List.getElem?_cons_zero, List.getElem?_cons_succ, List.getElem?_nil, List.set_cons_zero, List.set_cons_succ, List.set_nil, Option.bind_some, Option.bind_none, Option.map_some, Option.map_none, Nat.reduceAdd, Nat.reduceSub, Nat.reduceEqDiff, Nat.reduceLeDiff, if_true, if_false, reduceCtorEq, List.nodup_nil, Bool.false_eq_true, Bool.not_true, Bool.not_false, Bool.true_and, Bool.false_and, Bool.and_true, Bool.and_false, ↓reduceIte, id_eq, List.tail_cons, Nat.zero_add, List.all_cons, List.all_nil, ne_eq, not_false_eq_true, and_self, and_true, true_and, Ew.dsp1_at, Ew.key_i, Ew.swapNew_at, Ew.rng2_at, Ew.rngD_at, Ew.putP_dc, Ew.dc_at, Ew.din_at, Ew.dput_at, Ew.fnD_at, Ew.retGet_at, Ew.sortD_at, Ew.ext_at, Ew.L_at, Ew.LIx_at, Ew.Sc_at, Ew.callL_at, Ew.opNil_at, Ew.sv_i, Ew.oo_at, Ew.appO_at, Ew.sub2_at, Ew.fnL_at, Ew.subAppL_at, Ew.lcO_at, Ew.walk_at, Bool.true_xor, Bool.false_xor
, e1, at_, eIxA, eIxS, ixS_list]
theorem tru_b {b : Bool} : truD (.bool b) = some b := rfl
def low (l : List Nat) : Prop := ∀ c ∈ l, c < 55296
theorem text_turns (p : Bool) (z : Str) (h0 : z.cps.toList ≠ []) (hl : z.cps.toList.length ≤ 1000) (hz : low z.cps.toList) (many : Int) : ∀ (k : Nat) (lo : Int) (u : List Nat) (a b : Int) (x5 : Option O), u.length + k ≤ 2000 → low u → fzo x5 → ∃ (u' : List Nat) (a' b' : Int) (x5' : Option O), u'.length ≤ u.length + k ∧ low u' ∧
    turns (hName 5) (mSeq (mAug 3 augS (eF (eFn f__law_pick (aCons (eVar 0) (aCons (eP (eF (eIf (eTru (eVar 2)) (eP (eC (.str "az09 hk:;+-#\n 5 x"))) (eVar 4)))) aNil))))) mPass) (rangeD lo k) [some (.ln [.int a, .int b]), some (.fz (.int many)), some (.fz (.bool p)), some (.fz (.str (S u))), some (.fz (.str z)), x5] =
      some (.nx [some (.ln [.int a', .int b']), some (.fz (.int many)), some (.fz (.bool p)), some (.fz (.str (S u'))), some (.fz (.str z)), x5']) := by
  intro k
  induction k with
  | zero =>
    intro lo u a b x5 _ hu _
    exact ⟨u, a, b, x5, by omega, hu, by simp [rangeD, turns]⟩
  | succ k ih =>
    intro lo u a b x5 hk hu h5
    have pz : ∃ (c : Nat) (a' b' : Int), c < 55296 ∧ val f__law_pick [.ln [.int a, .int b], .fz (.str (if p = true then Str.ofString "az09 hk:;+-#\n 5 x" else z))] = some (.fz (.str ⟨#[c]⟩), [some (.ln [.int a', .int b']), none]) := by
      cases p with
      | false =>
        obtain ⟨c, a', b', h1, h2⟩ := v_pickS a b z h0 hl
        exact ⟨c, a', b', hz c h1, h2⟩
      | true =>
        obtain ⟨c, a', b', h1, h2⟩ := v_pickS a b (Str.ofString "az09 hk:;+-#\n 5 x") (by decide +kernel) (by decide +kernel)
        refine ⟨c, a', b', ?_, h2⟩
        have : ∀ c ∈ (Str.ofString "az09 hk:;+-#\n 5 x").cps.toList, c < 55296 := by decide +kernel
        exact this c h1
    obtain ⟨c, a', b', hc, e⟩ := pz
    obtain ⟨u', a2, b2, x5', q1, q2, i⟩ := ih (lo + 1) (u ++ [c]) a' b' (some (.fz (.int lo))) (by rw [List.length_append, List.length_singleton]; omega) (fun d hd => by
      rcases List.mem_append.mp hd with m | m
      · exact hu d m
      · rw [List.mem_singleton.mp m]; exact hc) (.inr ⟨_, rfl⟩)
    refine ⟨u', a2, b2, x5', by rw [List.length_append, List.length_singleton] at q1; omega, q2, ?_⟩
    have hu2 : u.length ≤ 2000 := by omega
    rw [rangeD_succ, Gd.turns_c, ← i]
    cases p with
    | false =>
      rw [if_neg (by decide)] at e
      rcases h5 with rfl | ⟨z5, rfl⟩ <;> simp -implicitDefEqProofs only [Ev.nd1, Ev.nd2, Ev.lent_fz, Ev.lent_ow, Ev.lent_oo, Ev.lent_mx, Ev.lent_ln, Ev.lent_nil, Ev.back_nil, Ev.back_tm, Ev.back_sl, Ev.runM_at, Ev.start_at, Ev.seq_at, Ev.pass_at, Ev.brk_at, Ev.cnt_at, Ev.ret_at, Ev.retN_at, Ev.asg_at, Ev.if_at, Ev.drop_at, Ev.tgt_at, Ev.tup_at, Ev.for_at, Ev.P_at, Ev.F_at, Ev.var_at, Ev.c_at, Ev.op_at, Ev.opF_at, Ev.call_at, Ev.call1_at, Ev.un_at, Ev.isi_at, Ev.nil_at, Ev.cons_at, Ev.aNil_at, Ev.aCons_at, Ev.lst_at', Ev.tupE_at, Ev.mix_at, Ev.t_at, Ev.tru_at, Ev.and_at, Ev.or_at, Ev.not_at, Ev.andV_at, Ev.orV_at, Ev.notV_at, Ev.if2_at, Ev.ix_at', Ev.no_at, Ev.yes_at, Ev.sl_at, Ev.rep_at, Ev.fn_at, Ev.fnK_at, Ev.seqL_at, Ev.seqT_at, Ev.enum_at, Ev.zip_at, Ec.rng1_D, Ec.lr1_D, Ev.lc_at, Ev.lcE_at, Ev.yesT_at, Ev.meth_at, Ev.idx_at, Ev.subApp_at, Ev.sortSet_at, Ev.hName_at, Ev.hNil_at, Ev.hCons_at, Ev.hTup_at, Ev.hSub_at, Ev.turns_nil, Ev.force_fz, Ev.force_ow, Ev.force_oo, Ev.force_mx, Ev.force_sl, Ev.norm_fz, Ev.norm_ow, Ev.norm_sl, Ev.argO_sl, Ev.own_at, Ev.setOwn_at, Ev.flatF, Ev.flatO, Ev.flatL, Ev.data_tm, Ev.data_sl, Ev.toD_fz, Ev.toD_ow, Ev.toD_ln, Ev.toD_oo, Ev.toD_mx, Ev.flat_fz, Ev.flat_ow, Ev.flat_sl, Ev.retP_fz, Ev.retP_ow, Ev.retP_oo, Ev.retP_sl, Ev.putP_fz, Ev.putP_ow, Ev.putP_oo, Ev.putP_mx, Ev.putP_sl, Ev.noLn_at, Ev.argOs_nil, Ev.argOs_cons, Ev.argO_fz, Ev.argO_ow, Ev.slots_nil, Ev.slots_tm, Ev.slots_sl, Ev.bOf_b, Ev.ownP_fz, Ev.ownP_ow, Ev.ownP_sl, Ev.ownPs_nil, Ev.ownPs_cons, Ev.putAll_nil, Ev.putAll_cons, Ev.mixI_nil, Ev.mixI_fz, Ev.mixI_ow, Ev.mixI_oo, Ev.ixD_list, Ev.ixD_tup, Ev.atI_0, Ev.atI_1, Ev.ixN_0, Ev.ixN_1, Ev.gt_ii, Ev.ge_ii, Ev.lt_ii, Ev.le_ii, Ev.add_ii, Ev.add_ll, Ev.sub_ii, Ev.mul_ii, Ev.fdv_ii, Ev.mod_ii, Ev.neg_i, Ev.int_i, Ev.abs_i, Ev.max2_ii, Ev.dvm_ii, Ev.len_l, Ev.len_t, Ev.listO_l, Ev.tupO_l, Ev.ints_map, Ev.intsD_map, Ev.sorted_l, Ev.sl_list, List.map_cons, List.map_nil, List.length_cons, List.length_nil, List.replicate_succ, List.replicate_zero, List.append_nil, List.nil_append, List.cons_append, List.getElem?_cons_zero, List.getElem?_cons_succ, List.getElem?_nil, List.set_cons_zero, List.set_cons_succ, List.set_nil, Option.bind_some, Option.bind_none, Option.map_some, Option.map_none, Nat.reduceAdd, Nat.reduceSub, Nat.reduceEqDiff, Nat.reduceLeDiff, if_true, if_false, reduceCtorEq, List.nodup_nil, Bool.false_eq_true, Bool.not_true, Bool.not_false, Bool.true_and, Bool.false_and, Bool.and_true, Bool.and_false, ↓reduceIte, id_eq, List.tail_cons, Nat.zero_add, List.all_cons, List.all_nil, ne_eq, not_false_eq_true, and_self, and_true, true_and, Ew.dsp1_at, Ew.key_i, Ew.swapNew_at, Ew.rng2_at, Ew.rngD_at, Ew.putP_dc, Ew.dc_at, Ew.din_at, Ew.dput_at, Ew.fnD_at, Ew.retGet_at, Ew.sortD_at, Ew.ext_at, Ew.L_at, Ew.LIx_at, Ew.Sc_at, Ew.callL_at, Ew.opNil_at, Ew.sv_i, Ew.oo_at, Ew.appO_at, Ew.sub2_at, Ew.fnL_at, Ew.subAppL_at, Ew.lcO_at, Ew.walk_at, Bool.true_xor, Bool.false_xor
, e, Gd.aug_at, Gd.fzAt_s, aug_S1 hu2, tru_b]
    | true =>
      rw [if_pos rfl] at e
      rcases h5 with rfl | ⟨z5, rfl⟩ <;> simp -implicitDefEqProofs only [Ev.nd1, Ev.nd2, Ev.lent_fz, Ev.lent_ow, Ev.lent_oo, Ev.lent_mx, Ev.lent_ln, Ev.lent_nil, Ev.back_nil, Ev.back_tm, Ev.back_sl, Ev.runM_at, Ev.start_at, Ev.seq_at, Ev.pass_at, Ev.brk_at, Ev.cnt_at, Ev.ret_at, Ev.retN_at, Ev.asg_at, Ev.if_at, Ev.drop_at, Ev.tgt_at, Ev.tup_at, Ev.for_at, Ev.P_at, Ev.F_at, Ev.var_at, Ev.c_at, Ev.op_at, Ev.opF_at, Ev.call_at, Ev.call1_at, Ev.un_at, Ev.isi_at, Ev.nil_at, Ev.cons_at, Ev.aNil_at, Ev.aCons_at, Ev.lst_at', Ev.tupE_at, Ev.mix_at, Ev.t_at, Ev.tru_at, Ev.and_at, Ev.or_at, Ev.not_at, Ev.andV_at, Ev.orV_at, Ev.notV_at, Ev.if2_at, Ev.ix_at', Ev.no_at, Ev.yes_at, Ev.sl_at, Ev.rep_at, Ev.fn_at, Ev.fnK_at, Ev.seqL_at, Ev.seqT_at, Ev.enum_at, Ev.zip_at, Ec.rng1_D, Ec.lr1_D, Ev.lc_at, Ev.lcE_at, Ev.yesT_at, Ev.meth_at, Ev.idx_at, Ev.subApp_at, Ev.sortSet_at, Ev.hName_at, Ev.hNil_at, Ev.hCons_at, Ev.hTup_at, Ev.hSub_at, Ev.turns_nil, Ev.force_fz, Ev.force_ow, Ev.force_oo, Ev.force_mx, Ev.force_sl, Ev.norm_fz, Ev.norm_ow, Ev.norm_sl, Ev.argO_sl, Ev.own_at, Ev.setOwn_at, Ev.flatF, Ev.flatO, Ev.flatL, Ev.data_tm, Ev.data_sl, Ev.toD_fz, Ev.toD_ow, Ev.toD_ln, Ev.toD_oo, Ev.toD_mx, Ev.flat_fz, Ev.flat_ow, Ev.flat_sl, Ev.retP_fz, Ev.retP_ow, Ev.retP_oo, Ev.retP_sl, Ev.putP_fz, Ev.putP_ow, Ev.putP_oo, Ev.putP_mx, Ev.putP_sl, Ev.noLn_at, Ev.argOs_nil, Ev.argOs_cons, Ev.argO_fz, Ev.argO_ow, Ev.slots_nil, Ev.slots_tm, Ev.slots_sl, Ev.bOf_b, Ev.ownP_fz, Ev.ownP_ow, Ev.ownP_sl, Ev.ownPs_nil, Ev.ownPs_cons, Ev.putAll_nil, Ev.putAll_cons, Ev.mixI_nil, Ev.mixI_fz, Ev.mixI_ow, Ev.mixI_oo, Ev.ixD_list, Ev.ixD_tup, Ev.atI_0, Ev.atI_1, Ev.ixN_0, Ev.ixN_1, Ev.gt_ii, Ev.ge_ii, Ev.lt_ii, Ev.le_ii, Ev.add_ii, Ev.add_ll, Ev.sub_ii, Ev.mul_ii, Ev.fdv_ii, Ev.mod_ii, Ev.neg_i, Ev.int_i, Ev.abs_i, Ev.max2_ii, Ev.dvm_ii, Ev.len_l, Ev.len_t, Ev.listO_l, Ev.tupO_l, Ev.ints_map, Ev.intsD_map, Ev.sorted_l, Ev.sl_list, List.map_cons, List.map_nil, List.length_cons, List.length_nil, List.replicate_succ, List.replicate_zero, List.append_nil, List.nil_append, List.cons_append, List.getElem?_cons_zero, List.getElem?_cons_succ, List.getElem?_nil, List.set_cons_zero, List.set_cons_succ, List.set_nil, Option.bind_some, Option.bind_none, Option.map_some, Option.map_none, Nat.reduceAdd, Nat.reduceSub, Nat.reduceEqDiff, Nat.reduceLeDiff, if_true, if_false, reduceCtorEq, List.nodup_nil, Bool.false_eq_true, Bool.not_true, Bool.not_false, Bool.true_and, Bool.false_and, Bool.and_true, Bool.and_false, ↓reduceIte, id_eq, List.tail_cons, Nat.zero_add, List.all_cons, List.all_nil, ne_eq, not_false_eq_true, and_self, and_true, true_and, Ew.dsp1_at, Ew.key_i, Ew.swapNew_at, Ew.rng2_at, Ew.rngD_at, Ew.putP_dc, Ew.dc_at, Ew.din_at, Ew.dput_at, Ew.fnD_at, Ew.retGet_at, Ew.sortD_at, Ew.ext_at, Ew.L_at, Ew.LIx_at, Ew.Sc_at, Ew.callL_at, Ew.opNil_at, Ew.sv_i, Ew.oo_at, Ew.appO_at, Ew.sub2_at, Ew.fnL_at, Ew.subAppL_at, Ew.lcO_at, Ew.walk_at, Bool.true_xor, Bool.false_xor
, e, Gd.aug_at, Gd.fzAt_s, aug_S1 hu2, tru_b]
theorem sgn_add : addO (.str (Str.ofString "abcdefghijklmnopqrstuvwxyzABCDEFGHIJKLMNOPQRSTUVWXYZ0123456789")) (.str (Str.ofString " !\"#$&'()*+,-./:;<=>?\x40[\\]^_`{|}~\n")) = some (.fz (.str (Str.ofString "abcdefghijklmnopqrstuvwxyzABCDEFGHIJKLMNOPQRSTUVWXYZ0123456789 !\"#$&'()*+,-./:;<=>?\x40[\\]^_`{|}~\n"))) := by
  have e : Str.ofString "abcdefghijklmnopqrstuvwxyzABCDEFGHIJKLMNOPQRSTUVWXYZ0123456789" ++ Str.ofString " !\"#$&'()*+,-./:;<=>?\x40[\\]^_`{|}~\n" = Str.ofString "abcdefghijklmnopqrstuvwxyzABCDEFGHIJKLMNOPQRSTUVWXYZ0123456789 !\"#$&'()*+,-./:;<=>?\x40[\\]^_`{|}~\n" := by decide +kernel
  have add : ∀ a b : Str, a.length + b.length ≤ sizeLine → addO (.str a) (.str b) = some (.fz (.str (a ++ b))) := fun a b h => if_pos h
  rw [add _ _ (by decide +kernel), e]
theorem v_text (a b : Int) : ∃ (t : List Nat) (a' b' : Int), t.length ≤ 60 ∧ low t ∧ val f__law_text [.ln [.int a, .int b], .fz (.int 60)] = some (.fz (.str (S t)), [some (.ln [.int a', .int b']), none]) := by
  obtain ⟨r, a1, b1, r0, r1, e1⟩ := v_draw a b 2 (by decide) (by decide)
  obtain ⟨n, a2, b2, n0, n1, e2⟩ := v_draw a1 b1 (60 + 1) (by decide) (by decide)
  obtain ⟨t, a3, b3, x5, q1, q2, i⟩ := text_turns (decide (r = 0)) (Str.ofString "abcdefghijklmnopqrstuvwxyzABCDEFGHIJKLMNOPQRSTUVWXYZ0123456789 !\"#$&'()*+,-./:;<=>?\x40[\\]^_`{|}~\n") (by decide +kernel) (by decide +kernel) (show ∀ c ∈ _, _ by decide +kernel) 60 n.toNat 0 [] a2 b2 none (by simp; omega) (fun c hc => by simp at hc) (.inl rfl)
  refine ⟨t, a3, b3, by simp at q1; omega, q2, ?_⟩
  unfold val f__law_text m__law_text
  simp -implicitDefEqProofs only [Ev.nd1, Ev.nd2, Ev.lent_fz, Ev.lent_ow, Ev.lent_oo, Ev.lent_mx, Ev.lent_ln, Ev.lent_nil, Ev.back_nil, Ev.back_tm, Ev.back_sl, Ev.runM_at, Ev.start_at, Ev.seq_at, Ev.pass_at, Ev.brk_at, Ev.cnt_at, Ev.ret_at, Ev.retN_at, Ev.asg_at, Ev.if_at, Ev.drop_at, Ev.tgt_at, Ev.tup_at, Ev.for_at, Ev.P_at, Ev.F_at, Ev.var_at, Ev.c_at, Ev.op_at, Ev.opF_at, Ev.call_at, Ev.call1_at, Ev.un_at, Ev.isi_at, Ev.nil_at, Ev.cons_at, Ev.aNil_at, Ev.aCons_at, Ev.lst_at', Ev.tupE_at, Ev.mix_at, Ev.t_at, Ev.tru_at, Ev.and_at, Ev.or_at, Ev.not_at, Ev.andV_at, Ev.orV_at, Ev.notV_at, Ev.if2_at, Ev.ix_at', Ev.no_at, Ev.yes_at, Ev.sl_at, Ev.rep_at, Ev.fn_at, Ev.fnK_at, Ev.seqL_at, Ev.seqT_at, Ev.enum_at, Ev.zip_at, Ec.rng1_D, Ec.lr1_D, Ev.lc_at, Ev.lcE_at, Ev.yesT_at, Ev.meth_at, Ev.idx_at, Ev.subApp_at, Ev.sortSet_at, Ev.hName_at, Ev.hNil_at, Ev.hCons_at, Ev.hTup_at, Ev.hSub_at, Ev.turns_nil, Ev.force_fz, Ev.force_ow, Ev.force_oo, Ev.force_mx, Ev.force_sl, Ev.norm_fz, Ev.norm_ow, Ev.norm_sl, Ev.argO_sl, Ev.own_at, Ev.setOwn_at, Ev.flatF, Ev.flatO, Ev.flatL, Ev.data_tm, Ev.data_sl, Ev.toD_fz, Ev.toD_ow, Ev.toD_ln, Ev.toD_oo, Ev.toD_mx, Ev.flat_fz, Ev.flat_ow, Ev.flat_sl, Ev.retP_fz, Ev.retP_ow, Ev.retP_oo, Ev.retP_sl, Ev.putP_fz, Ev.putP_ow, Ev.putP_oo, Ev.putP_mx, Ev.putP_sl, Ev.noLn_at, Ev.argOs_nil, Ev.argOs_cons, Ev.argO_fz, Ev.argO_ow, Ev.slots_nil, Ev.slots_tm, Ev.slots_sl, Ev.bOf_b, Ev.ownP_fz, Ev.ownP_ow, Ev.ownP_sl, Ev.ownPs_nil, Ev.ownPs_cons, Ev.putAll_nil, Ev.putAll_cons, Ev.mixI_nil, Ev.mixI_fz, Ev.mixI_ow, Ev.mixI_oo, Ev.ixD_list, Ev.ixD_tup, Ev.atI_0, Ev.atI_1, Ev.ixN_0, Ev.ixN_1, Ev.gt_ii, Ev.ge_ii, Ev.lt_ii, Ev.le_ii, Ev.add_ii, Ev.add_ll, Ev.sub_ii, Ev.mul_ii, Ev.fdv_ii, Ev.mod_ii, Ev.neg_i, Ev.int_i, Ev.abs_i, Ev.max2_ii, Ev.dvm_ii, Ev.len_l, Ev.len_t, Ev.listO_l, Ev.tupO_l, Ev.ints_map, Ev.intsD_map, Ev.sorted_l, Ev.sl_list, List.map_cons, List.map_nil, List.length_cons, List.length_nil, List.replicate_succ, List.replicate_zero, List.append_nil, List.nil_append, List.cons_append, List.getElem?_cons_zero, List.getElem?_cons_succ, List.getElem?_nil, List.set_cons_zero, List.set_cons_succ, List.set_nil, Option.bind_some, Option.bind_none, Option.map_some, Option.map_none, Nat.reduceAdd, Nat.reduceSub, Nat.reduceEqDiff, Nat.reduceLeDiff, if_true, if_false, reduceCtorEq, List.nodup_nil, Bool.false_eq_true, Bool.not_true, Bool.not_false, Bool.true_and, Bool.false_and, Bool.and_true, Bool.and_false, ↓reduceIte, id_eq, List.tail_cons, Nat.zero_add, List.all_cons, List.all_nil, ne_eq, not_false_eq_true, and_self, and_true, true_and, Ew.dsp1_at, Ew.key_i, Ew.swapNew_at, Ew.rng2_at, Ew.rngD_at, Ew.putP_dc, Ew.dc_at, Ew.din_at, Ew.dput_at, Ew.fnD_at, Ew.retGet_at, Ew.sortD_at, Ew.ext_at, Ew.L_at, Ew.LIx_at, Ew.Sc_at, Ew.callL_at, Ew.opNil_at, Ew.sv_i, Ew.oo_at, Ew.appO_at, Ew.sub2_at, Ew.fnL_at, Ew.subAppL_at, Ew.lcO_at, Ew.walk_at, Bool.true_xor, Bool.false_xor
, e1, e2, Ec.eq_ii, cs_no, sgn_add, i, (by decide : 2 ≤ sizeLine), Ec.rngD_of (Ec.rgOk_of (show -(2 ^ 62) ≤ n by omega) (by omega))]
end K25
end
section
set_option Elab.async false
set_option linter.all false
set_option maxRecDepth 100000
set_option maxHeartbeats 8000000
namespace K25
open PySem PySem.Spec PyProof.Rows L2 Vi Vf Vo Vp Vs Vt Vu Vv Vg Vw Vx Vy Va Vb Vc Vk Vm Vl Vn Vd Vq Vr Vj Vfr Ev Ec Mo Ew Gd Gx Gy Gt Rk Vxt
open SX (S S_cat S_len S_tl S_inj)
theorem spl_facts : ∀ (l acc : List Nat), TL.spl [10] 0 acc l ≠ [] ∧ (TL.spl [10] 0 acc l).length ≤ l.length + 1 ∧ ∀ p ∈ TL.spl [10] 0 acc l, p.length ≤ acc.length + l.length ∧ ∀ c ∈ p, c ∈ acc ∨ c ∈ l
  | [], acc => by
    rw [TL.spl_nil]
    refine ⟨by simp, by simp, fun p hp => ?_⟩
    rw [List.mem_singleton.mp hp]
    exact ⟨by simp, fun c hc => .inl hc⟩
  | c :: r, acc => by
    by_cases h : TL.pre [10] (c :: r) = true
    · rw [TL.spl_hit h]
      obtain ⟨h1, h2, h3⟩ := spl_facts r []
      refine ⟨by simp, by simpa using h2, fun p hp => ?_⟩
      rcases List.mem_cons.mp hp with rfl | m
      · exact ⟨by simp, fun c hc => .inl hc⟩
      · obtain ⟨q1, q2⟩ := h3 p m
        refine ⟨by simp at q1 ⊢; omega, fun d hd => ?_⟩
        rcases q2 d hd with z | z
        · simp at z
        · exact .inr (by simp [z])
    · rw [TL.spl_miss (by simpa using h)]
      obtain ⟨h1, h2, h3⟩ := spl_facts r (acc ++ [c])
      refine ⟨h1, by simp; omega, fun p hp => ?_⟩
      obtain ⟨q1, q2⟩ := h3 p hp
      refine ⟨by simp at q1 ⊢; omega, fun d hd => ?_⟩
      rcases q2 d hd with z | z
      · rcases List.mem_append.mp z with z | z
        · exact .inl z
        · exact .inr (by rw [List.mem_singleton.mp z]; simp)
      · exact .inr (by simp [z])
theorem toks_len : ∀ (l acc : List Nat) (k : Nat), (toks k (TL.spl [10] 0 acc l)).length ≤ 2 * acc.length + 5 * l.length + 3
  | [], acc, k => by
    have := sc_len (l := told acc ++ [32]) (pos := 0) (st := 0) (u := [])
    have := told_len acc
    rw [TL.spl_nil]
    simp [toks, lineT] at *
    omega
  | c :: r, acc, k => by
    by_cases h : TL.pre [10] (c :: r) = true
    · rw [TL.spl_hit h]
      have i := toks_len r [] (k + 1)
      have := sc_len (l := told acc ++ [32]) (pos := 0) (st := 0) (u := [])
      have := told_len acc
      simp [toks, lineT] at *
      omega
    · rw [TL.spl_miss (by simpa using h)]
      have i := toks_len r (acc ++ [c]) k
      simp at *
      omega
theorem sc_facts : ∀ (l : List Nat) (pos st : Nat) (u : List Nat), st ≤ pos → ∀ p ∈ sc pos st u l, p.1 ≤ pos + l.length ∧ p.2.length ≤ u.length + l.length ∧ ∀ c ∈ p.2, c ∈ u ∨ c ∈ l
  | [], _, _, _, _, p, hp => by simp [sc] at hp
  | c :: l, pos, st, u, hs, p, hp => by
    rw [sc] at hp
    split at hp
    · obtain ⟨h1, h2, h3⟩ := sc_facts l (pos + 1) (if u = [] then pos else st) (u ++ [c]) (by split <;> omega) p hp
      refine ⟨by simp; omega, by simp at h2 ⊢; omega, fun d hd => ?_⟩
      rcases h3 d hd with z | z
      · rcases List.mem_append.mp z with z | z
        · exact .inl z
        · exact .inr (by rw [List.mem_singleton.mp z]; simp)
      · exact .inr (by simp [z])
    · rcases List.mem_append.mp hp with m | m
      · split at m
        · simp at m
        · rw [List.mem_singleton.mp m]
          exact ⟨by simp; omega, by simp, fun d hd => .inl hd⟩
      · rcases List.mem_append.mp m with m | m
        · split at m
          · simp at m
          · rw [List.mem_singleton.mp m]
            exact ⟨by simp, by simp; omega, fun d hd => .inr (by rw [List.mem_singleton.mp hd]; simp)⟩
        · obtain ⟨h1, h2, h3⟩ := sc_facts l (pos + 1) st [] (by omega) p m
          refine ⟨by simp; omega, by simp at h2 ⊢; omega, fun d hd => ?_⟩
          rcases h3 d hd with z | z
          · simp at z
          · exact .inr (by simp [z])
theorem sz_S {w : List Nat} (hw : w.length ≤ 100) (lw : low w) : Sz 0 100 (.str (S w)) := sz_s (by simpa using hw) (by decide) fun c hc => lw c (by simpa using hc)
theorem sz_tk {n m : Int} {w : List Nat} (hn : n.natAbs < 10 ^ 39) (hm : m.natAbs < 10 ^ 39) (hw : w.length ≤ 100) (lw : low w) : Sz 1 200 (.tuple [.int n, .int m, .str (S w)]) :=
  (sz_tup (szs_cons (sz_i hn) (szs_cons (sz_i hm) (szs_cons (sz_S hw lw) szs_nil)))).up (by decide) (by decide)
theorem sz_toks : ∀ (ls : List (List Nat)) (k : Nat), k + ls.length ≤ 1000 → (∀ l ∈ ls, l.length ≤ 99 ∧ low l) → ∀ d ∈ toks k ls, Sz 1 200 d
  | [], _, _, _, d, hd => by simp [toks] at hd
  | l :: ls, k, hk, hl, d, hd => by
    rw [List.length_cons] at hk
    have htl := told_len l
    obtain ⟨l1, l2⟩ := hl l (by simp)
    rw [toks] at hd
    rcases List.mem_append.mp hd with m | m
    · unfold lineT at m
      rcases List.mem_append.mp m with m | m
      · obtain ⟨p, hp, rfl⟩ := List.mem_map.mp m
        obtain ⟨h1, h2, h3⟩ := sc_facts _ 0 0 [] (Nat.le_refl _) p hp
        simp at h1 h2
        refine sz_tk (by omega) (by omega) (by omega) fun c hc => ?_
        rcases h3 c hc with z | z
        · simp at z
        · rcases List.mem_append.mp z with z | z
          · exact l2 c (told_mem z)
          · rw [List.mem_singleton.mp z]; decide
      · rw [List.mem_singleton.mp m]
        exact sz_tk (by omega) (by omega) (by simp) (fun c hc => by rw [List.mem_singleton.mp hc]; decide)
    · exact sz_toks ls (k + 1) (by omega) (fun z hz => hl z (by simp [hz])) d m
/-- both ways of telling a text's tokens, and what repr makes of them -/
theorem text_ok (t : List Nat) (ht : t.length ≤ 61) (hlow : low t) : ∃ (x : D) (xs : List D), xs.length ≤ 400 ∧ val f_tokens [.fz (.str (S t))] = some (.ow (x :: xs), [none]) ∧ val f__law_tokens [.fz (.str (S t))] = some (.ow (x :: xs), [none]) ∧ ∃ s : Str, reprD (.list (x :: xs)) = some (.str s) := by
  obtain ⟨h1, h2, h3⟩ := spl_facts t []
  have h4 : ∀ l ∈ TL.spl [10] 0 [] t, l.length ≤ 99 ∧ low l := fun l hl => by
    obtain ⟨q1, q2⟩ := h3 l hl
    refine ⟨by simp at q1; omega, fun c hc => ?_⟩
    rcases q2 c hc with z | z
    · simp at z
    · exact hlow c z
  have e1 := v_tk t (by omega) (fun l hl => by have := (h4 l hl).1; omega) (by omega)
  have e2 := v_lt t (by omega) (fun l hl => by have := (h4 l hl).1; omega) (by omega)
  have hlen := toks_len t [] 0
  have hsz := sz_toks (TL.spl [10] 0 [] t) 0 (by omega) h4
  cases q : toks 0 (TL.spl [10] 0 [] t) with
  | nil =>
    cases q2 : TL.spl [10] 0 [] t with
    | nil => exact absurd q2 h1
    | cons l ls => rw [q2] at q; simp [toks, lineT] at q
  | cons x xs =>
    rw [q] at e1 e2 hlen hsz
    refine ⟨x, xs, by simp at hlen; omega, e1, e2, _, (sz_list (szs_all hsz)).repr (by decide) ?_⟩
    simp at hlen ⊢
    omega
theorem v_tkr (a b : Int) : ∃ a' b' : Int, val f__law_tokens_right [.ln [.int a, .int b]] = some (.fz (.bool true), [some (.ln [.int a', .int b'])]) := by
  obtain ⟨t, a', b', ht, hlow, e⟩ := v_text a b
  obtain ⟨x, xs, hx, e1, e2, s, e3⟩ := text_ok t (by omega) hlow
  obtain ⟨y, ys, hy, g1, g2, s', g3⟩ := text_ok (97 :: t) (by simp; omega) (fun c hc => by
    rcases List.mem_cons.mp hc with rfl | m
    · decide
    · exact hlow c m)
  have ad : addO (.str (S [97])) (.str (S t)) = some (.fz (.str (S (97 :: t)))) := add_S (a := [97]) (by simp; omega)
  refine ⟨a', b', ?_⟩
  have hfz : xs.length + 1 < sizeLine := by rw [sizeLine_eq]; omega
  unfold val f__law_tokens_right m__law_tokens_right
  simp -implicitDefEqProofs only [Ev.nd1, Ev.nd2, Ev.lent_fz, Ev.lent_ow, Ev.lent_oo, Ev.lent_mx, Ev.lent_ln, Ev.lent_nil, Ev.back_nil, Ev.back_tm, Ev.back_sl, Ev.runM_at, Ev.start_at, Ev.seq_at, Ev.pass_at, Ev.brk_at, Ev.cnt_at, Ev.ret_at, Ev.retN_at, Ev.asg_at, Ev.if_at, Ev.drop_at, Ev.tgt_at, Ev.tup_at, Ev.for_at, Ev.P_at, Ev.F_at, Ev.var_at, Ev.c_at, Ev.op_at, Ev.opF_at, Ev.call_at, Ev.call1_at, Ev.un_at, Ev.isi_at, Ev.nil_at, Ev.cons_at, Ev.aNil_at, Ev.aCons_at, Ev.lst_at', Ev.tupE_at, Ev.mix_at, Ev.t_at, Ev.tru_at, Ev.and_at, Ev.or_at, Ev.not_at, Ev.andV_at, Ev.orV_at, Ev.notV_at, Ev.if2_at, Ev.ix_at', Ev.no_at, Ev.yes_at, Ev.sl_at, Ev.rep_at, Ev.fn_at, Ev.fnK_at, Ev.seqL_at, Ev.seqT_at, Ev.enum_at, Ev.zip_at, Ec.rng1_D, Ec.lr1_D, Ev.lc_at, Ev.lcE_at, Ev.yesT_at, Ev.meth_at, Ev.idx_at, Ev.subApp_at, Ev.sortSet_at, Ev.hName_at, Ev.hNil_at, Ev.hCons_at, Ev.hTup_at, Ev.hSub_at, Ev.turns_nil, Ev.force_fz, Ev.force_ow, Ev.force_oo, Ev.force_mx, Ev.force_sl, Ev.norm_fz, Ev.norm_ow, Ev.norm_sl, Ev.argO_sl, Ev.own_at, Ev.setOwn_at, Ev.flatF, Ev.flatO, Ev.flatL, Ev.data_tm, Ev.data_sl, Ev.toD_fz, Ev.toD_ow, Ev.toD_ln, Ev.toD_oo, Ev.toD_mx, Ev.flat_fz, Ev.flat_ow, Ev.flat_sl, Ev.retP_fz, Ev.retP_ow, Ev.retP_oo, Ev.retP_sl, Ev.putP_fz, Ev.putP_ow, Ev.putP_oo, Ev.putP_mx, Ev.putP_sl, Ev.noLn_at, Ev.argOs_nil, Ev.argOs_cons, Ev.argO_fz, Ev.argO_ow, Ev.slots_nil, Ev.slots_tm, Ev.slots_sl, Ev.bOf_b, Ev.ownP_fz, Ev.ownP_ow, Ev.ownP_sl, Ev.ownPs_nil, Ev.ownPs_cons, Ev.putAll_nil, Ev.putAll_cons, Ev.mixI_nil, Ev.mixI_fz, Ev.mixI_ow, Ev.mixI_oo, Ev.ixD_list, Ev.ixD_tup, Ev.atI_0, Ev.atI_1, Ev.ixN_0, Ev.ixN_1, Ev.gt_ii, Ev.ge_ii, Ev.lt_ii, Ev.le_ii, Ev.add_ii, Ev.add_ll, Ev.sub_ii, Ev.mul_ii, Ev.fdv_ii, Ev.mod_ii, Ev.neg_i, Ev.int_i, Ev.abs_i, Ev.max2_ii, Ev.dvm_ii, Ev.len_l, Ev.len_t, Ev.listO_l, Ev.tupO_l, Ev.ints_map, Ev.intsD_map, Ev.sorted_l, Ev.sl_list, List.map_cons, List.map_nil, List.length_cons, List.length_nil, List.replicate_succ, List.replicate_zero, List.append_nil, List.nil_append, List.cons_append, List.getElem?_cons_zero, List.getElem?_cons_succ, List.getElem?_nil, List.set_cons_zero, List.set_cons_succ, List.set_nil, Option.bind_some, Option.bind_none, Option.map_some, Option.map_none, Nat.reduceAdd, Nat.reduceSub, Nat.reduceEqDiff, Nat.reduceLeDiff, if_true, if_false, reduceCtorEq, List.nodup_nil, Bool.false_eq_true, Bool.not_true, Bool.not_false, Bool.true_and, Bool.false_and, Bool.and_true, Bool.and_false, ↓reduceIte, id_eq, List.tail_cons, Nat.zero_add, List.all_cons, List.all_nil, ne_eq, not_false_eq_true, and_self, and_true, true_and, Ew.dsp1_at, Ew.key_i, Ew.swapNew_at, Ew.rng2_at, Ew.rngD_at, Ew.putP_dc, Ew.dc_at, Ew.din_at, Ew.dput_at, Ew.fnD_at, Ew.retGet_at, Ew.sortD_at, Ew.ext_at, Ew.L_at, Ew.LIx_at, Ew.Sc_at, Ew.callL_at, Ew.opNil_at, Ew.sv_i, Ew.oo_at, Ew.appO_at, Ew.sub2_at, Ew.fnL_at, Ew.subAppL_at, Ew.lcO_at, Ew.walk_at, Bool.true_xor, Bool.false_xor
, e, e1, e2, e3, g1, g2, g3, cs_a, cs_no, ad, Ec.ne_same, Ec.eq_same, Gd.app_1, hfz, (by decide : 3 ≤ sizeLine), Gd.pmI_n, Gd.pmI_c, Gd.pm1_s]
end K25
end
section
set_option Elab.async false
set_option linter.all false
set_option maxRecDepth 100000
set_option maxHeartbeats 8000000
namespace K25
open PySem PySem.Spec PyProof.Rows L2 Vi Vf Vo Vp Vs Vt Vu Vv Vg Vw Vx Vy Va Vb Vc Vk Vm Vl Vn Vd Vq Vr Vj Vfr Ev Ec Mo Ew Gd Gx Gy Gt Rk Vxt
open SX (S S_cat S_len S_tl S_inj)
theorem isi_str (x : Str) : isiD "str" (.str x) = some (.bool true) := by
  unfold isiD tyName
  rw [show kitB "str" "str" = some true by kernel_rfl]
  rfl
theorem isi_no (d : D) (h : tyName d ≠ "str") : isiD "str" d = some (.bool false) := by
  cases d <;> first | (exact absurd rfl h) | (unfold isiD tyName; rw [show kitB _ "str" = some _ by kernel_rfl]; rfl)
def isH (t : List Nat) : Bool := decide (t = [104, 97, 110, 100]) || decide (t = [115, 105, 100, 101])
theorem cs_hand : (Str.ofString "hand") = S [104, 97, 110, 100] := by decide +kernel
theorem cs_side : (Str.ofString "side") = S [115, 105, 100, 101] := by decide +kernel
theorem eqv_S {a b : List Nat} : PyData.eqv (.str (S a)) (.str (S b)) = decide (a = b) := by
  have h : PyData.eqv (.str (S a)) (.str (S b)) = (S a == S b) := by simp [PyData.eqv]
  rw [h, SX.S_beq_eq]
theorem in_hs {t : List Nat} (ht : t.length ≤ 100) (hlow : low t) : inD false (.str (S t)) (.tuple [.str (S [104, 97, 110, 100]), .str (S [115, 105, 100, 101])]) = some (.bool (isH t)) := by
  have s1 : SeqAt.shaped (.str (S t)) = true := (sz_S ht hlow).shaped (by decide)
  have s2 : SeqAt.shaped (.tuple [.str (S [104, 97, 110, 100]), .str (S [115, 105, 100, 101])] : D) = true := by decide +kernel
  show (if _ then _ else _) = _
  rw [if_pos ⟨s1, s2⟩]
  rw [if_neg Bool.false_ne_true, List.any_cons, List.any_cons, List.any_nil, Bool.or_false, eqv_S, eqv_S]
  unfold isH
  rw [decide_eq_decide.mpr (⟨Eq.symm, Eq.symm⟩ : ([104, 97, 110, 100] = t ↔ t = [104, 97, 110, 100])), decide_eq_decide.mpr (⟨Eq.symm, Eq.symm⟩ : ([115, 105, 100, 101] = t ↔ t = [115, 105, 100, 101]))]
def nameB (t : List Nat) : Bool := match t with
  | [] => false
  | c :: r => decide (r.length + 1 ≤ 8) && !isH (c :: r) && isL c && r.all isW
theorem walk_w : ∀ (t : List Nat) (x : Option O), fzo x → walkG false (hName 0) (eF (eFn f_is_word_character (aCons (eP (eF (eVar 0))) aNil))) (Vi.strD (S t)) [x] = some (t.all isW)
  | [], _, _ => rfl
  | c :: t, x, hx => by
    show (Option.bind _ _) = _
    have i := walk_w t (some (.fz (.str ⟨#[c]⟩))) (.inr ⟨_, rfl⟩)
    have e : (t.map fun c => PyData.str ⟨#[c]⟩) = Vi.strD (S t) := rfl
    by_cases hw : isW c = true
    · rcases hx with rfl | ⟨z, rfl⟩ <;> simp -implicitDefEqProofs only [Ev.nd1, Ev.nd2, Ev.lent_fz, Ev.lent_ow, Ev.lent_oo, Ev.lent_mx, Ev.lent_ln, Ev.lent_nil, Ev.back_nil, Ev.back_tm, Ev.back_sl, Ev.runM_at, Ev.start_at, Ev.seq_at, Ev.pass_at, Ev.brk_at, Ev.cnt_at, Ev.ret_at, Ev.retN_at, Ev.asg_at, Ev.if_at, Ev.drop_at, Ev.tgt_at, Ev.tup_at, Ev.for_at, Ev.P_at, Ev.F_at, Ev.var_at, Ev.c_at, Ev.op_at, Ev.opF_at, Ev.call_at, Ev.call1_at, Ev.un_at, Ev.isi_at, Ev.nil_at, Ev.cons_at, Ev.aNil_at, Ev.aCons_at, Ev.lst_at', Ev.tupE_at, Ev.mix_at, Ev.t_at, Ev.tru_at, Ev.and_at, Ev.or_at, Ev.not_at, Ev.andV_at, Ev.orV_at, Ev.notV_at, Ev.if2_at, Ev.ix_at', Ev.no_at, Ev.yes_at, Ev.sl_at, Ev.rep_at, Ev.fn_at, Ev.fnK_at, Ev.seqL_at, Ev.seqT_at, Ev.enum_at, Ev.zip_at, Ec.rng1_D, Ec.lr1_D, Ev.lc_at, Ev.lcE_at, Ev.yesT_at, Ev.meth_at, Ev.idx_at, Ev.subApp_at, Ev.sortSet_at, Ev.hName_at, Ev.hNil_at, Ev.hCons_at, Ev.hTup_at, Ev.hSub_at, Ev.turns_nil, Ev.force_fz, Ev.force_ow, Ev.force_oo, Ev.force_mx, Ev.force_sl, Ev.norm_fz, Ev.norm_ow, Ev.norm_sl, Ev.argO_sl, Ev.own_at, Ev.setOwn_at, Ev.flatF, Ev.flatO, Ev.flatL, Ev.data_tm, Ev.data_sl, Ev.toD_fz, Ev.toD_ow, Ev.toD_ln, Ev.toD_oo, Ev.toD_mx, Ev.flat_fz, Ev.flat_ow, Ev.flat_sl, Ev.retP_fz, Ev.retP_ow, Ev.retP_oo, Ev.retP_sl, Ev.putP_fz, Ev.putP_ow, Ev.putP_oo, Ev.putP_mx, Ev.putP_sl, Ev.noLn_at, Ev.argOs_nil, Ev.argOs_cons, Ev.argO_fz, Ev.argO_ow, Ev.slots_nil, Ev.slots_tm, Ev.slots_sl, Ev.bOf_b, Ev.ownP_fz, Ev.ownP_ow, Ev.ownP_sl, Ev.ownPs_nil, Ev.ownPs_cons, Ev.putAll_nil, Ev.putAll_cons, Ev.mixI_nil, Ev.mixI_fz, Ev.mixI_ow, Ev.mixI_oo, Ev.ixD_list, Ev.ixD_tup, Ev.atI_0, Ev.atI_1, Ev.ixN_0, Ev.ixN_1, Ev.gt_ii, Ev.ge_ii, Ev.lt_ii, Ev.le_ii, Ev.add_ii, Ev.add_ll, Ev.sub_ii, Ev.mul_ii, Ev.fdv_ii, Ev.mod_ii, Ev.neg_i, Ev.int_i, Ev.abs_i, Ev.max2_ii, Ev.dvm_ii, Ev.len_l, Ev.len_t, Ev.listO_l, Ev.tupO_l, Ev.ints_map, Ev.intsD_map, Ev.sorted_l, Ev.sl_list, List.map_cons, List.map_nil, List.length_cons, List.length_nil, List.replicate_succ, List.replicate_zero, List.append_nil, List.nil_append, List.cons_append, List.getElem?_cons_zero, List.getElem?_cons_succ, List.getElem?_nil, List.set_cons_zero, List.set_cons_succ, List.set_nil, Option.bind_some, Option.bind_none, Option.map_some, Option.map_none, Nat.reduceAdd, Nat.reduceSub, Nat.reduceEqDiff, Nat.reduceLeDiff, if_true, if_false, reduceCtorEq, List.nodup_nil, Bool.false_eq_true, Bool.not_true, Bool.not_false, Bool.true_and, Bool.false_and, Bool.and_true, Bool.and_false, ↓reduceIte, id_eq, List.tail_cons, Nat.zero_add, List.all_cons, List.all_nil, ne_eq, not_false_eq_true, and_self, and_true, true_and, Ew.dsp1_at, Ew.key_i, Ew.swapNew_at, Ew.rng2_at, Ew.rngD_at, Ew.putP_dc, Ew.dc_at, Ew.din_at, Ew.dput_at, Ew.fnD_at, Ew.retGet_at, Ew.sortD_at, Ew.ext_at, Ew.L_at, Ew.LIx_at, Ew.Sc_at, Ew.callL_at, Ew.opNil_at, Ew.sv_i, Ew.oo_at, Ew.appO_at, Ew.sub2_at, Ew.fnL_at, Ew.subAppL_at, Ew.lcO_at, Ew.walk_at, Bool.true_xor, Bool.false_xor
, v_isw c, hw, e, i, Bool.true_eq_false] <;> rfl
    · have hw' : isW c = false := by simpa using hw
      rcases hx with rfl | ⟨z, rfl⟩ <;> simp -implicitDefEqProofs only [Ev.nd1, Ev.nd2, Ev.lent_fz, Ev.lent_ow, Ev.lent_oo, Ev.lent_mx, Ev.lent_ln, Ev.lent_nil, Ev.back_nil, Ev.back_tm, Ev.back_sl, Ev.runM_at, Ev.start_at, Ev.seq_at, Ev.pass_at, Ev.brk_at, Ev.cnt_at, Ev.ret_at, Ev.retN_at, Ev.asg_at, Ev.if_at, Ev.drop_at, Ev.tgt_at, Ev.tup_at, Ev.for_at, Ev.P_at, Ev.F_at, Ev.var_at, Ev.c_at, Ev.op_at, Ev.opF_at, Ev.call_at, Ev.call1_at, Ev.un_at, Ev.isi_at, Ev.nil_at, Ev.cons_at, Ev.aNil_at, Ev.aCons_at, Ev.lst_at', Ev.tupE_at, Ev.mix_at, Ev.t_at, Ev.tru_at, Ev.and_at, Ev.or_at, Ev.not_at, Ev.andV_at, Ev.orV_at, Ev.notV_at, Ev.if2_at, Ev.ix_at', Ev.no_at, Ev.yes_at, Ev.sl_at, Ev.rep_at, Ev.fn_at, Ev.fnK_at, Ev.seqL_at, Ev.seqT_at, Ev.enum_at, Ev.zip_at, Ec.rng1_D, Ec.lr1_D, Ev.lc_at, Ev.lcE_at, Ev.yesT_at, Ev.meth_at, Ev.idx_at, Ev.subApp_at, Ev.sortSet_at, Ev.hName_at, Ev.hNil_at, Ev.hCons_at, Ev.hTup_at, Ev.hSub_at, Ev.turns_nil, Ev.force_fz, Ev.force_ow, Ev.force_oo, Ev.force_mx, Ev.force_sl, Ev.norm_fz, Ev.norm_ow, Ev.norm_sl, Ev.argO_sl, Ev.own_at, Ev.setOwn_at, Ev.flatF, Ev.flatO, Ev.flatL, Ev.data_tm, Ev.data_sl, Ev.toD_fz, Ev.toD_ow, Ev.toD_ln, Ev.toD_oo, Ev.toD_mx, Ev.flat_fz, Ev.flat_ow, Ev.flat_sl, Ev.retP_fz, Ev.retP_ow, Ev.retP_oo, Ev.retP_sl, Ev.putP_fz, Ev.putP_ow, Ev.putP_oo, Ev.putP_mx, Ev.putP_sl, Ev.noLn_at, Ev.argOs_nil, Ev.argOs_cons, Ev.argO_fz, Ev.argO_ow, Ev.slots_nil, Ev.slots_tm, Ev.slots_sl, Ev.bOf_b, Ev.ownP_fz, Ev.ownP_ow, Ev.ownP_sl, Ev.ownPs_nil, Ev.ownPs_cons, Ev.putAll_nil, Ev.putAll_cons, Ev.mixI_nil, Ev.mixI_fz, Ev.mixI_ow, Ev.mixI_oo, Ev.ixD_list, Ev.ixD_tup, Ev.atI_0, Ev.atI_1, Ev.ixN_0, Ev.ixN_1, Ev.gt_ii, Ev.ge_ii, Ev.lt_ii, Ev.le_ii, Ev.add_ii, Ev.add_ll, Ev.sub_ii, Ev.mul_ii, Ev.fdv_ii, Ev.mod_ii, Ev.neg_i, Ev.int_i, Ev.abs_i, Ev.max2_ii, Ev.dvm_ii, Ev.len_l, Ev.len_t, Ev.listO_l, Ev.tupO_l, Ev.ints_map, Ev.intsD_map, Ev.sorted_l, Ev.sl_list, List.map_cons, List.map_nil, List.length_cons, List.length_nil, List.replicate_succ, List.replicate_zero, List.append_nil, List.nil_append, List.cons_append, List.getElem?_cons_zero, List.getElem?_cons_succ, List.getElem?_nil, List.set_cons_zero, List.set_cons_succ, List.set_nil, Option.bind_some, Option.bind_none, Option.map_some, Option.map_none, Nat.reduceAdd, Nat.reduceSub, Nat.reduceEqDiff, Nat.reduceLeDiff, if_true, if_false, reduceCtorEq, List.nodup_nil, Bool.false_eq_true, Bool.not_true, Bool.not_false, Bool.true_and, Bool.false_and, Bool.and_true, Bool.and_false, ↓reduceIte, id_eq, List.tail_cons, Nat.zero_add, List.all_cons, List.all_nil, ne_eq, not_false_eq_true, and_self, and_true, true_and, Ew.dsp1_at, Ew.key_i, Ew.swapNew_at, Ew.rng2_at, Ew.rngD_at, Ew.putP_dc, Ew.dc_at, Ew.din_at, Ew.dput_at, Ew.fnD_at, Ew.retGet_at, Ew.sortD_at, Ew.ext_at, Ew.L_at, Ew.LIx_at, Ew.Sc_at, Ew.callL_at, Ew.opNil_at, Ew.sv_i, Ew.oo_at, Ew.appO_at, Ew.sub2_at, Ew.fnL_at, Ew.subAppL_at, Ew.lcO_at, Ew.walk_at, Bool.true_xor, Bool.false_xor
, v_isw c, hw', e, i] <;> simp [hw']
theorem v_ipn (t : List Nat) (ht : t.length ≤ 100) (hlow : low t) : val f_is_part_name [.fz (.str (S t))] = some (.fz (.bool (nameB t)), [none]) := by
  unfold val f_is_part_name m_is_part_name
  cases t with
  | nil => simp -implicitDefEqProofs only [Ev.nd1, Ev.nd2, Ev.lent_fz, Ev.lent_ow, Ev.lent_oo, Ev.lent_mx, Ev.lent_ln, Ev.lent_nil, Ev.back_nil, Ev.back_tm, Ev.back_sl, Ev.runM_at, Ev.start_at, Ev.seq_at, Ev.pass_at, Ev.brk_at, Ev.cnt_at, Ev.ret_at, Ev.retN_at, Ev.asg_at, Ev.if_at, Ev.drop_at, Ev.tgt_at, Ev.tup_at, Ev.for_at, Ev.P_at, Ev.F_at, Ev.var_at, Ev.c_at, Ev.op_at, Ev.opF_at, Ev.call_at, Ev.call1_at, Ev.un_at, Ev.isi_at, Ev.nil_at, Ev.cons_at, Ev.aNil_at, Ev.aCons_at, Ev.lst_at', Ev.tupE_at, Ev.mix_at, Ev.t_at, Ev.tru_at, Ev.and_at, Ev.or_at, Ev.not_at, Ev.andV_at, Ev.orV_at, Ev.notV_at, Ev.if2_at, Ev.ix_at', Ev.no_at, Ev.yes_at, Ev.sl_at, Ev.rep_at, Ev.fn_at, Ev.fnK_at, Ev.seqL_at, Ev.seqT_at, Ev.enum_at, Ev.zip_at, Ec.rng1_D, Ec.lr1_D, Ev.lc_at, Ev.lcE_at, Ev.yesT_at, Ev.meth_at, Ev.idx_at, Ev.subApp_at, Ev.sortSet_at, Ev.hName_at, Ev.hNil_at, Ev.hCons_at, Ev.hTup_at, Ev.hSub_at, Ev.turns_nil, Ev.force_fz, Ev.force_ow, Ev.force_oo, Ev.force_mx, Ev.force_sl, Ev.norm_fz, Ev.norm_ow, Ev.norm_sl, Ev.argO_sl, Ev.own_at, Ev.setOwn_at, Ev.flatF, Ev.flatO, Ev.flatL, Ev.data_tm, Ev.data_sl, Ev.toD_fz, Ev.toD_ow, Ev.toD_ln, Ev.toD_oo, Ev.toD_mx, Ev.flat_fz, Ev.flat_ow, Ev.flat_sl, Ev.retP_fz, Ev.retP_ow, Ev.retP_oo, Ev.retP_sl, Ev.putP_fz, Ev.putP_ow, Ev.putP_oo, Ev.putP_mx, Ev.putP_sl, Ev.noLn_at, Ev.argOs_nil, Ev.argOs_cons, Ev.argO_fz, Ev.argO_ow, Ev.slots_nil, Ev.slots_tm, Ev.slots_sl, Ev.bOf_b, Ev.ownP_fz, Ev.ownP_ow, Ev.ownP_sl, Ev.ownPs_nil, Ev.ownPs_cons, Ev.putAll_nil, Ev.putAll_cons, Ev.mixI_nil, Ev.mixI_fz, Ev.mixI_ow, Ev.mixI_oo, Ev.ixD_list, Ev.ixD_tup, Ev.atI_0, Ev.atI_1, Ev.ixN_0, Ev.ixN_1, Ev.gt_ii, Ev.ge_ii, Ev.lt_ii, Ev.le_ii, Ev.add_ii, Ev.add_ll, Ev.sub_ii, Ev.mul_ii, Ev.fdv_ii, Ev.mod_ii, Ev.neg_i, Ev.int_i, Ev.abs_i, Ev.max2_ii, Ev.dvm_ii, Ev.len_l, Ev.len_t, Ev.listO_l, Ev.tupO_l, Ev.ints_map, Ev.intsD_map, Ev.sorted_l, Ev.sl_list, List.map_cons, List.map_nil, List.length_cons, List.length_nil, List.replicate_succ, List.replicate_zero, List.append_nil, List.nil_append, List.cons_append, List.getElem?_cons_zero, List.getElem?_cons_succ, List.getElem?_nil, List.set_cons_zero, List.set_cons_succ, List.set_nil, Option.bind_some, Option.bind_none, Option.map_some, Option.map_none, Nat.reduceAdd, Nat.reduceSub, Nat.reduceEqDiff, Nat.reduceLeDiff, if_true, if_false, reduceCtorEq, List.nodup_nil, Bool.false_eq_true, Bool.not_true, Bool.not_false, Bool.true_and, Bool.false_and, Bool.and_true, Bool.and_false, ↓reduceIte, id_eq, List.tail_cons, Nat.zero_add, List.all_cons, List.all_nil, ne_eq, not_false_eq_true, and_self, and_true, true_and, Ew.dsp1_at, Ew.key_i, Ew.swapNew_at, Ew.rng2_at, Ew.rngD_at, Ew.putP_dc, Ew.dc_at, Ew.din_at, Ew.dput_at, Ew.fnD_at, Ew.retGet_at, Ew.sortD_at, Ew.ext_at, Ew.L_at, Ew.LIx_at, Ew.Sc_at, Ew.callL_at, Ew.opNil_at, Ew.sv_i, Ew.oo_at, Ew.appO_at, Ew.sub2_at, Ew.fnL_at, Ew.subAppL_at, Ew.lcO_at, Ew.walk_at, Bool.true_xor, Bool.false_xor
, isi_str, chain_at, len_s (t := []) (by simp), le_ii, chK_t, chK_f, cs_hand, cs_side, decide_false, (by decide : ¬ (1 : Int) ≤ ((0 : Nat) : Int))]; rfl
  | cons c r =>
    have ix0 : ixS (.str (S (c :: r))) (.int 0) = some (.str ⟨#[c]⟩) := by
      rw [ixS_str, if_pos (by rw [S_len, sizeLine_eq]; omega)]
      have : atI (S (c :: r)).cps.toList ((0 : Nat) : Int) = some c := atI_S (r := r) rfl
      rw [show ((0 : Nat) : Int) = 0 from rfl] at this
      rw [this]; rfl
    have hln : (c :: r).length = r.length + 1 := List.length_cons
    have ht' : (c :: r).length ≤ 1000 := by omega
    have hlen : (1 : Int) ≤ ((r.length + 1 : Nat) : Int) := by omega
    by_cases h8 : r.length + 1 ≤ 8
    · have h8' : ((r.length + 1 : Nat) : Int) ≤ 8 := by omega
      by_cases hh : isH (c :: r) = true
      · have e : nameB (c :: r) = false := by simp [nameB, hh]
        rw [e]
        simp -implicitDefEqProofs only [Ev.nd1, Ev.nd2, Ev.lent_fz, Ev.lent_ow, Ev.lent_oo, Ev.lent_mx, Ev.lent_ln, Ev.lent_nil, Ev.back_nil, Ev.back_tm, Ev.back_sl, Ev.runM_at, Ev.start_at, Ev.seq_at, Ev.pass_at, Ev.brk_at, Ev.cnt_at, Ev.ret_at, Ev.retN_at, Ev.asg_at, Ev.if_at, Ev.drop_at, Ev.tgt_at, Ev.tup_at, Ev.for_at, Ev.P_at, Ev.F_at, Ev.var_at, Ev.c_at, Ev.op_at, Ev.opF_at, Ev.call_at, Ev.call1_at, Ev.un_at, Ev.isi_at, Ev.nil_at, Ev.cons_at, Ev.aNil_at, Ev.aCons_at, Ev.lst_at', Ev.tupE_at, Ev.mix_at, Ev.t_at, Ev.tru_at, Ev.and_at, Ev.or_at, Ev.not_at, Ev.andV_at, Ev.orV_at, Ev.notV_at, Ev.if2_at, Ev.ix_at', Ev.no_at, Ev.yes_at, Ev.sl_at, Ev.rep_at, Ev.fn_at, Ev.fnK_at, Ev.seqL_at, Ev.seqT_at, Ev.enum_at, Ev.zip_at, Ec.rng1_D, Ec.lr1_D, Ev.lc_at, Ev.lcE_at, Ev.yesT_at, Ev.meth_at, Ev.idx_at, Ev.subApp_at, Ev.sortSet_at, Ev.hName_at, Ev.hNil_at, Ev.hCons_at, Ev.hTup_at, Ev.hSub_at, Ev.turns_nil, Ev.force_fz, Ev.force_ow, Ev.force_oo, Ev.force_mx, Ev.force_sl, Ev.norm_fz, Ev.norm_ow, Ev.norm_sl, Ev.argO_sl, Ev.own_at, Ev.setOwn_at, Ev.flatF, Ev.flatO, Ev.flatL, Ev.data_tm, Ev.data_sl, Ev.toD_fz, Ev.toD_ow, Ev.toD_ln, Ev.toD_oo, Ev.toD_mx, Ev.flat_fz, Ev.flat_ow, Ev.flat_sl, Ev.retP_fz, Ev.retP_ow, Ev.retP_oo, Ev.retP_sl, Ev.putP_fz, Ev.putP_ow, Ev.putP_oo, Ev.putP_mx, Ev.putP_sl, Ev.noLn_at, Ev.argOs_nil, Ev.argOs_cons, Ev.argO_fz, Ev.argO_ow, Ev.slots_nil, Ev.slots_tm, Ev.slots_sl, Ev.bOf_b, Ev.ownP_fz, Ev.ownP_ow, Ev.ownP_sl, Ev.ownPs_nil, Ev.ownPs_cons, Ev.putAll_nil, Ev.putAll_cons, Ev.mixI_nil, Ev.mixI_fz, Ev.mixI_ow, Ev.mixI_oo, Ev.ixD_list, Ev.ixD_tup, Ev.atI_0, Ev.atI_1, Ev.ixN_0, Ev.ixN_1, Ev.gt_ii, Ev.ge_ii, Ev.lt_ii, Ev.le_ii, Ev.add_ii, Ev.add_ll, Ev.sub_ii, Ev.mul_ii, Ev.fdv_ii, Ev.mod_ii, Ev.neg_i, Ev.int_i, Ev.abs_i, Ev.max2_ii, Ev.dvm_ii, Ev.len_l, Ev.len_t, Ev.listO_l, Ev.tupO_l, Ev.ints_map, Ev.intsD_map, Ev.sorted_l, Ev.sl_list, List.map_cons, List.map_nil, List.length_cons, List.length_nil, List.replicate_succ, List.replicate_zero, List.append_nil, List.nil_append, List.cons_append, List.getElem?_cons_zero, List.getElem?_cons_succ, List.getElem?_nil, List.set_cons_zero, List.set_cons_succ, List.set_nil, Option.bind_some, Option.bind_none, Option.map_some, Option.map_none, Nat.reduceAdd, Nat.reduceSub, Nat.reduceEqDiff, Nat.reduceLeDiff, if_true, if_false, reduceCtorEq, List.nodup_nil, Bool.false_eq_true, Bool.not_true, Bool.not_false, Bool.true_and, Bool.false_and, Bool.and_true, Bool.and_false, ↓reduceIte, id_eq, List.tail_cons, Nat.zero_add, List.all_cons, List.all_nil, ne_eq, not_false_eq_true, and_self, and_true, true_and, Ew.dsp1_at, Ew.key_i, Ew.swapNew_at, Ew.rng2_at, Ew.rngD_at, Ew.putP_dc, Ew.dc_at, Ew.din_at, Ew.dput_at, Ew.fnD_at, Ew.retGet_at, Ew.sortD_at, Ew.ext_at, Ew.L_at, Ew.LIx_at, Ew.Sc_at, Ew.callL_at, Ew.opNil_at, Ew.sv_i, Ew.oo_at, Ew.appO_at, Ew.sub2_at, Ew.fnL_at, Ew.subAppL_at, Ew.lcO_at, Ew.walk_at, Bool.true_xor, Bool.false_xor
, isi_str, chain_at, len_s ht', le_ii, chK_t, chK_f, cs_hand, cs_side, in_hs ht hlow, hlen, h8', hh, decide_true, decide_false, (by decide : 2 ≤ sizeLine)]
      · have hh' : isH (c :: r) = false := by simpa using hh
        have w := walk_w (c :: r) none (.inl rfl)
        by_cases hL : isL c = true
        · have hW : isW c = true := by unfold isL at hL; unfold isW; rw [hL]; rfl
          have e : nameB (c :: r) = r.all isW := by
            show (decide (r.length + 1 ≤ 8) && !isH (c :: r) && isL c && r.all isW) = _
            rw [hh', hL, decide_eq_true h8]; rfl
          rw [e]
          have w2 : (c :: r).all isW = r.all isW := by simp [hW]
          rw [w2] at w
          simp -implicitDefEqProofs only [Ev.nd1, Ev.nd2, Ev.lent_fz, Ev.lent_ow, Ev.lent_oo, Ev.lent_mx, Ev.lent_ln, Ev.lent_nil, Ev.back_nil, Ev.back_tm, Ev.back_sl, Ev.runM_at, Ev.start_at, Ev.seq_at, Ev.pass_at, Ev.brk_at, Ev.cnt_at, Ev.ret_at, Ev.retN_at, Ev.asg_at, Ev.if_at, Ev.drop_at, Ev.tgt_at, Ev.tup_at, Ev.for_at, Ev.P_at, Ev.F_at, Ev.var_at, Ev.c_at, Ev.op_at, Ev.opF_at, Ev.call_at, Ev.call1_at, Ev.un_at, Ev.isi_at, Ev.nil_at, Ev.cons_at, Ev.aNil_at, Ev.aCons_at, Ev.lst_at', Ev.tupE_at, Ev.mix_at, Ev.t_at, Ev.tru_at, Ev.and_at, Ev.or_at, Ev.not_at, Ev.andV_at, Ev.orV_at, Ev.notV_at, Ev.if2_at, Ev.ix_at', Ev.no_at, Ev.yes_at, Ev.sl_at, Ev.rep_at, Ev.fn_at, Ev.fnK_at, Ev.seqL_at, Ev.seqT_at, Ev.enum_at, Ev.zip_at, Ec.rng1_D, Ec.lr1_D, Ev.lc_at, Ev.lcE_at, Ev.yesT_at, Ev.meth_at, Ev.idx_at, Ev.subApp_at, Ev.sortSet_at, Ev.hName_at, Ev.hNil_at, Ev.hCons_at, Ev.hTup_at, Ev.hSub_at, Ev.turns_nil, Ev.force_fz, Ev.force_ow, Ev.force_oo, Ev.force_mx, Ev.force_sl, Ev.norm_fz, Ev.norm_ow, Ev.norm_sl, Ev.argO_sl, Ev.own_at, Ev.setOwn_at, Ev.flatF, Ev.flatO, Ev.flatL, Ev.data_tm, Ev.data_sl, Ev.toD_fz, Ev.toD_ow, Ev.toD_ln, Ev.toD_oo, Ev.toD_mx, Ev.flat_fz, Ev.flat_ow, Ev.flat_sl, Ev.retP_fz, Ev.retP_ow, Ev.retP_oo, Ev.retP_sl, Ev.putP_fz, Ev.putP_ow, Ev.putP_oo, Ev.putP_mx, Ev.putP_sl, Ev.noLn_at, Ev.argOs_nil, Ev.argOs_cons, Ev.argO_fz, Ev.argO_ow, Ev.slots_nil, Ev.slots_tm, Ev.slots_sl, Ev.bOf_b, Ev.ownP_fz, Ev.ownP_ow, Ev.ownP_sl, Ev.ownPs_nil, Ev.ownPs_cons, Ev.putAll_nil, Ev.putAll_cons, Ev.mixI_nil, Ev.mixI_fz, Ev.mixI_ow, Ev.mixI_oo, Ev.ixD_list, Ev.ixD_tup, Ev.atI_0, Ev.atI_1, Ev.ixN_0, Ev.ixN_1, Ev.gt_ii, Ev.ge_ii, Ev.lt_ii, Ev.le_ii, Ev.add_ii, Ev.add_ll, Ev.sub_ii, Ev.mul_ii, Ev.fdv_ii, Ev.mod_ii, Ev.neg_i, Ev.int_i, Ev.abs_i, Ev.max2_ii, Ev.dvm_ii, Ev.len_l, Ev.len_t, Ev.listO_l, Ev.tupO_l, Ev.ints_map, Ev.intsD_map, Ev.sorted_l, Ev.sl_list, List.map_cons, List.map_nil, List.length_cons, List.length_nil, List.replicate_succ, List.replicate_zero, List.append_nil, List.nil_append, List.cons_append, List.getElem?_cons_zero, List.getElem?_cons_succ, List.getElem?_nil, List.set_cons_zero, List.set_cons_succ, List.set_nil, Option.bind_some, Option.bind_none, Option.map_some, Option.map_none, Nat.reduceAdd, Nat.reduceSub, Nat.reduceEqDiff, Nat.reduceLeDiff, if_true, if_false, reduceCtorEq, List.nodup_nil, Bool.false_eq_true, Bool.not_true, Bool.not_false, Bool.true_and, Bool.false_and, Bool.and_true, Bool.and_false, ↓reduceIte, id_eq, List.tail_cons, Nat.zero_add, List.all_cons, List.all_nil, ne_eq, not_false_eq_true, and_self, and_true, true_and, Ew.dsp1_at, Ew.key_i, Ew.swapNew_at, Ew.rng2_at, Ew.rngD_at, Ew.putP_dc, Ew.dc_at, Ew.din_at, Ew.dput_at, Ew.fnD_at, Ew.retGet_at, Ew.sortD_at, Ew.ext_at, Ew.L_at, Ew.LIx_at, Ew.Sc_at, Ew.callL_at, Ew.opNil_at, Ew.sv_i, Ew.oo_at, Ew.appO_at, Ew.sub2_at, Ew.fnL_at, Ew.subAppL_at, Ew.lcO_at, Ew.walk_at, Bool.true_xor, Bool.false_xor
, isi_str, chain_at, len_s ht', le_ii, chK_t, chK_f, cs_hand, cs_side, in_hs ht hlow, hlen, h8', hh', decide_true, decide_false, (by decide : 2 ≤ sizeLine), eIxS, ix0, v_isl c, hL, str_at, w, gΔ, frzAll, List.foldl_nil]
        · have hL' : isL c = false := by simpa using hL
          have e : nameB (c :: r) = false := by simp [nameB, hL']
          rw [e]
          simp -implicitDefEqProofs only [Ev.nd1, Ev.nd2, Ev.lent_fz, Ev.lent_ow, Ev.lent_oo, Ev.lent_mx, Ev.lent_ln, Ev.lent_nil, Ev.back_nil, Ev.back_tm, Ev.back_sl, Ev.runM_at, Ev.start_at, Ev.seq_at, Ev.pass_at, Ev.brk_at, Ev.cnt_at, Ev.ret_at, Ev.retN_at, Ev.asg_at, Ev.if_at, Ev.drop_at, Ev.tgt_at, Ev.tup_at, Ev.for_at, Ev.P_at, Ev.F_at, Ev.var_at, Ev.c_at, Ev.op_at, Ev.opF_at, Ev.call_at, Ev.call1_at, Ev.un_at, Ev.isi_at, Ev.nil_at, Ev.cons_at, Ev.aNil_at, Ev.aCons_at, Ev.lst_at', Ev.tupE_at, Ev.mix_at, Ev.t_at, Ev.tru_at, Ev.and_at, Ev.or_at, Ev.not_at, Ev.andV_at, Ev.orV_at, Ev.notV_at, Ev.if2_at, Ev.ix_at', Ev.no_at, Ev.yes_at, Ev.sl_at, Ev.rep_at, Ev.fn_at, Ev.fnK_at, Ev.seqL_at, Ev.seqT_at, Ev.enum_at, Ev.zip_at, Ec.rng1_D, Ec.lr1_D, Ev.lc_at, Ev.lcE_at, Ev.yesT_at, Ev.meth_at, Ev.idx_at, Ev.subApp_at, Ev.sortSet_at, Ev.hName_at, Ev.hNil_at, Ev.hCons_at, Ev.hTup_at, Ev.hSub_at, Ev.turns_nil, Ev.force_fz, Ev.force_ow, Ev.force_oo, Ev.force_mx, Ev.force_sl, Ev.norm_fz, Ev.norm_ow, Ev.norm_sl, Ev.argO_sl, Ev.own_at, Ev.setOwn_at, Ev.flatF, Ev.flatO, Ev.flatL, Ev.data_tm, Ev.data_sl, Ev.toD_fz, Ev.toD_ow, Ev.toD_ln, Ev.toD_oo, Ev.toD_mx, Ev.flat_fz, Ev.flat_ow, Ev.flat_sl, Ev.retP_fz, Ev.retP_ow, Ev.retP_oo, Ev.retP_sl, Ev.putP_fz, Ev.putP_ow, Ev.putP_oo, Ev.putP_mx, Ev.putP_sl, Ev.noLn_at, Ev.argOs_nil, Ev.argOs_cons, Ev.argO_fz, Ev.argO_ow, Ev.slots_nil, Ev.slots_tm, Ev.slots_sl, Ev.bOf_b, Ev.ownP_fz, Ev.ownP_ow, Ev.ownP_sl, Ev.ownPs_nil, Ev.ownPs_cons, Ev.putAll_nil, Ev.putAll_cons, Ev.mixI_nil, Ev.mixI_fz, Ev.mixI_ow, Ev.mixI_oo, Ev.ixD_list, Ev.ixD_tup, Ev.atI_0, Ev.atI_1, Ev.ixN_0, Ev.ixN_1, Ev.gt_ii, Ev.ge_ii, Ev.lt_ii, Ev.le_ii, Ev.add_ii, Ev.add_ll, Ev.sub_ii, Ev.mul_ii, Ev.fdv_ii, Ev.mod_ii, Ev.neg_i, Ev.int_i, Ev.abs_i, Ev.max2_ii, Ev.dvm_ii, Ev.len_l, Ev.len_t, Ev.listO_l, Ev.tupO_l, Ev.ints_map, Ev.intsD_map, Ev.sorted_l, Ev.sl_list, List.map_cons, List.map_nil, List.length_cons, List.length_nil, List.replicate_succ, List.replicate_zero, List.append_nil, List.nil_append, List.cons_append, List.getElem?_cons_zero, List.getElem?_cons_succ, List.getElem?_nil, List.set_cons_zero, List.set_cons_succ, List.set_nil, Option.bind_some, Option.bind_none, Option.map_some, Option.map_none, Nat.reduceAdd, Nat.reduceSub, Nat.reduceEqDiff, Nat.reduceLeDiff, if_true, if_false, reduceCtorEq, List.nodup_nil, Bool.false_eq_true, Bool.not_true, Bool.not_false, Bool.true_and, Bool.false_and, Bool.and_true, Bool.and_false, ↓reduceIte, id_eq, List.tail_cons, Nat.zero_add, List.all_cons, List.all_nil, ne_eq, not_false_eq_true, and_self, and_true, true_and, Ew.dsp1_at, Ew.key_i, Ew.swapNew_at, Ew.rng2_at, Ew.rngD_at, Ew.putP_dc, Ew.dc_at, Ew.din_at, Ew.dput_at, Ew.fnD_at, Ew.retGet_at, Ew.sortD_at, Ew.ext_at, Ew.L_at, Ew.LIx_at, Ew.Sc_at, Ew.callL_at, Ew.opNil_at, Ew.sv_i, Ew.oo_at, Ew.appO_at, Ew.sub2_at, Ew.fnL_at, Ew.subAppL_at, Ew.lcO_at, Ew.walk_at, Bool.true_xor, Bool.false_xor
, isi_str, chain_at, len_s ht', le_ii, chK_t, chK_f, cs_hand, cs_side, in_hs ht hlow, hlen, h8', hh', decide_true, decide_false, (by decide : 2 ≤ sizeLine), eIxS, ix0, v_isl c, hL']
    · have h8' : ¬ ((r.length + 1 : Nat) : Int) ≤ 8 := by omega
      have e : nameB (c :: r) = false := by
        show (decide (r.length + 1 ≤ 8) && !isH (c :: r) && isL c && r.all isW) = _
        rw [decide_eq_false h8]; rfl
      rw [e]
      simp -implicitDefEqProofs only [Ev.nd1, Ev.nd2, Ev.lent_fz, Ev.lent_ow, Ev.lent_oo, Ev.lent_mx, Ev.lent_ln, Ev.lent_nil, Ev.back_nil, Ev.back_tm, Ev.back_sl, Ev.runM_at, Ev.start_at, Ev.seq_at, Ev.pass_at, Ev.brk_at, Ev.cnt_at, Ev.ret_at, Ev.retN_at, Ev.asg_at, Ev.if_at, Ev.drop_at, Ev.tgt_at, Ev.tup_at, Ev.for_at, Ev.P_at, Ev.F_at, Ev.var_at, Ev.c_at, Ev.op_at, Ev.opF_at, Ev.call_at, Ev.call1_at, Ev.un_at, Ev.isi_at, Ev.nil_at, Ev.cons_at, Ev.aNil_at, Ev.aCons_at, Ev.lst_at', Ev.tupE_at, Ev.mix_at, Ev.t_at, Ev.tru_at, Ev.and_at, Ev.or_at, Ev.not_at, Ev.andV_at, Ev.orV_at, Ev.notV_at, Ev.if2_at, Ev.ix_at', Ev.no_at, Ev.yes_at, Ev.sl_at, Ev.rep_at, Ev.fn_at, Ev.fnK_at, Ev.seqL_at, Ev.seqT_at, Ev.enum_at, Ev.zip_at, Ec.rng1_D, Ec.lr1_D, Ev.lc_at, Ev.lcE_at, Ev.yesT_at, Ev.meth_at, Ev.idx_at, Ev.subApp_at, Ev.sortSet_at, Ev.hName_at, Ev.hNil_at, Ev.hCons_at, Ev.hTup_at, Ev.hSub_at, Ev.turns_nil, Ev.force_fz, Ev.force_ow, Ev.force_oo, Ev.force_mx, Ev.force_sl, Ev.norm_fz, Ev.norm_ow, Ev.norm_sl, Ev.argO_sl, Ev.own_at, Ev.setOwn_at, Ev.flatF, Ev.flatO, Ev.flatL, Ev.data_tm, Ev.data_sl, Ev.toD_fz, Ev.toD_ow, Ev.toD_ln, Ev.toD_oo, Ev.toD_mx, Ev.flat_fz, Ev.flat_ow, Ev.flat_sl, Ev.retP_fz, Ev.retP_ow, Ev.retP_oo, Ev.retP_sl, Ev.putP_fz, Ev.putP_ow, Ev.putP_oo, Ev.putP_mx, Ev.putP_sl, Ev.noLn_at, Ev.argOs_nil, Ev.argOs_cons, Ev.argO_fz, Ev.argO_ow, Ev.slots_nil, Ev.slots_tm, Ev.slots_sl, Ev.bOf_b, Ev.ownP_fz, Ev.ownP_ow, Ev.ownP_sl, Ev.ownPs_nil, Ev.ownPs_cons, Ev.putAll_nil, Ev.putAll_cons, Ev.mixI_nil, Ev.mixI_fz, Ev.mixI_ow, Ev.mixI_oo, Ev.ixD_list, Ev.ixD_tup, Ev.atI_0, Ev.atI_1, Ev.ixN_0, Ev.ixN_1, Ev.gt_ii, Ev.ge_ii, Ev.lt_ii, Ev.le_ii, Ev.add_ii, Ev.add_ll, Ev.sub_ii, Ev.mul_ii, Ev.fdv_ii, Ev.mod_ii, Ev.neg_i, Ev.int_i, Ev.abs_i, Ev.max2_ii, Ev.dvm_ii, Ev.len_l, Ev.len_t, Ev.listO_l, Ev.tupO_l, Ev.ints_map, Ev.intsD_map, Ev.sorted_l, Ev.sl_list, List.map_cons, List.map_nil, List.length_cons, List.length_nil, List.replicate_succ, List.replicate_zero, List.append_nil, List.nil_append, List.cons_append, List.getElem?_cons_zero, List.getElem?_cons_succ, List.getElem?_nil, List.set_cons_zero, List.set_cons_succ, List.set_nil, Option.bind_some, Option.bind_none, Option.map_some, Option.map_none, Nat.reduceAdd, Nat.reduceSub, Nat.reduceEqDiff, Nat.reduceLeDiff, if_true, if_false, reduceCtorEq, List.nodup_nil, Bool.false_eq_true, Bool.not_true, Bool.not_false, Bool.true_and, Bool.false_and, Bool.and_true, Bool.and_false, ↓reduceIte, id_eq, List.tail_cons, Nat.zero_add, List.all_cons, List.all_nil, ne_eq, not_false_eq_true, and_self, and_true, true_and, Ew.dsp1_at, Ew.key_i, Ew.swapNew_at, Ew.rng2_at, Ew.rngD_at, Ew.putP_dc, Ew.dc_at, Ew.din_at, Ew.dput_at, Ew.fnD_at, Ew.retGet_at, Ew.sortD_at, Ew.ext_at, Ew.L_at, Ew.LIx_at, Ew.Sc_at, Ew.callL_at, Ew.opNil_at, Ew.sv_i, Ew.oo_at, Ew.appO_at, Ew.sub2_at, Ew.fnL_at, Ew.subAppL_at, Ew.lcO_at, Ew.walk_at, Bool.true_xor, Bool.false_xor
, isi_str, chain_at, len_s ht', le_ii, chK_t, chK_f, hlen, h8', decide_true, decide_false]
end K25
end
section
set_option Elab.async false
set_option linter.all false
set_option maxRecDepth 100000
set_option maxHeartbeats 8000000
namespace K25
open PySem PySem.Spec PyProof.Rows L2 Vi Vf Vo Vp Vs Vt Vu Vv Vg Vw Vx Vy Va Vb Vc Vk Vm Vl Vn Vd Vq Vr Vj Vfr Ev Ec Mo Ew Gd Gx Gy Gt Rk Vxt
open SX (S S_cat S_len S_tl S_inj)
def oddL (t : List Nat) : List D := (t.filter fun c => !isW c).map fun c => .str ⟨#[c]⟩
theorem nin_abc (c : Nat) : inS true (.str ⟨#[c]⟩) (.str (Str.ofString "abcdefghijklmnopqrstuvwxyz0123456789")) = some (.bool (!isW c)) := by
  rw [← mem_abc]
  show some (PyData.bool (true ^^ _)) = _
  rw [Bool.true_xor]
theorem nin_dig (c : Nat) : inS true (.str ⟨#[c]⟩) (.str (Str.ofString "0123456789")) = some (.bool (!decide (48 ≤ c ∧ c ≤ 57))) := by
  rw [← mem_dig]
  show some (PyData.bool (true ^^ _)) = _
  rw [Bool.true_xor]
theorem odd_go (v x1 : Option O) : ∀ t : List Nat, lcGo [2] (hName 2) (eT (eOp (inS true) (eVar 2) (eP (eC (.str "abcdefghijklmnopqrstuvwxyz0123456789"))))) (eF (eVar 2)) (Vi.strD (S t)) [v, x1, none] = some (oddL t, [v, x1, none])
  | [] => rfl
  | c :: t => by
    have e : Vi.strD (S (c :: t)) = .str ⟨#[c]⟩ :: Vi.strD (S t) := rfl
    rw [e, lcGo]
    have i := odd_go v x1 t
    by_cases hw : isW c = true
    · have e2 : oddL (c :: t) = oddL t := by simp [oddL, hw]
      rw [e2]
      simp -implicitDefEqProofs only [Ev.nd1, Ev.nd2, Ev.lent_fz, Ev.lent_ow, Ev.lent_oo, Ev.lent_mx, Ev.lent_ln, Ev.lent_nil, Ev.back_nil, Ev.back_tm, Ev.back_sl, Ev.runM_at, Ev.start_at, Ev.seq_at, Ev.pass_at, Ev.brk_at, Ev.cnt_at, Ev.ret_at, Ev.retN_at, Ev.asg_at, Ev.if_at, Ev.drop_at, Ev.tgt_at, Ev.tup_at, Ev.for_at, Ev.P_at, Ev.F_at, Ev.var_at, Ev.c_at, Ev.op_at, Ev.opF_at, Ev.call_at, Ev.call1_at, Ev.un_at, Ev.isi_at, Ev.nil_at, Ev.cons_at, Ev.aNil_at, Ev.aCons_at, Ev.lst_at', Ev.tupE_at, Ev.mix_at, Ev.t_at, Ev.tru_at, Ev.and_at, Ev.or_at, Ev.not_at, Ev.andV_at, Ev.orV_at, Ev.notV_at, Ev.if2_at, Ev.ix_at', Ev.no_at, Ev.yes_at, Ev.sl_at, Ev.rep_at, Ev.fn_at, Ev.fnK_at, Ev.seqL_at, Ev.seqT_at, Ev.enum_at, Ev.zip_at, Ec.rng1_D, Ec.lr1_D, Ev.lc_at, Ev.lcE_at, Ev.yesT_at, Ev.meth_at, Ev.idx_at, Ev.subApp_at, Ev.sortSet_at, Ev.hName_at, Ev.hNil_at, Ev.hCons_at, Ev.hTup_at, Ev.hSub_at, Ev.turns_nil, Ev.force_fz, Ev.force_ow, Ev.force_oo, Ev.force_mx, Ev.force_sl, Ev.norm_fz, Ev.norm_ow, Ev.norm_sl, Ev.argO_sl, Ev.own_at, Ev.setOwn_at, Ev.flatF, Ev.flatO, Ev.flatL, Ev.data_tm, Ev.data_sl, Ev.toD_fz, Ev.toD_ow, Ev.toD_ln, Ev.toD_oo, Ev.toD_mx, Ev.flat_fz, Ev.flat_ow, Ev.flat_sl, Ev.retP_fz, Ev.retP_ow, Ev.retP_oo, Ev.retP_sl, Ev.putP_fz, Ev.putP_ow, Ev.putP_oo, Ev.putP_mx, Ev.putP_sl, Ev.noLn_at, Ev.argOs_nil, Ev.argOs_cons, Ev.argO_fz, Ev.argO_ow, Ev.slots_nil, Ev.slots_tm, Ev.slots_sl, Ev.bOf_b, Ev.ownP_fz, Ev.ownP_ow, Ev.ownP_sl, Ev.ownPs_nil, Ev.ownPs_cons, Ev.putAll_nil, Ev.putAll_cons, Ev.mixI_nil, Ev.mixI_fz, Ev.mixI_ow, Ev.mixI_oo, Ev.ixD_list, Ev.ixD_tup, Ev.atI_0, Ev.atI_1, Ev.ixN_0, Ev.ixN_1, Ev.gt_ii, Ev.ge_ii, Ev.lt_ii, Ev.le_ii, Ev.add_ii, Ev.add_ll, Ev.sub_ii, Ev.mul_ii, Ev.fdv_ii, Ev.mod_ii, Ev.neg_i, Ev.int_i, Ev.abs_i, Ev.max2_ii, Ev.dvm_ii, Ev.len_l, Ev.len_t, Ev.listO_l, Ev.tupO_l, Ev.ints_map, Ev.intsD_map, Ev.sorted_l, Ev.sl_list, List.map_cons, List.map_nil, List.length_cons, List.length_nil, List.replicate_succ, List.replicate_zero, List.append_nil, List.nil_append, List.cons_append, List.getElem?_cons_zero, List.getElem?_cons_succ, List.getElem?_nil, List.set_cons_zero, List.set_cons_succ, List.set_nil, Option.bind_some, Option.bind_none, Option.map_some, Option.map_none, Nat.reduceAdd, Nat.reduceSub, Nat.reduceEqDiff, Nat.reduceLeDiff, if_true, if_false, reduceCtorEq, List.nodup_nil, Bool.false_eq_true, Bool.not_true, Bool.not_false, Bool.true_and, Bool.false_and, Bool.and_true, Bool.and_false, ↓reduceIte, id_eq, List.tail_cons, Nat.zero_add, List.all_cons, List.all_nil, ne_eq, not_false_eq_true, and_self, and_true, true_and, Ew.dsp1_at, Ew.key_i, Ew.swapNew_at, Ew.rng2_at, Ew.rngD_at, Ew.putP_dc, Ew.dc_at, Ew.din_at, Ew.dput_at, Ew.fnD_at, Ew.retGet_at, Ew.sortD_at, Ew.ext_at, Ew.L_at, Ew.LIx_at, Ew.Sc_at, Ew.callL_at, Ew.opNil_at, Ew.sv_i, Ew.oo_at, Ew.appO_at, Ew.sub2_at, Ew.fnL_at, Ew.subAppL_at, Ew.lcO_at, Ew.walk_at, Bool.true_xor, Bool.false_xor
, nin_abc, hw, Ec.wipe_nil, Ec.wipe_cons, i]
    · have hw' : isW c = false := by simpa using hw
      have e2 : oddL (c :: t) = .str ⟨#[c]⟩ :: oddL t := by simp [oddL, hw']
      rw [e2]
      simp -implicitDefEqProofs only [Ev.nd1, Ev.nd2, Ev.lent_fz, Ev.lent_ow, Ev.lent_oo, Ev.lent_mx, Ev.lent_ln, Ev.lent_nil, Ev.back_nil, Ev.back_tm, Ev.back_sl, Ev.runM_at, Ev.start_at, Ev.seq_at, Ev.pass_at, Ev.brk_at, Ev.cnt_at, Ev.ret_at, Ev.retN_at, Ev.asg_at, Ev.if_at, Ev.drop_at, Ev.tgt_at, Ev.tup_at, Ev.for_at, Ev.P_at, Ev.F_at, Ev.var_at, Ev.c_at, Ev.op_at, Ev.opF_at, Ev.call_at, Ev.call1_at, Ev.un_at, Ev.isi_at, Ev.nil_at, Ev.cons_at, Ev.aNil_at, Ev.aCons_at, Ev.lst_at', Ev.tupE_at, Ev.mix_at, Ev.t_at, Ev.tru_at, Ev.and_at, Ev.or_at, Ev.not_at, Ev.andV_at, Ev.orV_at, Ev.notV_at, Ev.if2_at, Ev.ix_at', Ev.no_at, Ev.yes_at, Ev.sl_at, Ev.rep_at, Ev.fn_at, Ev.fnK_at, Ev.seqL_at, Ev.seqT_at, Ev.enum_at, Ev.zip_at, Ec.rng1_D, Ec.lr1_D, Ev.lc_at, Ev.lcE_at, Ev.yesT_at, Ev.meth_at, Ev.idx_at, Ev.subApp_at, Ev.sortSet_at, Ev.hName_at, Ev.hNil_at, Ev.hCons_at, Ev.hTup_at, Ev.hSub_at, Ev.turns_nil, Ev.force_fz, Ev.force_ow, Ev.force_oo, Ev.force_mx, Ev.force_sl, Ev.norm_fz, Ev.norm_ow, Ev.norm_sl, Ev.argO_sl, Ev.own_at, Ev.setOwn_at, Ev.flatF, Ev.flatO, Ev.flatL, Ev.data_tm, Ev.data_sl, Ev.toD_fz, Ev.toD_ow, Ev.toD_ln, Ev.toD_oo, Ev.toD_mx, Ev.flat_fz, Ev.flat_ow, Ev.flat_sl, Ev.retP_fz, Ev.retP_ow, Ev.retP_oo, Ev.retP_sl, Ev.putP_fz, Ev.putP_ow, Ev.putP_oo, Ev.putP_mx, Ev.putP_sl, Ev.noLn_at, Ev.argOs_nil, Ev.argOs_cons, Ev.argO_fz, Ev.argO_ow, Ev.slots_nil, Ev.slots_tm, Ev.slots_sl, Ev.bOf_b, Ev.ownP_fz, Ev.ownP_ow, Ev.ownP_sl, Ev.ownPs_nil, Ev.ownPs_cons, Ev.putAll_nil, Ev.putAll_cons, Ev.mixI_nil, Ev.mixI_fz, Ev.mixI_ow, Ev.mixI_oo, Ev.ixD_list, Ev.ixD_tup, Ev.atI_0, Ev.atI_1, Ev.ixN_0, Ev.ixN_1, Ev.gt_ii, Ev.ge_ii, Ev.lt_ii, Ev.le_ii, Ev.add_ii, Ev.add_ll, Ev.sub_ii, Ev.mul_ii, Ev.fdv_ii, Ev.mod_ii, Ev.neg_i, Ev.int_i, Ev.abs_i, Ev.max2_ii, Ev.dvm_ii, Ev.len_l, Ev.len_t, Ev.listO_l, Ev.tupO_l, Ev.ints_map, Ev.intsD_map, Ev.sorted_l, Ev.sl_list, List.map_cons, List.map_nil, List.length_cons, List.length_nil, List.replicate_succ, List.replicate_zero, List.append_nil, List.nil_append, List.cons_append, List.getElem?_cons_zero, List.getElem?_cons_succ, List.getElem?_nil, List.set_cons_zero, List.set_cons_succ, List.set_nil, Option.bind_some, Option.bind_none, Option.map_some, Option.map_none, Nat.reduceAdd, Nat.reduceSub, Nat.reduceEqDiff, Nat.reduceLeDiff, if_true, if_false, reduceCtorEq, List.nodup_nil, Bool.false_eq_true, Bool.not_true, Bool.not_false, Bool.true_and, Bool.false_and, Bool.and_true, Bool.and_false, ↓reduceIte, id_eq, List.tail_cons, Nat.zero_add, List.all_cons, List.all_nil, ne_eq, not_false_eq_true, and_self, and_true, true_and, Ew.dsp1_at, Ew.key_i, Ew.swapNew_at, Ew.rng2_at, Ew.rngD_at, Ew.putP_dc, Ew.dc_at, Ew.din_at, Ew.dput_at, Ew.fnD_at, Ew.retGet_at, Ew.sortD_at, Ew.ext_at, Ew.L_at, Ew.LIx_at, Ew.Sc_at, Ew.callL_at, Ew.opNil_at, Ew.sv_i, Ew.oo_at, Ew.appO_at, Ew.sub2_at, Ew.fnL_at, Ew.subAppL_at, Ew.lcO_at, Ew.walk_at, Bool.true_xor, Bool.false_xor
, nin_abc, hw', Ec.wipe_nil, Ec.wipe_cons, i]
theorem eq_odd {t : List Nat} (ht : t.length ≤ 100) (hlow : low t) : eqX (.list (oddL t)) (.list []) = some (.bool (t.all isW)) := by
  have s : Sz 1 (100 * 101) (.list (oddL t)) := sz_list (szs_map (a := 0) (b := 100) (l := 100) (fun c hc => sz_S (w := [c]) (by simp) (fun d hd => by
    rw [List.mem_singleton.mp hd]
    exact hlow c (List.mem_filter.mp hc).1)) (Nat.le_trans (List.length_filter_le _ _) ht))
  have s0 : Sz 1 0 (.list []) := sz_list szs_nil
  rw [s.eq s0 (by decide) (by decide)]
  congr 2
  have key : oddL t = [] ↔ t.all isW = true := by
    unfold oddL
    rw [List.map_eq_nil_iff, List.filter_eq_nil_iff, List.all_eq_true]
    exact ⟨fun h c hc => by simpa using h c hc, fun h c hc => by simpa using h c hc⟩
  cases q : oddL t with
  | nil => rw [key.mp q]; rfl
  | cons a l =>
    have : ¬ t.all isW = true := fun z => by rw [key.mpr z] at q; cases q
    rw [Bool.not_eq_true] at this
    rw [this]
    simp [PyData.eqv, PyData.eqvAll]
theorem v_lin (t : List Nat) (ht : t.length ≤ 100) (hlow : low t) : val f__law_is_name [.fz (.str (S t))] = some (.fz (.bool (nameB t)), [none]) := by
  unfold val f__law_is_name m__law_is_name
  cases t with
  | nil => simp -implicitDefEqProofs only [Ev.nd1, Ev.nd2, Ev.lent_fz, Ev.lent_ow, Ev.lent_oo, Ev.lent_mx, Ev.lent_ln, Ev.lent_nil, Ev.back_nil, Ev.back_tm, Ev.back_sl, Ev.runM_at, Ev.start_at, Ev.seq_at, Ev.pass_at, Ev.brk_at, Ev.cnt_at, Ev.ret_at, Ev.retN_at, Ev.asg_at, Ev.if_at, Ev.drop_at, Ev.tgt_at, Ev.tup_at, Ev.for_at, Ev.P_at, Ev.F_at, Ev.var_at, Ev.c_at, Ev.op_at, Ev.opF_at, Ev.call_at, Ev.call1_at, Ev.un_at, Ev.isi_at, Ev.nil_at, Ev.cons_at, Ev.aNil_at, Ev.aCons_at, Ev.lst_at', Ev.tupE_at, Ev.mix_at, Ev.t_at, Ev.tru_at, Ev.and_at, Ev.or_at, Ev.not_at, Ev.andV_at, Ev.orV_at, Ev.notV_at, Ev.if2_at, Ev.ix_at', Ev.no_at, Ev.yes_at, Ev.sl_at, Ev.rep_at, Ev.fn_at, Ev.fnK_at, Ev.seqL_at, Ev.seqT_at, Ev.enum_at, Ev.zip_at, Ec.rng1_D, Ec.lr1_D, Ev.lc_at, Ev.lcE_at, Ev.yesT_at, Ev.meth_at, Ev.idx_at, Ev.subApp_at, Ev.sortSet_at, Ev.hName_at, Ev.hNil_at, Ev.hCons_at, Ev.hTup_at, Ev.hSub_at, Ev.turns_nil, Ev.force_fz, Ev.force_ow, Ev.force_oo, Ev.force_mx, Ev.force_sl, Ev.norm_fz, Ev.norm_ow, Ev.norm_sl, Ev.argO_sl, Ev.own_at, Ev.setOwn_at, Ev.flatF, Ev.flatO, Ev.flatL, Ev.data_tm, Ev.data_sl, Ev.toD_fz, Ev.toD_ow, Ev.toD_ln, Ev.toD_oo, Ev.toD_mx, Ev.flat_fz, Ev.flat_ow, Ev.flat_sl, Ev.retP_fz, Ev.retP_ow, Ev.retP_oo, Ev.retP_sl, Ev.putP_fz, Ev.putP_ow, Ev.putP_oo, Ev.putP_mx, Ev.putP_sl, Ev.noLn_at, Ev.argOs_nil, Ev.argOs_cons, Ev.argO_fz, Ev.argO_ow, Ev.slots_nil, Ev.slots_tm, Ev.slots_sl, Ev.bOf_b, Ev.ownP_fz, Ev.ownP_ow, Ev.ownP_sl, Ev.ownPs_nil, Ev.ownPs_cons, Ev.putAll_nil, Ev.putAll_cons, Ev.mixI_nil, Ev.mixI_fz, Ev.mixI_ow, Ev.mixI_oo, Ev.ixD_list, Ev.ixD_tup, Ev.atI_0, Ev.atI_1, Ev.ixN_0, Ev.ixN_1, Ev.gt_ii, Ev.ge_ii, Ev.lt_ii, Ev.le_ii, Ev.add_ii, Ev.add_ll, Ev.sub_ii, Ev.mul_ii, Ev.fdv_ii, Ev.mod_ii, Ev.neg_i, Ev.int_i, Ev.abs_i, Ev.max2_ii, Ev.dvm_ii, Ev.len_l, Ev.len_t, Ev.listO_l, Ev.tupO_l, Ev.ints_map, Ev.intsD_map, Ev.sorted_l, Ev.sl_list, List.map_cons, List.map_nil, List.length_cons, List.length_nil, List.replicate_succ, List.replicate_zero, List.append_nil, List.nil_append, List.cons_append, List.getElem?_cons_zero, List.getElem?_cons_succ, List.getElem?_nil, List.set_cons_zero, List.set_cons_succ, List.set_nil, Option.bind_some, Option.bind_none, Option.map_some, Option.map_none, Nat.reduceAdd, Nat.reduceSub, Nat.reduceEqDiff, Nat.reduceLeDiff, if_true, if_false, reduceCtorEq, List.nodup_nil, Bool.false_eq_true, Bool.not_true, Bool.not_false, Bool.true_and, Bool.false_and, Bool.and_true, Bool.and_false, ↓reduceIte, id_eq, List.tail_cons, Nat.zero_add, List.all_cons, List.all_nil, ne_eq, not_false_eq_true, and_self, and_true, true_and, Ew.dsp1_at, Ew.key_i, Ew.swapNew_at, Ew.rng2_at, Ew.rngD_at, Ew.putP_dc, Ew.dc_at, Ew.din_at, Ew.dput_at, Ew.fnD_at, Ew.retGet_at, Ew.sortD_at, Ew.ext_at, Ew.L_at, Ew.LIx_at, Ew.Sc_at, Ew.callL_at, Ew.opNil_at, Ew.sv_i, Ew.oo_at, Ew.appO_at, Ew.sub2_at, Ew.fnL_at, Ew.subAppL_at, Ew.lcO_at, Ew.walk_at, Bool.true_xor, Bool.false_xor
, isi_str, chain_at, len_s (t := []) (by simp), Ev.le_ii, chK_t, chK_f, cs_hand, cs_side, decide_false, (by decide : ¬ (1 : Int) ≤ ((0 : Nat) : Int))]; rfl
  | cons c r =>
    have ix0 : ixS (.str (S (c :: r))) (.int 0) = some (.str ⟨#[c]⟩) := by
      rw [ixS_str, if_pos (by rw [S_len, sizeLine_eq]; omega)]
      have : atI (S (c :: r)).cps.toList ((0 : Nat) : Int) = some c := atI_S (r := r) rfl
      rw [show ((0 : Nat) : Int) = 0 from rfl] at this
      rw [this]; rfl
    have hln : (c :: r).length = r.length + 1 := List.length_cons
    have ht' : (c :: r).length ≤ 1000 := by omega
    have hlen : (1 : Int) ≤ ((r.length + 1 : Nat) : Int) := by omega
    by_cases h8 : r.length + 1 ≤ 8
    · have h8' : ((r.length + 1 : Nat) : Int) ≤ 8 := by omega
      by_cases hh : isH (c :: r) = true
      · have e : nameB (c :: r) = false := by simp [nameB, hh]
        rw [e]
        simp -implicitDefEqProofs only [Ev.nd1, Ev.nd2, Ev.lent_fz, Ev.lent_ow, Ev.lent_oo, Ev.lent_mx, Ev.lent_ln, Ev.lent_nil, Ev.back_nil, Ev.back_tm, Ev.back_sl, Ev.runM_at, Ev.start_at, Ev.seq_at, Ev.pass_at, Ev.brk_at, Ev.cnt_at, Ev.ret_at, Ev.retN_at, Ev.asg_at, Ev.if_at, Ev.drop_at, Ev.tgt_at, Ev.tup_at, Ev.for_at, Ev.P_at, Ev.F_at, Ev.var_at, Ev.c_at, Ev.op_at, Ev.opF_at, Ev.call_at, Ev.call1_at, Ev.un_at, Ev.isi_at, Ev.nil_at, Ev.cons_at, Ev.aNil_at, Ev.aCons_at, Ev.lst_at', Ev.tupE_at, Ev.mix_at, Ev.t_at, Ev.tru_at, Ev.and_at, Ev.or_at, Ev.not_at, Ev.andV_at, Ev.orV_at, Ev.notV_at, Ev.if2_at, Ev.ix_at', Ev.no_at, Ev.yes_at, Ev.sl_at, Ev.rep_at, Ev.fn_at, Ev.fnK_at, Ev.seqL_at, Ev.seqT_at, Ev.enum_at, Ev.zip_at, Ec.rng1_D, Ec.lr1_D, Ev.lc_at, Ev.lcE_at, Ev.yesT_at, Ev.meth_at, Ev.idx_at, Ev.subApp_at, Ev.sortSet_at, Ev.hName_at, Ev.hNil_at, Ev.hCons_at, Ev.hTup_at, Ev.hSub_at, Ev.turns_nil, Ev.force_fz, Ev.force_ow, Ev.force_oo, Ev.force_mx, Ev.force_sl, Ev.norm_fz, Ev.norm_ow, Ev.norm_sl, Ev.argO_sl, Ev.own_at, Ev.setOwn_at, Ev.flatF, Ev.flatO, Ev.flatL, Ev.data_tm, Ev.data_sl, Ev.toD_fz, Ev.toD_ow, Ev.toD_ln, Ev.toD_oo, Ev.toD_mx, Ev.flat_fz, Ev.flat_ow, Ev.flat_sl, Ev.retP_fz, Ev.retP_ow, Ev.retP_oo, Ev.retP_sl, Ev.putP_fz, Ev.putP_ow, Ev.putP_oo, Ev.putP_mx, Ev.putP_sl, Ev.noLn_at, Ev.argOs_nil, Ev.argOs_cons, Ev.argO_fz, Ev.argO_ow, Ev.slots_nil, Ev.slots_tm, Ev.slots_sl, Ev.bOf_b, Ev.ownP_fz, Ev.ownP_ow, Ev.ownP_sl, Ev.ownPs_nil, Ev.ownPs_cons, Ev.putAll_nil, Ev.putAll_cons, Ev.mixI_nil, Ev.mixI_fz, Ev.mixI_ow, Ev.mixI_oo, Ev.ixD_list, Ev.ixD_tup, Ev.atI_0, Ev.atI_1, Ev.ixN_0, Ev.ixN_1, Ev.gt_ii, Ev.ge_ii, Ev.lt_ii, Ev.le_ii, Ev.add_ii, Ev.add_ll, Ev.sub_ii, Ev.mul_ii, Ev.fdv_ii, Ev.mod_ii, Ev.neg_i, Ev.int_i, Ev.abs_i, Ev.max2_ii, Ev.dvm_ii, Ev.len_l, Ev.len_t, Ev.listO_l, Ev.tupO_l, Ev.ints_map, Ev.intsD_map, Ev.sorted_l, Ev.sl_list, List.map_cons, List.map_nil, List.length_cons, List.length_nil, List.replicate_succ, List.replicate_zero, List.append_nil, List.nil_append, List.cons_append, List.getElem?_cons_zero, List.getElem?_cons_succ, List.getElem?_nil, List.set_cons_zero, List.set_cons_succ, List.set_nil, Option.bind_some, Option.bind_none, Option.map_some, Option.map_none, Nat.reduceAdd, Nat.reduceSub, Nat.reduceEqDiff, Nat.reduceLeDiff, if_true, if_false, reduceCtorEq, List.nodup_nil, Bool.false_eq_true, Bool.not_true, Bool.not_false, Bool.true_and, Bool.false_and, Bool.and_true, Bool.and_false, ↓reduceIte, id_eq, List.tail_cons, Nat.zero_add, List.all_cons, List.all_nil, ne_eq, not_false_eq_true, and_self, and_true, true_and, Ew.dsp1_at, Ew.key_i, Ew.swapNew_at, Ew.rng2_at, Ew.rngD_at, Ew.putP_dc, Ew.dc_at, Ew.din_at, Ew.dput_at, Ew.fnD_at, Ew.retGet_at, Ew.sortD_at, Ew.ext_at, Ew.L_at, Ew.LIx_at, Ew.Sc_at, Ew.callL_at, Ew.opNil_at, Ew.sv_i, Ew.oo_at, Ew.appO_at, Ew.sub2_at, Ew.fnL_at, Ew.subAppL_at, Ew.lcO_at, Ew.walk_at, Bool.true_xor, Bool.false_xor
, isi_str, chain_at, len_s ht', Ev.le_ii, chK_t, chK_f, cs_hand, cs_side, in_hs ht hlow, hlen, h8', hh, decide_true, decide_false, (by decide : 2 ≤ sizeLine)]
      · have hh' : isH (c :: r) = false := by simpa using hh
        have hsz : (Vi.strD (S (c :: r))).length ≤ sizeLine := by simp [Vi.strD, sizeLine_eq]; omega
        have go := odd_go (some (.fz (.str (S (c :: r))))) none (c :: r)
        by_cases hA : (c :: r).all isW = true
        · by_cases hd : 48 ≤ c ∧ c ≤ 57
          · have e : nameB (c :: r) = false := by
              show (decide (r.length + 1 ≤ 8) && !isH (c :: r) && isL c && r.all isW) = _
              rw [show isL c = false by unfold isL; exact decide_eq_false (by omega), Bool.and_false, Bool.false_and]
            rw [e]
            simp -implicitDefEqProofs only [Ev.nd1, Ev.nd2, Ev.lent_fz, Ev.lent_ow, Ev.lent_oo, Ev.lent_mx, Ev.lent_ln, Ev.lent_nil, Ev.back_nil, Ev.back_tm, Ev.back_sl, Ev.runM_at, Ev.start_at, Ev.seq_at, Ev.pass_at, Ev.brk_at, Ev.cnt_at, Ev.ret_at, Ev.retN_at, Ev.asg_at, Ev.if_at, Ev.drop_at, Ev.tgt_at, Ev.tup_at, Ev.for_at, Ev.P_at, Ev.F_at, Ev.var_at, Ev.c_at, Ev.op_at, Ev.opF_at, Ev.call_at, Ev.call1_at, Ev.un_at, Ev.isi_at, Ev.nil_at, Ev.cons_at, Ev.aNil_at, Ev.aCons_at, Ev.lst_at', Ev.tupE_at, Ev.mix_at, Ev.t_at, Ev.tru_at, Ev.and_at, Ev.or_at, Ev.not_at, Ev.andV_at, Ev.orV_at, Ev.notV_at, Ev.if2_at, Ev.ix_at', Ev.no_at, Ev.yes_at, Ev.sl_at, Ev.rep_at, Ev.fn_at, Ev.fnK_at, Ev.seqL_at, Ev.seqT_at, Ev.enum_at, Ev.zip_at, Ec.rng1_D, Ec.lr1_D, Ev.lc_at, Ev.lcE_at, Ev.yesT_at, Ev.meth_at, Ev.idx_at, Ev.subApp_at, Ev.sortSet_at, Ev.hName_at, Ev.hNil_at, Ev.hCons_at, Ev.hTup_at, Ev.hSub_at, Ev.turns_nil, Ev.force_fz, Ev.force_ow, Ev.force_oo, Ev.force_mx, Ev.force_sl, Ev.norm_fz, Ev.norm_ow, Ev.norm_sl, Ev.argO_sl, Ev.own_at, Ev.setOwn_at, Ev.flatF, Ev.flatO, Ev.flatL, Ev.data_tm, Ev.data_sl, Ev.toD_fz, Ev.toD_ow, Ev.toD_ln, Ev.toD_oo, Ev.toD_mx, Ev.flat_fz, Ev.flat_ow, Ev.flat_sl, Ev.retP_fz, Ev.retP_ow, Ev.retP_oo, Ev.retP_sl, Ev.putP_fz, Ev.putP_ow, Ev.putP_oo, Ev.putP_mx, Ev.putP_sl, Ev.noLn_at, Ev.argOs_nil, Ev.argOs_cons, Ev.argO_fz, Ev.argO_ow, Ev.slots_nil, Ev.slots_tm, Ev.slots_sl, Ev.bOf_b, Ev.ownP_fz, Ev.ownP_ow, Ev.ownP_sl, Ev.ownPs_nil, Ev.ownPs_cons, Ev.putAll_nil, Ev.putAll_cons, Ev.mixI_nil, Ev.mixI_fz, Ev.mixI_ow, Ev.mixI_oo, Ev.ixD_list, Ev.ixD_tup, Ev.atI_0, Ev.atI_1, Ev.ixN_0, Ev.ixN_1, Ev.gt_ii, Ev.ge_ii, Ev.lt_ii, Ev.le_ii, Ev.add_ii, Ev.add_ll, Ev.sub_ii, Ev.mul_ii, Ev.fdv_ii, Ev.mod_ii, Ev.neg_i, Ev.int_i, Ev.abs_i, Ev.max2_ii, Ev.dvm_ii, Ev.len_l, Ev.len_t, Ev.listO_l, Ev.tupO_l, Ev.ints_map, Ev.intsD_map, Ev.sorted_l, Ev.sl_list, List.map_cons, List.map_nil, List.length_cons, List.length_nil, List.replicate_succ, List.replicate_zero, List.append_nil, List.nil_append, List.cons_append, List.getElem?_cons_zero, List.getElem?_cons_succ, List.getElem?_nil, List.set_cons_zero, List.set_cons_succ, List.set_nil, Option.bind_some, Option.bind_none, Option.map_some, Option.map_none, Nat.reduceAdd, Nat.reduceSub, Nat.reduceEqDiff, Nat.reduceLeDiff, if_true, if_false, reduceCtorEq, List.nodup_nil, Bool.false_eq_true, Bool.not_true, Bool.not_false, Bool.true_and, Bool.false_and, Bool.and_true, Bool.and_false, ↓reduceIte, id_eq, List.tail_cons, Nat.zero_add, List.all_cons, List.all_nil, ne_eq, not_false_eq_true, and_self, and_true, true_and, Ew.dsp1_at, Ew.key_i, Ew.swapNew_at, Ew.rng2_at, Ew.rngD_at, Ew.putP_dc, Ew.dc_at, Ew.din_at, Ew.dput_at, Ew.fnD_at, Ew.retGet_at, Ew.sortD_at, Ew.ext_at, Ew.L_at, Ew.LIx_at, Ew.Sc_at, Ew.callL_at, Ew.opNil_at, Ew.sv_i, Ew.oo_at, Ew.appO_at, Ew.sub2_at, Ew.fnL_at, Ew.subAppL_at, Ew.lcO_at, Ew.walk_at, Bool.true_xor, Bool.false_xor
, isi_str, chain_at, len_s ht', Ev.le_ii, chK_t, chK_f, cs_hand, cs_side, in_hs ht hlow, hlen, h8', hh', decide_true, decide_false, (by decide : 2 ≤ sizeLine), str_at, hsz, okv, go, Ec.wipe_nil, Ec.wipe_cons, Ec.rest_nil, Ec.rest_cons, Option.getD_some, (by decide : 0 ≤ sizeLine), eq_odd ht hlow, hA, eIxS, ix0, nin_dig, hd]
          · have e : nameB (c :: r) = true := by
              have hA2 := hA
              rw [List.all_cons, Bool.and_eq_true] at hA2
              show (decide (r.length + 1 ≤ 8) && !isH (c :: r) && isL c && r.all isW) = _
              have : isL c = true := by
                have := hA2.1
                unfold isW at this
                unfold isL
                simp at this ⊢
                omega
              rw [decide_eq_true h8, hh', this, hA2.2]; rfl
            rw [e]
            simp -implicitDefEqProofs only [Ev.nd1, Ev.nd2, Ev.lent_fz, Ev.lent_ow, Ev.lent_oo, Ev.lent_mx, Ev.lent_ln, Ev.lent_nil, Ev.back_nil, Ev.back_tm, Ev.back_sl, Ev.runM_at, Ev.start_at, Ev.seq_at, Ev.pass_at, Ev.brk_at, Ev.cnt_at, Ev.ret_at, Ev.retN_at, Ev.asg_at, Ev.if_at, Ev.drop_at, Ev.tgt_at, Ev.tup_at, Ev.for_at, Ev.P_at, Ev.F_at, Ev.var_at, Ev.c_at, Ev.op_at, Ev.opF_at, Ev.call_at, Ev.call1_at, Ev.un_at, Ev.isi_at, Ev.nil_at, Ev.cons_at, Ev.aNil_at, Ev.aCons_at, Ev.lst_at', Ev.tupE_at, Ev.mix_at, Ev.t_at, Ev.tru_at, Ev.and_at, Ev.or_at, Ev.not_at, Ev.andV_at, Ev.orV_at, Ev.notV_at, Ev.if2_at, Ev.ix_at', Ev.no_at, Ev.yes_at, Ev.sl_at, Ev.rep_at, Ev.fn_at, Ev.fnK_at, Ev.seqL_at, Ev.seqT_at, Ev.enum_at, Ev.zip_at, Ec.rng1_D, Ec.lr1_D, Ev.lc_at, Ev.lcE_at, Ev.yesT_at, Ev.meth_at, Ev.idx_at, Ev.subApp_at, Ev.sortSet_at, Ev.hName_at, Ev.hNil_at, Ev.hCons_at, Ev.hTup_at, Ev.hSub_at, Ev.turns_nil, Ev.force_fz, Ev.force_ow, Ev.force_oo, Ev.force_mx, Ev.force_sl, Ev.norm_fz, Ev.norm_ow, Ev.norm_sl, Ev.argO_sl, Ev.own_at, Ev.setOwn_at, Ev.flatF, Ev.flatO, Ev.flatL, Ev.data_tm, Ev.data_sl, Ev.toD_fz, Ev.toD_ow, Ev.toD_ln, Ev.toD_oo, Ev.toD_mx, Ev.flat_fz, Ev.flat_ow, Ev.flat_sl, Ev.retP_fz, Ev.retP_ow, Ev.retP_oo, Ev.retP_sl, Ev.putP_fz, Ev.putP_ow, Ev.putP_oo, Ev.putP_mx, Ev.putP_sl, Ev.noLn_at, Ev.argOs_nil, Ev.argOs_cons, Ev.argO_fz, Ev.argO_ow, Ev.slots_nil, Ev.slots_tm, Ev.slots_sl, Ev.bOf_b, Ev.ownP_fz, Ev.ownP_ow, Ev.ownP_sl, Ev.ownPs_nil, Ev.ownPs_cons, Ev.putAll_nil, Ev.putAll_cons, Ev.mixI_nil, Ev.mixI_fz, Ev.mixI_ow, Ev.mixI_oo, Ev.ixD_list, Ev.ixD_tup, Ev.atI_0, Ev.atI_1, Ev.ixN_0, Ev.ixN_1, Ev.gt_ii, Ev.ge_ii, Ev.lt_ii, Ev.le_ii, Ev.add_ii, Ev.add_ll, Ev.sub_ii, Ev.mul_ii, Ev.fdv_ii, Ev.mod_ii, Ev.neg_i, Ev.int_i, Ev.abs_i, Ev.max2_ii, Ev.dvm_ii, Ev.len_l, Ev.len_t, Ev.listO_l, Ev.tupO_l, Ev.ints_map, Ev.intsD_map, Ev.sorted_l, Ev.sl_list, List.map_cons, List.map_nil, List.length_cons, List.length_nil, List.replicate_succ, List.replicate_zero, List.append_nil, List.nil_append, List.cons_append, List.getElem?_cons_zero, List.getElem?_cons_succ, List.getElem?_nil, List.set_cons_zero, List.set_cons_succ, List.set_nil, Option.bind_some, Option.bind_none, Option.map_some, Option.map_none, Nat.reduceAdd, Nat.reduceSub, Nat.reduceEqDiff, Nat.reduceLeDiff, if_true, if_false, reduceCtorEq, List.nodup_nil, Bool.false_eq_true, Bool.not_true, Bool.not_false, Bool.true_and, Bool.false_and, Bool.and_true, Bool.and_false, ↓reduceIte, id_eq, List.tail_cons, Nat.zero_add, List.all_cons, List.all_nil, ne_eq, not_false_eq_true, and_self, and_true, true_and, Ew.dsp1_at, Ew.key_i, Ew.swapNew_at, Ew.rng2_at, Ew.rngD_at, Ew.putP_dc, Ew.dc_at, Ew.din_at, Ew.dput_at, Ew.fnD_at, Ew.retGet_at, Ew.sortD_at, Ew.ext_at, Ew.L_at, Ew.LIx_at, Ew.Sc_at, Ew.callL_at, Ew.opNil_at, Ew.sv_i, Ew.oo_at, Ew.appO_at, Ew.sub2_at, Ew.fnL_at, Ew.subAppL_at, Ew.lcO_at, Ew.walk_at, Bool.true_xor, Bool.false_xor
, isi_str, chain_at, len_s ht', Ev.le_ii, chK_t, chK_f, cs_hand, cs_side, in_hs ht hlow, hlen, h8', hh', decide_true, decide_false, (by decide : 2 ≤ sizeLine), str_at, hsz, okv, go, Ec.wipe_nil, Ec.wipe_cons, Ec.rest_nil, Ec.rest_cons, Option.getD_some, (by decide : 0 ≤ sizeLine), eq_odd ht hlow, hA, eIxS, ix0, nin_dig, hd]
        · have hA' : (c :: r).all isW = false := by simpa using hA
          have e : nameB (c :: r) = false := by
            show (decide (r.length + 1 ≤ 8) && !isH (c :: r) && isL c && r.all isW) = _
            rw [List.all_cons] at hA'
            by_cases hL : isL c = true
            · have hW : isW c = true := by unfold isL at hL; unfold isW; rw [hL]; rfl
              rw [hW, Bool.true_and] at hA'
              rw [hA', Bool.and_false]
            · rw [Bool.not_eq_true] at hL
              rw [hL, Bool.and_false, Bool.false_and]
          rw [e]
          simp -implicitDefEqProofs only [Ev.nd1, Ev.nd2, Ev.lent_fz, Ev.lent_ow, Ev.lent_oo, Ev.lent_mx, Ev.lent_ln, Ev.lent_nil, Ev.back_nil, Ev.back_tm, Ev.back_sl, Ev.runM_at, Ev.start_at, Ev.seq_at, Ev.pass_at, Ev.brk_at, Ev.cnt_at, Ev.ret_at, Ev.retN_at, Ev.asg_at, Ev.if_at, Ev.drop_at, Ev.tgt_at, Ev.tup_at, Ev.for_at, Ev.P_at, Ev.F_at, Ev.var_at, Ev.c_at, Ev.op_at, Ev.opF_at, Ev.call_at, Ev.call1_at, Ev.un_at, Ev.isi_at, Ev.nil_at, Ev.cons_at, Ev.aNil_at, Ev.aCons_at, Ev.lst_at', Ev.tupE_at, Ev.mix_at, Ev.t_at, Ev.tru_at, Ev.and_at, Ev.or_at, Ev.not_at, Ev.andV_at, Ev.orV_at, Ev.notV_at, Ev.if2_at, Ev.ix_at', Ev.no_at, Ev.yes_at, Ev.sl_at, Ev.rep_at, Ev.fn_at, Ev.fnK_at, Ev.seqL_at, Ev.seqT_at, Ev.enum_at, Ev.zip_at, Ec.rng1_D, Ec.lr1_D, Ev.lc_at, Ev.lcE_at, Ev.yesT_at, Ev.meth_at, Ev.idx_at, Ev.subApp_at, Ev.sortSet_at, Ev.hName_at, Ev.hNil_at, Ev.hCons_at, Ev.hTup_at, Ev.hSub_at, Ev.turns_nil, Ev.force_fz, Ev.force_ow, Ev.force_oo, Ev.force_mx, Ev.force_sl, Ev.norm_fz, Ev.norm_ow, Ev.norm_sl, Ev.argO_sl, Ev.own_at, Ev.setOwn_at, Ev.flatF, Ev.flatO, Ev.flatL, Ev.data_tm, Ev.data_sl, Ev.toD_fz, Ev.toD_ow, Ev.toD_ln, Ev.toD_oo, Ev.toD_mx, Ev.flat_fz, Ev.flat_ow, Ev.flat_sl, Ev.retP_fz, Ev.retP_ow, Ev.retP_oo, Ev.retP_sl, Ev.putP_fz, Ev.putP_ow, Ev.putP_oo, Ev.putP_mx, Ev.putP_sl, Ev.noLn_at, Ev.argOs_nil, Ev.argOs_cons, Ev.argO_fz, Ev.argO_ow, Ev.slots_nil, Ev.slots_tm, Ev.slots_sl, Ev.bOf_b, Ev.ownP_fz, Ev.ownP_ow, Ev.ownP_sl, Ev.ownPs_nil, Ev.ownPs_cons, Ev.putAll_nil, Ev.putAll_cons, Ev.mixI_nil, Ev.mixI_fz, Ev.mixI_ow, Ev.mixI_oo, Ev.ixD_list, Ev.ixD_tup, Ev.atI_0, Ev.atI_1, Ev.ixN_0, Ev.ixN_1, Ev.gt_ii, Ev.ge_ii, Ev.lt_ii, Ev.le_ii, Ev.add_ii, Ev.add_ll, Ev.sub_ii, Ev.mul_ii, Ev.fdv_ii, Ev.mod_ii, Ev.neg_i, Ev.int_i, Ev.abs_i, Ev.max2_ii, Ev.dvm_ii, Ev.len_l, Ev.len_t, Ev.listO_l, Ev.tupO_l, Ev.ints_map, Ev.intsD_map, Ev.sorted_l, Ev.sl_list, List.map_cons, List.map_nil, List.length_cons, List.length_nil, List.replicate_succ, List.replicate_zero, List.append_nil, List.nil_append, List.cons_append, List.getElem?_cons_zero, List.getElem?_cons_succ, List.getElem?_nil, List.set_cons_zero, List.set_cons_succ, List.set_nil, Option.bind_some, Option.bind_none, Option.map_some, Option.map_none, Nat.reduceAdd, Nat.reduceSub, Nat.reduceEqDiff, Nat.reduceLeDiff, if_true, if_false, reduceCtorEq, List.nodup_nil, Bool.false_eq_true, Bool.not_true, Bool.not_false, Bool.true_and, Bool.false_and, Bool.and_true, Bool.and_false, ↓reduceIte, id_eq, List.tail_cons, Nat.zero_add, List.all_cons, List.all_nil, ne_eq, not_false_eq_true, and_self, and_true, true_and, Ew.dsp1_at, Ew.key_i, Ew.swapNew_at, Ew.rng2_at, Ew.rngD_at, Ew.putP_dc, Ew.dc_at, Ew.din_at, Ew.dput_at, Ew.fnD_at, Ew.retGet_at, Ew.sortD_at, Ew.ext_at, Ew.L_at, Ew.LIx_at, Ew.Sc_at, Ew.callL_at, Ew.opNil_at, Ew.sv_i, Ew.oo_at, Ew.appO_at, Ew.sub2_at, Ew.fnL_at, Ew.subAppL_at, Ew.lcO_at, Ew.walk_at, Bool.true_xor, Bool.false_xor
, isi_str, chain_at, len_s ht', Ev.le_ii, chK_t, chK_f, cs_hand, cs_side, in_hs ht hlow, hlen, h8', hh', decide_true, decide_false, (by decide : 2 ≤ sizeLine), str_at, hsz, okv, go, Ec.wipe_nil, Ec.wipe_cons, Ec.rest_nil, Ec.rest_cons, Option.getD_some, (by decide : 0 ≤ sizeLine), eq_odd ht hlow, hA']
    · have h8' : ¬ ((r.length + 1 : Nat) : Int) ≤ 8 := by omega
      have e : nameB (c :: r) = false := by
        show (decide (r.length + 1 ≤ 8) && !isH (c :: r) && isL c && r.all isW) = _
        rw [decide_eq_false h8]; rfl
      rw [e]
      simp -implicitDefEqProofs only [Ev.nd1, Ev.nd2, Ev.lent_fz, Ev.lent_ow, Ev.lent_oo, Ev.lent_mx, Ev.lent_ln, Ev.lent_nil, Ev.back_nil, Ev.back_tm, Ev.back_sl, Ev.runM_at, Ev.start_at, Ev.seq_at, Ev.pass_at, Ev.brk_at, Ev.cnt_at, Ev.ret_at, Ev.retN_at, Ev.asg_at, Ev.if_at, Ev.drop_at, Ev.tgt_at, Ev.tup_at, Ev.for_at, Ev.P_at, Ev.F_at, Ev.var_at, Ev.c_at, Ev.op_at, Ev.opF_at, Ev.call_at, Ev.call1_at, Ev.un_at, Ev.isi_at, Ev.nil_at, Ev.cons_at, Ev.aNil_at, Ev.aCons_at, Ev.lst_at', Ev.tupE_at, Ev.mix_at, Ev.t_at, Ev.tru_at, Ev.and_at, Ev.or_at, Ev.not_at, Ev.andV_at, Ev.orV_at, Ev.notV_at, Ev.if2_at, Ev.ix_at', Ev.no_at, Ev.yes_at, Ev.sl_at, Ev.rep_at, Ev.fn_at, Ev.fnK_at, Ev.seqL_at, Ev.seqT_at, Ev.enum_at, Ev.zip_at, Ec.rng1_D, Ec.lr1_D, Ev.lc_at, Ev.lcE_at, Ev.yesT_at, Ev.meth_at, Ev.idx_at, Ev.subApp_at, Ev.sortSet_at, Ev.hName_at, Ev.hNil_at, Ev.hCons_at, Ev.hTup_at, Ev.hSub_at, Ev.turns_nil, Ev.force_fz, Ev.force_ow, Ev.force_oo, Ev.force_mx, Ev.force_sl, Ev.norm_fz, Ev.norm_ow, Ev.norm_sl, Ev.argO_sl, Ev.own_at, Ev.setOwn_at, Ev.flatF, Ev.flatO, Ev.flatL, Ev.data_tm, Ev.data_sl, Ev.toD_fz, Ev.toD_ow, Ev.toD_ln, Ev.toD_oo, Ev.toD_mx, Ev.flat_fz, Ev.flat_ow, Ev.flat_sl, Ev.retP_fz, Ev.retP_ow, Ev.retP_oo, Ev.retP_sl, Ev.putP_fz, Ev.putP_ow, Ev.putP_oo, Ev.putP_mx, Ev.putP_sl, Ev.noLn_at, Ev.argOs_nil, Ev.argOs_cons, Ev.argO_fz, Ev.argO_ow, Ev.slots_nil, Ev.slots_tm, Ev.slots_sl, Ev.bOf_b, Ev.ownP_fz, Ev.ownP_ow, Ev.ownP_sl, Ev.ownPs_nil, Ev.ownPs_cons, Ev.putAll_nil, Ev.putAll_cons, Ev.mixI_nil, Ev.mixI_fz, Ev.mixI_ow, Ev.mixI_oo, Ev.ixD_list, Ev.ixD_tup, Ev.atI_0, Ev.atI_1, Ev.ixN_0, Ev.ixN_1, Ev.gt_ii, Ev.ge_ii, Ev.lt_ii, Ev.le_ii, Ev.add_ii, Ev.add_ll, Ev.sub_ii, Ev.mul_ii, Ev.fdv_ii, Ev.mod_ii, Ev.neg_i, Ev.int_i, Ev.abs_i, Ev.max2_ii, Ev.dvm_ii, Ev.len_l, Ev.len_t, Ev.listO_l, Ev.tupO_l, Ev.ints_map, Ev.intsD_map, Ev.sorted_l, Ev.sl_list, List.map_cons, List.map_nil, List.length_cons, List.length_nil, List.replicate_succ, List.replicate_zero, List.append_nil, List.nil_append, List.cons_append, List.getElem?_cons_zero, List.getElem?_cons_succ, List.getElem?_nil, List.set_cons_zero, List.set_cons_succ, List.set_nil, Option.bind_some, Option.bind_none, Option.map_some, Option.map_none, Nat.reduceAdd, Nat.reduceSub, Nat.reduceEqDiff, Nat.reduceLeDiff, if_true, if_false, reduceCtorEq, List.nodup_nil, Bool.false_eq_true, Bool.not_true, Bool.not_false, Bool.true_and, Bool.false_and, Bool.and_true, Bool.and_false, ↓reduceIte, id_eq, List.tail_cons, Nat.zero_add, List.all_cons, List.all_nil, ne_eq, not_false_eq_true, and_self, and_true, true_and, Ew.dsp1_at, Ew.key_i, Ew.swapNew_at, Ew.rng2_at, Ew.rngD_at, Ew.putP_dc, Ew.dc_at, Ew.din_at, Ew.dput_at, Ew.fnD_at, Ew.retGet_at, Ew.sortD_at, Ew.ext_at, Ew.L_at, Ew.LIx_at, Ew.Sc_at, Ew.callL_at, Ew.opNil_at, Ew.sv_i, Ew.oo_at, Ew.appO_at, Ew.sub2_at, Ew.fnL_at, Ew.subAppL_at, Ew.lcO_at, Ew.walk_at, Bool.true_xor, Bool.false_xor
, isi_str, chain_at, len_s ht', Ev.le_ii, chK_t, chK_f, hlen, h8', decide_true, decide_false]
theorem v_ipn_no (d : D) (h : tyName d ≠ "str") : val f_is_part_name [.fz d] = some (.fz (.bool false), [none]) := by
  unfold val f_is_part_name m_is_part_name
  simp -implicitDefEqProofs only [Ev.nd1, Ev.nd2, Ev.lent_fz, Ev.lent_ow, Ev.lent_oo, Ev.lent_mx, Ev.lent_ln, Ev.lent_nil, Ev.back_nil, Ev.back_tm, Ev.back_sl, Ev.runM_at, Ev.start_at, Ev.seq_at, Ev.pass_at, Ev.brk_at, Ev.cnt_at, Ev.ret_at, Ev.retN_at, Ev.asg_at, Ev.if_at, Ev.drop_at, Ev.tgt_at, Ev.tup_at, Ev.for_at, Ev.P_at, Ev.F_at, Ev.var_at, Ev.c_at, Ev.op_at, Ev.opF_at, Ev.call_at, Ev.call1_at, Ev.un_at, Ev.isi_at, Ev.nil_at, Ev.cons_at, Ev.aNil_at, Ev.aCons_at, Ev.lst_at', Ev.tupE_at, Ev.mix_at, Ev.t_at, Ev.tru_at, Ev.and_at, Ev.or_at, Ev.not_at, Ev.andV_at, Ev.orV_at, Ev.notV_at, Ev.if2_at, Ev.ix_at', Ev.no_at, Ev.yes_at, Ev.sl_at, Ev.rep_at, Ev.fn_at, Ev.fnK_at, Ev.seqL_at, Ev.seqT_at, Ev.enum_at, Ev.zip_at, Ec.rng1_D, Ec.lr1_D, Ev.lc_at, Ev.lcE_at, Ev.yesT_at, Ev.meth_at, Ev.idx_at, Ev.subApp_at, Ev.sortSet_at, Ev.hName_at, Ev.hNil_at, Ev.hCons_at, Ev.hTup_at, Ev.hSub_at, Ev.turns_nil, Ev.force_fz, Ev.force_ow, Ev.force_oo, Ev.force_mx, Ev.force_sl, Ev.norm_fz, Ev.norm_ow, Ev.norm_sl, Ev.argO_sl, Ev.own_at, Ev.setOwn_at, Ev.flatF, Ev.flatO, Ev.flatL, Ev.data_tm, Ev.data_sl, Ev.toD_fz, Ev.toD_ow, Ev.toD_ln, Ev.toD_oo, Ev.toD_mx, Ev.flat_fz, Ev.flat_ow, Ev.flat_sl, Ev.retP_fz, Ev.retP_ow, Ev.retP_oo, Ev.retP_sl, Ev.putP_fz, Ev.putP_ow, Ev.putP_oo, Ev.putP_mx, Ev.putP_sl, Ev.noLn_at, Ev.argOs_nil, Ev.argOs_cons, Ev.argO_fz, Ev.argO_ow, Ev.slots_nil, Ev.slots_tm, Ev.slots_sl, Ev.bOf_b, Ev.ownP_fz, Ev.ownP_ow, Ev.ownP_sl, Ev.ownPs_nil, Ev.ownPs_cons, Ev.putAll_nil, Ev.putAll_cons, Ev.mixI_nil, Ev.mixI_fz, Ev.mixI_ow, Ev.mixI_oo, Ev.ixD_list, Ev.ixD_tup, Ev.atI_0, Ev.atI_1, Ev.ixN_0, Ev.ixN_1, Ev.gt_ii, Ev.ge_ii, Ev.lt_ii, Ev.le_ii, Ev.add_ii, Ev.add_ll, Ev.sub_ii, Ev.mul_ii, Ev.fdv_ii, Ev.mod_ii, Ev.neg_i, Ev.int_i, Ev.abs_i, Ev.max2_ii, Ev.dvm_ii, Ev.len_l, Ev.len_t, Ev.listO_l, Ev.tupO_l, Ev.ints_map, Ev.intsD_map, Ev.sorted_l, Ev.sl_list, List.map_cons, List.map_nil, List.length_cons, List.length_nil, List.replicate_succ, List.replicate_zero, List.append_nil, List.nil_append, List.cons_append, List.getElem?_cons_zero, List.getElem?_cons_succ, List.getElem?_nil, List.set_cons_zero, List.set_cons_succ, List.set_nil, Option.bind_some, Option.bind_none, Option.map_some, Option.map_none, Nat.reduceAdd, Nat.reduceSub, Nat.reduceEqDiff, Nat.reduceLeDiff, if_true, if_false, reduceCtorEq, List.nodup_nil, Bool.false_eq_true, Bool.not_true, Bool.not_false, Bool.true_and, Bool.false_and, Bool.and_true, Bool.and_false, ↓reduceIte, id_eq, List.tail_cons, Nat.zero_add, List.all_cons, List.all_nil, ne_eq, not_false_eq_true, and_self, and_true, true_and, Ew.dsp1_at, Ew.key_i, Ew.swapNew_at, Ew.rng2_at, Ew.rngD_at, Ew.putP_dc, Ew.dc_at, Ew.din_at, Ew.dput_at, Ew.fnD_at, Ew.retGet_at, Ew.sortD_at, Ew.ext_at, Ew.L_at, Ew.LIx_at, Ew.Sc_at, Ew.callL_at, Ew.opNil_at, Ew.sv_i, Ew.oo_at, Ew.appO_at, Ew.sub2_at, Ew.fnL_at, Ew.subAppL_at, Ew.lcO_at, Ew.walk_at, Bool.true_xor, Bool.false_xor
, isi_no d h]
theorem v_lin_no (d : D) (h : tyName d ≠ "str") : val f__law_is_name [.fz d] = some (.fz (.bool false), [none]) := by
  unfold val f__law_is_name m__law_is_name
  simp -implicitDefEqProofs only [Ev.nd1, Ev.nd2, Ev.lent_fz, Ev.lent_ow, Ev.lent_oo, Ev.lent_mx, Ev.lent_ln, Ev.lent_nil, Ev.back_nil, Ev.back_tm, Ev.back_sl, Ev.runM_at, Ev.start_at, Ev.seq_at, Ev.pass_at, Ev.brk_at, Ev.cnt_at, Ev.ret_at, Ev.retN_at, Ev.asg_at, Ev.if_at, Ev.drop_at, Ev.tgt_at, Ev.tup_at, Ev.for_at, Ev.P_at, Ev.F_at, Ev.var_at, Ev.c_at, Ev.op_at, Ev.opF_at, Ev.call_at, Ev.call1_at, Ev.un_at, Ev.isi_at, Ev.nil_at, Ev.cons_at, Ev.aNil_at, Ev.aCons_at, Ev.lst_at', Ev.tupE_at, Ev.mix_at, Ev.t_at, Ev.tru_at, Ev.and_at, Ev.or_at, Ev.not_at, Ev.andV_at, Ev.orV_at, Ev.notV_at, Ev.if2_at, Ev.ix_at', Ev.no_at, Ev.yes_at, Ev.sl_at, Ev.rep_at, Ev.fn_at, Ev.fnK_at, Ev.seqL_at, Ev.seqT_at, Ev.enum_at, Ev.zip_at, Ec.rng1_D, Ec.lr1_D, Ev.lc_at, Ev.lcE_at, Ev.yesT_at, Ev.meth_at, Ev.idx_at, Ev.subApp_at, Ev.sortSet_at, Ev.hName_at, Ev.hNil_at, Ev.hCons_at, Ev.hTup_at, Ev.hSub_at, Ev.turns_nil, Ev.force_fz, Ev.force_ow, Ev.force_oo, Ev.force_mx, Ev.force_sl, Ev.norm_fz, Ev.norm_ow, Ev.norm_sl, Ev.argO_sl, Ev.own_at, Ev.setOwn_at, Ev.flatF, Ev.flatO, Ev.flatL, Ev.data_tm, Ev.data_sl, Ev.toD_fz, Ev.toD_ow, Ev.toD_ln, Ev.toD_oo, Ev.toD_mx, Ev.flat_fz, Ev.flat_ow, Ev.flat_sl, Ev.retP_fz, Ev.retP_ow, Ev.retP_oo, Ev.retP_sl, Ev.putP_fz, Ev.putP_ow, Ev.putP_oo, Ev.putP_mx, Ev.putP_sl, Ev.noLn_at, Ev.argOs_nil, Ev.argOs_cons, Ev.argO_fz, Ev.argO_ow, Ev.slots_nil, Ev.slots_tm, Ev.slots_sl, Ev.bOf_b, Ev.ownP_fz, Ev.ownP_ow, Ev.ownP_sl, Ev.ownPs_nil, Ev.ownPs_cons, Ev.putAll_nil, Ev.putAll_cons, Ev.mixI_nil, Ev.mixI_fz, Ev.mixI_ow, Ev.mixI_oo, Ev.ixD_list, Ev.ixD_tup, Ev.atI_0, Ev.atI_1, Ev.ixN_0, Ev.ixN_1, Ev.gt_ii, Ev.ge_ii, Ev.lt_ii, Ev.le_ii, Ev.add_ii, Ev.add_ll, Ev.sub_ii, Ev.mul_ii, Ev.fdv_ii, Ev.mod_ii, Ev.neg_i, Ev.int_i, Ev.abs_i, Ev.max2_ii, Ev.dvm_ii, Ev.len_l, Ev.len_t, Ev.listO_l, Ev.tupO_l, Ev.ints_map, Ev.intsD_map, Ev.sorted_l, Ev.sl_list, List.map_cons, List.map_nil, List.length_cons, List.length_nil, List.replicate_succ, List.replicate_zero, List.append_nil, List.nil_append, List.cons_append, List.getElem?_cons_zero, List.getElem?_cons_succ, List.getElem?_nil, List.set_cons_zero, List.set_cons_succ, List.set_nil, Option.bind_some, Option.bind_none, Option.map_some, Option.map_none, Nat.reduceAdd, Nat.reduceSub, Nat.reduceEqDiff, Nat.reduceLeDiff, if_true, if_false, reduceCtorEq, List.nodup_nil, Bool.false_eq_true, Bool.not_true, Bool.not_false, Bool.true_and, Bool.false_and, Bool.and_true, Bool.and_false, ↓reduceIte, id_eq, List.tail_cons, Nat.zero_add, List.all_cons, List.all_nil, ne_eq, not_false_eq_true, and_self, and_true, true_and, Ew.dsp1_at, Ew.key_i, Ew.swapNew_at, Ew.rng2_at, Ew.rngD_at, Ew.putP_dc, Ew.dc_at, Ew.din_at, Ew.dput_at, Ew.fnD_at, Ew.retGet_at, Ew.sortD_at, Ew.ext_at, Ew.L_at, Ew.LIx_at, Ew.Sc_at, Ew.callL_at, Ew.opNil_at, Ew.sv_i, Ew.oo_at, Ew.appO_at, Ew.sub2_at, Ew.fnL_at, Ew.subAppL_at, Ew.lcO_at, Ew.walk_at, Bool.true_xor, Bool.false_xor
, isi_no d h]
end K25
end
section
set_option Elab.async false
set_option linter.all false
set_option maxRecDepth 100000
set_option maxHeartbeats 8000000
namespace K25
open PySem PySem.Spec PyProof.Rows L2 Vi Vf Vo Vp Vs Vt Vu Vv Vg Vw Vx Vy Va Vb Vc Vk Vm Vl Vn Vd Vq Vr Vj Vfr Ev Ec Mo Ew Gd Gx Gy Gt Rk Vxt
open SX (S S_cat S_len S_tl S_inj)
/-- a value that the law asks about -/
def Asked (d : D) : Prop := tyName d ≠ "str" ∨ ∃ t : List Nat, d = .str (S t) ∧ t.length ≤ 100 ∧ low t
theorem asked_s (x : Str) (h : (x.cps.toList.length ≤ 100 && x.cps.toList.all fun c => decide (c < 55296)) = true) : Asked (.str x) := by
  rw [Bool.and_eq_true] at h
  refine .inr ⟨x.cps.toList, by rw [show S x.cps.toList = x from S_tl x], of_decide_eq_true h.1, fun c hc => ?_⟩
  exact of_decide_eq_true (List.all_eq_true.mp h.2 c hc)
theorem name_turns (w : D) : ∀ (k : Nat) (lo : Int) (u : List Nat) (a b : Int) (x4 : Option O), u.length + k ≤ 50 → low u → fzo x4 → ∃ (u' : List Nat) (a' b' : Int) (x4' : Option O), u'.length ≤ u.length + k ∧ low u' ∧
    turns (hName 4) (mSeq (mAug 3 augS (eF (eFn f__law_pick (aCons (eVar 0) (aCons (eP (eC (.str "abcdefghijklmnopqrstuvwxyz0123456789"))) aNil))))) mPass) (rangeD lo k) [some (.ln [.int a, .int b]), some (.fz w), none, some (.fz (.str (S u))), x4, none, none] =
      some (.nx [some (.ln [.int a', .int b']), some (.fz w), none, some (.fz (.str (S u'))), x4', none, none]) := by
  intro k
  induction k with
  | zero =>
    intro lo u a b x4 _ hu _
    exact ⟨u, a, b, x4, by omega, hu, by simp [rangeD, turns]⟩
  | succ k ih =>
    intro lo u a b x4 hk hu h4
    obtain ⟨c, a', b', h1, e⟩ := v_pickS a b (Str.ofString "abcdefghijklmnopqrstuvwxyz0123456789") (by decide +kernel) (by decide +kernel)
    have hc : c < 55296 := by
      have : ∀ c ∈ (Str.ofString "abcdefghijklmnopqrstuvwxyz0123456789").cps.toList, c < 55296 := by decide +kernel
      exact this c h1
    obtain ⟨u', a2, b2, x4', q1, q2, i⟩ := ih (lo + 1) (u ++ [c]) a' b' (some (.fz (.int lo))) (by rw [List.length_append, List.length_singleton]; omega) (fun d hd => by
      rcases List.mem_append.mp hd with m | m
      · exact hu d m
      · rw [List.mem_singleton.mp m]; exact hc) (.inr ⟨_, rfl⟩)
    refine ⟨u', a2, b2, x4', by rw [List.length_append, List.length_singleton] at q1; omega, q2, ?_⟩
    have hu2 : u.length ≤ 2000 := by omega
    rw [rangeD_succ, Gd.turns_c, ← i]
    rcases h4 with rfl | ⟨z4, rfl⟩ <;> simp -implicitDefEqProofs only [Ev.nd1, Ev.nd2, Ev.lent_fz, Ev.lent_ow, Ev.lent_oo, Ev.lent_mx, Ev.lent_ln, Ev.lent_nil, Ev.back_nil, Ev.back_tm, Ev.back_sl, Ev.runM_at, Ev.start_at, Ev.seq_at, Ev.pass_at, Ev.brk_at, Ev.cnt_at, Ev.ret_at, Ev.retN_at, Ev.asg_at, Ev.if_at, Ev.drop_at, Ev.tgt_at, Ev.tup_at, Ev.for_at, Ev.P_at, Ev.F_at, Ev.var_at, Ev.c_at, Ev.op_at, Ev.opF_at, Ev.call_at, Ev.call1_at, Ev.un_at, Ev.isi_at, Ev.nil_at, Ev.cons_at, Ev.aNil_at, Ev.aCons_at, Ev.lst_at', Ev.tupE_at, Ev.mix_at, Ev.t_at, Ev.tru_at, Ev.and_at, Ev.or_at, Ev.not_at, Ev.andV_at, Ev.orV_at, Ev.notV_at, Ev.if2_at, Ev.ix_at', Ev.no_at, Ev.yes_at, Ev.sl_at, Ev.rep_at, Ev.fn_at, Ev.fnK_at, Ev.seqL_at, Ev.seqT_at, Ev.enum_at, Ev.zip_at, Ec.rng1_D, Ec.lr1_D, Ev.lc_at, Ev.lcE_at, Ev.yesT_at, Ev.meth_at, Ev.idx_at, Ev.subApp_at, Ev.sortSet_at, Ev.hName_at, Ev.hNil_at, Ev.hCons_at, Ev.hTup_at, Ev.hSub_at, Ev.turns_nil, Ev.force_fz, Ev.force_ow, Ev.force_oo, Ev.force_mx, Ev.force_sl, Ev.norm_fz, Ev.norm_ow, Ev.norm_sl, Ev.argO_sl, Ev.own_at, Ev.setOwn_at, Ev.flatF, Ev.flatO, Ev.flatL, Ev.data_tm, Ev.data_sl, Ev.toD_fz, Ev.toD_ow, Ev.toD_ln, Ev.toD_oo, Ev.toD_mx, Ev.flat_fz, Ev.flat_ow, Ev.flat_sl, Ev.retP_fz, Ev.retP_ow, Ev.retP_oo, Ev.retP_sl, Ev.putP_fz, Ev.putP_ow, Ev.putP_oo, Ev.putP_mx, Ev.putP_sl, Ev.noLn_at, Ev.argOs_nil, Ev.argOs_cons, Ev.argO_fz, Ev.argO_ow, Ev.slots_nil, Ev.slots_tm, Ev.slots_sl, Ev.bOf_b, Ev.ownP_fz, Ev.ownP_ow, Ev.ownP_sl, Ev.ownPs_nil, Ev.ownPs_cons, Ev.putAll_nil, Ev.putAll_cons, Ev.mixI_nil, Ev.mixI_fz, Ev.mixI_ow, Ev.mixI_oo, Ev.ixD_list, Ev.ixD_tup, Ev.atI_0, Ev.atI_1, Ev.ixN_0, Ev.ixN_1, Ev.gt_ii, Ev.ge_ii, Ev.lt_ii, Ev.le_ii, Ev.add_ii, Ev.add_ll, Ev.sub_ii, Ev.mul_ii, Ev.fdv_ii, Ev.mod_ii, Ev.neg_i, Ev.int_i, Ev.abs_i, Ev.max2_ii, Ev.dvm_ii, Ev.len_l, Ev.len_t, Ev.listO_l, Ev.tupO_l, Ev.ints_map, Ev.intsD_map, Ev.sorted_l, Ev.sl_list, List.map_cons, List.map_nil, List.length_cons, List.length_nil, List.replicate_succ, List.replicate_zero, List.append_nil, List.nil_append, List.cons_append, List.getElem?_cons_zero, List.getElem?_cons_succ, List.getElem?_nil, List.set_cons_zero, List.set_cons_succ, List.set_nil, Option.bind_some, Option.bind_none, Option.map_some, Option.map_none, Nat.reduceAdd, Nat.reduceSub, Nat.reduceEqDiff, Nat.reduceLeDiff, if_true, if_false, reduceCtorEq, List.nodup_nil, Bool.false_eq_true, Bool.not_true, Bool.not_false, Bool.true_and, Bool.false_and, Bool.and_true, Bool.and_false, ↓reduceIte, id_eq, List.tail_cons, Nat.zero_add, List.all_cons, List.all_nil, ne_eq, not_false_eq_true, and_self, and_true, true_and, Ew.dsp1_at, Ew.key_i, Ew.swapNew_at, Ew.rng2_at, Ew.rngD_at, Ew.putP_dc, Ew.dc_at, Ew.din_at, Ew.dput_at, Ew.fnD_at, Ew.retGet_at, Ew.sortD_at, Ew.ext_at, Ew.L_at, Ew.LIx_at, Ew.Sc_at, Ew.callL_at, Ew.opNil_at, Ew.sv_i, Ew.oo_at, Ew.appO_at, Ew.sub2_at, Ew.fnL_at, Ew.subAppL_at, Ew.lcO_at, Ew.walk_at, Bool.true_xor, Bool.false_xor
, e, Gd.aug_at, Gd.fzAt_s, aug_S1 hu2]
def somes : List D := [.none, .bool true, .int 1, .int 0, .list [], .list [.str "a"], .tuple [.str "a"], .str "", .str "hand", .str "side", .str "hands", .str "p0", .str "A"]
def odds : List D := [.str "A", .str " ", .str "_", .str "-", .str "\n", .str ":", .str "Z", .str "~", .str ";"]
theorem somes_ok : ∀ d ∈ somes, Asked d := by
  intro d hd
  simp only [somes, List.mem_cons, List.not_mem_nil, or_false] at hd
  rcases hd with rfl | rfl | rfl | rfl | rfl | rfl | rfl | rfl | rfl | rfl | rfl | rfl | rfl <;> first | exact asked_s _ (by decide +kernel) | exact .inl (by decide)
theorem odds_ok : ∀ d ∈ odds, ∃ t : List Nat, d = .str (S t) ∧ t.length ≤ 10 ∧ low t := by
  have key : ∀ x : Str, (decide (x.cps.toList.length ≤ 10) && x.cps.toList.all fun c => decide (c < 55296)) = true → ∃ t : List Nat, PyData.str x = .str (S t) ∧ t.length ≤ 10 ∧ low t := fun x h => by
    rw [Bool.and_eq_true] at h
    exact ⟨x.cps.toList, by rw [show S x.cps.toList = x from S_tl x], of_decide_eq_true h.1, fun c hc => of_decide_eq_true (List.all_eq_true.mp h.2 c hc)⟩
  intro d hd
  simp only [odds, List.mem_cons, List.not_mem_nil, or_false] at hd
  rcases hd with rfl | rfl | rfl | rfl | rfl | rfl | rfl | rfl | rfl <;> exact key _ (by decide +kernel)
theorem v_value (a b : Int) : ∃ (d : D) (a' b' : Int), Asked d ∧ val f__law_value [.ln [.int a, .int b]] = some (.fz d, [some (.ln [.int a', .int b'])]) := by
  obtain ⟨w, a1, b1, w0, w1, e1⟩ := v_draw a b 4 (by decide) (by decide)
  by_cases hw : w = 0
  · subst hw
    obtain ⟨d, a2, b2, hd, e2⟩ := v_pickD a1 b1 somes (by decide) (by decide)
    refine ⟨d, a2, b2, somes_ok d hd, ?_⟩
    unfold somes at e2
    unfold val f__law_value m__law_value
    simp -implicitDefEqProofs only [Ev.nd1, Ev.nd2, Ev.lent_fz, Ev.lent_ow, Ev.lent_oo, Ev.lent_mx, Ev.lent_ln, Ev.lent_nil, Ev.back_nil, Ev.back_tm, Ev.back_sl, Ev.runM_at, Ev.start_at, Ev.seq_at, Ev.pass_at, Ev.brk_at, Ev.cnt_at, Ev.ret_at, Ev.retN_at, Ev.asg_at, Ev.if_at, Ev.drop_at, Ev.tgt_at, Ev.tup_at, Ev.for_at, Ev.P_at, Ev.F_at, Ev.var_at, Ev.c_at, Ev.op_at, Ev.opF_at, Ev.call_at, Ev.call1_at, Ev.un_at, Ev.isi_at, Ev.nil_at, Ev.cons_at, Ev.aNil_at, Ev.aCons_at, Ev.lst_at', Ev.tupE_at, Ev.mix_at, Ev.t_at, Ev.tru_at, Ev.and_at, Ev.or_at, Ev.not_at, Ev.andV_at, Ev.orV_at, Ev.notV_at, Ev.if2_at, Ev.ix_at', Ev.no_at, Ev.yes_at, Ev.sl_at, Ev.rep_at, Ev.fn_at, Ev.fnK_at, Ev.seqL_at, Ev.seqT_at, Ev.enum_at, Ev.zip_at, Ec.rng1_D, Ec.lr1_D, Ev.lc_at, Ev.lcE_at, Ev.yesT_at, Ev.meth_at, Ev.idx_at, Ev.subApp_at, Ev.sortSet_at, Ev.hName_at, Ev.hNil_at, Ev.hCons_at, Ev.hTup_at, Ev.hSub_at, Ev.turns_nil, Ev.force_fz, Ev.force_ow, Ev.force_oo, Ev.force_mx, Ev.force_sl, Ev.norm_fz, Ev.norm_ow, Ev.norm_sl, Ev.argO_sl, Ev.own_at, Ev.setOwn_at, Ev.flatF, Ev.flatO, Ev.flatL, Ev.data_tm, Ev.data_sl, Ev.toD_fz, Ev.toD_ow, Ev.toD_ln, Ev.toD_oo, Ev.toD_mx, Ev.flat_fz, Ev.flat_ow, Ev.flat_sl, Ev.retP_fz, Ev.retP_ow, Ev.retP_oo, Ev.retP_sl, Ev.putP_fz, Ev.putP_ow, Ev.putP_oo, Ev.putP_mx, Ev.putP_sl, Ev.noLn_at, Ev.argOs_nil, Ev.argOs_cons, Ev.argO_fz, Ev.argO_ow, Ev.slots_nil, Ev.slots_tm, Ev.slots_sl, Ev.bOf_b, Ev.ownP_fz, Ev.ownP_ow, Ev.ownP_sl, Ev.ownPs_nil, Ev.ownPs_cons, Ev.putAll_nil, Ev.putAll_cons, Ev.mixI_nil, Ev.mixI_fz, Ev.mixI_ow, Ev.mixI_oo, Ev.ixD_list, Ev.ixD_tup, Ev.atI_0, Ev.atI_1, Ev.ixN_0, Ev.ixN_1, Ev.gt_ii, Ev.ge_ii, Ev.lt_ii, Ev.le_ii, Ev.add_ii, Ev.add_ll, Ev.sub_ii, Ev.mul_ii, Ev.fdv_ii, Ev.mod_ii, Ev.neg_i, Ev.int_i, Ev.abs_i, Ev.max2_ii, Ev.dvm_ii, Ev.len_l, Ev.len_t, Ev.listO_l, Ev.tupO_l, Ev.ints_map, Ev.intsD_map, Ev.sorted_l, Ev.sl_list, List.map_cons, List.map_nil, List.length_cons, List.length_nil, List.replicate_succ, List.replicate_zero, List.append_nil, List.nil_append, List.cons_append, List.getElem?_cons_zero, List.getElem?_cons_succ, List.getElem?_nil, List.set_cons_zero, List.set_cons_succ, List.set_nil, Option.bind_some, Option.bind_none, Option.map_some, Option.map_none, Nat.reduceAdd, Nat.reduceSub, Nat.reduceEqDiff, Nat.reduceLeDiff, if_true, if_false, reduceCtorEq, List.nodup_nil, Bool.false_eq_true, Bool.not_true, Bool.not_false, Bool.true_and, Bool.false_and, Bool.and_true, Bool.and_false, ↓reduceIte, id_eq, List.tail_cons, Nat.zero_add, List.all_cons, List.all_nil, ne_eq, not_false_eq_true, and_self, and_true, true_and, Ew.dsp1_at, Ew.key_i, Ew.swapNew_at, Ew.rng2_at, Ew.rngD_at, Ew.putP_dc, Ew.dc_at, Ew.din_at, Ew.dput_at, Ew.fnD_at, Ew.retGet_at, Ew.sortD_at, Ew.ext_at, Ew.L_at, Ew.LIx_at, Ew.Sc_at, Ew.callL_at, Ew.opNil_at, Ew.sv_i, Ew.oo_at, Ew.appO_at, Ew.sub2_at, Ew.fnL_at, Ew.subAppL_at, Ew.lcO_at, Ew.walk_at, Bool.true_xor, Bool.false_xor
, e1, Ec.eq_ii, decide_true, (by decide : 0 ≤ sizeLine), (by decide : 1 ≤ sizeLine), (by decide : 13 ≤ sizeLine), e2]
  · obtain ⟨n, a2, b2, n0, n1, e2⟩ := v_draw a1 b1 11 (by decide) (by decide)
    obtain ⟨u, a3, b3, x4, q1, q2, i⟩ := name_turns (.int w) n.toNat 0 [] a2 b2 none (by simp; omega) (fun c hc => by simp at hc) (.inl rfl)
    simp at q1
    obtain ⟨j, a4, b4, j0, j1, e3⟩ := v_draw a3 b3 ((u.length : Nat) + 1) (by omega) (by omega)
    obtain ⟨d, a5, b5, hd, e4⟩ := v_pickD a4 b4 odds (by decide) (by decide)
    obtain ⟨o, rfl, ho1, ho2⟩ := odds_ok d hd
    unfold odds at e4
    have hz : (S u).length ≤ sizeLine := by rw [S_len, sizeLine_eq]; omega
    have rk : rngD [.int n] = some (rangeD 0 n.toNat) := Ec.rngD_of (Ec.rgOk_of (by omega) (by omega))
    have t1 : (u.take j.toNat).length ≤ u.length := by rw [List.length_take]; omega
    have t2 : (u.drop j.toNat).length ≤ u.length := by rw [List.length_drop]; omega
    by_cases h1 : w = 1
    · refine ⟨.str (S (u.take j.toNat ++ o ++ u.drop j.toNat)), a5, b5, .inr ⟨_, rfl, by simp; omega, fun c hc => ?_⟩, ?_⟩
      · rcases List.mem_append.mp hc with m | m
        · rcases List.mem_append.mp m with m | m
          · exact q2 c (List.mem_of_mem_take m)
          · exact ho2 c m
        · exact q2 c (List.mem_of_mem_drop m)
      · subst h1
        unfold val f__law_value m__law_value
        simp -implicitDefEqProofs only [Ev.nd1, Ev.nd2, Ev.lent_fz, Ev.lent_ow, Ev.lent_oo, Ev.lent_mx, Ev.lent_ln, Ev.lent_nil, Ev.back_nil, Ev.back_tm, Ev.back_sl, Ev.runM_at, Ev.start_at, Ev.seq_at, Ev.pass_at, Ev.brk_at, Ev.cnt_at, Ev.ret_at, Ev.retN_at, Ev.asg_at, Ev.if_at, Ev.drop_at, Ev.tgt_at, Ev.tup_at, Ev.for_at, Ev.P_at, Ev.F_at, Ev.var_at, Ev.c_at, Ev.op_at, Ev.opF_at, Ev.call_at, Ev.call1_at, Ev.un_at, Ev.isi_at, Ev.nil_at, Ev.cons_at, Ev.aNil_at, Ev.aCons_at, Ev.lst_at', Ev.tupE_at, Ev.mix_at, Ev.t_at, Ev.tru_at, Ev.and_at, Ev.or_at, Ev.not_at, Ev.andV_at, Ev.orV_at, Ev.notV_at, Ev.if2_at, Ev.ix_at', Ev.no_at, Ev.yes_at, Ev.sl_at, Ev.rep_at, Ev.fn_at, Ev.fnK_at, Ev.seqL_at, Ev.seqT_at, Ev.enum_at, Ev.zip_at, Ec.rng1_D, Ec.lr1_D, Ev.lc_at, Ev.lcE_at, Ev.yesT_at, Ev.meth_at, Ev.idx_at, Ev.subApp_at, Ev.sortSet_at, Ev.hName_at, Ev.hNil_at, Ev.hCons_at, Ev.hTup_at, Ev.hSub_at, Ev.turns_nil, Ev.force_fz, Ev.force_ow, Ev.force_oo, Ev.force_mx, Ev.force_sl, Ev.norm_fz, Ev.norm_ow, Ev.norm_sl, Ev.argO_sl, Ev.own_at, Ev.setOwn_at, Ev.flatF, Ev.flatO, Ev.flatL, Ev.data_tm, Ev.data_sl, Ev.toD_fz, Ev.toD_ow, Ev.toD_ln, Ev.toD_oo, Ev.toD_mx, Ev.flat_fz, Ev.flat_ow, Ev.flat_sl, Ev.retP_fz, Ev.retP_ow, Ev.retP_oo, Ev.retP_sl, Ev.putP_fz, Ev.putP_ow, Ev.putP_oo, Ev.putP_mx, Ev.putP_sl, Ev.noLn_at, Ev.argOs_nil, Ev.argOs_cons, Ev.argO_fz, Ev.argO_ow, Ev.slots_nil, Ev.slots_tm, Ev.slots_sl, Ev.bOf_b, Ev.ownP_fz, Ev.ownP_ow, Ev.ownP_sl, Ev.ownPs_nil, Ev.ownPs_cons, Ev.putAll_nil, Ev.putAll_cons, Ev.mixI_nil, Ev.mixI_fz, Ev.mixI_ow, Ev.mixI_oo, Ev.ixD_list, Ev.ixD_tup, Ev.atI_0, Ev.atI_1, Ev.ixN_0, Ev.ixN_1, Ev.gt_ii, Ev.ge_ii, Ev.lt_ii, Ev.le_ii, Ev.add_ii, Ev.add_ll, Ev.sub_ii, Ev.mul_ii, Ev.fdv_ii, Ev.mod_ii, Ev.neg_i, Ev.int_i, Ev.abs_i, Ev.max2_ii, Ev.dvm_ii, Ev.len_l, Ev.len_t, Ev.listO_l, Ev.tupO_l, Ev.ints_map, Ev.intsD_map, Ev.sorted_l, Ev.sl_list, List.map_cons, List.map_nil, List.length_cons, List.length_nil, List.replicate_succ, List.replicate_zero, List.append_nil, List.nil_append, List.cons_append, List.getElem?_cons_zero, List.getElem?_cons_succ, List.getElem?_nil, List.set_cons_zero, List.set_cons_succ, List.set_nil, Option.bind_some, Option.bind_none, Option.map_some, Option.map_none, Nat.reduceAdd, Nat.reduceSub, Nat.reduceEqDiff, Nat.reduceLeDiff, if_true, if_false, reduceCtorEq, List.nodup_nil, Bool.false_eq_true, Bool.not_true, Bool.not_false, Bool.true_and, Bool.false_and, Bool.and_true, Bool.and_false, ↓reduceIte, id_eq, List.tail_cons, Nat.zero_add, List.all_cons, List.all_nil, ne_eq, not_false_eq_true, and_self, and_true, true_and, Ew.dsp1_at, Ew.key_i, Ew.swapNew_at, Ew.rng2_at, Ew.rngD_at, Ew.putP_dc, Ew.dc_at, Ew.din_at, Ew.dput_at, Ew.fnD_at, Ew.retGet_at, Ew.sortD_at, Ew.ext_at, Ew.L_at, Ew.LIx_at, Ew.Sc_at, Ew.callL_at, Ew.opNil_at, Ew.sv_i, Ew.oo_at, Ew.appO_at, Ew.sub2_at, Ew.fnL_at, Ew.subAppL_at, Ew.lcO_at, Ew.walk_at, Bool.true_xor, Bool.false_xor
, e1, e2, e3, e4, i, Ec.eq_ii, hw, decide_true, decide_false, cs_no, rk, len_s (show u.length ≤ 1000 by omega), (by decide : 9 ≤ sizeLine), eSlS, hz, SX.slice_to j0, SX.slice_from j0, add_S (show (u.take j.toNat).length + o.length ≤ 4000 by omega), add_S (show (u.take j.toNat ++ o).length + (u.drop j.toNat).length ≤ 4000 by simp; omega)]
    · refine ⟨.str (S u), a5, b5, .inr ⟨_, rfl, by omega, q2⟩, ?_⟩
      unfold val f__law_value m__law_value
      simp -implicitDefEqProofs only [Ev.nd1, Ev.nd2, Ev.lent_fz, Ev.lent_ow, Ev.lent_oo, Ev.lent_mx, Ev.lent_ln, Ev.lent_nil, Ev.back_nil, Ev.back_tm, Ev.back_sl, Ev.runM_at, Ev.start_at, Ev.seq_at, Ev.pass_at, Ev.brk_at, Ev.cnt_at, Ev.ret_at, Ev.retN_at, Ev.asg_at, Ev.if_at, Ev.drop_at, Ev.tgt_at, Ev.tup_at, Ev.for_at, Ev.P_at, Ev.F_at, Ev.var_at, Ev.c_at, Ev.op_at, Ev.opF_at, Ev.call_at, Ev.call1_at, Ev.un_at, Ev.isi_at, Ev.nil_at, Ev.cons_at, Ev.aNil_at, Ev.aCons_at, Ev.lst_at', Ev.tupE_at, Ev.mix_at, Ev.t_at, Ev.tru_at, Ev.and_at, Ev.or_at, Ev.not_at, Ev.andV_at, Ev.orV_at, Ev.notV_at, Ev.if2_at, Ev.ix_at', Ev.no_at, Ev.yes_at, Ev.sl_at, Ev.rep_at, Ev.fn_at, Ev.fnK_at, Ev.seqL_at, Ev.seqT_at, Ev.enum_at, Ev.zip_at, Ec.rng1_D, Ec.lr1_D, Ev.lc_at, Ev.lcE_at, Ev.yesT_at, Ev.meth_at, Ev.idx_at, Ev.subApp_at, Ev.sortSet_at, Ev.hName_at, Ev.hNil_at, Ev.hCons_at, Ev.hTup_at, Ev.hSub_at, Ev.turns_nil, Ev.force_fz, Ev.force_ow, Ev.force_oo, Ev.force_mx, Ev.force_sl, Ev.norm_fz, Ev.norm_ow, Ev.norm_sl, Ev.argO_sl, Ev.own_at, Ev.setOwn_at, Ev.flatF, Ev.flatO, Ev.flatL, Ev.data_tm, Ev.data_sl, Ev.toD_fz, Ev.toD_ow, Ev.toD_ln, Ev.toD_oo, Ev.toD_mx, Ev.flat_fz, Ev.flat_ow, Ev.flat_sl, Ev.retP_fz, Ev.retP_ow, Ev.retP_oo, Ev.retP_sl, Ev.putP_fz, Ev.putP_ow, Ev.putP_oo, Ev.putP_mx, Ev.putP_sl, Ev.noLn_at, Ev.argOs_nil, Ev.argOs_cons, Ev.argO_fz, Ev.argO_ow, Ev.slots_nil, Ev.slots_tm, Ev.slots_sl, Ev.bOf_b, Ev.ownP_fz, Ev.ownP_ow, Ev.ownP_sl, Ev.ownPs_nil, Ev.ownPs_cons, Ev.putAll_nil, Ev.putAll_cons, Ev.mixI_nil, Ev.mixI_fz, Ev.mixI_ow, Ev.mixI_oo, Ev.ixD_list, Ev.ixD_tup, Ev.atI_0, Ev.atI_1, Ev.ixN_0, Ev.ixN_1, Ev.gt_ii, Ev.ge_ii, Ev.lt_ii, Ev.le_ii, Ev.add_ii, Ev.add_ll, Ev.sub_ii, Ev.mul_ii, Ev.fdv_ii, Ev.mod_ii, Ev.neg_i, Ev.int_i, Ev.abs_i, Ev.max2_ii, Ev.dvm_ii, Ev.len_l, Ev.len_t, Ev.listO_l, Ev.tupO_l, Ev.ints_map, Ev.intsD_map, Ev.sorted_l, Ev.sl_list, List.map_cons, List.map_nil, List.length_cons, List.length_nil, List.replicate_succ, List.replicate_zero, List.append_nil, List.nil_append, List.cons_append, List.getElem?_cons_zero, List.getElem?_cons_succ, List.getElem?_nil, List.set_cons_zero, List.set_cons_succ, List.set_nil, Option.bind_some, Option.bind_none, Option.map_some, Option.map_none, Nat.reduceAdd, Nat.reduceSub, Nat.reduceEqDiff, Nat.reduceLeDiff, if_true, if_false, reduceCtorEq, List.nodup_nil, Bool.false_eq_true, Bool.not_true, Bool.not_false, Bool.true_and, Bool.false_and, Bool.and_true, Bool.and_false, ↓reduceIte, id_eq, List.tail_cons, Nat.zero_add, List.all_cons, List.all_nil, ne_eq, not_false_eq_true, and_self, and_true, true_and, Ew.dsp1_at, Ew.key_i, Ew.swapNew_at, Ew.rng2_at, Ew.rngD_at, Ew.putP_dc, Ew.dc_at, Ew.din_at, Ew.dput_at, Ew.fnD_at, Ew.retGet_at, Ew.sortD_at, Ew.ext_at, Ew.L_at, Ew.LIx_at, Ew.Sc_at, Ew.callL_at, Ew.opNil_at, Ew.sv_i, Ew.oo_at, Ew.appO_at, Ew.sub2_at, Ew.fnL_at, Ew.subAppL_at, Ew.lcO_at, Ew.walk_at, Bool.true_xor, Bool.false_xor
, e1, e2, e3, e4, i, Ec.eq_ii, hw, h1, decide_true, decide_false, cs_no, rk, len_s (show u.length ≤ 1000 by omega), (by decide : 9 ≤ sizeLine)]
theorem v_nr (a b : Int) : ∃ a' b' : Int, val f__law_name_right [.ln [.int a, .int b]] = some (.fz (.bool true), [some (.ln [.int a', .int b'])]) := by
  obtain ⟨d, a', b', hd, e⟩ := v_value a b
  have both : ∃ c : Bool, val f_is_part_name [.fz d] = some (.fz (.bool c), [none]) ∧ val f__law_is_name [.fz d] = some (.fz (.bool c), [none]) := by
    rcases hd with h | ⟨t, rfl, h1, h2⟩
    · exact ⟨false, v_ipn_no d h, v_lin_no d h⟩
    · exact ⟨nameB t, v_ipn t h1 h2, v_lin t h1 h2⟩
  obtain ⟨c, e1, e2⟩ := both
  have er : reprD (.bool c) = some (.str (PyData.shown (.bool c))) := sz_b.repr (by decide) (by decide)
  refine ⟨a', b', ?_⟩
  unfold val f__law_name_right m__law_name_right
  simp -implicitDefEqProofs only [Ev.nd1, Ev.nd2, Ev.lent_fz, Ev.lent_ow, Ev.lent_oo, Ev.lent_mx, Ev.lent_ln, Ev.lent_nil, Ev.back_nil, Ev.back_tm, Ev.back_sl, Ev.runM_at, Ev.start_at, Ev.seq_at, Ev.pass_at, Ev.brk_at, Ev.cnt_at, Ev.ret_at, Ev.retN_at, Ev.asg_at, Ev.if_at, Ev.drop_at, Ev.tgt_at, Ev.tup_at, Ev.for_at, Ev.P_at, Ev.F_at, Ev.var_at, Ev.c_at, Ev.op_at, Ev.opF_at, Ev.call_at, Ev.call1_at, Ev.un_at, Ev.isi_at, Ev.nil_at, Ev.cons_at, Ev.aNil_at, Ev.aCons_at, Ev.lst_at', Ev.tupE_at, Ev.mix_at, Ev.t_at, Ev.tru_at, Ev.and_at, Ev.or_at, Ev.not_at, Ev.andV_at, Ev.orV_at, Ev.notV_at, Ev.if2_at, Ev.ix_at', Ev.no_at, Ev.yes_at, Ev.sl_at, Ev.rep_at, Ev.fn_at, Ev.fnK_at, Ev.seqL_at, Ev.seqT_at, Ev.enum_at, Ev.zip_at, Ec.rng1_D, Ec.lr1_D, Ev.lc_at, Ev.lcE_at, Ev.yesT_at, Ev.meth_at, Ev.idx_at, Ev.subApp_at, Ev.sortSet_at, Ev.hName_at, Ev.hNil_at, Ev.hCons_at, Ev.hTup_at, Ev.hSub_at, Ev.turns_nil, Ev.force_fz, Ev.force_ow, Ev.force_oo, Ev.force_mx, Ev.force_sl, Ev.norm_fz, Ev.norm_ow, Ev.norm_sl, Ev.argO_sl, Ev.own_at, Ev.setOwn_at, Ev.flatF, Ev.flatO, Ev.flatL, Ev.data_tm, Ev.data_sl, Ev.toD_fz, Ev.toD_ow, Ev.toD_ln, Ev.toD_oo, Ev.toD_mx, Ev.flat_fz, Ev.flat_ow, Ev.flat_sl, Ev.retP_fz, Ev.retP_ow, Ev.retP_oo, Ev.retP_sl, Ev.putP_fz, Ev.putP_ow, Ev.putP_oo, Ev.putP_mx, Ev.putP_sl, Ev.noLn_at, Ev.argOs_nil, Ev.argOs_cons, Ev.argO_fz, Ev.argO_ow, Ev.slots_nil, Ev.slots_tm, Ev.slots_sl, Ev.bOf_b, Ev.ownP_fz, Ev.ownP_ow, Ev.ownP_sl, Ev.ownPs_nil, Ev.ownPs_cons, Ev.putAll_nil, Ev.putAll_cons, Ev.mixI_nil, Ev.mixI_fz, Ev.mixI_ow, Ev.mixI_oo, Ev.ixD_list, Ev.ixD_tup, Ev.atI_0, Ev.atI_1, Ev.ixN_0, Ev.ixN_1, Ev.gt_ii, Ev.ge_ii, Ev.lt_ii, Ev.le_ii, Ev.add_ii, Ev.add_ll, Ev.sub_ii, Ev.mul_ii, Ev.fdv_ii, Ev.mod_ii, Ev.neg_i, Ev.int_i, Ev.abs_i, Ev.max2_ii, Ev.dvm_ii, Ev.len_l, Ev.len_t, Ev.listO_l, Ev.tupO_l, Ev.ints_map, Ev.intsD_map, Ev.sorted_l, Ev.sl_list, List.map_cons, List.map_nil, List.length_cons, List.length_nil, List.replicate_succ, List.replicate_zero, List.append_nil, List.nil_append, List.cons_append, List.getElem?_cons_zero, List.getElem?_cons_succ, List.getElem?_nil, List.set_cons_zero, List.set_cons_succ, List.set_nil, Option.bind_some, Option.bind_none, Option.map_some, Option.map_none, Nat.reduceAdd, Nat.reduceSub, Nat.reduceEqDiff, Nat.reduceLeDiff, if_true, if_false, reduceCtorEq, List.nodup_nil, Bool.false_eq_true, Bool.not_true, Bool.not_false, Bool.true_and, Bool.false_and, Bool.and_true, Bool.and_false, ↓reduceIte, id_eq, List.tail_cons, Nat.zero_add, List.all_cons, List.all_nil, ne_eq, not_false_eq_true, and_self, and_true, true_and, Ew.dsp1_at, Ew.key_i, Ew.swapNew_at, Ew.rng2_at, Ew.rngD_at, Ew.putP_dc, Ew.dc_at, Ew.din_at, Ew.dput_at, Ew.fnD_at, Ew.retGet_at, Ew.sortD_at, Ew.ext_at, Ew.L_at, Ew.LIx_at, Ew.Sc_at, Ew.callL_at, Ew.opNil_at, Ew.sv_i, Ew.oo_at, Ew.appO_at, Ew.sub2_at, Ew.fnL_at, Ew.subAppL_at, Ew.lcO_at, Ew.walk_at, Bool.true_xor, Bool.false_xor
, e, e1, e2, er, Ec.ne_same, Ec.eq_same, Gd.pmI_n, Gd.pmI_c, Gd.pm1_s]
end K25
end
section
set_option Elab.async false
set_option linter.all false
set_option maxRecDepth 100000
set_option maxHeartbeats 8000000
namespace K25
open PySem PySem.Spec PyProof.Rows L2 Vi Vf Vo Vp Vs Vt Vu Vv Vg Vw Vx Vy Va Vb Vc Vk Vm Vl Vn Vd Vq Vr Vj Vfr Ev Ec Mo Ew Gd Gx Gy Gt Rk Vxt Vxr
open SX (S S_cat S_len S_tl S_inj)
theorem kit_tuple {d : D} (h : d.hasDict = false) : isiD "tuple" d = some (.bool (match d with | .tuple _ => true | _ => false)) := by
  cases d <;> first | (simp [PyData.hasDict] at h; done) | (unfold isiD tyName; rw [show kitB _ "tuple" = some _ by kernel_rfl]; rfl)
theorem back_sn {i : Nat} {ps : List P} {us : List (Option O)} {δ : Δ} : backΔ (.sl i :: ps) (none :: us) δ = backΔ ps us δ := rfl
/-- a value that own_names refuses -/
inductive Bad : D → Prop where
  | none : Bad .none
  | bool (b : Bool) : Bad (.bool b)
  | str (x : Str) (h : x.cps.size ≤ 10) (h2 : ∀ c ∈ x.cps.toList, c < 55296) : Bad (.str x)
  | nil : Bad (.list [])
  | int (n : Int) (h : ¬ (0 ≤ n ∧ n ≤ 24)) (h2 : n.natAbs < 10 ^ 39) : Bad (.int n)
theorem Bad.sz {d : D} (h : Bad d) : Sz 1 10 d := by
  cases h with
  | none => exact sz_n.up (by decide) (by decide)
  | bool b => exact sz_b.up (by decide) (by decide)
  | str x h h2 => exact (sz_s h (by decide) h2).up (by decide) (by decide)
  | nil => exact (sz_list szs_nil).up (by decide) (by decide)
  | int n h h2 => exact (sz_i h2).up (by decide) (by decide)
theorem v_kept {d : D} (h : Bad d) : ∃ o, val f_kept [.fz d] = some (o, [none]) ∧ (o = .fz d ∨ (d = .list [] ∧ o = .ow [])) := by
  have hd := h.sz.nd
  have e1 := Ec.kit_list hd
  have e2 := kit_tuple hd
  unfold f_kept r_kept val
  unfold m_kept
  cases h with
  | nil => exact ⟨.ow [], by simp -implicitDefEqProofs only [Ev.nd1, Ev.nd2, Ev.lent_fz, Ev.lent_ow, Ev.lent_oo, Ev.lent_mx, Ev.lent_ln, Ev.lent_nil, Ev.back_nil, Ev.back_tm, Ev.back_sl, Ev.runM_at, Ev.start_at, Ev.seq_at, Ev.pass_at, Ev.brk_at, Ev.cnt_at, Ev.ret_at, Ev.retN_at, Ev.asg_at, Ev.if_at, Ev.drop_at, Ev.tgt_at, Ev.tup_at, Ev.for_at, Ev.P_at, Ev.F_at, Ev.var_at, Ev.c_at, Ev.op_at, Ev.opF_at, Ev.call_at, Ev.call1_at, Ev.un_at, Ev.isi_at, Ev.nil_at, Ev.cons_at, Ev.aNil_at, Ev.aCons_at, Ev.lst_at', Ev.tupE_at, Ev.mix_at, Ev.t_at, Ev.tru_at, Ev.and_at, Ev.or_at, Ev.not_at, Ev.andV_at, Ev.orV_at, Ev.notV_at, Ev.if2_at, Ev.ix_at', Ev.no_at, Ev.yes_at, Ev.sl_at, Ev.rep_at, Ev.fn_at, Ev.fnK_at, Ev.seqL_at, Ev.seqT_at, Ev.enum_at, Ev.zip_at, Ec.rng1_D, Ec.lr1_D, Ev.lc_at, Ev.lcE_at, Ev.yesT_at, Ev.meth_at, Ev.idx_at, Ev.subApp_at, Ev.sortSet_at, Ev.hName_at, Ev.hNil_at, Ev.hCons_at, Ev.hTup_at, Ev.hSub_at, Ev.turns_nil, Ev.force_fz, Ev.force_ow, Ev.force_oo, Ev.force_mx, Ev.force_sl, Ev.norm_fz, Ev.norm_ow, Ev.norm_sl, Ev.argO_sl, Ev.own_at, Ev.setOwn_at, Ev.flatF, Ev.flatO, Ev.flatL, Ev.data_tm, Ev.data_sl, Ev.toD_fz, Ev.toD_ow, Ev.toD_ln, Ev.toD_oo, Ev.toD_mx, Ev.flat_fz, Ev.flat_ow, Ev.flat_sl, Ev.retP_fz, Ev.retP_ow, Ev.retP_oo, Ev.retP_sl, Ev.putP_fz, Ev.putP_ow, Ev.putP_oo, Ev.putP_mx, Ev.putP_sl, Ev.noLn_at, Ev.argOs_nil, Ev.argOs_cons, Ev.argO_fz, Ev.argO_ow, Ev.slots_nil, Ev.slots_tm, Ev.slots_sl, Ev.bOf_b, Ev.ownP_fz, Ev.ownP_ow, Ev.ownP_sl, Ev.ownPs_nil, Ev.ownPs_cons, Ev.putAll_nil, Ev.putAll_cons, Ev.mixI_nil, Ev.mixI_fz, Ev.mixI_ow, Ev.mixI_oo, Ev.ixD_list, Ev.ixD_tup, Ev.atI_0, Ev.atI_1, Ev.ixN_0, Ev.ixN_1, Ev.gt_ii, Ev.ge_ii, Ev.lt_ii, Ev.le_ii, Ev.add_ii, Ev.add_ll, Ev.sub_ii, Ev.mul_ii, Ev.fdv_ii, Ev.mod_ii, Ev.neg_i, Ev.int_i, Ev.abs_i, Ev.max2_ii, Ev.dvm_ii, Ev.len_l, Ev.len_t, Ev.listO_l, Ev.tupO_l, Ev.ints_map, Ev.intsD_map, Ev.sorted_l, Ev.sl_list, List.map_cons, List.map_nil, List.length_cons, List.length_nil, List.replicate_succ, List.replicate_zero, List.append_nil, List.nil_append, List.cons_append, List.getElem?_cons_zero, List.getElem?_cons_succ, List.getElem?_nil, List.set_cons_zero, List.set_cons_succ, List.set_nil, Option.bind_some, Option.bind_none, Option.map_some, Option.map_none, Nat.reduceAdd, Nat.reduceSub, Nat.reduceEqDiff, Nat.reduceLeDiff, if_true, if_false, reduceCtorEq, List.nodup_nil, Bool.false_eq_true, Bool.not_true, Bool.not_false, Bool.true_and, Bool.false_and, Bool.and_true, Bool.and_false, ↓reduceIte, id_eq, List.tail_cons, Nat.zero_add, List.all_cons, List.all_nil, ne_eq, not_false_eq_true, and_self, and_true, true_and, Ew.dsp1_at, Ew.key_i, Ew.swapNew_at, Ew.rng2_at, Ew.rngD_at, Ew.putP_dc, Ew.dc_at, Ew.din_at, Ew.dput_at, Ew.fnD_at, Ew.retGet_at, Ew.sortD_at, Ew.ext_at, Ew.L_at, Ew.LIx_at, Ew.Sc_at, Ew.callL_at, Ew.opNil_at, Ew.sv_i, Ew.oo_at, Ew.appO_at, Ew.sub2_at, Ew.fnL_at, Ew.subAppL_at, Ew.lcO_at, Ew.walk_at, Bool.true_xor, Bool.false_xor
, e1, isList, lcGo, okv, Ec.wipe_nil, Ec.wipe_cons, Ec.rest_nil, Ec.rest_cons, (by decide : 0 ≤ sizeLine)], .inr ⟨rfl, rfl⟩⟩
  | none => exact ⟨.fz .none, by simp -implicitDefEqProofs only [Ev.nd1, Ev.nd2, Ev.lent_fz, Ev.lent_ow, Ev.lent_oo, Ev.lent_mx, Ev.lent_ln, Ev.lent_nil, Ev.back_nil, Ev.back_tm, Ev.back_sl, Ev.runM_at, Ev.start_at, Ev.seq_at, Ev.pass_at, Ev.brk_at, Ev.cnt_at, Ev.ret_at, Ev.retN_at, Ev.asg_at, Ev.if_at, Ev.drop_at, Ev.tgt_at, Ev.tup_at, Ev.for_at, Ev.P_at, Ev.F_at, Ev.var_at, Ev.c_at, Ev.op_at, Ev.opF_at, Ev.call_at, Ev.call1_at, Ev.un_at, Ev.isi_at, Ev.nil_at, Ev.cons_at, Ev.aNil_at, Ev.aCons_at, Ev.lst_at', Ev.tupE_at, Ev.mix_at, Ev.t_at, Ev.tru_at, Ev.and_at, Ev.or_at, Ev.not_at, Ev.andV_at, Ev.orV_at, Ev.notV_at, Ev.if2_at, Ev.ix_at', Ev.no_at, Ev.yes_at, Ev.sl_at, Ev.rep_at, Ev.fn_at, Ev.fnK_at, Ev.seqL_at, Ev.seqT_at, Ev.enum_at, Ev.zip_at, Ec.rng1_D, Ec.lr1_D, Ev.lc_at, Ev.lcE_at, Ev.yesT_at, Ev.meth_at, Ev.idx_at, Ev.subApp_at, Ev.sortSet_at, Ev.hName_at, Ev.hNil_at, Ev.hCons_at, Ev.hTup_at, Ev.hSub_at, Ev.turns_nil, Ev.force_fz, Ev.force_ow, Ev.force_oo, Ev.force_mx, Ev.force_sl, Ev.norm_fz, Ev.norm_ow, Ev.norm_sl, Ev.argO_sl, Ev.own_at, Ev.setOwn_at, Ev.flatF, Ev.flatO, Ev.flatL, Ev.data_tm, Ev.data_sl, Ev.toD_fz, Ev.toD_ow, Ev.toD_ln, Ev.toD_oo, Ev.toD_mx, Ev.flat_fz, Ev.flat_ow, Ev.flat_sl, Ev.retP_fz, Ev.retP_ow, Ev.retP_oo, Ev.retP_sl, Ev.putP_fz, Ev.putP_ow, Ev.putP_oo, Ev.putP_mx, Ev.putP_sl, Ev.noLn_at, Ev.argOs_nil, Ev.argOs_cons, Ev.argO_fz, Ev.argO_ow, Ev.slots_nil, Ev.slots_tm, Ev.slots_sl, Ev.bOf_b, Ev.ownP_fz, Ev.ownP_ow, Ev.ownP_sl, Ev.ownPs_nil, Ev.ownPs_cons, Ev.putAll_nil, Ev.putAll_cons, Ev.mixI_nil, Ev.mixI_fz, Ev.mixI_ow, Ev.mixI_oo, Ev.ixD_list, Ev.ixD_tup, Ev.atI_0, Ev.atI_1, Ev.ixN_0, Ev.ixN_1, Ev.gt_ii, Ev.ge_ii, Ev.lt_ii, Ev.le_ii, Ev.add_ii, Ev.add_ll, Ev.sub_ii, Ev.mul_ii, Ev.fdv_ii, Ev.mod_ii, Ev.neg_i, Ev.int_i, Ev.abs_i, Ev.max2_ii, Ev.dvm_ii, Ev.len_l, Ev.len_t, Ev.listO_l, Ev.tupO_l, Ev.ints_map, Ev.intsD_map, Ev.sorted_l, Ev.sl_list, List.map_cons, List.map_nil, List.length_cons, List.length_nil, List.replicate_succ, List.replicate_zero, List.append_nil, List.nil_append, List.cons_append, List.getElem?_cons_zero, List.getElem?_cons_succ, List.getElem?_nil, List.set_cons_zero, List.set_cons_succ, List.set_nil, Option.bind_some, Option.bind_none, Option.map_some, Option.map_none, Nat.reduceAdd, Nat.reduceSub, Nat.reduceEqDiff, Nat.reduceLeDiff, if_true, if_false, reduceCtorEq, List.nodup_nil, Bool.false_eq_true, Bool.not_true, Bool.not_false, Bool.true_and, Bool.false_and, Bool.and_true, Bool.and_false, ↓reduceIte, id_eq, List.tail_cons, Nat.zero_add, List.all_cons, List.all_nil, ne_eq, not_false_eq_true, and_self, and_true, true_and, Ew.dsp1_at, Ew.key_i, Ew.swapNew_at, Ew.rng2_at, Ew.rngD_at, Ew.putP_dc, Ew.dc_at, Ew.din_at, Ew.dput_at, Ew.fnD_at, Ew.retGet_at, Ew.sortD_at, Ew.ext_at, Ew.L_at, Ew.LIx_at, Ew.Sc_at, Ew.callL_at, Ew.opNil_at, Ew.sv_i, Ew.oo_at, Ew.appO_at, Ew.sub2_at, Ew.fnL_at, Ew.subAppL_at, Ew.lcO_at, Ew.walk_at, Bool.true_xor, Bool.false_xor
, e1, e2, isList], .inl rfl⟩
  | bool b => exact ⟨.fz (.bool b), by simp -implicitDefEqProofs only [Ev.nd1, Ev.nd2, Ev.lent_fz, Ev.lent_ow, Ev.lent_oo, Ev.lent_mx, Ev.lent_ln, Ev.lent_nil, Ev.back_nil, Ev.back_tm, Ev.back_sl, Ev.runM_at, Ev.start_at, Ev.seq_at, Ev.pass_at, Ev.brk_at, Ev.cnt_at, Ev.ret_at, Ev.retN_at, Ev.asg_at, Ev.if_at, Ev.drop_at, Ev.tgt_at, Ev.tup_at, Ev.for_at, Ev.P_at, Ev.F_at, Ev.var_at, Ev.c_at, Ev.op_at, Ev.opF_at, Ev.call_at, Ev.call1_at, Ev.un_at, Ev.isi_at, Ev.nil_at, Ev.cons_at, Ev.aNil_at, Ev.aCons_at, Ev.lst_at', Ev.tupE_at, Ev.mix_at, Ev.t_at, Ev.tru_at, Ev.and_at, Ev.or_at, Ev.not_at, Ev.andV_at, Ev.orV_at, Ev.notV_at, Ev.if2_at, Ev.ix_at', Ev.no_at, Ev.yes_at, Ev.sl_at, Ev.rep_at, Ev.fn_at, Ev.fnK_at, Ev.seqL_at, Ev.seqT_at, Ev.enum_at, Ev.zip_at, Ec.rng1_D, Ec.lr1_D, Ev.lc_at, Ev.lcE_at, Ev.yesT_at, Ev.meth_at, Ev.idx_at, Ev.subApp_at, Ev.sortSet_at, Ev.hName_at, Ev.hNil_at, Ev.hCons_at, Ev.hTup_at, Ev.hSub_at, Ev.turns_nil, Ev.force_fz, Ev.force_ow, Ev.force_oo, Ev.force_mx, Ev.force_sl, Ev.norm_fz, Ev.norm_ow, Ev.norm_sl, Ev.argO_sl, Ev.own_at, Ev.setOwn_at, Ev.flatF, Ev.flatO, Ev.flatL, Ev.data_tm, Ev.data_sl, Ev.toD_fz, Ev.toD_ow, Ev.toD_ln, Ev.toD_oo, Ev.toD_mx, Ev.flat_fz, Ev.flat_ow, Ev.flat_sl, Ev.retP_fz, Ev.retP_ow, Ev.retP_oo, Ev.retP_sl, Ev.putP_fz, Ev.putP_ow, Ev.putP_oo, Ev.putP_mx, Ev.putP_sl, Ev.noLn_at, Ev.argOs_nil, Ev.argOs_cons, Ev.argO_fz, Ev.argO_ow, Ev.slots_nil, Ev.slots_tm, Ev.slots_sl, Ev.bOf_b, Ev.ownP_fz, Ev.ownP_ow, Ev.ownP_sl, Ev.ownPs_nil, Ev.ownPs_cons, Ev.putAll_nil, Ev.putAll_cons, Ev.mixI_nil, Ev.mixI_fz, Ev.mixI_ow, Ev.mixI_oo, Ev.ixD_list, Ev.ixD_tup, Ev.atI_0, Ev.atI_1, Ev.ixN_0, Ev.ixN_1, Ev.gt_ii, Ev.ge_ii, Ev.lt_ii, Ev.le_ii, Ev.add_ii, Ev.add_ll, Ev.sub_ii, Ev.mul_ii, Ev.fdv_ii, Ev.mod_ii, Ev.neg_i, Ev.int_i, Ev.abs_i, Ev.max2_ii, Ev.dvm_ii, Ev.len_l, Ev.len_t, Ev.listO_l, Ev.tupO_l, Ev.ints_map, Ev.intsD_map, Ev.sorted_l, Ev.sl_list, List.map_cons, List.map_nil, List.length_cons, List.length_nil, List.replicate_succ, List.replicate_zero, List.append_nil, List.nil_append, List.cons_append, List.getElem?_cons_zero, List.getElem?_cons_succ, List.getElem?_nil, List.set_cons_zero, List.set_cons_succ, List.set_nil, Option.bind_some, Option.bind_none, Option.map_some, Option.map_none, Nat.reduceAdd, Nat.reduceSub, Nat.reduceEqDiff, Nat.reduceLeDiff, if_true, if_false, reduceCtorEq, List.nodup_nil, Bool.false_eq_true, Bool.not_true, Bool.not_false, Bool.true_and, Bool.false_and, Bool.and_true, Bool.and_false, ↓reduceIte, id_eq, List.tail_cons, Nat.zero_add, List.all_cons, List.all_nil, ne_eq, not_false_eq_true, and_self, and_true, true_and, Ew.dsp1_at, Ew.key_i, Ew.swapNew_at, Ew.rng2_at, Ew.rngD_at, Ew.putP_dc, Ew.dc_at, Ew.din_at, Ew.dput_at, Ew.fnD_at, Ew.retGet_at, Ew.sortD_at, Ew.ext_at, Ew.L_at, Ew.LIx_at, Ew.Sc_at, Ew.callL_at, Ew.opNil_at, Ew.sv_i, Ew.oo_at, Ew.appO_at, Ew.sub2_at, Ew.fnL_at, Ew.subAppL_at, Ew.lcO_at, Ew.walk_at, Bool.true_xor, Bool.false_xor
, e1, e2, isList], .inl rfl⟩
  | str x _ _ => exact ⟨.fz (.str x), by simp -implicitDefEqProofs only [Ev.nd1, Ev.nd2, Ev.lent_fz, Ev.lent_ow, Ev.lent_oo, Ev.lent_mx, Ev.lent_ln, Ev.lent_nil, Ev.back_nil, Ev.back_tm, Ev.back_sl, Ev.runM_at, Ev.start_at, Ev.seq_at, Ev.pass_at, Ev.brk_at, Ev.cnt_at, Ev.ret_at, Ev.retN_at, Ev.asg_at, Ev.if_at, Ev.drop_at, Ev.tgt_at, Ev.tup_at, Ev.for_at, Ev.P_at, Ev.F_at, Ev.var_at, Ev.c_at, Ev.op_at, Ev.opF_at, Ev.call_at, Ev.call1_at, Ev.un_at, Ev.isi_at, Ev.nil_at, Ev.cons_at, Ev.aNil_at, Ev.aCons_at, Ev.lst_at', Ev.tupE_at, Ev.mix_at, Ev.t_at, Ev.tru_at, Ev.and_at, Ev.or_at, Ev.not_at, Ev.andV_at, Ev.orV_at, Ev.notV_at, Ev.if2_at, Ev.ix_at', Ev.no_at, Ev.yes_at, Ev.sl_at, Ev.rep_at, Ev.fn_at, Ev.fnK_at, Ev.seqL_at, Ev.seqT_at, Ev.enum_at, Ev.zip_at, Ec.rng1_D, Ec.lr1_D, Ev.lc_at, Ev.lcE_at, Ev.yesT_at, Ev.meth_at, Ev.idx_at, Ev.subApp_at, Ev.sortSet_at, Ev.hName_at, Ev.hNil_at, Ev.hCons_at, Ev.hTup_at, Ev.hSub_at, Ev.turns_nil, Ev.force_fz, Ev.force_ow, Ev.force_oo, Ev.force_mx, Ev.force_sl, Ev.norm_fz, Ev.norm_ow, Ev.norm_sl, Ev.argO_sl, Ev.own_at, Ev.setOwn_at, Ev.flatF, Ev.flatO, Ev.flatL, Ev.data_tm, Ev.data_sl, Ev.toD_fz, Ev.toD_ow, Ev.toD_ln, Ev.toD_oo, Ev.toD_mx, Ev.flat_fz, Ev.flat_ow, Ev.flat_sl, Ev.retP_fz, Ev.retP_ow, Ev.retP_oo, Ev.retP_sl, Ev.putP_fz, Ev.putP_ow, Ev.putP_oo, Ev.putP_mx, Ev.putP_sl, Ev.noLn_at, Ev.argOs_nil, Ev.argOs_cons, Ev.argO_fz, Ev.argO_ow, Ev.slots_nil, Ev.slots_tm, Ev.slots_sl, Ev.bOf_b, Ev.ownP_fz, Ev.ownP_ow, Ev.ownP_sl, Ev.ownPs_nil, Ev.ownPs_cons, Ev.putAll_nil, Ev.putAll_cons, Ev.mixI_nil, Ev.mixI_fz, Ev.mixI_ow, Ev.mixI_oo, Ev.ixD_list, Ev.ixD_tup, Ev.atI_0, Ev.atI_1, Ev.ixN_0, Ev.ixN_1, Ev.gt_ii, Ev.ge_ii, Ev.lt_ii, Ev.le_ii, Ev.add_ii, Ev.add_ll, Ev.sub_ii, Ev.mul_ii, Ev.fdv_ii, Ev.mod_ii, Ev.neg_i, Ev.int_i, Ev.abs_i, Ev.max2_ii, Ev.dvm_ii, Ev.len_l, Ev.len_t, Ev.listO_l, Ev.tupO_l, Ev.ints_map, Ev.intsD_map, Ev.sorted_l, Ev.sl_list, List.map_cons, List.map_nil, List.length_cons, List.length_nil, List.replicate_succ, List.replicate_zero, List.append_nil, List.nil_append, List.cons_append, List.getElem?_cons_zero, List.getElem?_cons_succ, List.getElem?_nil, List.set_cons_zero, List.set_cons_succ, List.set_nil, Option.bind_some, Option.bind_none, Option.map_some, Option.map_none, Nat.reduceAdd, Nat.reduceSub, Nat.reduceEqDiff, Nat.reduceLeDiff, if_true, if_false, reduceCtorEq, List.nodup_nil, Bool.false_eq_true, Bool.not_true, Bool.not_false, Bool.true_and, Bool.false_and, Bool.and_true, Bool.and_false, ↓reduceIte, id_eq, List.tail_cons, Nat.zero_add, List.all_cons, List.all_nil, ne_eq, not_false_eq_true, and_self, and_true, true_and, Ew.dsp1_at, Ew.key_i, Ew.swapNew_at, Ew.rng2_at, Ew.rngD_at, Ew.putP_dc, Ew.dc_at, Ew.din_at, Ew.dput_at, Ew.fnD_at, Ew.retGet_at, Ew.sortD_at, Ew.ext_at, Ew.L_at, Ew.LIx_at, Ew.Sc_at, Ew.callL_at, Ew.opNil_at, Ew.sv_i, Ew.oo_at, Ew.appO_at, Ew.sub2_at, Ew.fnL_at, Ew.subAppL_at, Ew.lcO_at, Ew.walk_at, Bool.true_xor, Bool.false_xor
, e1, e2, isList], .inl rfl⟩
  | int n _ _ => exact ⟨.fz (.int n), by simp -implicitDefEqProofs only [Ev.nd1, Ev.nd2, Ev.lent_fz, Ev.lent_ow, Ev.lent_oo, Ev.lent_mx, Ev.lent_ln, Ev.lent_nil, Ev.back_nil, Ev.back_tm, Ev.back_sl, Ev.runM_at, Ev.start_at, Ev.seq_at, Ev.pass_at, Ev.brk_at, Ev.cnt_at, Ev.ret_at, Ev.retN_at, Ev.asg_at, Ev.if_at, Ev.drop_at, Ev.tgt_at, Ev.tup_at, Ev.for_at, Ev.P_at, Ev.F_at, Ev.var_at, Ev.c_at, Ev.op_at, Ev.opF_at, Ev.call_at, Ev.call1_at, Ev.un_at, Ev.isi_at, Ev.nil_at, Ev.cons_at, Ev.aNil_at, Ev.aCons_at, Ev.lst_at', Ev.tupE_at, Ev.mix_at, Ev.t_at, Ev.tru_at, Ev.and_at, Ev.or_at, Ev.not_at, Ev.andV_at, Ev.orV_at, Ev.notV_at, Ev.if2_at, Ev.ix_at', Ev.no_at, Ev.yes_at, Ev.sl_at, Ev.rep_at, Ev.fn_at, Ev.fnK_at, Ev.seqL_at, Ev.seqT_at, Ev.enum_at, Ev.zip_at, Ec.rng1_D, Ec.lr1_D, Ev.lc_at, Ev.lcE_at, Ev.yesT_at, Ev.meth_at, Ev.idx_at, Ev.subApp_at, Ev.sortSet_at, Ev.hName_at, Ev.hNil_at, Ev.hCons_at, Ev.hTup_at, Ev.hSub_at, Ev.turns_nil, Ev.force_fz, Ev.force_ow, Ev.force_oo, Ev.force_mx, Ev.force_sl, Ev.norm_fz, Ev.norm_ow, Ev.norm_sl, Ev.argO_sl, Ev.own_at, Ev.setOwn_at, Ev.flatF, Ev.flatO, Ev.flatL, Ev.data_tm, Ev.data_sl, Ev.toD_fz, Ev.toD_ow, Ev.toD_ln, Ev.toD_oo, Ev.toD_mx, Ev.flat_fz, Ev.flat_ow, Ev.flat_sl, Ev.retP_fz, Ev.retP_ow, Ev.retP_oo, Ev.retP_sl, Ev.putP_fz, Ev.putP_ow, Ev.putP_oo, Ev.putP_mx, Ev.putP_sl, Ev.noLn_at, Ev.argOs_nil, Ev.argOs_cons, Ev.argO_fz, Ev.argO_ow, Ev.slots_nil, Ev.slots_tm, Ev.slots_sl, Ev.bOf_b, Ev.ownP_fz, Ev.ownP_ow, Ev.ownP_sl, Ev.ownPs_nil, Ev.ownPs_cons, Ev.putAll_nil, Ev.putAll_cons, Ev.mixI_nil, Ev.mixI_fz, Ev.mixI_ow, Ev.mixI_oo, Ev.ixD_list, Ev.ixD_tup, Ev.atI_0, Ev.atI_1, Ev.ixN_0, Ev.ixN_1, Ev.gt_ii, Ev.ge_ii, Ev.lt_ii, Ev.le_ii, Ev.add_ii, Ev.add_ll, Ev.sub_ii, Ev.mul_ii, Ev.fdv_ii, Ev.mod_ii, Ev.neg_i, Ev.int_i, Ev.abs_i, Ev.max2_ii, Ev.dvm_ii, Ev.len_l, Ev.len_t, Ev.listO_l, Ev.tupO_l, Ev.ints_map, Ev.intsD_map, Ev.sorted_l, Ev.sl_list, List.map_cons, List.map_nil, List.length_cons, List.length_nil, List.replicate_succ, List.replicate_zero, List.append_nil, List.nil_append, List.cons_append, List.getElem?_cons_zero, List.getElem?_cons_succ, List.getElem?_nil, List.set_cons_zero, List.set_cons_succ, List.set_nil, Option.bind_some, Option.bind_none, Option.map_some, Option.map_none, Nat.reduceAdd, Nat.reduceSub, Nat.reduceEqDiff, Nat.reduceLeDiff, if_true, if_false, reduceCtorEq, List.nodup_nil, Bool.false_eq_true, Bool.not_true, Bool.not_false, Bool.true_and, Bool.false_and, Bool.and_true, Bool.and_false, ↓reduceIte, id_eq, List.tail_cons, Nat.zero_add, List.all_cons, List.all_nil, ne_eq, not_false_eq_true, and_self, and_true, true_and, Ew.dsp1_at, Ew.key_i, Ew.swapNew_at, Ew.rng2_at, Ew.rngD_at, Ew.putP_dc, Ew.dc_at, Ew.din_at, Ew.dput_at, Ew.fnD_at, Ew.retGet_at, Ew.sortD_at, Ew.ext_at, Ew.L_at, Ew.LIx_at, Ew.Sc_at, Ew.callL_at, Ew.opNil_at, Ew.sv_i, Ew.oo_at, Ew.appO_at, Ew.sub2_at, Ew.fnL_at, Ew.subAppL_at, Ew.lcO_at, Ew.walk_at, Bool.true_xor, Bool.false_xor
, e1, e2, isList], .inl rfl⟩
theorem fi_bad {d : D} (h : Bad d) : fi_InvalidMany [d] = some [(("value" : Str), d)] := by
  obtain ⟨o, e, ho⟩ := v_kept h
  unfold fi_InvalidMany fiOf
  rcases ho with rfl | ⟨rfl, rfl⟩
  · simp -implicitDefEqProofs only [Ev.nd1, Ev.nd2, Ev.lent_fz, Ev.lent_ow, Ev.lent_oo, Ev.lent_mx, Ev.lent_ln, Ev.lent_nil, Ev.back_nil, Ev.back_tm, Ev.back_sl, Ev.runM_at, Ev.start_at, Ev.seq_at, Ev.pass_at, Ev.brk_at, Ev.cnt_at, Ev.ret_at, Ev.retN_at, Ev.asg_at, Ev.if_at, Ev.drop_at, Ev.tgt_at, Ev.tup_at, Ev.for_at, Ev.P_at, Ev.F_at, Ev.var_at, Ev.c_at, Ev.op_at, Ev.opF_at, Ev.call_at, Ev.call1_at, Ev.un_at, Ev.isi_at, Ev.nil_at, Ev.cons_at, Ev.aNil_at, Ev.aCons_at, Ev.lst_at', Ev.tupE_at, Ev.mix_at, Ev.t_at, Ev.tru_at, Ev.and_at, Ev.or_at, Ev.not_at, Ev.andV_at, Ev.orV_at, Ev.notV_at, Ev.if2_at, Ev.ix_at', Ev.no_at, Ev.yes_at, Ev.sl_at, Ev.rep_at, Ev.fn_at, Ev.fnK_at, Ev.seqL_at, Ev.seqT_at, Ev.enum_at, Ev.zip_at, Ec.rng1_D, Ec.lr1_D, Ev.lc_at, Ev.lcE_at, Ev.yesT_at, Ev.meth_at, Ev.idx_at, Ev.subApp_at, Ev.sortSet_at, Ev.hName_at, Ev.hNil_at, Ev.hCons_at, Ev.hTup_at, Ev.hSub_at, Ev.turns_nil, Ev.force_fz, Ev.force_ow, Ev.force_oo, Ev.force_mx, Ev.force_sl, Ev.norm_fz, Ev.norm_ow, Ev.norm_sl, Ev.argO_sl, Ev.own_at, Ev.setOwn_at, Ev.flatF, Ev.flatO, Ev.flatL, Ev.data_tm, Ev.data_sl, Ev.toD_fz, Ev.toD_ow, Ev.toD_ln, Ev.toD_oo, Ev.toD_mx, Ev.flat_fz, Ev.flat_ow, Ev.flat_sl, Ev.retP_fz, Ev.retP_ow, Ev.retP_oo, Ev.retP_sl, Ev.putP_fz, Ev.putP_ow, Ev.putP_oo, Ev.putP_mx, Ev.putP_sl, Ev.noLn_at, Ev.argOs_nil, Ev.argOs_cons, Ev.argO_fz, Ev.argO_ow, Ev.slots_nil, Ev.slots_tm, Ev.slots_sl, Ev.bOf_b, Ev.ownP_fz, Ev.ownP_ow, Ev.ownP_sl, Ev.ownPs_nil, Ev.ownPs_cons, Ev.putAll_nil, Ev.putAll_cons, Ev.mixI_nil, Ev.mixI_fz, Ev.mixI_ow, Ev.mixI_oo, Ev.ixD_list, Ev.ixD_tup, Ev.atI_0, Ev.atI_1, Ev.ixN_0, Ev.ixN_1, Ev.gt_ii, Ev.ge_ii, Ev.lt_ii, Ev.le_ii, Ev.add_ii, Ev.add_ll, Ev.sub_ii, Ev.mul_ii, Ev.fdv_ii, Ev.mod_ii, Ev.neg_i, Ev.int_i, Ev.abs_i, Ev.max2_ii, Ev.dvm_ii, Ev.len_l, Ev.len_t, Ev.listO_l, Ev.tupO_l, Ev.ints_map, Ev.intsD_map, Ev.sorted_l, Ev.sl_list, List.map_cons, List.map_nil, List.length_cons, List.length_nil, List.replicate_succ, List.replicate_zero, List.append_nil, List.nil_append, List.cons_append, List.getElem?_cons_zero, List.getElem?_cons_succ, List.getElem?_nil, List.set_cons_zero, List.set_cons_succ, List.set_nil, Option.bind_some, Option.bind_none, Option.map_some, Option.map_none, Nat.reduceAdd, Nat.reduceSub, Nat.reduceEqDiff, Nat.reduceLeDiff, if_true, if_false, reduceCtorEq, List.nodup_nil, Bool.false_eq_true, Bool.not_true, Bool.not_false, Bool.true_and, Bool.false_and, Bool.and_true, Bool.and_false, ↓reduceIte, id_eq, List.tail_cons, Nat.zero_add, List.all_cons, List.all_nil, ne_eq, not_false_eq_true, and_self, and_true, true_and, Ew.dsp1_at, Ew.key_i, Ew.swapNew_at, Ew.rng2_at, Ew.rngD_at, Ew.putP_dc, Ew.dc_at, Ew.din_at, Ew.dput_at, Ew.fnD_at, Ew.retGet_at, Ew.sortD_at, Ew.ext_at, Ew.L_at, Ew.LIx_at, Ew.Sc_at, Ew.callL_at, Ew.opNil_at, Ew.sv_i, Ew.oo_at, Ew.appO_at, Ew.sub2_at, Ew.fnL_at, Ew.subAppL_at, Ew.lcO_at, Ew.walk_at, Bool.true_xor, Bool.false_xor
, e]
  · simp -implicitDefEqProofs only [Ev.nd1, Ev.nd2, Ev.lent_fz, Ev.lent_ow, Ev.lent_oo, Ev.lent_mx, Ev.lent_ln, Ev.lent_nil, Ev.back_nil, Ev.back_tm, Ev.back_sl, Ev.runM_at, Ev.start_at, Ev.seq_at, Ev.pass_at, Ev.brk_at, Ev.cnt_at, Ev.ret_at, Ev.retN_at, Ev.asg_at, Ev.if_at, Ev.drop_at, Ev.tgt_at, Ev.tup_at, Ev.for_at, Ev.P_at, Ev.F_at, Ev.var_at, Ev.c_at, Ev.op_at, Ev.opF_at, Ev.call_at, Ev.call1_at, Ev.un_at, Ev.isi_at, Ev.nil_at, Ev.cons_at, Ev.aNil_at, Ev.aCons_at, Ev.lst_at', Ev.tupE_at, Ev.mix_at, Ev.t_at, Ev.tru_at, Ev.and_at, Ev.or_at, Ev.not_at, Ev.andV_at, Ev.orV_at, Ev.notV_at, Ev.if2_at, Ev.ix_at', Ev.no_at, Ev.yes_at, Ev.sl_at, Ev.rep_at, Ev.fn_at, Ev.fnK_at, Ev.seqL_at, Ev.seqT_at, Ev.enum_at, Ev.zip_at, Ec.rng1_D, Ec.lr1_D, Ev.lc_at, Ev.lcE_at, Ev.yesT_at, Ev.meth_at, Ev.idx_at, Ev.subApp_at, Ev.sortSet_at, Ev.hName_at, Ev.hNil_at, Ev.hCons_at, Ev.hTup_at, Ev.hSub_at, Ev.turns_nil, Ev.force_fz, Ev.force_ow, Ev.force_oo, Ev.force_mx, Ev.force_sl, Ev.norm_fz, Ev.norm_ow, Ev.norm_sl, Ev.argO_sl, Ev.own_at, Ev.setOwn_at, Ev.flatF, Ev.flatO, Ev.flatL, Ev.data_tm, Ev.data_sl, Ev.toD_fz, Ev.toD_ow, Ev.toD_ln, Ev.toD_oo, Ev.toD_mx, Ev.flat_fz, Ev.flat_ow, Ev.flat_sl, Ev.retP_fz, Ev.retP_ow, Ev.retP_oo, Ev.retP_sl, Ev.putP_fz, Ev.putP_ow, Ev.putP_oo, Ev.putP_mx, Ev.putP_sl, Ev.noLn_at, Ev.argOs_nil, Ev.argOs_cons, Ev.argO_fz, Ev.argO_ow, Ev.slots_nil, Ev.slots_tm, Ev.slots_sl, Ev.bOf_b, Ev.ownP_fz, Ev.ownP_ow, Ev.ownP_sl, Ev.ownPs_nil, Ev.ownPs_cons, Ev.putAll_nil, Ev.putAll_cons, Ev.mixI_nil, Ev.mixI_fz, Ev.mixI_ow, Ev.mixI_oo, Ev.ixD_list, Ev.ixD_tup, Ev.atI_0, Ev.atI_1, Ev.ixN_0, Ev.ixN_1, Ev.gt_ii, Ev.ge_ii, Ev.lt_ii, Ev.le_ii, Ev.add_ii, Ev.add_ll, Ev.sub_ii, Ev.mul_ii, Ev.fdv_ii, Ev.mod_ii, Ev.neg_i, Ev.int_i, Ev.abs_i, Ev.max2_ii, Ev.dvm_ii, Ev.len_l, Ev.len_t, Ev.listO_l, Ev.tupO_l, Ev.ints_map, Ev.intsD_map, Ev.sorted_l, Ev.sl_list, List.map_cons, List.map_nil, List.length_cons, List.length_nil, List.replicate_succ, List.replicate_zero, List.append_nil, List.nil_append, List.cons_append, List.getElem?_cons_zero, List.getElem?_cons_succ, List.getElem?_nil, List.set_cons_zero, List.set_cons_succ, List.set_nil, Option.bind_some, Option.bind_none, Option.map_some, Option.map_none, Nat.reduceAdd, Nat.reduceSub, Nat.reduceEqDiff, Nat.reduceLeDiff, if_true, if_false, reduceCtorEq, List.nodup_nil, Bool.false_eq_true, Bool.not_true, Bool.not_false, Bool.true_and, Bool.false_and, Bool.and_true, Bool.and_false, ↓reduceIte, id_eq, List.tail_cons, Nat.zero_add, List.all_cons, List.all_nil, ne_eq, not_false_eq_true, and_self, and_true, true_and, Ew.dsp1_at, Ew.key_i, Ew.swapNew_at, Ew.rng2_at, Ew.rngD_at, Ew.putP_dc, Ew.dc_at, Ew.din_at, Ew.dput_at, Ew.fnD_at, Ew.retGet_at, Ew.sortD_at, Ew.ext_at, Ew.L_at, Ew.LIx_at, Ew.Sc_at, Ew.callL_at, Ew.opNil_at, Ew.sv_i, Ew.oo_at, Ew.appO_at, Ew.sub2_at, Ew.fnL_at, Ew.subAppL_at, Ew.lcO_at, Ew.walk_at, Bool.true_xor, Bool.false_xor
, e]
theorem v_count_bad {d : D} (h : Bad d) : (∃ n, d = .int n ∧ ¬ (0 ≤ n ∧ n ≤ 24) ∧ val f_is_count [.fz d] = some (.fz (.bool (decide (0 ≤ n))), [none])) ∨ val f_is_count [.fz d] = some (.fz (.bool false), [none]) := by
  have hd := h.sz.nd
  have e1 := Ec.kit_int hd
  have e2 := Ec.kit_bool hd
  have v1 : val f_is_integer [.fz d] = some (.fz (.bool (Ec.isInt d)), [none]) := by
    unfold val f_is_integer m_is_integer
    cases h <;> simp -implicitDefEqProofs only [Ev.nd1, Ev.nd2, Ev.lent_fz, Ev.lent_ow, Ev.lent_oo, Ev.lent_mx, Ev.lent_ln, Ev.lent_nil, Ev.back_nil, Ev.back_tm, Ev.back_sl, Ev.runM_at, Ev.start_at, Ev.seq_at, Ev.pass_at, Ev.brk_at, Ev.cnt_at, Ev.ret_at, Ev.retN_at, Ev.asg_at, Ev.if_at, Ev.drop_at, Ev.tgt_at, Ev.tup_at, Ev.for_at, Ev.P_at, Ev.F_at, Ev.var_at, Ev.c_at, Ev.op_at, Ev.opF_at, Ev.call_at, Ev.call1_at, Ev.un_at, Ev.isi_at, Ev.nil_at, Ev.cons_at, Ev.aNil_at, Ev.aCons_at, Ev.lst_at', Ev.tupE_at, Ev.mix_at, Ev.t_at, Ev.tru_at, Ev.and_at, Ev.or_at, Ev.not_at, Ev.andV_at, Ev.orV_at, Ev.notV_at, Ev.if2_at, Ev.ix_at', Ev.no_at, Ev.yes_at, Ev.sl_at, Ev.rep_at, Ev.fn_at, Ev.fnK_at, Ev.seqL_at, Ev.seqT_at, Ev.enum_at, Ev.zip_at, Ec.rng1_D, Ec.lr1_D, Ev.lc_at, Ev.lcE_at, Ev.yesT_at, Ev.meth_at, Ev.idx_at, Ev.subApp_at, Ev.sortSet_at, Ev.hName_at, Ev.hNil_at, Ev.hCons_at, Ev.hTup_at, Ev.hSub_at, Ev.turns_nil, Ev.force_fz, Ev.force_ow, Ev.force_oo, Ev.force_mx, Ev.force_sl, Ev.norm_fz, Ev.norm_ow, Ev.norm_sl, Ev.argO_sl, Ev.own_at, Ev.setOwn_at, Ev.flatF, Ev.flatO, Ev.flatL, Ev.data_tm, Ev.data_sl, Ev.toD_fz, Ev.toD_ow, Ev.toD_ln, Ev.toD_oo, Ev.toD_mx, Ev.flat_fz, Ev.flat_ow, Ev.flat_sl, Ev.retP_fz, Ev.retP_ow, Ev.retP_oo, Ev.retP_sl, Ev.putP_fz, Ev.putP_ow, Ev.putP_oo, Ev.putP_mx, Ev.putP_sl, Ev.noLn_at, Ev.argOs_nil, Ev.argOs_cons, Ev.argO_fz, Ev.argO_ow, Ev.slots_nil, Ev.slots_tm, Ev.slots_sl, Ev.bOf_b, Ev.ownP_fz, Ev.ownP_ow, Ev.ownP_sl, Ev.ownPs_nil, Ev.ownPs_cons, Ev.putAll_nil, Ev.putAll_cons, Ev.mixI_nil, Ev.mixI_fz, Ev.mixI_ow, Ev.mixI_oo, Ev.ixD_list, Ev.ixD_tup, Ev.atI_0, Ev.atI_1, Ev.ixN_0, Ev.ixN_1, Ev.gt_ii, Ev.ge_ii, Ev.lt_ii, Ev.le_ii, Ev.add_ii, Ev.add_ll, Ev.sub_ii, Ev.mul_ii, Ev.fdv_ii, Ev.mod_ii, Ev.neg_i, Ev.int_i, Ev.abs_i, Ev.max2_ii, Ev.dvm_ii, Ev.len_l, Ev.len_t, Ev.listO_l, Ev.tupO_l, Ev.ints_map, Ev.intsD_map, Ev.sorted_l, Ev.sl_list, List.map_cons, List.map_nil, List.length_cons, List.length_nil, List.replicate_succ, List.replicate_zero, List.append_nil, List.nil_append, List.cons_append, List.getElem?_cons_zero, List.getElem?_cons_succ, List.getElem?_nil, List.set_cons_zero, List.set_cons_succ, List.set_nil, Option.bind_some, Option.bind_none, Option.map_some, Option.map_none, Nat.reduceAdd, Nat.reduceSub, Nat.reduceEqDiff, Nat.reduceLeDiff, if_true, if_false, reduceCtorEq, List.nodup_nil, Bool.false_eq_true, Bool.not_true, Bool.not_false, Bool.true_and, Bool.false_and, Bool.and_true, Bool.and_false, ↓reduceIte, id_eq, List.tail_cons, Nat.zero_add, List.all_cons, List.all_nil, ne_eq, not_false_eq_true, and_self, and_true, true_and, Ew.dsp1_at, Ew.key_i, Ew.swapNew_at, Ew.rng2_at, Ew.rngD_at, Ew.putP_dc, Ew.dc_at, Ew.din_at, Ew.dput_at, Ew.fnD_at, Ew.retGet_at, Ew.sortD_at, Ew.ext_at, Ew.L_at, Ew.LIx_at, Ew.Sc_at, Ew.callL_at, Ew.opNil_at, Ew.sv_i, Ew.oo_at, Ew.appO_at, Ew.sub2_at, Ew.fnL_at, Ew.subAppL_at, Ew.lcO_at, Ew.walk_at, Bool.true_xor, Bool.false_xor
, e1, e2, Ec.isInt, isBool, Bool.or_false, Bool.or_true, Bool.or_self]
  cases h with
  | int n hn _ =>
    refine .inl ⟨n, rfl, hn, ?_⟩
    unfold val f_is_count m_is_count
    simp -implicitDefEqProofs only [Ev.nd1, Ev.nd2, Ev.lent_fz, Ev.lent_ow, Ev.lent_oo, Ev.lent_mx, Ev.lent_ln, Ev.lent_nil, Ev.back_nil, Ev.back_tm, Ev.back_sl, Ev.runM_at, Ev.start_at, Ev.seq_at, Ev.pass_at, Ev.brk_at, Ev.cnt_at, Ev.ret_at, Ev.retN_at, Ev.asg_at, Ev.if_at, Ev.drop_at, Ev.tgt_at, Ev.tup_at, Ev.for_at, Ev.P_at, Ev.F_at, Ev.var_at, Ev.c_at, Ev.op_at, Ev.opF_at, Ev.call_at, Ev.call1_at, Ev.un_at, Ev.isi_at, Ev.nil_at, Ev.cons_at, Ev.aNil_at, Ev.aCons_at, Ev.lst_at', Ev.tupE_at, Ev.mix_at, Ev.t_at, Ev.tru_at, Ev.and_at, Ev.or_at, Ev.not_at, Ev.andV_at, Ev.orV_at, Ev.notV_at, Ev.if2_at, Ev.ix_at', Ev.no_at, Ev.yes_at, Ev.sl_at, Ev.rep_at, Ev.fn_at, Ev.fnK_at, Ev.seqL_at, Ev.seqT_at, Ev.enum_at, Ev.zip_at, Ec.rng1_D, Ec.lr1_D, Ev.lc_at, Ev.lcE_at, Ev.yesT_at, Ev.meth_at, Ev.idx_at, Ev.subApp_at, Ev.sortSet_at, Ev.hName_at, Ev.hNil_at, Ev.hCons_at, Ev.hTup_at, Ev.hSub_at, Ev.turns_nil, Ev.force_fz, Ev.force_ow, Ev.force_oo, Ev.force_mx, Ev.force_sl, Ev.norm_fz, Ev.norm_ow, Ev.norm_sl, Ev.argO_sl, Ev.own_at, Ev.setOwn_at, Ev.flatF, Ev.flatO, Ev.flatL, Ev.data_tm, Ev.data_sl, Ev.toD_fz, Ev.toD_ow, Ev.toD_ln, Ev.toD_oo, Ev.toD_mx, Ev.flat_fz, Ev.flat_ow, Ev.flat_sl, Ev.retP_fz, Ev.retP_ow, Ev.retP_oo, Ev.retP_sl, Ev.putP_fz, Ev.putP_ow, Ev.putP_oo, Ev.putP_mx, Ev.putP_sl, Ev.noLn_at, Ev.argOs_nil, Ev.argOs_cons, Ev.argO_fz, Ev.argO_ow, Ev.slots_nil, Ev.slots_tm, Ev.slots_sl, Ev.bOf_b, Ev.ownP_fz, Ev.ownP_ow, Ev.ownP_sl, Ev.ownPs_nil, Ev.ownPs_cons, Ev.putAll_nil, Ev.putAll_cons, Ev.mixI_nil, Ev.mixI_fz, Ev.mixI_ow, Ev.mixI_oo, Ev.ixD_list, Ev.ixD_tup, Ev.atI_0, Ev.atI_1, Ev.ixN_0, Ev.ixN_1, Ev.gt_ii, Ev.ge_ii, Ev.lt_ii, Ev.le_ii, Ev.add_ii, Ev.add_ll, Ev.sub_ii, Ev.mul_ii, Ev.fdv_ii, Ev.mod_ii, Ev.neg_i, Ev.int_i, Ev.abs_i, Ev.max2_ii, Ev.dvm_ii, Ev.len_l, Ev.len_t, Ev.listO_l, Ev.tupO_l, Ev.ints_map, Ev.intsD_map, Ev.sorted_l, Ev.sl_list, List.map_cons, List.map_nil, List.length_cons, List.length_nil, List.replicate_succ, List.replicate_zero, List.append_nil, List.nil_append, List.cons_append, List.getElem?_cons_zero, List.getElem?_cons_succ, List.getElem?_nil, List.set_cons_zero, List.set_cons_succ, List.set_nil, Option.bind_some, Option.bind_none, Option.map_some, Option.map_none, Nat.reduceAdd, Nat.reduceSub, Nat.reduceEqDiff, Nat.reduceLeDiff, if_true, if_false, reduceCtorEq, List.nodup_nil, Bool.false_eq_true, Bool.not_true, Bool.not_false, Bool.true_and, Bool.false_and, Bool.and_true, Bool.and_false, ↓reduceIte, id_eq, List.tail_cons, Nat.zero_add, List.all_cons, List.all_nil, ne_eq, not_false_eq_true, and_self, and_true, true_and, Ew.dsp1_at, Ew.key_i, Ew.swapNew_at, Ew.rng2_at, Ew.rngD_at, Ew.putP_dc, Ew.dc_at, Ew.din_at, Ew.dput_at, Ew.fnD_at, Ew.retGet_at, Ew.sortD_at, Ew.ext_at, Ew.L_at, Ew.LIx_at, Ew.Sc_at, Ew.callL_at, Ew.opNil_at, Ew.sv_i, Ew.oo_at, Ew.appO_at, Ew.sub2_at, Ew.fnL_at, Ew.subAppL_at, Ew.lcO_at, Ew.walk_at, Bool.true_xor, Bool.false_xor
, v1, Ec.isInt]
  | _ =>
    refine .inr ?_
    unfold val f_is_count m_is_count
    simp -implicitDefEqProofs only [Ev.nd1, Ev.nd2, Ev.lent_fz, Ev.lent_ow, Ev.lent_oo, Ev.lent_mx, Ev.lent_ln, Ev.lent_nil, Ev.back_nil, Ev.back_tm, Ev.back_sl, Ev.runM_at, Ev.start_at, Ev.seq_at, Ev.pass_at, Ev.brk_at, Ev.cnt_at, Ev.ret_at, Ev.retN_at, Ev.asg_at, Ev.if_at, Ev.drop_at, Ev.tgt_at, Ev.tup_at, Ev.for_at, Ev.P_at, Ev.F_at, Ev.var_at, Ev.c_at, Ev.op_at, Ev.opF_at, Ev.call_at, Ev.call1_at, Ev.un_at, Ev.isi_at, Ev.nil_at, Ev.cons_at, Ev.aNil_at, Ev.aCons_at, Ev.lst_at', Ev.tupE_at, Ev.mix_at, Ev.t_at, Ev.tru_at, Ev.and_at, Ev.or_at, Ev.not_at, Ev.andV_at, Ev.orV_at, Ev.notV_at, Ev.if2_at, Ev.ix_at', Ev.no_at, Ev.yes_at, Ev.sl_at, Ev.rep_at, Ev.fn_at, Ev.fnK_at, Ev.seqL_at, Ev.seqT_at, Ev.enum_at, Ev.zip_at, Ec.rng1_D, Ec.lr1_D, Ev.lc_at, Ev.lcE_at, Ev.yesT_at, Ev.meth_at, Ev.idx_at, Ev.subApp_at, Ev.sortSet_at, Ev.hName_at, Ev.hNil_at, Ev.hCons_at, Ev.hTup_at, Ev.hSub_at, Ev.turns_nil, Ev.force_fz, Ev.force_ow, Ev.force_oo, Ev.force_mx, Ev.force_sl, Ev.norm_fz, Ev.norm_ow, Ev.norm_sl, Ev.argO_sl, Ev.own_at, Ev.setOwn_at, Ev.flatF, Ev.flatO, Ev.flatL, Ev.data_tm, Ev.data_sl, Ev.toD_fz, Ev.toD_ow, Ev.toD_ln, Ev.toD_oo, Ev.toD_mx, Ev.flat_fz, Ev.flat_ow, Ev.flat_sl, Ev.retP_fz, Ev.retP_ow, Ev.retP_oo, Ev.retP_sl, Ev.putP_fz, Ev.putP_ow, Ev.putP_oo, Ev.putP_mx, Ev.putP_sl, Ev.noLn_at, Ev.argOs_nil, Ev.argOs_cons, Ev.argO_fz, Ev.argO_ow, Ev.slots_nil, Ev.slots_tm, Ev.slots_sl, Ev.bOf_b, Ev.ownP_fz, Ev.ownP_ow, Ev.ownP_sl, Ev.ownPs_nil, Ev.ownPs_cons, Ev.putAll_nil, Ev.putAll_cons, Ev.mixI_nil, Ev.mixI_fz, Ev.mixI_ow, Ev.mixI_oo, Ev.ixD_list, Ev.ixD_tup, Ev.atI_0, Ev.atI_1, Ev.ixN_0, Ev.ixN_1, Ev.gt_ii, Ev.ge_ii, Ev.lt_ii, Ev.le_ii, Ev.add_ii, Ev.add_ll, Ev.sub_ii, Ev.mul_ii, Ev.fdv_ii, Ev.mod_ii, Ev.neg_i, Ev.int_i, Ev.abs_i, Ev.max2_ii, Ev.dvm_ii, Ev.len_l, Ev.len_t, Ev.listO_l, Ev.tupO_l, Ev.ints_map, Ev.intsD_map, Ev.sorted_l, Ev.sl_list, List.map_cons, List.map_nil, List.length_cons, List.length_nil, List.replicate_succ, List.replicate_zero, List.append_nil, List.nil_append, List.cons_append, List.getElem?_cons_zero, List.getElem?_cons_succ, List.getElem?_nil, List.set_cons_zero, List.set_cons_succ, List.set_nil, Option.bind_some, Option.bind_none, Option.map_some, Option.map_none, Nat.reduceAdd, Nat.reduceSub, Nat.reduceEqDiff, Nat.reduceLeDiff, if_true, if_false, reduceCtorEq, List.nodup_nil, Bool.false_eq_true, Bool.not_true, Bool.not_false, Bool.true_and, Bool.false_and, Bool.and_true, Bool.and_false, ↓reduceIte, id_eq, List.tail_cons, Nat.zero_add, List.all_cons, List.all_nil, ne_eq, not_false_eq_true, and_self, and_true, true_and, Ew.dsp1_at, Ew.key_i, Ew.swapNew_at, Ew.rng2_at, Ew.rngD_at, Ew.putP_dc, Ew.dc_at, Ew.din_at, Ew.dput_at, Ew.fnD_at, Ew.retGet_at, Ew.sortD_at, Ew.ext_at, Ew.L_at, Ew.LIx_at, Ew.Sc_at, Ew.callL_at, Ew.opNil_at, Ew.sv_i, Ew.oo_at, Ew.appO_at, Ew.sub2_at, Ew.fnL_at, Ew.subAppL_at, Ew.lcO_at, Ew.walk_at, Bool.true_xor, Bool.false_xor
, v1, Ec.isInt]
theorem xr_check {d : D} (h : Bad d) : xr_check_many [.fz d, .fz (.int 24)] = some (⟨"InvalidMany", [("value", d)]⟩, [some (.fz d), some (.fz (.int 24))]) := by
  have f := fi_bad h
  unfold xr_check_many runR rIf rRz
  rcases v_count_bad h with ⟨n, rfl, hn, e⟩ | e
  · by_cases h0 : 0 ≤ n
    · have h1 : 24 < n := by omega
      simp -implicitDefEqProofs only [Ev.nd1, Ev.nd2, Ev.lent_fz, Ev.lent_ow, Ev.lent_oo, Ev.lent_mx, Ev.lent_ln, Ev.lent_nil, Ev.back_nil, Ev.back_tm, Ev.back_sl, Ev.runM_at, Ev.start_at, Ev.seq_at, Ev.pass_at, Ev.brk_at, Ev.cnt_at, Ev.ret_at, Ev.retN_at, Ev.asg_at, Ev.if_at, Ev.drop_at, Ev.tgt_at, Ev.tup_at, Ev.for_at, Ev.P_at, Ev.F_at, Ev.var_at, Ev.c_at, Ev.op_at, Ev.opF_at, Ev.call_at, Ev.call1_at, Ev.un_at, Ev.isi_at, Ev.nil_at, Ev.cons_at, Ev.aNil_at, Ev.aCons_at, Ev.lst_at', Ev.tupE_at, Ev.mix_at, Ev.t_at, Ev.tru_at, Ev.and_at, Ev.or_at, Ev.not_at, Ev.andV_at, Ev.orV_at, Ev.notV_at, Ev.if2_at, Ev.ix_at', Ev.no_at, Ev.yes_at, Ev.sl_at, Ev.rep_at, Ev.fn_at, Ev.fnK_at, Ev.seqL_at, Ev.seqT_at, Ev.enum_at, Ev.zip_at, Ec.rng1_D, Ec.lr1_D, Ev.lc_at, Ev.lcE_at, Ev.yesT_at, Ev.meth_at, Ev.idx_at, Ev.subApp_at, Ev.sortSet_at, Ev.hName_at, Ev.hNil_at, Ev.hCons_at, Ev.hTup_at, Ev.hSub_at, Ev.turns_nil, Ev.force_fz, Ev.force_ow, Ev.force_oo, Ev.force_mx, Ev.force_sl, Ev.norm_fz, Ev.norm_ow, Ev.norm_sl, Ev.argO_sl, Ev.own_at, Ev.setOwn_at, Ev.flatF, Ev.flatO, Ev.flatL, Ev.data_tm, Ev.data_sl, Ev.toD_fz, Ev.toD_ow, Ev.toD_ln, Ev.toD_oo, Ev.toD_mx, Ev.flat_fz, Ev.flat_ow, Ev.flat_sl, Ev.retP_fz, Ev.retP_ow, Ev.retP_oo, Ev.retP_sl, Ev.putP_fz, Ev.putP_ow, Ev.putP_oo, Ev.putP_mx, Ev.putP_sl, Ev.noLn_at, Ev.argOs_nil, Ev.argOs_cons, Ev.argO_fz, Ev.argO_ow, Ev.slots_nil, Ev.slots_tm, Ev.slots_sl, Ev.bOf_b, Ev.ownP_fz, Ev.ownP_ow, Ev.ownP_sl, Ev.ownPs_nil, Ev.ownPs_cons, Ev.putAll_nil, Ev.putAll_cons, Ev.mixI_nil, Ev.mixI_fz, Ev.mixI_ow, Ev.mixI_oo, Ev.ixD_list, Ev.ixD_tup, Ev.atI_0, Ev.atI_1, Ev.ixN_0, Ev.ixN_1, Ev.gt_ii, Ev.ge_ii, Ev.lt_ii, Ev.le_ii, Ev.add_ii, Ev.add_ll, Ev.sub_ii, Ev.mul_ii, Ev.fdv_ii, Ev.mod_ii, Ev.neg_i, Ev.int_i, Ev.abs_i, Ev.max2_ii, Ev.dvm_ii, Ev.len_l, Ev.len_t, Ev.listO_l, Ev.tupO_l, Ev.ints_map, Ev.intsD_map, Ev.sorted_l, Ev.sl_list, List.map_cons, List.map_nil, List.length_cons, List.length_nil, List.replicate_succ, List.replicate_zero, List.append_nil, List.nil_append, List.cons_append, List.getElem?_cons_zero, List.getElem?_cons_succ, List.getElem?_nil, List.set_cons_zero, List.set_cons_succ, List.set_nil, Option.bind_some, Option.bind_none, Option.map_some, Option.map_none, Nat.reduceAdd, Nat.reduceSub, Nat.reduceEqDiff, Nat.reduceLeDiff, if_true, if_false, reduceCtorEq, List.nodup_nil, Bool.false_eq_true, Bool.not_true, Bool.not_false, Bool.true_and, Bool.false_and, Bool.and_true, Bool.and_false, ↓reduceIte, id_eq, List.tail_cons, Nat.zero_add, List.all_cons, List.all_nil, ne_eq, not_false_eq_true, and_self, and_true, true_and, Ew.dsp1_at, Ew.key_i, Ew.swapNew_at, Ew.rng2_at, Ew.rngD_at, Ew.putP_dc, Ew.dc_at, Ew.din_at, Ew.dput_at, Ew.fnD_at, Ew.retGet_at, Ew.sortD_at, Ew.ext_at, Ew.L_at, Ew.LIx_at, Ew.Sc_at, Ew.callL_at, Ew.opNil_at, Ew.sv_i, Ew.oo_at, Ew.appO_at, Ew.sub2_at, Ew.fnL_at, Ew.subAppL_at, Ew.lcO_at, Ew.walk_at, Bool.true_xor, Bool.false_xor
, e, h0, h1, decide_true, f, Nat.reduceLeDiff]
    · simp -implicitDefEqProofs only [Ev.nd1, Ev.nd2, Ev.lent_fz, Ev.lent_ow, Ev.lent_oo, Ev.lent_mx, Ev.lent_ln, Ev.lent_nil, Ev.back_nil, Ev.back_tm, Ev.back_sl, Ev.runM_at, Ev.start_at, Ev.seq_at, Ev.pass_at, Ev.brk_at, Ev.cnt_at, Ev.ret_at, Ev.retN_at, Ev.asg_at, Ev.if_at, Ev.drop_at, Ev.tgt_at, Ev.tup_at, Ev.for_at, Ev.P_at, Ev.F_at, Ev.var_at, Ev.c_at, Ev.op_at, Ev.opF_at, Ev.call_at, Ev.call1_at, Ev.un_at, Ev.isi_at, Ev.nil_at, Ev.cons_at, Ev.aNil_at, Ev.aCons_at, Ev.lst_at', Ev.tupE_at, Ev.mix_at, Ev.t_at, Ev.tru_at, Ev.and_at, Ev.or_at, Ev.not_at, Ev.andV_at, Ev.orV_at, Ev.notV_at, Ev.if2_at, Ev.ix_at', Ev.no_at, Ev.yes_at, Ev.sl_at, Ev.rep_at, Ev.fn_at, Ev.fnK_at, Ev.seqL_at, Ev.seqT_at, Ev.enum_at, Ev.zip_at, Ec.rng1_D, Ec.lr1_D, Ev.lc_at, Ev.lcE_at, Ev.yesT_at, Ev.meth_at, Ev.idx_at, Ev.subApp_at, Ev.sortSet_at, Ev.hName_at, Ev.hNil_at, Ev.hCons_at, Ev.hTup_at, Ev.hSub_at, Ev.turns_nil, Ev.force_fz, Ev.force_ow, Ev.force_oo, Ev.force_mx, Ev.force_sl, Ev.norm_fz, Ev.norm_ow, Ev.norm_sl, Ev.argO_sl, Ev.own_at, Ev.setOwn_at, Ev.flatF, Ev.flatO, Ev.flatL, Ev.data_tm, Ev.data_sl, Ev.toD_fz, Ev.toD_ow, Ev.toD_ln, Ev.toD_oo, Ev.toD_mx, Ev.flat_fz, Ev.flat_ow, Ev.flat_sl, Ev.retP_fz, Ev.retP_ow, Ev.retP_oo, Ev.retP_sl, Ev.putP_fz, Ev.putP_ow, Ev.putP_oo, Ev.putP_mx, Ev.putP_sl, Ev.noLn_at, Ev.argOs_nil, Ev.argOs_cons, Ev.argO_fz, Ev.argO_ow, Ev.slots_nil, Ev.slots_tm, Ev.slots_sl, Ev.bOf_b, Ev.ownP_fz, Ev.ownP_ow, Ev.ownP_sl, Ev.ownPs_nil, Ev.ownPs_cons, Ev.putAll_nil, Ev.putAll_cons, Ev.mixI_nil, Ev.mixI_fz, Ev.mixI_ow, Ev.mixI_oo, Ev.ixD_list, Ev.ixD_tup, Ev.atI_0, Ev.atI_1, Ev.ixN_0, Ev.ixN_1, Ev.gt_ii, Ev.ge_ii, Ev.lt_ii, Ev.le_ii, Ev.add_ii, Ev.add_ll, Ev.sub_ii, Ev.mul_ii, Ev.fdv_ii, Ev.mod_ii, Ev.neg_i, Ev.int_i, Ev.abs_i, Ev.max2_ii, Ev.dvm_ii, Ev.len_l, Ev.len_t, Ev.listO_l, Ev.tupO_l, Ev.ints_map, Ev.intsD_map, Ev.sorted_l, Ev.sl_list, List.map_cons, List.map_nil, List.length_cons, List.length_nil, List.replicate_succ, List.replicate_zero, List.append_nil, List.nil_append, List.cons_append, List.getElem?_cons_zero, List.getElem?_cons_succ, List.getElem?_nil, List.set_cons_zero, List.set_cons_succ, List.set_nil, Option.bind_some, Option.bind_none, Option.map_some, Option.map_none, Nat.reduceAdd, Nat.reduceSub, Nat.reduceEqDiff, Nat.reduceLeDiff, if_true, if_false, reduceCtorEq, List.nodup_nil, Bool.false_eq_true, Bool.not_true, Bool.not_false, Bool.true_and, Bool.false_and, Bool.and_true, Bool.and_false, ↓reduceIte, id_eq, List.tail_cons, Nat.zero_add, List.all_cons, List.all_nil, ne_eq, not_false_eq_true, and_self, and_true, true_and, Ew.dsp1_at, Ew.key_i, Ew.swapNew_at, Ew.rng2_at, Ew.rngD_at, Ew.putP_dc, Ew.dc_at, Ew.din_at, Ew.dput_at, Ew.fnD_at, Ew.retGet_at, Ew.sortD_at, Ew.ext_at, Ew.L_at, Ew.LIx_at, Ew.Sc_at, Ew.callL_at, Ew.opNil_at, Ew.sv_i, Ew.oo_at, Ew.appO_at, Ew.sub2_at, Ew.fnL_at, Ew.subAppL_at, Ew.lcO_at, Ew.walk_at, Bool.true_xor, Bool.false_xor
, e, h0, decide_false, f, Nat.reduceLeDiff]
  · simp -implicitDefEqProofs only [Ev.nd1, Ev.nd2, Ev.lent_fz, Ev.lent_ow, Ev.lent_oo, Ev.lent_mx, Ev.lent_ln, Ev.lent_nil, Ev.back_nil, Ev.back_tm, Ev.back_sl, Ev.runM_at, Ev.start_at, Ev.seq_at, Ev.pass_at, Ev.brk_at, Ev.cnt_at, Ev.ret_at, Ev.retN_at, Ev.asg_at, Ev.if_at, Ev.drop_at, Ev.tgt_at, Ev.tup_at, Ev.for_at, Ev.P_at, Ev.F_at, Ev.var_at, Ev.c_at, Ev.op_at, Ev.opF_at, Ev.call_at, Ev.call1_at, Ev.un_at, Ev.isi_at, Ev.nil_at, Ev.cons_at, Ev.aNil_at, Ev.aCons_at, Ev.lst_at', Ev.tupE_at, Ev.mix_at, Ev.t_at, Ev.tru_at, Ev.and_at, Ev.or_at, Ev.not_at, Ev.andV_at, Ev.orV_at, Ev.notV_at, Ev.if2_at, Ev.ix_at', Ev.no_at, Ev.yes_at, Ev.sl_at, Ev.rep_at, Ev.fn_at, Ev.fnK_at, Ev.seqL_at, Ev.seqT_at, Ev.enum_at, Ev.zip_at, Ec.rng1_D, Ec.lr1_D, Ev.lc_at, Ev.lcE_at, Ev.yesT_at, Ev.meth_at, Ev.idx_at, Ev.subApp_at, Ev.sortSet_at, Ev.hName_at, Ev.hNil_at, Ev.hCons_at, Ev.hTup_at, Ev.hSub_at, Ev.turns_nil, Ev.force_fz, Ev.force_ow, Ev.force_oo, Ev.force_mx, Ev.force_sl, Ev.norm_fz, Ev.norm_ow, Ev.norm_sl, Ev.argO_sl, Ev.own_at, Ev.setOwn_at, Ev.flatF, Ev.flatO, Ev.flatL, Ev.data_tm, Ev.data_sl, Ev.toD_fz, Ev.toD_ow, Ev.toD_ln, Ev.toD_oo, Ev.toD_mx, Ev.flat_fz, Ev.flat_ow, Ev.flat_sl, Ev.retP_fz, Ev.retP_ow, Ev.retP_oo, Ev.retP_sl, Ev.putP_fz, Ev.putP_ow, Ev.putP_oo, Ev.putP_mx, Ev.putP_sl, Ev.noLn_at, Ev.argOs_nil, Ev.argOs_cons, Ev.argO_fz, Ev.argO_ow, Ev.slots_nil, Ev.slots_tm, Ev.slots_sl, Ev.bOf_b, Ev.ownP_fz, Ev.ownP_ow, Ev.ownP_sl, Ev.ownPs_nil, Ev.ownPs_cons, Ev.putAll_nil, Ev.putAll_cons, Ev.mixI_nil, Ev.mixI_fz, Ev.mixI_ow, Ev.mixI_oo, Ev.ixD_list, Ev.ixD_tup, Ev.atI_0, Ev.atI_1, Ev.ixN_0, Ev.ixN_1, Ev.gt_ii, Ev.ge_ii, Ev.lt_ii, Ev.le_ii, Ev.add_ii, Ev.add_ll, Ev.sub_ii, Ev.mul_ii, Ev.fdv_ii, Ev.mod_ii, Ev.neg_i, Ev.int_i, Ev.abs_i, Ev.max2_ii, Ev.dvm_ii, Ev.len_l, Ev.len_t, Ev.listO_l, Ev.tupO_l, Ev.ints_map, Ev.intsD_map, Ev.sorted_l, Ev.sl_list, List.map_cons, List.map_nil, List.length_cons, List.length_nil, List.replicate_succ, List.replicate_zero, List.append_nil, List.nil_append, List.cons_append, List.getElem?_cons_zero, List.getElem?_cons_succ, List.getElem?_nil, List.set_cons_zero, List.set_cons_succ, List.set_nil, Option.bind_some, Option.bind_none, Option.map_some, Option.map_none, Nat.reduceAdd, Nat.reduceSub, Nat.reduceEqDiff, Nat.reduceLeDiff, if_true, if_false, reduceCtorEq, List.nodup_nil, Bool.false_eq_true, Bool.not_true, Bool.not_false, Bool.true_and, Bool.false_and, Bool.and_true, Bool.and_false, ↓reduceIte, id_eq, List.tail_cons, Nat.zero_add, List.all_cons, List.all_nil, ne_eq, not_false_eq_true, and_self, and_true, true_and, Ew.dsp1_at, Ew.key_i, Ew.swapNew_at, Ew.rng2_at, Ew.rngD_at, Ew.putP_dc, Ew.dc_at, Ew.din_at, Ew.dput_at, Ew.fnD_at, Ew.retGet_at, Ew.sortD_at, Ew.ext_at, Ew.L_at, Ew.LIx_at, Ew.Sc_at, Ew.callL_at, Ew.opNil_at, Ew.sv_i, Ew.oo_at, Ew.appO_at, Ew.sub2_at, Ew.fnL_at, Ew.subAppL_at, Ew.lcO_at, Ew.walk_at, Bool.true_xor, Bool.false_xor
, e, f, Nat.reduceLeDiff]
theorem xr_own {d : D} (h : Bad d) : xr_own_names [.fz d] = some (⟨"InvalidMany", [("value", d)]⟩, [some (.fz d), none]) := by
  have e := xr_check h
  unfold xr_own_names runR eFnR
  simp -implicitDefEqProofs only [Ev.nd1, Ev.nd2, Ev.lent_fz, Ev.lent_ow, Ev.lent_oo, Ev.lent_mx, Ev.lent_ln, Ev.lent_nil, Ev.back_nil, Ev.back_tm, Ev.back_sl, Ev.runM_at, Ev.start_at, Ev.seq_at, Ev.pass_at, Ev.brk_at, Ev.cnt_at, Ev.ret_at, Ev.retN_at, Ev.asg_at, Ev.if_at, Ev.drop_at, Ev.tgt_at, Ev.tup_at, Ev.for_at, Ev.P_at, Ev.F_at, Ev.var_at, Ev.c_at, Ev.op_at, Ev.opF_at, Ev.call_at, Ev.call1_at, Ev.un_at, Ev.isi_at, Ev.nil_at, Ev.cons_at, Ev.aNil_at, Ev.aCons_at, Ev.lst_at', Ev.tupE_at, Ev.mix_at, Ev.t_at, Ev.tru_at, Ev.and_at, Ev.or_at, Ev.not_at, Ev.andV_at, Ev.orV_at, Ev.notV_at, Ev.if2_at, Ev.ix_at', Ev.no_at, Ev.yes_at, Ev.sl_at, Ev.rep_at, Ev.fn_at, Ev.fnK_at, Ev.seqL_at, Ev.seqT_at, Ev.enum_at, Ev.zip_at, Ec.rng1_D, Ec.lr1_D, Ev.lc_at, Ev.lcE_at, Ev.yesT_at, Ev.meth_at, Ev.idx_at, Ev.subApp_at, Ev.sortSet_at, Ev.hName_at, Ev.hNil_at, Ev.hCons_at, Ev.hTup_at, Ev.hSub_at, Ev.turns_nil, Ev.force_fz, Ev.force_ow, Ev.force_oo, Ev.force_mx, Ev.force_sl, Ev.norm_fz, Ev.norm_ow, Ev.norm_sl, Ev.argO_sl, Ev.own_at, Ev.setOwn_at, Ev.flatF, Ev.flatO, Ev.flatL, Ev.data_tm, Ev.data_sl, Ev.toD_fz, Ev.toD_ow, Ev.toD_ln, Ev.toD_oo, Ev.toD_mx, Ev.flat_fz, Ev.flat_ow, Ev.flat_sl, Ev.retP_fz, Ev.retP_ow, Ev.retP_oo, Ev.retP_sl, Ev.putP_fz, Ev.putP_ow, Ev.putP_oo, Ev.putP_mx, Ev.putP_sl, Ev.noLn_at, Ev.argOs_nil, Ev.argOs_cons, Ev.argO_fz, Ev.argO_ow, Ev.slots_nil, Ev.slots_tm, Ev.slots_sl, Ev.bOf_b, Ev.ownP_fz, Ev.ownP_ow, Ev.ownP_sl, Ev.ownPs_nil, Ev.ownPs_cons, Ev.putAll_nil, Ev.putAll_cons, Ev.mixI_nil, Ev.mixI_fz, Ev.mixI_ow, Ev.mixI_oo, Ev.ixD_list, Ev.ixD_tup, Ev.atI_0, Ev.atI_1, Ev.ixN_0, Ev.ixN_1, Ev.gt_ii, Ev.ge_ii, Ev.lt_ii, Ev.le_ii, Ev.add_ii, Ev.add_ll, Ev.sub_ii, Ev.mul_ii, Ev.fdv_ii, Ev.mod_ii, Ev.neg_i, Ev.int_i, Ev.abs_i, Ev.max2_ii, Ev.dvm_ii, Ev.len_l, Ev.len_t, Ev.listO_l, Ev.tupO_l, Ev.ints_map, Ev.intsD_map, Ev.sorted_l, Ev.sl_list, List.map_cons, List.map_nil, List.length_cons, List.length_nil, List.replicate_succ, List.replicate_zero, List.append_nil, List.nil_append, List.cons_append, List.getElem?_cons_zero, List.getElem?_cons_succ, List.getElem?_nil, List.set_cons_zero, List.set_cons_succ, List.set_nil, Option.bind_some, Option.bind_none, Option.map_some, Option.map_none, Nat.reduceAdd, Nat.reduceSub, Nat.reduceEqDiff, Nat.reduceLeDiff, if_true, if_false, reduceCtorEq, List.nodup_nil, Bool.false_eq_true, Bool.not_true, Bool.not_false, Bool.true_and, Bool.false_and, Bool.and_true, Bool.and_false, ↓reduceIte, id_eq, List.tail_cons, Nat.zero_add, List.all_cons, List.all_nil, ne_eq, not_false_eq_true, and_self, and_true, true_and, Ew.dsp1_at, Ew.key_i, Ew.swapNew_at, Ew.rng2_at, Ew.rngD_at, Ew.putP_dc, Ew.dc_at, Ew.din_at, Ew.dput_at, Ew.fnD_at, Ew.retGet_at, Ew.sortD_at, Ew.ext_at, Ew.L_at, Ew.LIx_at, Ew.Sc_at, Ew.callL_at, Ew.opNil_at, Ew.sv_i, Ew.oo_at, Ew.appO_at, Ew.sub2_at, Ew.fnL_at, Ew.subAppL_at, Ew.lcO_at, Ew.walk_at, Bool.true_xor, Bool.false_xor
, e, back_sn]
theorem v_count_int (n : Int) (h : n.natAbs < 10 ^ 39) : val f_is_count [.fz (.int n)] = some (.fz (.bool (decide (0 ≤ n))), [none]) := by
  have hd : PyData.hasDict (.int n) = false := rfl
  have e1 := Ec.kit_int hd
  have e2 := Ec.kit_bool hd
  have v1 : val f_is_integer [.fz (.int n)] = some (.fz (.bool true), [none]) := by
    unfold val f_is_integer m_is_integer
    simp -implicitDefEqProofs only [Ev.nd1, Ev.nd2, Ev.lent_fz, Ev.lent_ow, Ev.lent_oo, Ev.lent_mx, Ev.lent_ln, Ev.lent_nil, Ev.back_nil, Ev.back_tm, Ev.back_sl, Ev.runM_at, Ev.start_at, Ev.seq_at, Ev.pass_at, Ev.brk_at, Ev.cnt_at, Ev.ret_at, Ev.retN_at, Ev.asg_at, Ev.if_at, Ev.drop_at, Ev.tgt_at, Ev.tup_at, Ev.for_at, Ev.P_at, Ev.F_at, Ev.var_at, Ev.c_at, Ev.op_at, Ev.opF_at, Ev.call_at, Ev.call1_at, Ev.un_at, Ev.isi_at, Ev.nil_at, Ev.cons_at, Ev.aNil_at, Ev.aCons_at, Ev.lst_at', Ev.tupE_at, Ev.mix_at, Ev.t_at, Ev.tru_at, Ev.and_at, Ev.or_at, Ev.not_at, Ev.andV_at, Ev.orV_at, Ev.notV_at, Ev.if2_at, Ev.ix_at', Ev.no_at, Ev.yes_at, Ev.sl_at, Ev.rep_at, Ev.fn_at, Ev.fnK_at, Ev.seqL_at, Ev.seqT_at, Ev.enum_at, Ev.zip_at, Ec.rng1_D, Ec.lr1_D, Ev.lc_at, Ev.lcE_at, Ev.yesT_at, Ev.meth_at, Ev.idx_at, Ev.subApp_at, Ev.sortSet_at, Ev.hName_at, Ev.hNil_at, Ev.hCons_at, Ev.hTup_at, Ev.hSub_at, Ev.turns_nil, Ev.force_fz, Ev.force_ow, Ev.force_oo, Ev.force_mx, Ev.force_sl, Ev.norm_fz, Ev.norm_ow, Ev.norm_sl, Ev.argO_sl, Ev.own_at, Ev.setOwn_at, Ev.flatF, Ev.flatO, Ev.flatL, Ev.data_tm, Ev.data_sl, Ev.toD_fz, Ev.toD_ow, Ev.toD_ln, Ev.toD_oo, Ev.toD_mx, Ev.flat_fz, Ev.flat_ow, Ev.flat_sl, Ev.retP_fz, Ev.retP_ow, Ev.retP_oo, Ev.retP_sl, Ev.putP_fz, Ev.putP_ow, Ev.putP_oo, Ev.putP_mx, Ev.putP_sl, Ev.noLn_at, Ev.argOs_nil, Ev.argOs_cons, Ev.argO_fz, Ev.argO_ow, Ev.slots_nil, Ev.slots_tm, Ev.slots_sl, Ev.bOf_b, Ev.ownP_fz, Ev.ownP_ow, Ev.ownP_sl, Ev.ownPs_nil, Ev.ownPs_cons, Ev.putAll_nil, Ev.putAll_cons, Ev.mixI_nil, Ev.mixI_fz, Ev.mixI_ow, Ev.mixI_oo, Ev.ixD_list, Ev.ixD_tup, Ev.atI_0, Ev.atI_1, Ev.ixN_0, Ev.ixN_1, Ev.gt_ii, Ev.ge_ii, Ev.lt_ii, Ev.le_ii, Ev.add_ii, Ev.add_ll, Ev.sub_ii, Ev.mul_ii, Ev.fdv_ii, Ev.mod_ii, Ev.neg_i, Ev.int_i, Ev.abs_i, Ev.max2_ii, Ev.dvm_ii, Ev.len_l, Ev.len_t, Ev.listO_l, Ev.tupO_l, Ev.ints_map, Ev.intsD_map, Ev.sorted_l, Ev.sl_list, List.map_cons, List.map_nil, List.length_cons, List.length_nil, List.replicate_succ, List.replicate_zero, List.append_nil, List.nil_append, List.cons_append, List.getElem?_cons_zero, List.getElem?_cons_succ, List.getElem?_nil, List.set_cons_zero, List.set_cons_succ, List.set_nil, Option.bind_some, Option.bind_none, Option.map_some, Option.map_none, Nat.reduceAdd, Nat.reduceSub, Nat.reduceEqDiff, Nat.reduceLeDiff, if_true, if_false, reduceCtorEq, List.nodup_nil, Bool.false_eq_true, Bool.not_true, Bool.not_false, Bool.true_and, Bool.false_and, Bool.and_true, Bool.and_false, ↓reduceIte, id_eq, List.tail_cons, Nat.zero_add, List.all_cons, List.all_nil, ne_eq, not_false_eq_true, and_self, and_true, true_and, Ew.dsp1_at, Ew.key_i, Ew.swapNew_at, Ew.rng2_at, Ew.rngD_at, Ew.putP_dc, Ew.dc_at, Ew.din_at, Ew.dput_at, Ew.fnD_at, Ew.retGet_at, Ew.sortD_at, Ew.ext_at, Ew.L_at, Ew.LIx_at, Ew.Sc_at, Ew.callL_at, Ew.opNil_at, Ew.sv_i, Ew.oo_at, Ew.appO_at, Ew.sub2_at, Ew.fnL_at, Ew.subAppL_at, Ew.lcO_at, Ew.walk_at, Bool.true_xor, Bool.false_xor
, e1, e2, Ec.isInt, isBool, Bool.or_false]
  unfold val f_is_count m_is_count
  simp -implicitDefEqProofs only [Ev.nd1, Ev.nd2, Ev.lent_fz, Ev.lent_ow, Ev.lent_oo, Ev.lent_mx, Ev.lent_ln, Ev.lent_nil, Ev.back_nil, Ev.back_tm, Ev.back_sl, Ev.runM_at, Ev.start_at, Ev.seq_at, Ev.pass_at, Ev.brk_at, Ev.cnt_at, Ev.ret_at, Ev.retN_at, Ev.asg_at, Ev.if_at, Ev.drop_at, Ev.tgt_at, Ev.tup_at, Ev.for_at, Ev.P_at, Ev.F_at, Ev.var_at, Ev.c_at, Ev.op_at, Ev.opF_at, Ev.call_at, Ev.call1_at, Ev.un_at, Ev.isi_at, Ev.nil_at, Ev.cons_at, Ev.aNil_at, Ev.aCons_at, Ev.lst_at', Ev.tupE_at, Ev.mix_at, Ev.t_at, Ev.tru_at, Ev.and_at, Ev.or_at, Ev.not_at, Ev.andV_at, Ev.orV_at, Ev.notV_at, Ev.if2_at, Ev.ix_at', Ev.no_at, Ev.yes_at, Ev.sl_at, Ev.rep_at, Ev.fn_at, Ev.fnK_at, Ev.seqL_at, Ev.seqT_at, Ev.enum_at, Ev.zip_at, Ec.rng1_D, Ec.lr1_D, Ev.lc_at, Ev.lcE_at, Ev.yesT_at, Ev.meth_at, Ev.idx_at, Ev.subApp_at, Ev.sortSet_at, Ev.hName_at, Ev.hNil_at, Ev.hCons_at, Ev.hTup_at, Ev.hSub_at, Ev.turns_nil, Ev.force_fz, Ev.force_ow, Ev.force_oo, Ev.force_mx, Ev.force_sl, Ev.norm_fz, Ev.norm_ow, Ev.norm_sl, Ev.argO_sl, Ev.own_at, Ev.setOwn_at, Ev.flatF, Ev.flatO, Ev.flatL, Ev.data_tm, Ev.data_sl, Ev.toD_fz, Ev.toD_ow, Ev.toD_ln, Ev.toD_oo, Ev.toD_mx, Ev.flat_fz, Ev.flat_ow, Ev.flat_sl, Ev.retP_fz, Ev.retP_ow, Ev.retP_oo, Ev.retP_sl, Ev.putP_fz, Ev.putP_ow, Ev.putP_oo, Ev.putP_mx, Ev.putP_sl, Ev.noLn_at, Ev.argOs_nil, Ev.argOs_cons, Ev.argO_fz, Ev.argO_ow, Ev.slots_nil, Ev.slots_tm, Ev.slots_sl, Ev.bOf_b, Ev.ownP_fz, Ev.ownP_ow, Ev.ownP_sl, Ev.ownPs_nil, Ev.ownPs_cons, Ev.putAll_nil, Ev.putAll_cons, Ev.mixI_nil, Ev.mixI_fz, Ev.mixI_ow, Ev.mixI_oo, Ev.ixD_list, Ev.ixD_tup, Ev.atI_0, Ev.atI_1, Ev.ixN_0, Ev.ixN_1, Ev.gt_ii, Ev.ge_ii, Ev.lt_ii, Ev.le_ii, Ev.add_ii, Ev.add_ll, Ev.sub_ii, Ev.mul_ii, Ev.fdv_ii, Ev.mod_ii, Ev.neg_i, Ev.int_i, Ev.abs_i, Ev.max2_ii, Ev.dvm_ii, Ev.len_l, Ev.len_t, Ev.listO_l, Ev.tupO_l, Ev.ints_map, Ev.intsD_map, Ev.sorted_l, Ev.sl_list, List.map_cons, List.map_nil, List.length_cons, List.length_nil, List.replicate_succ, List.replicate_zero, List.append_nil, List.nil_append, List.cons_append, List.getElem?_cons_zero, List.getElem?_cons_succ, List.getElem?_nil, List.set_cons_zero, List.set_cons_succ, List.set_nil, Option.bind_some, Option.bind_none, Option.map_some, Option.map_none, Nat.reduceAdd, Nat.reduceSub, Nat.reduceEqDiff, Nat.reduceLeDiff, if_true, if_false, reduceCtorEq, List.nodup_nil, Bool.false_eq_true, Bool.not_true, Bool.not_false, Bool.true_and, Bool.false_and, Bool.and_true, Bool.and_false, ↓reduceIte, id_eq, List.tail_cons, Nat.zero_add, List.all_cons, List.all_nil, ne_eq, not_false_eq_true, and_self, and_true, true_and, Ew.dsp1_at, Ew.key_i, Ew.swapNew_at, Ew.rng2_at, Ew.rngD_at, Ew.putP_dc, Ew.dc_at, Ew.din_at, Ew.dput_at, Ew.fnD_at, Ew.retGet_at, Ew.sortD_at, Ew.ext_at, Ew.L_at, Ew.LIx_at, Ew.Sc_at, Ew.callL_at, Ew.opNil_at, Ew.sv_i, Ew.oo_at, Ew.appO_at, Ew.sub2_at, Ew.fnL_at, Ew.subAppL_at, Ew.lcO_at, Ew.walk_at, Bool.true_xor, Bool.false_xor
, v1]
theorem xr_good {n : Int} (h0 : 0 ≤ n) (h1 : n ≤ 24) : xr_own_names [.fz (.int n)] = none := by
  have e := v_count_int n (by omega)
  have c : xr_check_many [.fz (.int n), .fz (.int 24)] = none := by
    unfold xr_check_many runR rIf rRz rNo
    simp -implicitDefEqProofs only [Ev.nd1, Ev.nd2, Ev.lent_fz, Ev.lent_ow, Ev.lent_oo, Ev.lent_mx, Ev.lent_ln, Ev.lent_nil, Ev.back_nil, Ev.back_tm, Ev.back_sl, Ev.runM_at, Ev.start_at, Ev.seq_at, Ev.pass_at, Ev.brk_at, Ev.cnt_at, Ev.ret_at, Ev.retN_at, Ev.asg_at, Ev.if_at, Ev.drop_at, Ev.tgt_at, Ev.tup_at, Ev.for_at, Ev.P_at, Ev.F_at, Ev.var_at, Ev.c_at, Ev.op_at, Ev.opF_at, Ev.call_at, Ev.call1_at, Ev.un_at, Ev.isi_at, Ev.nil_at, Ev.cons_at, Ev.aNil_at, Ev.aCons_at, Ev.lst_at', Ev.tupE_at, Ev.mix_at, Ev.t_at, Ev.tru_at, Ev.and_at, Ev.or_at, Ev.not_at, Ev.andV_at, Ev.orV_at, Ev.notV_at, Ev.if2_at, Ev.ix_at', Ev.no_at, Ev.yes_at, Ev.sl_at, Ev.rep_at, Ev.fn_at, Ev.fnK_at, Ev.seqL_at, Ev.seqT_at, Ev.enum_at, Ev.zip_at, Ec.rng1_D, Ec.lr1_D, Ev.lc_at, Ev.lcE_at, Ev.yesT_at, Ev.meth_at, Ev.idx_at, Ev.subApp_at, Ev.sortSet_at, Ev.hName_at, Ev.hNil_at, Ev.hCons_at, Ev.hTup_at, Ev.hSub_at, Ev.turns_nil, Ev.force_fz, Ev.force_ow, Ev.force_oo, Ev.force_mx, Ev.force_sl, Ev.norm_fz, Ev.norm_ow, Ev.norm_sl, Ev.argO_sl, Ev.own_at, Ev.setOwn_at, Ev.flatF, Ev.flatO, Ev.flatL, Ev.data_tm, Ev.data_sl, Ev.toD_fz, Ev.toD_ow, Ev.toD_ln, Ev.toD_oo, Ev.toD_mx, Ev.flat_fz, Ev.flat_ow, Ev.flat_sl, Ev.retP_fz, Ev.retP_ow, Ev.retP_oo, Ev.retP_sl, Ev.putP_fz, Ev.putP_ow, Ev.putP_oo, Ev.putP_mx, Ev.putP_sl, Ev.noLn_at, Ev.argOs_nil, Ev.argOs_cons, Ev.argO_fz, Ev.argO_ow, Ev.slots_nil, Ev.slots_tm, Ev.slots_sl, Ev.bOf_b, Ev.ownP_fz, Ev.ownP_ow, Ev.ownP_sl, Ev.ownPs_nil, Ev.ownPs_cons, Ev.putAll_nil, Ev.putAll_cons, Ev.mixI_nil, Ev.mixI_fz, Ev.mixI_ow, Ev.mixI_oo, Ev.ixD_list, Ev.ixD_tup, Ev.atI_0, Ev.atI_1, Ev.ixN_0, Ev.ixN_1, Ev.gt_ii, Ev.ge_ii, Ev.lt_ii, Ev.le_ii, Ev.add_ii, Ev.add_ll, Ev.sub_ii, Ev.mul_ii, Ev.fdv_ii, Ev.mod_ii, Ev.neg_i, Ev.int_i, Ev.abs_i, Ev.max2_ii, Ev.dvm_ii, Ev.len_l, Ev.len_t, Ev.listO_l, Ev.tupO_l, Ev.ints_map, Ev.intsD_map, Ev.sorted_l, Ev.sl_list, List.map_cons, List.map_nil, List.length_cons, List.length_nil, List.replicate_succ, List.replicate_zero, List.append_nil, List.nil_append, List.cons_append, List.getElem?_cons_zero, List.getElem?_cons_succ, List.getElem?_nil, List.set_cons_zero, List.set_cons_succ, List.set_nil, Option.bind_some, Option.bind_none, Option.map_some, Option.map_none, Nat.reduceAdd, Nat.reduceSub, Nat.reduceEqDiff, Nat.reduceLeDiff, if_true, if_false, reduceCtorEq, List.nodup_nil, Bool.false_eq_true, Bool.not_true, Bool.not_false, Bool.true_and, Bool.false_and, Bool.and_true, Bool.and_false, ↓reduceIte, id_eq, List.tail_cons, Nat.zero_add, List.all_cons, List.all_nil, ne_eq, not_false_eq_true, and_self, and_true, true_and, Ew.dsp1_at, Ew.key_i, Ew.swapNew_at, Ew.rng2_at, Ew.rngD_at, Ew.putP_dc, Ew.dc_at, Ew.din_at, Ew.dput_at, Ew.fnD_at, Ew.retGet_at, Ew.sortD_at, Ew.ext_at, Ew.L_at, Ew.LIx_at, Ew.Sc_at, Ew.callL_at, Ew.opNil_at, Ew.sv_i, Ew.oo_at, Ew.appO_at, Ew.sub2_at, Ew.fnL_at, Ew.subAppL_at, Ew.lcO_at, Ew.walk_at, Bool.true_xor, Bool.false_xor
, e, h0, (show ¬ 24 < n by omega), decide_true, decide_false]
  unfold xr_own_names runR eFnR
  simp -implicitDefEqProofs only [Ev.nd1, Ev.nd2, Ev.lent_fz, Ev.lent_ow, Ev.lent_oo, Ev.lent_mx, Ev.lent_ln, Ev.lent_nil, Ev.back_nil, Ev.back_tm, Ev.back_sl, Ev.runM_at, Ev.start_at, Ev.seq_at, Ev.pass_at, Ev.brk_at, Ev.cnt_at, Ev.ret_at, Ev.retN_at, Ev.asg_at, Ev.if_at, Ev.drop_at, Ev.tgt_at, Ev.tup_at, Ev.for_at, Ev.P_at, Ev.F_at, Ev.var_at, Ev.c_at, Ev.op_at, Ev.opF_at, Ev.call_at, Ev.call1_at, Ev.un_at, Ev.isi_at, Ev.nil_at, Ev.cons_at, Ev.aNil_at, Ev.aCons_at, Ev.lst_at', Ev.tupE_at, Ev.mix_at, Ev.t_at, Ev.tru_at, Ev.and_at, Ev.or_at, Ev.not_at, Ev.andV_at, Ev.orV_at, Ev.notV_at, Ev.if2_at, Ev.ix_at', Ev.no_at, Ev.yes_at, Ev.sl_at, Ev.rep_at, Ev.fn_at, Ev.fnK_at, Ev.seqL_at, Ev.seqT_at, Ev.enum_at, Ev.zip_at, Ec.rng1_D, Ec.lr1_D, Ev.lc_at, Ev.lcE_at, Ev.yesT_at, Ev.meth_at, Ev.idx_at, Ev.subApp_at, Ev.sortSet_at, Ev.hName_at, Ev.hNil_at, Ev.hCons_at, Ev.hTup_at, Ev.hSub_at, Ev.turns_nil, Ev.force_fz, Ev.force_ow, Ev.force_oo, Ev.force_mx, Ev.force_sl, Ev.norm_fz, Ev.norm_ow, Ev.norm_sl, Ev.argO_sl, Ev.own_at, Ev.setOwn_at, Ev.flatF, Ev.flatO, Ev.flatL, Ev.data_tm, Ev.data_sl, Ev.toD_fz, Ev.toD_ow, Ev.toD_ln, Ev.toD_oo, Ev.toD_mx, Ev.flat_fz, Ev.flat_ow, Ev.flat_sl, Ev.retP_fz, Ev.retP_ow, Ev.retP_oo, Ev.retP_sl, Ev.putP_fz, Ev.putP_ow, Ev.putP_oo, Ev.putP_mx, Ev.putP_sl, Ev.noLn_at, Ev.argOs_nil, Ev.argOs_cons, Ev.argO_fz, Ev.argO_ow, Ev.slots_nil, Ev.slots_tm, Ev.slots_sl, Ev.bOf_b, Ev.ownP_fz, Ev.ownP_ow, Ev.ownP_sl, Ev.ownPs_nil, Ev.ownPs_cons, Ev.putAll_nil, Ev.putAll_cons, Ev.mixI_nil, Ev.mixI_fz, Ev.mixI_ow, Ev.mixI_oo, Ev.ixD_list, Ev.ixD_tup, Ev.atI_0, Ev.atI_1, Ev.ixN_0, Ev.ixN_1, Ev.gt_ii, Ev.ge_ii, Ev.lt_ii, Ev.le_ii, Ev.add_ii, Ev.add_ll, Ev.sub_ii, Ev.mul_ii, Ev.fdv_ii, Ev.mod_ii, Ev.neg_i, Ev.int_i, Ev.abs_i, Ev.max2_ii, Ev.dvm_ii, Ev.len_l, Ev.len_t, Ev.listO_l, Ev.tupO_l, Ev.ints_map, Ev.intsD_map, Ev.sorted_l, Ev.sl_list, List.map_cons, List.map_nil, List.length_cons, List.length_nil, List.replicate_succ, List.replicate_zero, List.append_nil, List.nil_append, List.cons_append, List.getElem?_cons_zero, List.getElem?_cons_succ, List.getElem?_nil, List.set_cons_zero, List.set_cons_succ, List.set_nil, Option.bind_some, Option.bind_none, Option.map_some, Option.map_none, Nat.reduceAdd, Nat.reduceSub, Nat.reduceEqDiff, Nat.reduceLeDiff, if_true, if_false, reduceCtorEq, List.nodup_nil, Bool.false_eq_true, Bool.not_true, Bool.not_false, Bool.true_and, Bool.false_and, Bool.and_true, Bool.and_false, ↓reduceIte, id_eq, List.tail_cons, Nat.zero_add, List.all_cons, List.all_nil, ne_eq, not_false_eq_true, and_self, and_true, true_and, Ew.dsp1_at, Ew.key_i, Ew.swapNew_at, Ew.rng2_at, Ew.rngD_at, Ew.putP_dc, Ew.dc_at, Ew.din_at, Ew.dput_at, Ew.fnD_at, Ew.retGet_at, Ew.sortD_at, Ew.ext_at, Ew.L_at, Ew.LIx_at, Ew.Sc_at, Ew.callL_at, Ew.opNil_at, Ew.sv_i, Ew.oo_at, Ew.appO_at, Ew.sub2_at, Ew.fnL_at, Ew.subAppL_at, Ew.lcO_at, Ew.walk_at, Bool.true_xor, Bool.false_xor
, c]
theorem v_check {n : Int} (h0 : 0 ≤ n) (h1 : n ≤ 24) : val f_check_many [.fz (.int n), .fz (.int 24)] = some (.fz .none, [none, none]) := by
  have e := v_count_int n (by omega)
  unfold val f_check_many m_check_many
  simp -implicitDefEqProofs only [Ev.nd1, Ev.nd2, Ev.lent_fz, Ev.lent_ow, Ev.lent_oo, Ev.lent_mx, Ev.lent_ln, Ev.lent_nil, Ev.back_nil, Ev.back_tm, Ev.back_sl, Ev.runM_at, Ev.start_at, Ev.seq_at, Ev.pass_at, Ev.brk_at, Ev.cnt_at, Ev.ret_at, Ev.retN_at, Ev.asg_at, Ev.if_at, Ev.drop_at, Ev.tgt_at, Ev.tup_at, Ev.for_at, Ev.P_at, Ev.F_at, Ev.var_at, Ev.c_at, Ev.op_at, Ev.opF_at, Ev.call_at, Ev.call1_at, Ev.un_at, Ev.isi_at, Ev.nil_at, Ev.cons_at, Ev.aNil_at, Ev.aCons_at, Ev.lst_at', Ev.tupE_at, Ev.mix_at, Ev.t_at, Ev.tru_at, Ev.and_at, Ev.or_at, Ev.not_at, Ev.andV_at, Ev.orV_at, Ev.notV_at, Ev.if2_at, Ev.ix_at', Ev.no_at, Ev.yes_at, Ev.sl_at, Ev.rep_at, Ev.fn_at, Ev.fnK_at, Ev.seqL_at, Ev.seqT_at, Ev.enum_at, Ev.zip_at, Ec.rng1_D, Ec.lr1_D, Ev.lc_at, Ev.lcE_at, Ev.yesT_at, Ev.meth_at, Ev.idx_at, Ev.subApp_at, Ev.sortSet_at, Ev.hName_at, Ev.hNil_at, Ev.hCons_at, Ev.hTup_at, Ev.hSub_at, Ev.turns_nil, Ev.force_fz, Ev.force_ow, Ev.force_oo, Ev.force_mx, Ev.force_sl, Ev.norm_fz, Ev.norm_ow, Ev.norm_sl, Ev.argO_sl, Ev.own_at, Ev.setOwn_at, Ev.flatF, Ev.flatO, Ev.flatL, Ev.data_tm, Ev.data_sl, Ev.toD_fz, Ev.toD_ow, Ev.toD_ln, Ev.toD_oo, Ev.toD_mx, Ev.flat_fz, Ev.flat_ow, Ev.flat_sl, Ev.retP_fz, Ev.retP_ow, Ev.retP_oo, Ev.retP_sl, Ev.putP_fz, Ev.putP_ow, Ev.putP_oo, Ev.putP_mx, Ev.putP_sl, Ev.noLn_at, Ev.argOs_nil, Ev.argOs_cons, Ev.argO_fz, Ev.argO_ow, Ev.slots_nil, Ev.slots_tm, Ev.slots_sl, Ev.bOf_b, Ev.ownP_fz, Ev.ownP_ow, Ev.ownP_sl, Ev.ownPs_nil, Ev.ownPs_cons, Ev.putAll_nil, Ev.putAll_cons, Ev.mixI_nil, Ev.mixI_fz, Ev.mixI_ow, Ev.mixI_oo, Ev.ixD_list, Ev.ixD_tup, Ev.atI_0, Ev.atI_1, Ev.ixN_0, Ev.ixN_1, Ev.gt_ii, Ev.ge_ii, Ev.lt_ii, Ev.le_ii, Ev.add_ii, Ev.add_ll, Ev.sub_ii, Ev.mul_ii, Ev.fdv_ii, Ev.mod_ii, Ev.neg_i, Ev.int_i, Ev.abs_i, Ev.max2_ii, Ev.dvm_ii, Ev.len_l, Ev.len_t, Ev.listO_l, Ev.tupO_l, Ev.ints_map, Ev.intsD_map, Ev.sorted_l, Ev.sl_list, List.map_cons, List.map_nil, List.length_cons, List.length_nil, List.replicate_succ, List.replicate_zero, List.append_nil, List.nil_append, List.cons_append, List.getElem?_cons_zero, List.getElem?_cons_succ, List.getElem?_nil, List.set_cons_zero, List.set_cons_succ, List.set_nil, Option.bind_some, Option.bind_none, Option.map_some, Option.map_none, Nat.reduceAdd, Nat.reduceSub, Nat.reduceEqDiff, Nat.reduceLeDiff, if_true, if_false, reduceCtorEq, List.nodup_nil, Bool.false_eq_true, Bool.not_true, Bool.not_false, Bool.true_and, Bool.false_and, Bool.and_true, Bool.and_false, ↓reduceIte, id_eq, List.tail_cons, Nat.zero_add, List.all_cons, List.all_nil, ne_eq, not_false_eq_true, and_self, and_true, true_and, Ew.dsp1_at, Ew.key_i, Ew.swapNew_at, Ew.rng2_at, Ew.rngD_at, Ew.putP_dc, Ew.dc_at, Ew.din_at, Ew.dput_at, Ew.fnD_at, Ew.retGet_at, Ew.sortD_at, Ew.ext_at, Ew.L_at, Ew.LIx_at, Ew.Sc_at, Ew.callL_at, Ew.opNil_at, Ew.sv_i, Ew.oo_at, Ew.appO_at, Ew.sub2_at, Ew.fnL_at, Ew.subAppL_at, Ew.lcO_at, Ew.walk_at, Bool.true_xor, Bool.false_xor
, e, h0, (show ¬ 24 < n by omega), decide_true, decide_false]
end K25
end
section
set_option Elab.async false
set_option linter.all false
set_option maxRecDepth 100000
set_option maxHeartbeats 8000000
namespace K25
open PySem PySem.Spec PyProof.Rows L2 Vi Vf Vo Vp Vs Vt Vu Vv Vg Vw Vx Vy Va Vb Vc Vk Vm Vl Vn Vd Vq Vr Vj Vfr Ev Ec Mo Ew Gd Gx Gy Gt Rk Vxt Vxr
open SX (S S_cat S_len S_tl S_inj)
def pk (k : Nat) : List Nat := 112 :: TL.numL k
theorem cs_p : (Str.ofString "p") = S [112] := by decide +kernel
theorem num_S (k : Nat) : Str.ofString (toString ((k : Nat) : Int)) = S (TL.numL k) := TL.ext_tl (TL.tl_num k)
theorem num_ok : ∀ k, k < 25 → (TL.numL k).length ≤ 2 ∧ (∀ c ∈ TL.numL k, c < 55296) ∧ k.log2 < 1920 := by decide +kernel
def names : Nat → Nat → List D
  | _, 0 => []
  | lo, k + 1 => .str (S (pk lo)) :: names (lo + 1) k
theorem fmt_n {k : Nat} (h : k < 25) : fmtD (.int (k : Nat)) = some (.str (S (TL.numL k))) := by
  show (if ((k : Nat) : Int).natAbs.log2 < 1920 then some (PyData.str (Str.ofString (toString ((k : Nat) : Int)))) else none) = _
  rw [if_pos (by rw [Int.natAbs_natCast]; exact (num_ok k h).2.2), num_S]
theorem strD_n {k : Nat} (h : k < 25) : Vd.strD (.int (k : Nat)) = some (.str (S (TL.numL k))) := by
  show (if ((k : Nat) : Int).natAbs.log2 < 1920 then some (PyData.str (Str.ofString (toString ((k : Nat) : Int)))) else none) = _
  rw [if_pos (by rw [Int.natAbs_natCast]; exact (num_ok k h).2.2), num_S]
theorem emp_S (a : List Nat) : Str.empty ++ S a = S a := S_cat [] a
theorem join_k {k : Nat} (h : k < 25) (x0 : Option O) : Vxt.eJoin [(eC (.str "p")), (eFmt (eF (eVar 1)))] [x0, some (.fz (.int (k : Nat)))] = some (.str (S (pk k)), [x0, some (.fz (.int (k : Nat)))]) := by
  have h1 := (num_ok k h).1
  have z1 : (S [112]).length ≤ sizeLine := by rw [S_len, sizeLine_eq]; simp
  have z2 : (S (112 :: TL.numL k)).length ≤ sizeLine := by rw [S_len, sizeLine_eq]; simp; omega
  unfold Vxt.eJoin
  simp -implicitDefEqProofs only [Ev.nd1, Ev.nd2, Ev.lent_fz, Ev.lent_ow, Ev.lent_oo, Ev.lent_mx, Ev.lent_ln, Ev.lent_nil, Ev.back_nil, Ev.back_tm, Ev.back_sl, Ev.runM_at, Ev.start_at, Ev.seq_at, Ev.pass_at, Ev.brk_at, Ev.cnt_at, Ev.ret_at, Ev.retN_at, Ev.asg_at, Ev.if_at, Ev.drop_at, Ev.tgt_at, Ev.tup_at, Ev.for_at, Ev.P_at, Ev.F_at, Ev.var_at, Ev.c_at, Ev.op_at, Ev.opF_at, Ev.call_at, Ev.call1_at, Ev.un_at, Ev.isi_at, Ev.nil_at, Ev.cons_at, Ev.aNil_at, Ev.aCons_at, Ev.lst_at', Ev.tupE_at, Ev.mix_at, Ev.t_at, Ev.tru_at, Ev.and_at, Ev.or_at, Ev.not_at, Ev.andV_at, Ev.orV_at, Ev.notV_at, Ev.if2_at, Ev.ix_at', Ev.no_at, Ev.yes_at, Ev.sl_at, Ev.rep_at, Ev.fn_at, Ev.fnK_at, Ev.seqL_at, Ev.seqT_at, Ev.enum_at, Ev.zip_at, Ec.rng1_D, Ec.lr1_D, Ev.lc_at, Ev.lcE_at, Ev.yesT_at, Ev.meth_at, Ev.idx_at, Ev.subApp_at, Ev.sortSet_at, Ev.hName_at, Ev.hNil_at, Ev.hCons_at, Ev.hTup_at, Ev.hSub_at, Ev.turns_nil, Ev.force_fz, Ev.force_ow, Ev.force_oo, Ev.force_mx, Ev.force_sl, Ev.norm_fz, Ev.norm_ow, Ev.norm_sl, Ev.argO_sl, Ev.own_at, Ev.setOwn_at, Ev.flatF, Ev.flatO, Ev.flatL, Ev.data_tm, Ev.data_sl, Ev.toD_fz, Ev.toD_ow, Ev.toD_ln, Ev.toD_oo, Ev.toD_mx, Ev.flat_fz, Ev.flat_ow, Ev.flat_sl, Ev.retP_fz, Ev.retP_ow, Ev.retP_oo, Ev.retP_sl, Ev.putP_fz, Ev.putP_ow, Ev.putP_oo, Ev.putP_mx, Ev.putP_sl, Ev.noLn_at, Ev.argOs_nil, Ev.argOs_cons, Ev.argO_fz, Ev.argO_ow, Ev.slots_nil, Ev.slots_tm, Ev.slots_sl, Ev.bOf_b, Ev.ownP_fz, Ev.ownP_ow, Ev.ownP_sl, Ev.ownPs_nil, Ev.ownPs_cons, Ev.putAll_nil, Ev.putAll_cons, Ev.mixI_nil, Ev.mixI_fz, Ev.mixI_ow, Ev.mixI_oo, Ev.ixD_list, Ev.ixD_tup, Ev.atI_0, Ev.atI_1, Ev.ixN_0, Ev.ixN_1, Ev.gt_ii, Ev.ge_ii, Ev.lt_ii, Ev.le_ii, Ev.add_ii, Ev.add_ll, Ev.sub_ii, Ev.mul_ii, Ev.fdv_ii, Ev.mod_ii, Ev.neg_i, Ev.int_i, Ev.abs_i, Ev.max2_ii, Ev.dvm_ii, Ev.len_l, Ev.len_t, Ev.listO_l, Ev.tupO_l, Ev.ints_map, Ev.intsD_map, Ev.sorted_l, Ev.sl_list, List.map_cons, List.map_nil, List.length_cons, List.length_nil, List.replicate_succ, List.replicate_zero, List.append_nil, List.nil_append, List.cons_append, List.getElem?_cons_zero, List.getElem?_cons_succ, List.getElem?_nil, List.set_cons_zero, List.set_cons_succ, List.set_nil, Option.bind_some, Option.bind_none, Option.map_some, Option.map_none, Nat.reduceAdd, Nat.reduceSub, Nat.reduceEqDiff, Nat.reduceLeDiff, if_true, if_false, reduceCtorEq, List.nodup_nil, Bool.false_eq_true, Bool.not_true, Bool.not_false, Bool.true_and, Bool.false_and, Bool.and_true, Bool.and_false, ↓reduceIte, id_eq, List.tail_cons, Nat.zero_add, List.all_cons, List.all_nil, ne_eq, not_false_eq_true, and_self, and_true, true_and, Ew.dsp1_at, Ew.key_i, Ew.swapNew_at, Ew.rng2_at, Ew.rngD_at, Ew.putP_dc, Ew.dc_at, Ew.din_at, Ew.dput_at, Ew.fnD_at, Ew.retGet_at, Ew.sortD_at, Ew.ext_at, Ew.L_at, Ew.LIx_at, Ew.Sc_at, Ew.callL_at, Ew.opNil_at, Ew.sv_i, Ew.oo_at, Ew.appO_at, Ew.sub2_at, Ew.fnL_at, Ew.subAppL_at, Ew.lcO_at, Ew.walk_at, Bool.true_xor, Bool.false_xor
, Vxt.eJs, Vxt.eFmt, cs_p, fmt_n h, emp_S, S_cat, z1]
  rw [if_pos z2]
  rfl
theorem own_go (x0 : Option O) : ∀ (k lo : Nat), lo + k ≤ 25 → lcGo [1] (hName 1) eYesT (Vxt.eJoin [(eC (.str "p")), (eFmt (eF (eVar 1)))]) (rangeD (lo : Int) k) [x0, none] = some (names lo k, [x0, none]) := by
  intro k
  induction k with
  | zero => intro lo _; simp [rangeD, lcGo, names]
  | succ k ih =>
    intro lo h
    have i := ih (lo + 1) (by omega)
    have e : ((lo : Int) + 1) = ((lo + 1 : Nat) : Int) := by omega
    rw [rangeD_succ, lcGo, names]
    simp -implicitDefEqProofs only [Ev.nd1, Ev.nd2, Ev.lent_fz, Ev.lent_ow, Ev.lent_oo, Ev.lent_mx, Ev.lent_ln, Ev.lent_nil, Ev.back_nil, Ev.back_tm, Ev.back_sl, Ev.runM_at, Ev.start_at, Ev.seq_at, Ev.pass_at, Ev.brk_at, Ev.cnt_at, Ev.ret_at, Ev.retN_at, Ev.asg_at, Ev.if_at, Ev.drop_at, Ev.tgt_at, Ev.tup_at, Ev.for_at, Ev.P_at, Ev.F_at, Ev.var_at, Ev.c_at, Ev.op_at, Ev.opF_at, Ev.call_at, Ev.call1_at, Ev.un_at, Ev.isi_at, Ev.nil_at, Ev.cons_at, Ev.aNil_at, Ev.aCons_at, Ev.lst_at', Ev.tupE_at, Ev.mix_at, Ev.t_at, Ev.tru_at, Ev.and_at, Ev.or_at, Ev.not_at, Ev.andV_at, Ev.orV_at, Ev.notV_at, Ev.if2_at, Ev.ix_at', Ev.no_at, Ev.yes_at, Ev.sl_at, Ev.rep_at, Ev.fn_at, Ev.fnK_at, Ev.seqL_at, Ev.seqT_at, Ev.enum_at, Ev.zip_at, Ec.rng1_D, Ec.lr1_D, Ev.lc_at, Ev.lcE_at, Ev.yesT_at, Ev.meth_at, Ev.idx_at, Ev.subApp_at, Ev.sortSet_at, Ev.hName_at, Ev.hNil_at, Ev.hCons_at, Ev.hTup_at, Ev.hSub_at, Ev.turns_nil, Ev.force_fz, Ev.force_ow, Ev.force_oo, Ev.force_mx, Ev.force_sl, Ev.norm_fz, Ev.norm_ow, Ev.norm_sl, Ev.argO_sl, Ev.own_at, Ev.setOwn_at, Ev.flatF, Ev.flatO, Ev.flatL, Ev.data_tm, Ev.data_sl, Ev.toD_fz, Ev.toD_ow, Ev.toD_ln, Ev.toD_oo, Ev.toD_mx, Ev.flat_fz, Ev.flat_ow, Ev.flat_sl, Ev.retP_fz, Ev.retP_ow, Ev.retP_oo, Ev.retP_sl, Ev.putP_fz, Ev.putP_ow, Ev.putP_oo, Ev.putP_mx, Ev.putP_sl, Ev.noLn_at, Ev.argOs_nil, Ev.argOs_cons, Ev.argO_fz, Ev.argO_ow, Ev.slots_nil, Ev.slots_tm, Ev.slots_sl, Ev.bOf_b, Ev.ownP_fz, Ev.ownP_ow, Ev.ownP_sl, Ev.ownPs_nil, Ev.ownPs_cons, Ev.putAll_nil, Ev.putAll_cons, Ev.mixI_nil, Ev.mixI_fz, Ev.mixI_ow, Ev.mixI_oo, Ev.ixD_list, Ev.ixD_tup, Ev.atI_0, Ev.atI_1, Ev.ixN_0, Ev.ixN_1, Ev.gt_ii, Ev.ge_ii, Ev.lt_ii, Ev.le_ii, Ev.add_ii, Ev.add_ll, Ev.sub_ii, Ev.mul_ii, Ev.fdv_ii, Ev.mod_ii, Ev.neg_i, Ev.int_i, Ev.abs_i, Ev.max2_ii, Ev.dvm_ii, Ev.len_l, Ev.len_t, Ev.listO_l, Ev.tupO_l, Ev.ints_map, Ev.intsD_map, Ev.sorted_l, Ev.sl_list, List.map_cons, List.map_nil, List.length_cons, List.length_nil, List.replicate_succ, List.replicate_zero, List.append_nil, List.nil_append, List.cons_append, List.getElem?_cons_zero, List.getElem?_cons_succ, List.getElem?_nil, List.set_cons_zero, List.set_cons_succ, List.set_nil, Option.bind_some, Option.bind_none, Option.map_some, Option.map_none, Nat.reduceAdd, Nat.reduceSub, Nat.reduceEqDiff, Nat.reduceLeDiff, if_true, if_false, reduceCtorEq, List.nodup_nil, Bool.false_eq_true, Bool.not_true, Bool.not_false, Bool.true_and, Bool.false_and, Bool.and_true, Bool.and_false, ↓reduceIte, id_eq, List.tail_cons, Nat.zero_add, List.all_cons, List.all_nil, ne_eq, not_false_eq_true, and_self, and_true, true_and, Ew.dsp1_at, Ew.key_i, Ew.swapNew_at, Ew.rng2_at, Ew.rngD_at, Ew.putP_dc, Ew.dc_at, Ew.din_at, Ew.dput_at, Ew.fnD_at, Ew.retGet_at, Ew.sortD_at, Ew.ext_at, Ew.L_at, Ew.LIx_at, Ew.Sc_at, Ew.callL_at, Ew.opNil_at, Ew.sv_i, Ew.oo_at, Ew.appO_at, Ew.sub2_at, Ew.fnL_at, Ew.subAppL_at, Ew.lcO_at, Ew.walk_at, Bool.true_xor, Bool.false_xor
, join_k (show lo < 25 by omega), Ec.wipe_nil, Ec.wipe_cons, e, i]
theorem law_go (x0 x1 x2 x3 x4 : Option O) : ∀ (k lo : Nat), lo + k ≤ 25 → lcGo [5] (hName 5) eYesT (eF (eOpF addO (eC (.str "p")) (eCall1 Vd.strD (eVar 5)))) (rangeD (lo : Int) k) [x0, x1, x2, x3, x4, none] = some (names lo k, [x0, x1, x2, x3, x4, none]) := by
  intro k
  induction k with
  | zero => intro lo _; simp [rangeD, lcGo, names]
  | succ k ih =>
    intro lo h
    have i := ih (lo + 1) (by omega)
    have e : ((lo : Int) + 1) = ((lo + 1 : Nat) : Int) := by omega
    have h1 := (num_ok lo (by omega)).1
    have ad : addO (.str (S [112])) (.str (S (TL.numL lo))) = some (.fz (.str (S (pk lo)))) := add_S (by simp; omega)
    rw [rangeD_succ, lcGo, names]
    simp -implicitDefEqProofs only [Ev.nd1, Ev.nd2, Ev.lent_fz, Ev.lent_ow, Ev.lent_oo, Ev.lent_mx, Ev.lent_ln, Ev.lent_nil, Ev.back_nil, Ev.back_tm, Ev.back_sl, Ev.runM_at, Ev.start_at, Ev.seq_at, Ev.pass_at, Ev.brk_at, Ev.cnt_at, Ev.ret_at, Ev.retN_at, Ev.asg_at, Ev.if_at, Ev.drop_at, Ev.tgt_at, Ev.tup_at, Ev.for_at, Ev.P_at, Ev.F_at, Ev.var_at, Ev.c_at, Ev.op_at, Ev.opF_at, Ev.call_at, Ev.call1_at, Ev.un_at, Ev.isi_at, Ev.nil_at, Ev.cons_at, Ev.aNil_at, Ev.aCons_at, Ev.lst_at', Ev.tupE_at, Ev.mix_at, Ev.t_at, Ev.tru_at, Ev.and_at, Ev.or_at, Ev.not_at, Ev.andV_at, Ev.orV_at, Ev.notV_at, Ev.if2_at, Ev.ix_at', Ev.no_at, Ev.yes_at, Ev.sl_at, Ev.rep_at, Ev.fn_at, Ev.fnK_at, Ev.seqL_at, Ev.seqT_at, Ev.enum_at, Ev.zip_at, Ec.rng1_D, Ec.lr1_D, Ev.lc_at, Ev.lcE_at, Ev.yesT_at, Ev.meth_at, Ev.idx_at, Ev.subApp_at, Ev.sortSet_at, Ev.hName_at, Ev.hNil_at, Ev.hCons_at, Ev.hTup_at, Ev.hSub_at, Ev.turns_nil, Ev.force_fz, Ev.force_ow, Ev.force_oo, Ev.force_mx, Ev.force_sl, Ev.norm_fz, Ev.norm_ow, Ev.norm_sl, Ev.argO_sl, Ev.own_at, Ev.setOwn_at, Ev.flatF, Ev.flatO, Ev.flatL, Ev.data_tm, Ev.data_sl, Ev.toD_fz, Ev.toD_ow, Ev.toD_ln, Ev.toD_oo, Ev.toD_mx, Ev.flat_fz, Ev.flat_ow, Ev.flat_sl, Ev.retP_fz, Ev.retP_ow, Ev.retP_oo, Ev.retP_sl, Ev.putP_fz, Ev.putP_ow, Ev.putP_oo, Ev.putP_mx, Ev.putP_sl, Ev.noLn_at, Ev.argOs_nil, Ev.argOs_cons, Ev.argO_fz, Ev.argO_ow, Ev.slots_nil, Ev.slots_tm, Ev.slots_sl, Ev.bOf_b, Ev.ownP_fz, Ev.ownP_ow, Ev.ownP_sl, Ev.ownPs_nil, Ev.ownPs_cons, Ev.putAll_nil, Ev.putAll_cons, Ev.mixI_nil, Ev.mixI_fz, Ev.mixI_ow, Ev.mixI_oo, Ev.ixD_list, Ev.ixD_tup, Ev.atI_0, Ev.atI_1, Ev.ixN_0, Ev.ixN_1, Ev.gt_ii, Ev.ge_ii, Ev.lt_ii, Ev.le_ii, Ev.add_ii, Ev.add_ll, Ev.sub_ii, Ev.mul_ii, Ev.fdv_ii, Ev.mod_ii, Ev.neg_i, Ev.int_i, Ev.abs_i, Ev.max2_ii, Ev.dvm_ii, Ev.len_l, Ev.len_t, Ev.listO_l, Ev.tupO_l, Ev.ints_map, Ev.intsD_map, Ev.sorted_l, Ev.sl_list, List.map_cons, List.map_nil, List.length_cons, List.length_nil, List.replicate_succ, List.replicate_zero, List.append_nil, List.nil_append, List.cons_append, List.getElem?_cons_zero, List.getElem?_cons_succ, List.getElem?_nil, List.set_cons_zero, List.set_cons_succ, List.set_nil, Option.bind_some, Option.bind_none, Option.map_some, Option.map_none, Nat.reduceAdd, Nat.reduceSub, Nat.reduceEqDiff, Nat.reduceLeDiff, if_true, if_false, reduceCtorEq, List.nodup_nil, Bool.false_eq_true, Bool.not_true, Bool.not_false, Bool.true_and, Bool.false_and, Bool.and_true, Bool.and_false, ↓reduceIte, id_eq, List.tail_cons, Nat.zero_add, List.all_cons, List.all_nil, ne_eq, not_false_eq_true, and_self, and_true, true_and, Ew.dsp1_at, Ew.key_i, Ew.swapNew_at, Ew.rng2_at, Ew.rngD_at, Ew.putP_dc, Ew.dc_at, Ew.din_at, Ew.dput_at, Ew.fnD_at, Ew.retGet_at, Ew.sortD_at, Ew.ext_at, Ew.L_at, Ew.LIx_at, Ew.Sc_at, Ew.callL_at, Ew.opNil_at, Ew.sv_i, Ew.oo_at, Ew.appO_at, Ew.sub2_at, Ew.fnL_at, Ew.subAppL_at, Ew.lcO_at, Ew.walk_at, Bool.true_xor, Bool.false_xor
, strD_n (show lo < 25 by omega), cs_p, ad, Ec.wipe_nil, Ec.wipe_cons, e]
    simp only [cs_p] at i
    rw [i]
    rfl
theorem names_sz : ∀ (k lo : Nat), lo + k ≤ 25 → ∀ d ∈ names lo k, Sz 0 10 d
  | 0, _, _, d, hd => by simp [names] at hd
  | k + 1, lo, h, d, hd => by
    rw [names] at hd
    rcases List.mem_cons.mp hd with rfl | m
    · obtain ⟨h1, h2, _⟩ := num_ok lo (by omega)
      refine sz_s (by simp [pk]; omega) (by decide) fun c hc => ?_
      rcases List.mem_cons.mp (show c ∈ 112 :: TL.numL lo from hc) with rfl | m
      · decide
      · exact h2 c m
    · exact names_sz k (lo + 1) (by omega) d m
theorem names_len : ∀ (k lo : Nat), (names lo k).length = k
  | 0, _ => rfl
  | k + 1, lo => by rw [names, List.length_cons, names_len]
theorem names_repr (n : Nat) (h : n ≤ 24) : ∃ s : Str, reprD (.list (names 0 n)) = some (.str s) :=
  ⟨_, (sz_list (szs_all (names_sz n 0 (by omega)))).repr (by decide) (by rw [names_len]; omega)⟩
theorem v_own (n : Nat) (h : n ≤ 24) : val f_own_names [.fz (.int (n : Nat))] = some (.ow (names 0 n), [none]) := by
  have c := v_check (n := (n : Nat)) (by omega) (by omega)
  have g := own_go (some (.fz (.int (n : Nat)))) n 0 (by omega)
  have rk : rngD [.int (n : Nat)] = some (rangeD 0 n) := by
    have := Ec.rngD_of (j := (n : Nat)) (Ec.rgOk_of (by omega) (by omega))
    rw [this, Int.toNat_natCast]
  have hl : (rangeD 0 n).length ≤ sizeLine := by rw [rangeD_len, sizeLine_eq]; omega
  rw [show ((0 : Nat) : Int) = 0 from rfl] at g
  unfold val f_own_names m_own_names
  simp -implicitDefEqProofs only [Ev.nd1, Ev.nd2, Ev.lent_fz, Ev.lent_ow, Ev.lent_oo, Ev.lent_mx, Ev.lent_ln, Ev.lent_nil, Ev.back_nil, Ev.back_tm, Ev.back_sl, Ev.runM_at, Ev.start_at, Ev.seq_at, Ev.pass_at, Ev.brk_at, Ev.cnt_at, Ev.ret_at, Ev.retN_at, Ev.asg_at, Ev.if_at, Ev.drop_at, Ev.tgt_at, Ev.tup_at, Ev.for_at, Ev.P_at, Ev.F_at, Ev.var_at, Ev.c_at, Ev.op_at, Ev.opF_at, Ev.call_at, Ev.call1_at, Ev.un_at, Ev.isi_at, Ev.nil_at, Ev.cons_at, Ev.aNil_at, Ev.aCons_at, Ev.lst_at', Ev.tupE_at, Ev.mix_at, Ev.t_at, Ev.tru_at, Ev.and_at, Ev.or_at, Ev.not_at, Ev.andV_at, Ev.orV_at, Ev.notV_at, Ev.if2_at, Ev.ix_at', Ev.no_at, Ev.yes_at, Ev.sl_at, Ev.rep_at, Ev.fn_at, Ev.fnK_at, Ev.seqL_at, Ev.seqT_at, Ev.enum_at, Ev.zip_at, Ec.rng1_D, Ec.lr1_D, Ev.lc_at, Ev.lcE_at, Ev.yesT_at, Ev.meth_at, Ev.idx_at, Ev.subApp_at, Ev.sortSet_at, Ev.hName_at, Ev.hNil_at, Ev.hCons_at, Ev.hTup_at, Ev.hSub_at, Ev.turns_nil, Ev.force_fz, Ev.force_ow, Ev.force_oo, Ev.force_mx, Ev.force_sl, Ev.norm_fz, Ev.norm_ow, Ev.norm_sl, Ev.argO_sl, Ev.own_at, Ev.setOwn_at, Ev.flatF, Ev.flatO, Ev.flatL, Ev.data_tm, Ev.data_sl, Ev.toD_fz, Ev.toD_ow, Ev.toD_ln, Ev.toD_oo, Ev.toD_mx, Ev.flat_fz, Ev.flat_ow, Ev.flat_sl, Ev.retP_fz, Ev.retP_ow, Ev.retP_oo, Ev.retP_sl, Ev.putP_fz, Ev.putP_ow, Ev.putP_oo, Ev.putP_mx, Ev.putP_sl, Ev.noLn_at, Ev.argOs_nil, Ev.argOs_cons, Ev.argO_fz, Ev.argO_ow, Ev.slots_nil, Ev.slots_tm, Ev.slots_sl, Ev.bOf_b, Ev.ownP_fz, Ev.ownP_ow, Ev.ownP_sl, Ev.ownPs_nil, Ev.ownPs_cons, Ev.putAll_nil, Ev.putAll_cons, Ev.mixI_nil, Ev.mixI_fz, Ev.mixI_ow, Ev.mixI_oo, Ev.ixD_list, Ev.ixD_tup, Ev.atI_0, Ev.atI_1, Ev.ixN_0, Ev.ixN_1, Ev.gt_ii, Ev.ge_ii, Ev.lt_ii, Ev.le_ii, Ev.add_ii, Ev.add_ll, Ev.sub_ii, Ev.mul_ii, Ev.fdv_ii, Ev.mod_ii, Ev.neg_i, Ev.int_i, Ev.abs_i, Ev.max2_ii, Ev.dvm_ii, Ev.len_l, Ev.len_t, Ev.listO_l, Ev.tupO_l, Ev.ints_map, Ev.intsD_map, Ev.sorted_l, Ev.sl_list, List.map_cons, List.map_nil, List.length_cons, List.length_nil, List.replicate_succ, List.replicate_zero, List.append_nil, List.nil_append, List.cons_append, List.getElem?_cons_zero, List.getElem?_cons_succ, List.getElem?_nil, List.set_cons_zero, List.set_cons_succ, List.set_nil, Option.bind_some, Option.bind_none, Option.map_some, Option.map_none, Nat.reduceAdd, Nat.reduceSub, Nat.reduceEqDiff, Nat.reduceLeDiff, if_true, if_false, reduceCtorEq, List.nodup_nil, Bool.false_eq_true, Bool.not_true, Bool.not_false, Bool.true_and, Bool.false_and, Bool.and_true, Bool.and_false, ↓reduceIte, id_eq, List.tail_cons, Nat.zero_add, List.all_cons, List.all_nil, ne_eq, not_false_eq_true, and_self, and_true, true_and, Ew.dsp1_at, Ew.key_i, Ew.swapNew_at, Ew.rng2_at, Ew.rngD_at, Ew.putP_dc, Ew.dc_at, Ew.din_at, Ew.dput_at, Ew.fnD_at, Ew.retGet_at, Ew.sortD_at, Ew.ext_at, Ew.L_at, Ew.LIx_at, Ew.Sc_at, Ew.callL_at, Ew.opNil_at, Ew.sv_i, Ew.oo_at, Ew.appO_at, Ew.sub2_at, Ew.fnL_at, Ew.subAppL_at, Ew.lcO_at, Ew.walk_at, Bool.true_xor, Bool.false_xor
, c, rk, hl, okv, Ec.wipe_nil, Ec.wipe_cons, Ec.rest_nil, Ec.rest_cons, g, Option.getD_some]
end K25
end
section
set_option Elab.async false
set_option linter.all false
set_option maxRecDepth 100000
set_option maxHeartbeats 8000000
namespace K25
open PySem PySem.Spec PyProof.Rows L2 Vi Vf Vo Vp Vs Vt Vu Vv Vg Vw Vx Vy Va Vb Vc Vk Vm Vl Vn Vd Vq Vr Vj Vfr Ev Ec Mo Ew Gd Gx Gy Gt Rk Vxt Vxr
open SX (S S_cat S_len S_tl S_inj)
theorem eqS_s {x : Str} : eqS (.str x) (.str x) = some (.bool true) := by simp [eqS]
theorem look_v {d : D} : List.lookup (Str.ofString "value") [(Str.ofString "value", d)] = some d := by simp [List.lookup]
theorem tail_bad {d : D} (h : Bad d) (a b : Int) : ∃ a' b' : Int, (mSeq (mAsg 2 (eP (eAndV (eIsi "int" (eVar 1)) (eAndV (eNotV (eIsi "bool" (eVar 1))) (eChain leI leI (eC (.int 0)) (eF (eVar 1)) (eC (.int 24))))))) (mSeq (mTry 4 ["InvalidMany"] (mSeq (mAsg 3 (eIf (eT (eOp eqX (eFn f__law_draw (aCons (eVar 0) (aCons (eP (eC (.int 2))) aNil))) (eP (eC (.int 0))))) (eFn f_own_names (aCons (eP (eF (eVar 1))) aNil)) (eFnK 1 [0] f_own_names (aCons (eP (eF (eVar 1))) aNil)))) mPass) (rIf (eT (eOp eqX (eFn f__law_draw (aCons (eVar 0) (aCons (eP (eC (.int 2))) aNil))) (eP (eC (.int 0))))) (eFnR xr_own_names (aCons (eVar 1) aNil)) (eFnRK 1 [0] xr_own_names (aCons (eVar 1) aNil))) (fun ev => (mIfR (eOr (eNot (eT (eXi true))) (eNot (eT (eXi true)))) (mRetT (eP (eC (.bool false)))) (mIfR (eT (eXi false)) (mRetT (eP (eC (.bool false)))) (mRetT (eP (eAndV (eNotV (eF (eVar 2))) (eOp eqS (eP (eCall1 reprD (eP (eXa ev "value")))) (eP (eCall1 reprD (eVar 1))))))))))) (mSeq (mIf (eOr (eNot (eTru (eVar 2))) (eT (eOp neX (eP (eCall1 reprD (eVar 3))) (eP (eCall1 reprD (eLc [5] (eRng1 (eCons (eF (eVar 1)) eNil)) (hName 5) eYesT (eF (eOpF addO (eC (.str "p")) (eCall1 Vd.strD (eVar 5)))))))))) (mSeq (mRet (eP (eC (.bool false)))) mPass) mPass) (mSeq (mDrop (eP (eMeth 3 mApp (eCons (eC (.str "")) eNil)))) (mSeq (mRet (eP (eOp eqX (eP (eCall1 reprD (eFn f_own_names (aCons (eP (eF (eVar 1))) aNil)))) (eP (eCall1 reprD (eLc [5] (eRng1 (eCons (eF (eVar 1)) eNil)) (hName 5) eYesT (eF (eOpF addO (eC (.str "p")) (eCall1 Vd.strD (eVar 5)))))))))) mPass))))) [some (.ln [.int a, .int b]), some (.fz d), none, none, none, none] = some (.rt (.fz (.bool true)) [some (.ln [.int a', .int b']), some (.fz d), some (.fz (.bool false)), none, none, none]) := by
  have hd := h.sz.nd
  have e1 := Ec.kit_int hd
  have e2 := Ec.kit_bool hd
  have x := xr_own h
  have er : reprD d = some (.str d.shown) := h.sz.repr (by decide) (by decide)
  obtain ⟨r, a', b', r0, r1, dr⟩ := v_draw a b 2 (by decide) (by decide)
  refine ⟨a', b', ?_⟩
  have good : (eP (eAndV (eIsi "int" (eVar 1)) (eAndV (eNotV (eIsi "bool" (eVar 1))) (eChain leI leI (eC (.int 0)) (eF (eVar 1)) (eC (.int 24)))))) [some (.ln [.int a, .int b]), some (.fz d), none, none, none, none] = some (.tm (.fz (.bool false)), [some (.ln [.int a, .int b]), some (.fz d), none, none, none, none]) := by
    cases h with
    | int n hn _ =>
      by_cases h0 : 0 ≤ n
      · simp -implicitDefEqProofs only [Ev.nd1, Ev.nd2, Ev.lent_fz, Ev.lent_ow, Ev.lent_oo, Ev.lent_mx, Ev.lent_ln, Ev.lent_nil, Ev.back_nil, Ev.back_tm, Ev.back_sl, Ev.runM_at, Ev.start_at, Ev.seq_at, Ev.pass_at, Ev.brk_at, Ev.cnt_at, Ev.ret_at, Ev.retN_at, Ev.asg_at, Ev.if_at, Ev.drop_at, Ev.tgt_at, Ev.tup_at, Ev.for_at, Ev.P_at, Ev.F_at, Ev.var_at, Ev.c_at, Ev.op_at, Ev.opF_at, Ev.call_at, Ev.call1_at, Ev.un_at, Ev.isi_at, Ev.nil_at, Ev.cons_at, Ev.aNil_at, Ev.aCons_at, Ev.lst_at', Ev.tupE_at, Ev.mix_at, Ev.t_at, Ev.tru_at, Ev.and_at, Ev.or_at, Ev.not_at, Ev.andV_at, Ev.orV_at, Ev.notV_at, Ev.if2_at, Ev.ix_at', Ev.no_at, Ev.yes_at, Ev.sl_at, Ev.rep_at, Ev.fn_at, Ev.fnK_at, Ev.seqL_at, Ev.seqT_at, Ev.enum_at, Ev.zip_at, Ec.rng1_D, Ec.lr1_D, Ev.lc_at, Ev.lcE_at, Ev.yesT_at, Ev.meth_at, Ev.idx_at, Ev.subApp_at, Ev.sortSet_at, Ev.hName_at, Ev.hNil_at, Ev.hCons_at, Ev.hTup_at, Ev.hSub_at, Ev.turns_nil, Ev.force_fz, Ev.force_ow, Ev.force_oo, Ev.force_mx, Ev.force_sl, Ev.norm_fz, Ev.norm_ow, Ev.norm_sl, Ev.argO_sl, Ev.own_at, Ev.setOwn_at, Ev.flatF, Ev.flatO, Ev.flatL, Ev.data_tm, Ev.data_sl, Ev.toD_fz, Ev.toD_ow, Ev.toD_ln, Ev.toD_oo, Ev.toD_mx, Ev.flat_fz, Ev.flat_ow, Ev.flat_sl, Ev.retP_fz, Ev.retP_ow, Ev.retP_oo, Ev.retP_sl, Ev.putP_fz, Ev.putP_ow, Ev.putP_oo, Ev.putP_mx, Ev.putP_sl, Ev.noLn_at, Ev.argOs_nil, Ev.argOs_cons, Ev.argO_fz, Ev.argO_ow, Ev.slots_nil, Ev.slots_tm, Ev.slots_sl, Ev.bOf_b, Ev.ownP_fz, Ev.ownP_ow, Ev.ownP_sl, Ev.ownPs_nil, Ev.ownPs_cons, Ev.putAll_nil, Ev.putAll_cons, Ev.mixI_nil, Ev.mixI_fz, Ev.mixI_ow, Ev.mixI_oo, Ev.ixD_list, Ev.ixD_tup, Ev.atI_0, Ev.atI_1, Ev.ixN_0, Ev.ixN_1, Ev.gt_ii, Ev.ge_ii, Ev.lt_ii, Ev.le_ii, Ev.add_ii, Ev.add_ll, Ev.sub_ii, Ev.mul_ii, Ev.fdv_ii, Ev.mod_ii, Ev.neg_i, Ev.int_i, Ev.abs_i, Ev.max2_ii, Ev.dvm_ii, Ev.len_l, Ev.len_t, Ev.listO_l, Ev.tupO_l, Ev.ints_map, Ev.intsD_map, Ev.sorted_l, Ev.sl_list, List.map_cons, List.map_nil, List.length_cons, List.length_nil, List.replicate_succ, List.replicate_zero, List.append_nil, List.nil_append, List.cons_append, List.getElem?_cons_zero, List.getElem?_cons_succ, List.getElem?_nil, List.set_cons_zero, List.set_cons_succ, List.set_nil, Option.bind_some, Option.bind_none, Option.map_some, Option.map_none, Nat.reduceAdd, Nat.reduceSub, Nat.reduceEqDiff, Nat.reduceLeDiff, if_true, if_false, reduceCtorEq, List.nodup_nil, Bool.false_eq_true, Bool.not_true, Bool.not_false, Bool.true_and, Bool.false_and, Bool.and_true, Bool.and_false, ↓reduceIte, id_eq, List.tail_cons, Nat.zero_add, List.all_cons, List.all_nil, ne_eq, not_false_eq_true, and_self, and_true, true_and, Ew.dsp1_at, Ew.key_i, Ew.swapNew_at, Ew.rng2_at, Ew.rngD_at, Ew.putP_dc, Ew.dc_at, Ew.din_at, Ew.dput_at, Ew.fnD_at, Ew.retGet_at, Ew.sortD_at, Ew.ext_at, Ew.L_at, Ew.LIx_at, Ew.Sc_at, Ew.callL_at, Ew.opNil_at, Ew.sv_i, Ew.oo_at, Ew.appO_at, Ew.sub2_at, Ew.fnL_at, Ew.subAppL_at, Ew.lcO_at, Ew.walk_at, Bool.true_xor, Bool.false_xor
, e1, e2, Ec.isInt, isBool, chain_at, chK_t, chK_f, Ev.le_ii, h0, (show ¬ n ≤ 24 by omega), decide_true, decide_false, Bool.or_false]
      · simp -implicitDefEqProofs only [Ev.nd1, Ev.nd2, Ev.lent_fz, Ev.lent_ow, Ev.lent_oo, Ev.lent_mx, Ev.lent_ln, Ev.lent_nil, Ev.back_nil, Ev.back_tm, Ev.back_sl, Ev.runM_at, Ev.start_at, Ev.seq_at, Ev.pass_at, Ev.brk_at, Ev.cnt_at, Ev.ret_at, Ev.retN_at, Ev.asg_at, Ev.if_at, Ev.drop_at, Ev.tgt_at, Ev.tup_at, Ev.for_at, Ev.P_at, Ev.F_at, Ev.var_at, Ev.c_at, Ev.op_at, Ev.opF_at, Ev.call_at, Ev.call1_at, Ev.un_at, Ev.isi_at, Ev.nil_at, Ev.cons_at, Ev.aNil_at, Ev.aCons_at, Ev.lst_at', Ev.tupE_at, Ev.mix_at, Ev.t_at, Ev.tru_at, Ev.and_at, Ev.or_at, Ev.not_at, Ev.andV_at, Ev.orV_at, Ev.notV_at, Ev.if2_at, Ev.ix_at', Ev.no_at, Ev.yes_at, Ev.sl_at, Ev.rep_at, Ev.fn_at, Ev.fnK_at, Ev.seqL_at, Ev.seqT_at, Ev.enum_at, Ev.zip_at, Ec.rng1_D, Ec.lr1_D, Ev.lc_at, Ev.lcE_at, Ev.yesT_at, Ev.meth_at, Ev.idx_at, Ev.subApp_at, Ev.sortSet_at, Ev.hName_at, Ev.hNil_at, Ev.hCons_at, Ev.hTup_at, Ev.hSub_at, Ev.turns_nil, Ev.force_fz, Ev.force_ow, Ev.force_oo, Ev.force_mx, Ev.force_sl, Ev.norm_fz, Ev.norm_ow, Ev.norm_sl, Ev.argO_sl, Ev.own_at, Ev.setOwn_at, Ev.flatF, Ev.flatO, Ev.flatL, Ev.data_tm, Ev.data_sl, Ev.toD_fz, Ev.toD_ow, Ev.toD_ln, Ev.toD_oo, Ev.toD_mx, Ev.flat_fz, Ev.flat_ow, Ev.flat_sl, Ev.retP_fz, Ev.retP_ow, Ev.retP_oo, Ev.retP_sl, Ev.putP_fz, Ev.putP_ow, Ev.putP_oo, Ev.putP_mx, Ev.putP_sl, Ev.noLn_at, Ev.argOs_nil, Ev.argOs_cons, Ev.argO_fz, Ev.argO_ow, Ev.slots_nil, Ev.slots_tm, Ev.slots_sl, Ev.bOf_b, Ev.ownP_fz, Ev.ownP_ow, Ev.ownP_sl, Ev.ownPs_nil, Ev.ownPs_cons, Ev.putAll_nil, Ev.putAll_cons, Ev.mixI_nil, Ev.mixI_fz, Ev.mixI_ow, Ev.mixI_oo, Ev.ixD_list, Ev.ixD_tup, Ev.atI_0, Ev.atI_1, Ev.ixN_0, Ev.ixN_1, Ev.gt_ii, Ev.ge_ii, Ev.lt_ii, Ev.le_ii, Ev.add_ii, Ev.add_ll, Ev.sub_ii, Ev.mul_ii, Ev.fdv_ii, Ev.mod_ii, Ev.neg_i, Ev.int_i, Ev.abs_i, Ev.max2_ii, Ev.dvm_ii, Ev.len_l, Ev.len_t, Ev.listO_l, Ev.tupO_l, Ev.ints_map, Ev.intsD_map, Ev.sorted_l, Ev.sl_list, List.map_cons, List.map_nil, List.length_cons, List.length_nil, List.replicate_succ, List.replicate_zero, List.append_nil, List.nil_append, List.cons_append, List.getElem?_cons_zero, List.getElem?_cons_succ, List.getElem?_nil, List.set_cons_zero, List.set_cons_succ, List.set_nil, Option.bind_some, Option.bind_none, Option.map_some, Option.map_none, Nat.reduceAdd, Nat.reduceSub, Nat.reduceEqDiff, Nat.reduceLeDiff, if_true, if_false, reduceCtorEq, List.nodup_nil, Bool.false_eq_true, Bool.not_true, Bool.not_false, Bool.true_and, Bool.false_and, Bool.and_true, Bool.and_false, ↓reduceIte, id_eq, List.tail_cons, Nat.zero_add, List.all_cons, List.all_nil, ne_eq, not_false_eq_true, and_self, and_true, true_and, Ew.dsp1_at, Ew.key_i, Ew.swapNew_at, Ew.rng2_at, Ew.rngD_at, Ew.putP_dc, Ew.dc_at, Ew.din_at, Ew.dput_at, Ew.fnD_at, Ew.retGet_at, Ew.sortD_at, Ew.ext_at, Ew.L_at, Ew.LIx_at, Ew.Sc_at, Ew.callL_at, Ew.opNil_at, Ew.sv_i, Ew.oo_at, Ew.appO_at, Ew.sub2_at, Ew.fnL_at, Ew.subAppL_at, Ew.lcO_at, Ew.walk_at, Bool.true_xor, Bool.false_xor
, e1, e2, Ec.isInt, isBool, chain_at, chK_t, chK_f, Ev.le_ii, h0, decide_true, decide_false, Bool.or_false]
    | _ => simp -implicitDefEqProofs only [Ev.nd1, Ev.nd2, Ev.lent_fz, Ev.lent_ow, Ev.lent_oo, Ev.lent_mx, Ev.lent_ln, Ev.lent_nil, Ev.back_nil, Ev.back_tm, Ev.back_sl, Ev.runM_at, Ev.start_at, Ev.seq_at, Ev.pass_at, Ev.brk_at, Ev.cnt_at, Ev.ret_at, Ev.retN_at, Ev.asg_at, Ev.if_at, Ev.drop_at, Ev.tgt_at, Ev.tup_at, Ev.for_at, Ev.P_at, Ev.F_at, Ev.var_at, Ev.c_at, Ev.op_at, Ev.opF_at, Ev.call_at, Ev.call1_at, Ev.un_at, Ev.isi_at, Ev.nil_at, Ev.cons_at, Ev.aNil_at, Ev.aCons_at, Ev.lst_at', Ev.tupE_at, Ev.mix_at, Ev.t_at, Ev.tru_at, Ev.and_at, Ev.or_at, Ev.not_at, Ev.andV_at, Ev.orV_at, Ev.notV_at, Ev.if2_at, Ev.ix_at', Ev.no_at, Ev.yes_at, Ev.sl_at, Ev.rep_at, Ev.fn_at, Ev.fnK_at, Ev.seqL_at, Ev.seqT_at, Ev.enum_at, Ev.zip_at, Ec.rng1_D, Ec.lr1_D, Ev.lc_at, Ev.lcE_at, Ev.yesT_at, Ev.meth_at, Ev.idx_at, Ev.subApp_at, Ev.sortSet_at, Ev.hName_at, Ev.hNil_at, Ev.hCons_at, Ev.hTup_at, Ev.hSub_at, Ev.turns_nil, Ev.force_fz, Ev.force_ow, Ev.force_oo, Ev.force_mx, Ev.force_sl, Ev.norm_fz, Ev.norm_ow, Ev.norm_sl, Ev.argO_sl, Ev.own_at, Ev.setOwn_at, Ev.flatF, Ev.flatO, Ev.flatL, Ev.data_tm, Ev.data_sl, Ev.toD_fz, Ev.toD_ow, Ev.toD_ln, Ev.toD_oo, Ev.toD_mx, Ev.flat_fz, Ev.flat_ow, Ev.flat_sl, Ev.retP_fz, Ev.retP_ow, Ev.retP_oo, Ev.retP_sl, Ev.putP_fz, Ev.putP_ow, Ev.putP_oo, Ev.putP_mx, Ev.putP_sl, Ev.noLn_at, Ev.argOs_nil, Ev.argOs_cons, Ev.argO_fz, Ev.argO_ow, Ev.slots_nil, Ev.slots_tm, Ev.slots_sl, Ev.bOf_b, Ev.ownP_fz, Ev.ownP_ow, Ev.ownP_sl, Ev.ownPs_nil, Ev.ownPs_cons, Ev.putAll_nil, Ev.putAll_cons, Ev.mixI_nil, Ev.mixI_fz, Ev.mixI_ow, Ev.mixI_oo, Ev.ixD_list, Ev.ixD_tup, Ev.atI_0, Ev.atI_1, Ev.ixN_0, Ev.ixN_1, Ev.gt_ii, Ev.ge_ii, Ev.lt_ii, Ev.le_ii, Ev.add_ii, Ev.add_ll, Ev.sub_ii, Ev.mul_ii, Ev.fdv_ii, Ev.mod_ii, Ev.neg_i, Ev.int_i, Ev.abs_i, Ev.max2_ii, Ev.dvm_ii, Ev.len_l, Ev.len_t, Ev.listO_l, Ev.tupO_l, Ev.ints_map, Ev.intsD_map, Ev.sorted_l, Ev.sl_list, List.map_cons, List.map_nil, List.length_cons, List.length_nil, List.replicate_succ, List.replicate_zero, List.append_nil, List.nil_append, List.cons_append, List.getElem?_cons_zero, List.getElem?_cons_succ, List.getElem?_nil, List.set_cons_zero, List.set_cons_succ, List.set_nil, Option.bind_some, Option.bind_none, Option.map_some, Option.map_none, Nat.reduceAdd, Nat.reduceSub, Nat.reduceEqDiff, Nat.reduceLeDiff, if_true, if_false, reduceCtorEq, List.nodup_nil, Bool.false_eq_true, Bool.not_true, Bool.not_false, Bool.true_and, Bool.false_and, Bool.and_true, Bool.and_false, ↓reduceIte, id_eq, List.tail_cons, Nat.zero_add, List.all_cons, List.all_nil, ne_eq, not_false_eq_true, and_self, and_true, true_and, Ew.dsp1_at, Ew.key_i, Ew.swapNew_at, Ew.rng2_at, Ew.rngD_at, Ew.putP_dc, Ew.dc_at, Ew.din_at, Ew.dput_at, Ew.fnD_at, Ew.retGet_at, Ew.sortD_at, Ew.ext_at, Ew.L_at, Ew.LIx_at, Ew.Sc_at, Ew.callL_at, Ew.opNil_at, Ew.sv_i, Ew.oo_at, Ew.appO_at, Ew.sub2_at, Ew.fnL_at, Ew.subAppL_at, Ew.lcO_at, Ew.walk_at, Bool.true_xor, Bool.false_xor
, e1, e2, Ec.isInt, isBool, Bool.or_false, Bool.or_true, Bool.or_self]
  rw [Ev.seq_at, Ev.asg_at, good]
  by_cases hr : r = 0
  · simp -implicitDefEqProofs only [Ev.nd1, Ev.nd2, Ev.lent_fz, Ev.lent_ow, Ev.lent_oo, Ev.lent_mx, Ev.lent_ln, Ev.lent_nil, Ev.back_nil, Ev.back_tm, Ev.back_sl, Ev.runM_at, Ev.start_at, Ev.seq_at, Ev.pass_at, Ev.brk_at, Ev.cnt_at, Ev.ret_at, Ev.retN_at, Ev.asg_at, Ev.if_at, Ev.drop_at, Ev.tgt_at, Ev.tup_at, Ev.for_at, Ev.P_at, Ev.F_at, Ev.var_at, Ev.c_at, Ev.op_at, Ev.opF_at, Ev.call_at, Ev.call1_at, Ev.un_at, Ev.isi_at, Ev.nil_at, Ev.cons_at, Ev.aNil_at, Ev.aCons_at, Ev.lst_at', Ev.tupE_at, Ev.mix_at, Ev.t_at, Ev.tru_at, Ev.and_at, Ev.or_at, Ev.not_at, Ev.andV_at, Ev.orV_at, Ev.notV_at, Ev.if2_at, Ev.ix_at', Ev.no_at, Ev.yes_at, Ev.sl_at, Ev.rep_at, Ev.fn_at, Ev.fnK_at, Ev.seqL_at, Ev.seqT_at, Ev.enum_at, Ev.zip_at, Ec.rng1_D, Ec.lr1_D, Ev.lc_at, Ev.lcE_at, Ev.yesT_at, Ev.meth_at, Ev.idx_at, Ev.subApp_at, Ev.sortSet_at, Ev.hName_at, Ev.hNil_at, Ev.hCons_at, Ev.hTup_at, Ev.hSub_at, Ev.turns_nil, Ev.force_fz, Ev.force_ow, Ev.force_oo, Ev.force_mx, Ev.force_sl, Ev.norm_fz, Ev.norm_ow, Ev.norm_sl, Ev.argO_sl, Ev.own_at, Ev.setOwn_at, Ev.flatF, Ev.flatO, Ev.flatL, Ev.data_tm, Ev.data_sl, Ev.toD_fz, Ev.toD_ow, Ev.toD_ln, Ev.toD_oo, Ev.toD_mx, Ev.flat_fz, Ev.flat_ow, Ev.flat_sl, Ev.retP_fz, Ev.retP_ow, Ev.retP_oo, Ev.retP_sl, Ev.putP_fz, Ev.putP_ow, Ev.putP_oo, Ev.putP_mx, Ev.putP_sl, Ev.noLn_at, Ev.argOs_nil, Ev.argOs_cons, Ev.argO_fz, Ev.argO_ow, Ev.slots_nil, Ev.slots_tm, Ev.slots_sl, Ev.bOf_b, Ev.ownP_fz, Ev.ownP_ow, Ev.ownP_sl, Ev.ownPs_nil, Ev.ownPs_cons, Ev.putAll_nil, Ev.putAll_cons, Ev.mixI_nil, Ev.mixI_fz, Ev.mixI_ow, Ev.mixI_oo, Ev.ixD_list, Ev.ixD_tup, Ev.atI_0, Ev.atI_1, Ev.ixN_0, Ev.ixN_1, Ev.gt_ii, Ev.ge_ii, Ev.lt_ii, Ev.le_ii, Ev.add_ii, Ev.add_ll, Ev.sub_ii, Ev.mul_ii, Ev.fdv_ii, Ev.mod_ii, Ev.neg_i, Ev.int_i, Ev.abs_i, Ev.max2_ii, Ev.dvm_ii, Ev.len_l, Ev.len_t, Ev.listO_l, Ev.tupO_l, Ev.ints_map, Ev.intsD_map, Ev.sorted_l, Ev.sl_list, List.map_cons, List.map_nil, List.length_cons, List.length_nil, List.replicate_succ, List.replicate_zero, List.append_nil, List.nil_append, List.cons_append, List.getElem?_cons_zero, List.getElem?_cons_succ, List.getElem?_nil, List.set_cons_zero, List.set_cons_succ, List.set_nil, Option.bind_some, Option.bind_none, Option.map_some, Option.map_none, Nat.reduceAdd, Nat.reduceSub, Nat.reduceEqDiff, Nat.reduceLeDiff, if_true, if_false, reduceCtorEq, List.nodup_nil, Bool.false_eq_true, Bool.not_true, Bool.not_false, Bool.true_and, Bool.false_and, Bool.and_true, Bool.and_false, ↓reduceIte, id_eq, List.tail_cons, Nat.zero_add, List.all_cons, List.all_nil, ne_eq, not_false_eq_true, and_self, and_true, true_and, Ew.dsp1_at, Ew.key_i, Ew.swapNew_at, Ew.rng2_at, Ew.rngD_at, Ew.putP_dc, Ew.dc_at, Ew.din_at, Ew.dput_at, Ew.fnD_at, Ew.retGet_at, Ew.sortD_at, Ew.ext_at, Ew.L_at, Ew.LIx_at, Ew.Sc_at, Ew.callL_at, Ew.opNil_at, Ew.sv_i, Ew.oo_at, Ew.appO_at, Ew.sub2_at, Ew.fnL_at, Ew.subAppL_at, Ew.lcO_at, Ew.walk_at, Bool.true_xor, Bool.false_xor
, mTry, rIf, mIfR, mRetT, eXi, eXa, eFnR, eFnRK, dr, Ec.eq_ii, hr, decide_true, x, freeS, look_v, er, eqS_s, endT, Gd.pmI_n, Gd.pmI_c, Gd.pm1_s, back_sn, List.mem_singleton]
  · simp -implicitDefEqProofs only [Ev.nd1, Ev.nd2, Ev.lent_fz, Ev.lent_ow, Ev.lent_oo, Ev.lent_mx, Ev.lent_ln, Ev.lent_nil, Ev.back_nil, Ev.back_tm, Ev.back_sl, Ev.runM_at, Ev.start_at, Ev.seq_at, Ev.pass_at, Ev.brk_at, Ev.cnt_at, Ev.ret_at, Ev.retN_at, Ev.asg_at, Ev.if_at, Ev.drop_at, Ev.tgt_at, Ev.tup_at, Ev.for_at, Ev.P_at, Ev.F_at, Ev.var_at, Ev.c_at, Ev.op_at, Ev.opF_at, Ev.call_at, Ev.call1_at, Ev.un_at, Ev.isi_at, Ev.nil_at, Ev.cons_at, Ev.aNil_at, Ev.aCons_at, Ev.lst_at', Ev.tupE_at, Ev.mix_at, Ev.t_at, Ev.tru_at, Ev.and_at, Ev.or_at, Ev.not_at, Ev.andV_at, Ev.orV_at, Ev.notV_at, Ev.if2_at, Ev.ix_at', Ev.no_at, Ev.yes_at, Ev.sl_at, Ev.rep_at, Ev.fn_at, Ev.fnK_at, Ev.seqL_at, Ev.seqT_at, Ev.enum_at, Ev.zip_at, Ec.rng1_D, Ec.lr1_D, Ev.lc_at, Ev.lcE_at, Ev.yesT_at, Ev.meth_at, Ev.idx_at, Ev.subApp_at, Ev.sortSet_at, Ev.hName_at, Ev.hNil_at, Ev.hCons_at, Ev.hTup_at, Ev.hSub_at, Ev.turns_nil, Ev.force_fz, Ev.force_ow, Ev.force_oo, Ev.force_mx, Ev.force_sl, Ev.norm_fz, Ev.norm_ow, Ev.norm_sl, Ev.argO_sl, Ev.own_at, Ev.setOwn_at, Ev.flatF, Ev.flatO, Ev.flatL, Ev.data_tm, Ev.data_sl, Ev.toD_fz, Ev.toD_ow, Ev.toD_ln, Ev.toD_oo, Ev.toD_mx, Ev.flat_fz, Ev.flat_ow, Ev.flat_sl, Ev.retP_fz, Ev.retP_ow, Ev.retP_oo, Ev.retP_sl, Ev.putP_fz, Ev.putP_ow, Ev.putP_oo, Ev.putP_mx, Ev.putP_sl, Ev.noLn_at, Ev.argOs_nil, Ev.argOs_cons, Ev.argO_fz, Ev.argO_ow, Ev.slots_nil, Ev.slots_tm, Ev.slots_sl, Ev.bOf_b, Ev.ownP_fz, Ev.ownP_ow, Ev.ownP_sl, Ev.ownPs_nil, Ev.ownPs_cons, Ev.putAll_nil, Ev.putAll_cons, Ev.mixI_nil, Ev.mixI_fz, Ev.mixI_ow, Ev.mixI_oo, Ev.ixD_list, Ev.ixD_tup, Ev.atI_0, Ev.atI_1, Ev.ixN_0, Ev.ixN_1, Ev.gt_ii, Ev.ge_ii, Ev.lt_ii, Ev.le_ii, Ev.add_ii, Ev.add_ll, Ev.sub_ii, Ev.mul_ii, Ev.fdv_ii, Ev.mod_ii, Ev.neg_i, Ev.int_i, Ev.abs_i, Ev.max2_ii, Ev.dvm_ii, Ev.len_l, Ev.len_t, Ev.listO_l, Ev.tupO_l, Ev.ints_map, Ev.intsD_map, Ev.sorted_l, Ev.sl_list, List.map_cons, List.map_nil, List.length_cons, List.length_nil, List.replicate_succ, List.replicate_zero, List.append_nil, List.nil_append, List.cons_append, List.getElem?_cons_zero, List.getElem?_cons_succ, List.getElem?_nil, List.set_cons_zero, List.set_cons_succ, List.set_nil, Option.bind_some, Option.bind_none, Option.map_some, Option.map_none, Nat.reduceAdd, Nat.reduceSub, Nat.reduceEqDiff, Nat.reduceLeDiff, if_true, if_false, reduceCtorEq, List.nodup_nil, Bool.false_eq_true, Bool.not_true, Bool.not_false, Bool.true_and, Bool.false_and, Bool.and_true, Bool.and_false, ↓reduceIte, id_eq, List.tail_cons, Nat.zero_add, List.all_cons, List.all_nil, ne_eq, not_false_eq_true, and_self, and_true, true_and, Ew.dsp1_at, Ew.key_i, Ew.swapNew_at, Ew.rng2_at, Ew.rngD_at, Ew.putP_dc, Ew.dc_at, Ew.din_at, Ew.dput_at, Ew.fnD_at, Ew.retGet_at, Ew.sortD_at, Ew.ext_at, Ew.L_at, Ew.LIx_at, Ew.Sc_at, Ew.callL_at, Ew.opNil_at, Ew.sv_i, Ew.oo_at, Ew.appO_at, Ew.sub2_at, Ew.fnL_at, Ew.subAppL_at, Ew.lcO_at, Ew.walk_at, Bool.true_xor, Bool.false_xor
, mTry, rIf, mIfR, mRetT, eXi, eXa, eFnR, eFnRK, dr, Ec.eq_ii, hr, decide_false, x, freeS, look_v, er, eqS_s, endT, Gd.pmI_n, Gd.pmI_c, Gd.pm1_s, back_sn, List.mem_singleton]
theorem tail_good {n : Nat} (h : n ≤ 24) (a b : Int) : ∃ (a' b' : Int) (δ : List (Option O)), (mSeq (mAsg 2 (eP (eAndV (eIsi "int" (eVar 1)) (eAndV (eNotV (eIsi "bool" (eVar 1))) (eChain leI leI (eC (.int 0)) (eF (eVar 1)) (eC (.int 24))))))) (mSeq (mTry 4 ["InvalidMany"] (mSeq (mAsg 3 (eIf (eT (eOp eqX (eFn f__law_draw (aCons (eVar 0) (aCons (eP (eC (.int 2))) aNil))) (eP (eC (.int 0))))) (eFn f_own_names (aCons (eP (eF (eVar 1))) aNil)) (eFnK 1 [0] f_own_names (aCons (eP (eF (eVar 1))) aNil)))) mPass) (rIf (eT (eOp eqX (eFn f__law_draw (aCons (eVar 0) (aCons (eP (eC (.int 2))) aNil))) (eP (eC (.int 0))))) (eFnR xr_own_names (aCons (eVar 1) aNil)) (eFnRK 1 [0] xr_own_names (aCons (eVar 1) aNil))) (fun ev => (mIfR (eOr (eNot (eT (eXi true))) (eNot (eT (eXi true)))) (mRetT (eP (eC (.bool false)))) (mIfR (eT (eXi false)) (mRetT (eP (eC (.bool false)))) (mRetT (eP (eAndV (eNotV (eF (eVar 2))) (eOp eqS (eP (eCall1 reprD (eP (eXa ev "value")))) (eP (eCall1 reprD (eVar 1))))))))))) (mSeq (mIf (eOr (eNot (eTru (eVar 2))) (eT (eOp neX (eP (eCall1 reprD (eVar 3))) (eP (eCall1 reprD (eLc [5] (eRng1 (eCons (eF (eVar 1)) eNil)) (hName 5) eYesT (eF (eOpF addO (eC (.str "p")) (eCall1 Vd.strD (eVar 5)))))))))) (mSeq (mRet (eP (eC (.bool false)))) mPass) mPass) (mSeq (mDrop (eP (eMeth 3 mApp (eCons (eC (.str "")) eNil)))) (mSeq (mRet (eP (eOp eqX (eP (eCall1 reprD (eFn f_own_names (aCons (eP (eF (eVar 1))) aNil)))) (eP (eCall1 reprD (eLc [5] (eRng1 (eCons (eF (eVar 1)) eNil)) (hName 5) eYesT (eF (eOpF addO (eC (.str "p")) (eCall1 Vd.strD (eVar 5)))))))))) mPass))))) [some (.ln [.int a, .int b]), some (.fz (.int (n : Nat))), none, none, none, none] = some (.rt (.fz (.bool true)) (some (.ln [.int a', .int b']) :: δ)) := by
  have hd : PyData.hasDict (.int (n : Nat)) = false := rfl
  have e1 := Ec.kit_int hd
  have e2 := Ec.kit_bool hd
  have x := xr_good (n := (n : Nat)) (by omega) (by omega)
  have v := v_own n h
  obtain ⟨s, er⟩ := names_repr n h
  obtain ⟨r, a', b', r0, r1, dr⟩ := v_draw a b 2 (by decide) (by decide)
  have rk : rngD [.int (n : Nat)] = some (rangeD 0 n) := by
    have := Ec.rngD_of (j := (n : Nat)) (Ec.rgOk_of (by omega) (by omega))
    rw [this, Int.toNat_natCast]
  have hl : (rangeD 0 n).length ≤ sizeLine := by rw [rangeD_len, sizeLine_eq]; omega
  have hn : (names 0 n).length < sizeLine := by rw [names_len, sizeLine_eq]; omega
  have lg := fun (x0 x1 x2 x3 x4 : Option O) => law_go x0 x1 x2 x3 x4 n 0 (by omega)
  rw [show ((0 : Nat) : Int) = 0 from rfl] at lg
  have good : (eP (eAndV (eIsi "int" (eVar 1)) (eAndV (eNotV (eIsi "bool" (eVar 1))) (eChain leI leI (eC (.int 0)) (eF (eVar 1)) (eC (.int 24)))))) [some (.ln [.int a, .int b]), some (.fz (.int (n : Nat))), none, none, none, none] = some (.tm (.fz (.bool true)), [some (.ln [.int a, .int b]), some (.fz (.int (n : Nat))), none, none, none, none]) := by
    simp -implicitDefEqProofs only [Ev.nd1, Ev.nd2, Ev.lent_fz, Ev.lent_ow, Ev.lent_oo, Ev.lent_mx, Ev.lent_ln, Ev.lent_nil, Ev.back_nil, Ev.back_tm, Ev.back_sl, Ev.runM_at, Ev.start_at, Ev.seq_at, Ev.pass_at, Ev.brk_at, Ev.cnt_at, Ev.ret_at, Ev.retN_at, Ev.asg_at, Ev.if_at, Ev.drop_at, Ev.tgt_at, Ev.tup_at, Ev.for_at, Ev.P_at, Ev.F_at, Ev.var_at, Ev.c_at, Ev.op_at, Ev.opF_at, Ev.call_at, Ev.call1_at, Ev.un_at, Ev.isi_at, Ev.nil_at, Ev.cons_at, Ev.aNil_at, Ev.aCons_at, Ev.lst_at', Ev.tupE_at, Ev.mix_at, Ev.t_at, Ev.tru_at, Ev.and_at, Ev.or_at, Ev.not_at, Ev.andV_at, Ev.orV_at, Ev.notV_at, Ev.if2_at, Ev.ix_at', Ev.no_at, Ev.yes_at, Ev.sl_at, Ev.rep_at, Ev.fn_at, Ev.fnK_at, Ev.seqL_at, Ev.seqT_at, Ev.enum_at, Ev.zip_at, Ec.rng1_D, Ec.lr1_D, Ev.lc_at, Ev.lcE_at, Ev.yesT_at, Ev.meth_at, Ev.idx_at, Ev.subApp_at, Ev.sortSet_at, Ev.hName_at, Ev.hNil_at, Ev.hCons_at, Ev.hTup_at, Ev.hSub_at, Ev.turns_nil, Ev.force_fz, Ev.force_ow, Ev.force_oo, Ev.force_mx, Ev.force_sl, Ev.norm_fz, Ev.norm_ow, Ev.norm_sl, Ev.argO_sl, Ev.own_at, Ev.setOwn_at, Ev.flatF, Ev.flatO, Ev.flatL, Ev.data_tm, Ev.data_sl, Ev.toD_fz, Ev.toD_ow, Ev.toD_ln, Ev.toD_oo, Ev.toD_mx, Ev.flat_fz, Ev.flat_ow, Ev.flat_sl, Ev.retP_fz, Ev.retP_ow, Ev.retP_oo, Ev.retP_sl, Ev.putP_fz, Ev.putP_ow, Ev.putP_oo, Ev.putP_mx, Ev.putP_sl, Ev.noLn_at, Ev.argOs_nil, Ev.argOs_cons, Ev.argO_fz, Ev.argO_ow, Ev.slots_nil, Ev.slots_tm, Ev.slots_sl, Ev.bOf_b, Ev.ownP_fz, Ev.ownP_ow, Ev.ownP_sl, Ev.ownPs_nil, Ev.ownPs_cons, Ev.putAll_nil, Ev.putAll_cons, Ev.mixI_nil, Ev.mixI_fz, Ev.mixI_ow, Ev.mixI_oo, Ev.ixD_list, Ev.ixD_tup, Ev.atI_0, Ev.atI_1, Ev.ixN_0, Ev.ixN_1, Ev.gt_ii, Ev.ge_ii, Ev.lt_ii, Ev.le_ii, Ev.add_ii, Ev.add_ll, Ev.sub_ii, Ev.mul_ii, Ev.fdv_ii, Ev.mod_ii, Ev.neg_i, Ev.int_i, Ev.abs_i, Ev.max2_ii, Ev.dvm_ii, Ev.len_l, Ev.len_t, Ev.listO_l, Ev.tupO_l, Ev.ints_map, Ev.intsD_map, Ev.sorted_l, Ev.sl_list, List.map_cons, List.map_nil, List.length_cons, List.length_nil, List.replicate_succ, List.replicate_zero, List.append_nil, List.nil_append, List.cons_append, List.getElem?_cons_zero, List.getElem?_cons_succ, List.getElem?_nil, List.set_cons_zero, List.set_cons_succ, List.set_nil, Option.bind_some, Option.bind_none, Option.map_some, Option.map_none, Nat.reduceAdd, Nat.reduceSub, Nat.reduceEqDiff, Nat.reduceLeDiff, if_true, if_false, reduceCtorEq, List.nodup_nil, Bool.false_eq_true, Bool.not_true, Bool.not_false, Bool.true_and, Bool.false_and, Bool.and_true, Bool.and_false, ↓reduceIte, id_eq, List.tail_cons, Nat.zero_add, List.all_cons, List.all_nil, ne_eq, not_false_eq_true, and_self, and_true, true_and, Ew.dsp1_at, Ew.key_i, Ew.swapNew_at, Ew.rng2_at, Ew.rngD_at, Ew.putP_dc, Ew.dc_at, Ew.din_at, Ew.dput_at, Ew.fnD_at, Ew.retGet_at, Ew.sortD_at, Ew.ext_at, Ew.L_at, Ew.LIx_at, Ew.Sc_at, Ew.callL_at, Ew.opNil_at, Ew.sv_i, Ew.oo_at, Ew.appO_at, Ew.sub2_at, Ew.fnL_at, Ew.subAppL_at, Ew.lcO_at, Ew.walk_at, Bool.true_xor, Bool.false_xor
, e1, e2, Ec.isInt, isBool, chain_at, chK_t, chK_f, Ev.le_ii, (show (0 : Int) ≤ (n : Nat) by omega), (show ((n : Nat) : Int) ≤ 24 by omega), decide_true, decide_false, Bool.or_false]
  refine ⟨a', b', [some (.fz (.int (n : Nat))), some (.fz (.bool true)), some (.ow (names 0 n ++ [.str (Str.ofString "")])), none, none], ?_⟩
  rw [Ev.seq_at, Ev.asg_at, good]
  by_cases hr : r = 0
  · simp -implicitDefEqProofs only [Ev.nd1, Ev.nd2, Ev.lent_fz, Ev.lent_ow, Ev.lent_oo, Ev.lent_mx, Ev.lent_ln, Ev.lent_nil, Ev.back_nil, Ev.back_tm, Ev.back_sl, Ev.runM_at, Ev.start_at, Ev.seq_at, Ev.pass_at, Ev.brk_at, Ev.cnt_at, Ev.ret_at, Ev.retN_at, Ev.asg_at, Ev.if_at, Ev.drop_at, Ev.tgt_at, Ev.tup_at, Ev.for_at, Ev.P_at, Ev.F_at, Ev.var_at, Ev.c_at, Ev.op_at, Ev.opF_at, Ev.call_at, Ev.call1_at, Ev.un_at, Ev.isi_at, Ev.nil_at, Ev.cons_at, Ev.aNil_at, Ev.aCons_at, Ev.lst_at', Ev.tupE_at, Ev.mix_at, Ev.t_at, Ev.tru_at, Ev.and_at, Ev.or_at, Ev.not_at, Ev.andV_at, Ev.orV_at, Ev.notV_at, Ev.if2_at, Ev.ix_at', Ev.no_at, Ev.yes_at, Ev.sl_at, Ev.rep_at, Ev.fn_at, Ev.fnK_at, Ev.seqL_at, Ev.seqT_at, Ev.enum_at, Ev.zip_at, Ec.rng1_D, Ec.lr1_D, Ev.lc_at, Ev.lcE_at, Ev.yesT_at, Ev.meth_at, Ev.idx_at, Ev.subApp_at, Ev.sortSet_at, Ev.hName_at, Ev.hNil_at, Ev.hCons_at, Ev.hTup_at, Ev.hSub_at, Ev.turns_nil, Ev.force_fz, Ev.force_ow, Ev.force_oo, Ev.force_mx, Ev.force_sl, Ev.norm_fz, Ev.norm_ow, Ev.norm_sl, Ev.argO_sl, Ev.own_at, Ev.setOwn_at, Ev.flatF, Ev.flatO, Ev.flatL, Ev.data_tm, Ev.data_sl, Ev.toD_fz, Ev.toD_ow, Ev.toD_ln, Ev.toD_oo, Ev.toD_mx, Ev.flat_fz, Ev.flat_ow, Ev.flat_sl, Ev.retP_fz, Ev.retP_ow, Ev.retP_oo, Ev.retP_sl, Ev.putP_fz, Ev.putP_ow, Ev.putP_oo, Ev.putP_mx, Ev.putP_sl, Ev.noLn_at, Ev.argOs_nil, Ev.argOs_cons, Ev.argO_fz, Ev.argO_ow, Ev.slots_nil, Ev.slots_tm, Ev.slots_sl, Ev.bOf_b, Ev.ownP_fz, Ev.ownP_ow, Ev.ownP_sl, Ev.ownPs_nil, Ev.ownPs_cons, Ev.putAll_nil, Ev.putAll_cons, Ev.mixI_nil, Ev.mixI_fz, Ev.mixI_ow, Ev.mixI_oo, Ev.ixD_list, Ev.ixD_tup, Ev.atI_0, Ev.atI_1, Ev.ixN_0, Ev.ixN_1, Ev.gt_ii, Ev.ge_ii, Ev.lt_ii, Ev.le_ii, Ev.add_ii, Ev.add_ll, Ev.sub_ii, Ev.mul_ii, Ev.fdv_ii, Ev.mod_ii, Ev.neg_i, Ev.int_i, Ev.abs_i, Ev.max2_ii, Ev.dvm_ii, Ev.len_l, Ev.len_t, Ev.listO_l, Ev.tupO_l, Ev.ints_map, Ev.intsD_map, Ev.sorted_l, Ev.sl_list, List.map_cons, List.map_nil, List.length_cons, List.length_nil, List.replicate_succ, List.replicate_zero, List.append_nil, List.nil_append, List.cons_append, List.getElem?_cons_zero, List.getElem?_cons_succ, List.getElem?_nil, List.set_cons_zero, List.set_cons_succ, List.set_nil, Option.bind_some, Option.bind_none, Option.map_some, Option.map_none, Nat.reduceAdd, Nat.reduceSub, Nat.reduceEqDiff, Nat.reduceLeDiff, if_true, if_false, reduceCtorEq, List.nodup_nil, Bool.false_eq_true, Bool.not_true, Bool.not_false, Bool.true_and, Bool.false_and, Bool.and_true, Bool.and_false, ↓reduceIte, id_eq, List.tail_cons, Nat.zero_add, List.all_cons, List.all_nil, ne_eq, not_false_eq_true, and_self, and_true, true_and, Ew.dsp1_at, Ew.key_i, Ew.swapNew_at, Ew.rng2_at, Ew.rngD_at, Ew.putP_dc, Ew.dc_at, Ew.din_at, Ew.dput_at, Ew.fnD_at, Ew.retGet_at, Ew.sortD_at, Ew.ext_at, Ew.L_at, Ew.LIx_at, Ew.Sc_at, Ew.callL_at, Ew.opNil_at, Ew.sv_i, Ew.oo_at, Ew.appO_at, Ew.sub2_at, Ew.fnL_at, Ew.subAppL_at, Ew.lcO_at, Ew.walk_at, Bool.true_xor, Bool.false_xor
, mTry, rIf, eFnR, eFnRK, dr, Ec.eq_ii, hr, decide_true, x, v, er, rk, hl, okv, Ec.wipe_nil, Ec.wipe_cons, Ec.rest_nil, Ec.rest_cons, lg, Option.getD_some, Ec.ne_same, Ec.eq_same, tru_b, Gd.app_1, hn, Gd.pmI_n, Gd.pmI_c, Gd.pm1_s, back_sn]
  · simp -implicitDefEqProofs only [Ev.nd1, Ev.nd2, Ev.lent_fz, Ev.lent_ow, Ev.lent_oo, Ev.lent_mx, Ev.lent_ln, Ev.lent_nil, Ev.back_nil, Ev.back_tm, Ev.back_sl, Ev.runM_at, Ev.start_at, Ev.seq_at, Ev.pass_at, Ev.brk_at, Ev.cnt_at, Ev.ret_at, Ev.retN_at, Ev.asg_at, Ev.if_at, Ev.drop_at, Ev.tgt_at, Ev.tup_at, Ev.for_at, Ev.P_at, Ev.F_at, Ev.var_at, Ev.c_at, Ev.op_at, Ev.opF_at, Ev.call_at, Ev.call1_at, Ev.un_at, Ev.isi_at, Ev.nil_at, Ev.cons_at, Ev.aNil_at, Ev.aCons_at, Ev.lst_at', Ev.tupE_at, Ev.mix_at, Ev.t_at, Ev.tru_at, Ev.and_at, Ev.or_at, Ev.not_at, Ev.andV_at, Ev.orV_at, Ev.notV_at, Ev.if2_at, Ev.ix_at', Ev.no_at, Ev.yes_at, Ev.sl_at, Ev.rep_at, Ev.fn_at, Ev.fnK_at, Ev.seqL_at, Ev.seqT_at, Ev.enum_at, Ev.zip_at, Ec.rng1_D, Ec.lr1_D, Ev.lc_at, Ev.lcE_at, Ev.yesT_at, Ev.meth_at, Ev.idx_at, Ev.subApp_at, Ev.sortSet_at, Ev.hName_at, Ev.hNil_at, Ev.hCons_at, Ev.hTup_at, Ev.hSub_at, Ev.turns_nil, Ev.force_fz, Ev.force_ow, Ev.force_oo, Ev.force_mx, Ev.force_sl, Ev.norm_fz, Ev.norm_ow, Ev.norm_sl, Ev.argO_sl, Ev.own_at, Ev.setOwn_at, Ev.flatF, Ev.flatO, Ev.flatL, Ev.data_tm, Ev.data_sl, Ev.toD_fz, Ev.toD_ow, Ev.toD_ln, Ev.toD_oo, Ev.toD_mx, Ev.flat_fz, Ev.flat_ow, Ev.flat_sl, Ev.retP_fz, Ev.retP_ow, Ev.retP_oo, Ev.retP_sl, Ev.putP_fz, Ev.putP_ow, Ev.putP_oo, Ev.putP_mx, Ev.putP_sl, Ev.noLn_at, Ev.argOs_nil, Ev.argOs_cons, Ev.argO_fz, Ev.argO_ow, Ev.slots_nil, Ev.slots_tm, Ev.slots_sl, Ev.bOf_b, Ev.ownP_fz, Ev.ownP_ow, Ev.ownP_sl, Ev.ownPs_nil, Ev.ownPs_cons, Ev.putAll_nil, Ev.putAll_cons, Ev.mixI_nil, Ev.mixI_fz, Ev.mixI_ow, Ev.mixI_oo, Ev.ixD_list, Ev.ixD_tup, Ev.atI_0, Ev.atI_1, Ev.ixN_0, Ev.ixN_1, Ev.gt_ii, Ev.ge_ii, Ev.lt_ii, Ev.le_ii, Ev.add_ii, Ev.add_ll, Ev.sub_ii, Ev.mul_ii, Ev.fdv_ii, Ev.mod_ii, Ev.neg_i, Ev.int_i, Ev.abs_i, Ev.max2_ii, Ev.dvm_ii, Ev.len_l, Ev.len_t, Ev.listO_l, Ev.tupO_l, Ev.ints_map, Ev.intsD_map, Ev.sorted_l, Ev.sl_list, List.map_cons, List.map_nil, List.length_cons, List.length_nil, List.replicate_succ, List.replicate_zero, List.append_nil, List.nil_append, List.cons_append, List.getElem?_cons_zero, List.getElem?_cons_succ, List.getElem?_nil, List.set_cons_zero, List.set_cons_succ, List.set_nil, Option.bind_some, Option.bind_none, Option.map_some, Option.map_none, Nat.reduceAdd, Nat.reduceSub, Nat.reduceEqDiff, Nat.reduceLeDiff, if_true, if_false, reduceCtorEq, List.nodup_nil, Bool.false_eq_true, Bool.not_true, Bool.not_false, Bool.true_and, Bool.false_and, Bool.and_true, Bool.and_false, ↓reduceIte, id_eq, List.tail_cons, Nat.zero_add, List.all_cons, List.all_nil, ne_eq, not_false_eq_true, and_self, and_true, true_and, Ew.dsp1_at, Ew.key_i, Ew.swapNew_at, Ew.rng2_at, Ew.rngD_at, Ew.putP_dc, Ew.dc_at, Ew.din_at, Ew.dput_at, Ew.fnD_at, Ew.retGet_at, Ew.sortD_at, Ew.ext_at, Ew.L_at, Ew.LIx_at, Ew.Sc_at, Ew.callL_at, Ew.opNil_at, Ew.sv_i, Ew.oo_at, Ew.appO_at, Ew.sub2_at, Ew.fnL_at, Ew.subAppL_at, Ew.lcO_at, Ew.walk_at, Bool.true_xor, Bool.false_xor
, mTry, rIf, eFnR, eFnRK, dr, Ec.eq_ii, hr, decide_false, x, v, er, rk, hl, okv, Ec.wipe_nil, Ec.wipe_cons, Ec.rest_nil, Ec.rest_cons, lg, Option.getD_some, Ec.ne_same, Ec.eq_same, tru_b, Gd.app_1, hn, Gd.pmI_n, Gd.pmI_c, Gd.pm1_s, back_sn]
end K25
end
section
set_option Elab.async false
set_option linter.all false
set_option maxRecDepth 100000
set_option maxHeartbeats 8000000
namespace K25
open PySem PySem.Spec PyProof.Rows L2 Vi Vf Vo Vp Vs Vt Vu Vv Vg Vw Vx Vy Va Vb Vc Vk Vm Vl Vn Vd Vq Vr Vj Vfr Ev Ec Mo Ew Gd Gx Gy Gt Rk Vxt Vxr
open SX (S S_cat S_len S_tl S_inj)
abbrev L (ns : List Int) : D := .list (ns.map .int)
def bads : List D := [.none, .bool true, .str "3", .list [], .bool false]
theorem bads_ok : ∀ d ∈ bads, Bad d := by
  intro d hd
  simp only [bads, List.mem_cons, List.not_mem_nil, or_false] at hd
  rcases hd with rfl | rfl | rfl | rfl | rfl
  · exact .none
  · exact .bool _
  · exact .str _ (by decide +kernel) (by decide +kernel)
  · exact .nil
  · exact .bool _
theorem pre_mr (T : Δ → Option Out) (a b : Int) : ∃ (d : D) (a' b' : Int), (Bad d ∨ ∃ n : Nat, n ≤ 24 ∧ d = .int (n : Nat)) ∧
    (mSeq (mAsg 1 (eP (eOp subI (eFn f__law_draw (aCons (eVar 0) (aCons (eP (eC (.int 29))) aNil))) (eP (eC (.int 2)))))) (mSeq (mIf (eT (eOp eqX (eFn f__law_draw (aCons (eVar 0) (aCons (eP (eC (.int 6))) aNil))) (eP (eC (.int 0))))) (mSeq (mAsg 1 (eFn f__law_pick (aCons (eVar 0) (aCons (eP (eF (eLst (eCons (eC .none) (eCons (eC (.bool true)) (eCons (eC (.str "3")) (eCons (eF (eLst eNil)) (eCons (eC (.bool false)) eNil)))))))) aNil)))) mPass) mPass) T)) [some (.ln [.int a, .int b]), none, none, none, none, none] =
      T [some (.ln [.int a', .int b']), some (.fz d), none, none, none, none] := by
  obtain ⟨r, a1, b1, r0, r1, e1⟩ := v_draw a b 29 (by decide) (by decide)
  obtain ⟨q, a2, b2, q0, q1, e2⟩ := v_draw a1 b1 6 (by decide) (by decide)
  by_cases hq : q = 0
  · obtain ⟨d, a3, b3, hd, e3⟩ := v_pickD a2 b2 bads (by decide) (by decide)
    unfold bads at e3
    refine ⟨d, a3, b3, .inl (bads_ok d hd), ?_⟩
    simp -implicitDefEqProofs only [Ev.nd1, Ev.nd2, Ev.lent_fz, Ev.lent_ow, Ev.lent_oo, Ev.lent_mx, Ev.lent_ln, Ev.lent_nil, Ev.back_nil, Ev.back_tm, Ev.back_sl, Ev.runM_at, Ev.start_at, Ev.seq_at, Ev.pass_at, Ev.brk_at, Ev.cnt_at, Ev.ret_at, Ev.retN_at, Ev.asg_at, Ev.if_at, Ev.drop_at, Ev.tgt_at, Ev.tup_at, Ev.for_at, Ev.P_at, Ev.F_at, Ev.var_at, Ev.c_at, Ev.op_at, Ev.opF_at, Ev.call_at, Ev.call1_at, Ev.un_at, Ev.isi_at, Ev.nil_at, Ev.cons_at, Ev.aNil_at, Ev.aCons_at, Ev.lst_at', Ev.tupE_at, Ev.mix_at, Ev.t_at, Ev.tru_at, Ev.and_at, Ev.or_at, Ev.not_at, Ev.andV_at, Ev.orV_at, Ev.notV_at, Ev.if2_at, Ev.ix_at', Ev.no_at, Ev.yes_at, Ev.sl_at, Ev.rep_at, Ev.fn_at, Ev.fnK_at, Ev.seqL_at, Ev.seqT_at, Ev.enum_at, Ev.zip_at, Ec.rng1_D, Ec.lr1_D, Ev.lc_at, Ev.lcE_at, Ev.yesT_at, Ev.meth_at, Ev.idx_at, Ev.subApp_at, Ev.sortSet_at, Ev.hName_at, Ev.hNil_at, Ev.hCons_at, Ev.hTup_at, Ev.hSub_at, Ev.turns_nil, Ev.force_fz, Ev.force_ow, Ev.force_oo, Ev.force_mx, Ev.force_sl, Ev.norm_fz, Ev.norm_ow, Ev.norm_sl, Ev.argO_sl, Ev.own_at, Ev.setOwn_at, Ev.flatF, Ev.flatO, Ev.flatL, Ev.data_tm, Ev.data_sl, Ev.toD_fz, Ev.toD_ow, Ev.toD_ln, Ev.toD_oo, Ev.toD_mx, Ev.flat_fz, Ev.flat_ow, Ev.flat_sl, Ev.retP_fz, Ev.retP_ow, Ev.retP_oo, Ev.retP_sl, Ev.putP_fz, Ev.putP_ow, Ev.putP_oo, Ev.putP_mx, Ev.putP_sl, Ev.noLn_at, Ev.argOs_nil, Ev.argOs_cons, Ev.argO_fz, Ev.argO_ow, Ev.slots_nil, Ev.slots_tm, Ev.slots_sl, Ev.bOf_b, Ev.ownP_fz, Ev.ownP_ow, Ev.ownP_sl, Ev.ownPs_nil, Ev.ownPs_cons, Ev.putAll_nil, Ev.putAll_cons, Ev.mixI_nil, Ev.mixI_fz, Ev.mixI_ow, Ev.mixI_oo, Ev.ixD_list, Ev.ixD_tup, Ev.atI_0, Ev.atI_1, Ev.ixN_0, Ev.ixN_1, Ev.gt_ii, Ev.ge_ii, Ev.lt_ii, Ev.le_ii, Ev.add_ii, Ev.add_ll, Ev.sub_ii, Ev.mul_ii, Ev.fdv_ii, Ev.mod_ii, Ev.neg_i, Ev.int_i, Ev.abs_i, Ev.max2_ii, Ev.dvm_ii, Ev.len_l, Ev.len_t, Ev.listO_l, Ev.tupO_l, Ev.ints_map, Ev.intsD_map, Ev.sorted_l, Ev.sl_list, List.map_cons, List.map_nil, List.length_cons, List.length_nil, List.replicate_succ, List.replicate_zero, List.append_nil, List.nil_append, List.cons_append, List.getElem?_cons_zero, List.getElem?_cons_succ, List.getElem?_nil, List.set_cons_zero, List.set_cons_succ, List.set_nil, Option.bind_some, Option.bind_none, Option.map_some, Option.map_none, Nat.reduceAdd, Nat.reduceSub, Nat.reduceEqDiff, Nat.reduceLeDiff, if_true, if_false, reduceCtorEq, List.nodup_nil, Bool.false_eq_true, Bool.not_true, Bool.not_false, Bool.true_and, Bool.false_and, Bool.and_true, Bool.and_false, ↓reduceIte, id_eq, List.tail_cons, Nat.zero_add, List.all_cons, List.all_nil, ne_eq, not_false_eq_true, and_self, and_true, true_and, Ew.dsp1_at, Ew.key_i, Ew.swapNew_at, Ew.rng2_at, Ew.rngD_at, Ew.putP_dc, Ew.dc_at, Ew.din_at, Ew.dput_at, Ew.fnD_at, Ew.retGet_at, Ew.sortD_at, Ew.ext_at, Ew.L_at, Ew.LIx_at, Ew.Sc_at, Ew.callL_at, Ew.opNil_at, Ew.sv_i, Ew.oo_at, Ew.appO_at, Ew.sub2_at, Ew.fnL_at, Ew.subAppL_at, Ew.lcO_at, Ew.walk_at, Bool.true_xor, Bool.false_xor
, e1, e2, hq, Ec.eq_ii, decide_true, (by decide : 0 ≤ sizeLine), (by decide : 5 ≤ sizeLine), e3]
  · refine ⟨.int (r - 2), a2, b2, ?_, ?_⟩
    · by_cases h : 0 ≤ r - 2 ∧ r - 2 ≤ 24
      · exact .inr ⟨(r - 2).toNat, by omega, by rw [Int.toNat_of_nonneg h.1]⟩
      · exact .inl (.int _ h (by omega))
    · simp -implicitDefEqProofs only [Ev.nd1, Ev.nd2, Ev.lent_fz, Ev.lent_ow, Ev.lent_oo, Ev.lent_mx, Ev.lent_ln, Ev.lent_nil, Ev.back_nil, Ev.back_tm, Ev.back_sl, Ev.runM_at, Ev.start_at, Ev.seq_at, Ev.pass_at, Ev.brk_at, Ev.cnt_at, Ev.ret_at, Ev.retN_at, Ev.asg_at, Ev.if_at, Ev.drop_at, Ev.tgt_at, Ev.tup_at, Ev.for_at, Ev.P_at, Ev.F_at, Ev.var_at, Ev.c_at, Ev.op_at, Ev.opF_at, Ev.call_at, Ev.call1_at, Ev.un_at, Ev.isi_at, Ev.nil_at, Ev.cons_at, Ev.aNil_at, Ev.aCons_at, Ev.lst_at', Ev.tupE_at, Ev.mix_at, Ev.t_at, Ev.tru_at, Ev.and_at, Ev.or_at, Ev.not_at, Ev.andV_at, Ev.orV_at, Ev.notV_at, Ev.if2_at, Ev.ix_at', Ev.no_at, Ev.yes_at, Ev.sl_at, Ev.rep_at, Ev.fn_at, Ev.fnK_at, Ev.seqL_at, Ev.seqT_at, Ev.enum_at, Ev.zip_at, Ec.rng1_D, Ec.lr1_D, Ev.lc_at, Ev.lcE_at, Ev.yesT_at, Ev.meth_at, Ev.idx_at, Ev.subApp_at, Ev.sortSet_at, Ev.hName_at, Ev.hNil_at, Ev.hCons_at, Ev.hTup_at, Ev.hSub_at, Ev.turns_nil, Ev.force_fz, Ev.force_ow, Ev.force_oo, Ev.force_mx, Ev.force_sl, Ev.norm_fz, Ev.norm_ow, Ev.norm_sl, Ev.argO_sl, Ev.own_at, Ev.setOwn_at, Ev.flatF, Ev.flatO, Ev.flatL, Ev.data_tm, Ev.data_sl, Ev.toD_fz, Ev.toD_ow, Ev.toD_ln, Ev.toD_oo, Ev.toD_mx, Ev.flat_fz, Ev.flat_ow, Ev.flat_sl, Ev.retP_fz, Ev.retP_ow, Ev.retP_oo, Ev.retP_sl, Ev.putP_fz, Ev.putP_ow, Ev.putP_oo, Ev.putP_mx, Ev.putP_sl, Ev.noLn_at, Ev.argOs_nil, Ev.argOs_cons, Ev.argO_fz, Ev.argO_ow, Ev.slots_nil, Ev.slots_tm, Ev.slots_sl, Ev.bOf_b, Ev.ownP_fz, Ev.ownP_ow, Ev.ownP_sl, Ev.ownPs_nil, Ev.ownPs_cons, Ev.putAll_nil, Ev.putAll_cons, Ev.mixI_nil, Ev.mixI_fz, Ev.mixI_ow, Ev.mixI_oo, Ev.ixD_list, Ev.ixD_tup, Ev.atI_0, Ev.atI_1, Ev.ixN_0, Ev.ixN_1, Ev.gt_ii, Ev.ge_ii, Ev.lt_ii, Ev.le_ii, Ev.add_ii, Ev.add_ll, Ev.sub_ii, Ev.mul_ii, Ev.fdv_ii, Ev.mod_ii, Ev.neg_i, Ev.int_i, Ev.abs_i, Ev.max2_ii, Ev.dvm_ii, Ev.len_l, Ev.len_t, Ev.listO_l, Ev.tupO_l, Ev.ints_map, Ev.intsD_map, Ev.sorted_l, Ev.sl_list, List.map_cons, List.map_nil, List.length_cons, List.length_nil, List.replicate_succ, List.replicate_zero, List.append_nil, List.nil_append, List.cons_append, List.getElem?_cons_zero, List.getElem?_cons_succ, List.getElem?_nil, List.set_cons_zero, List.set_cons_succ, List.set_nil, Option.bind_some, Option.bind_none, Option.map_some, Option.map_none, Nat.reduceAdd, Nat.reduceSub, Nat.reduceEqDiff, Nat.reduceLeDiff, if_true, if_false, reduceCtorEq, List.nodup_nil, Bool.false_eq_true, Bool.not_true, Bool.not_false, Bool.true_and, Bool.false_and, Bool.and_true, Bool.and_false, ↓reduceIte, id_eq, List.tail_cons, Nat.zero_add, List.all_cons, List.all_nil, ne_eq, not_false_eq_true, and_self, and_true, true_and, Ew.dsp1_at, Ew.key_i, Ew.swapNew_at, Ew.rng2_at, Ew.rngD_at, Ew.putP_dc, Ew.dc_at, Ew.din_at, Ew.dput_at, Ew.fnD_at, Ew.retGet_at, Ew.sortD_at, Ew.ext_at, Ew.L_at, Ew.LIx_at, Ew.Sc_at, Ew.callL_at, Ew.opNil_at, Ew.sv_i, Ew.oo_at, Ew.appO_at, Ew.sub2_at, Ew.fnL_at, Ew.subAppL_at, Ew.lcO_at, Ew.walk_at, Bool.true_xor, Bool.false_xor
, e1, e2, hq, Ec.eq_ii, decide_false]
theorem v_mr (a b : Int) : ∃ a' b' : Int, val f__law_many_right [.ln [.int a, .int b]] = some (.fz (.bool true), [some (.ln [.int a', .int b'])]) := by
  obtain ⟨d, a1, b1, hd, e⟩ := pre_mr (mSeq (mAsg 2 (eP (eAndV (eIsi "int" (eVar 1)) (eAndV (eNotV (eIsi "bool" (eVar 1))) (eChain leI leI (eC (.int 0)) (eF (eVar 1)) (eC (.int 24))))))) (mSeq (mTry 4 ["InvalidMany"] (mSeq (mAsg 3 (eIf (eT (eOp eqX (eFn f__law_draw (aCons (eVar 0) (aCons (eP (eC (.int 2))) aNil))) (eP (eC (.int 0))))) (eFn f_own_names (aCons (eP (eF (eVar 1))) aNil)) (eFnK 1 [0] f_own_names (aCons (eP (eF (eVar 1))) aNil)))) mPass) (rIf (eT (eOp eqX (eFn f__law_draw (aCons (eVar 0) (aCons (eP (eC (.int 2))) aNil))) (eP (eC (.int 0))))) (eFnR xr_own_names (aCons (eVar 1) aNil)) (eFnRK 1 [0] xr_own_names (aCons (eVar 1) aNil))) (fun ev => (mIfR (eOr (eNot (eT (eXi true))) (eNot (eT (eXi true)))) (mRetT (eP (eC (.bool false)))) (mIfR (eT (eXi false)) (mRetT (eP (eC (.bool false)))) (mRetT (eP (eAndV (eNotV (eF (eVar 2))) (eOp eqS (eP (eCall1 reprD (eP (eXa ev "value")))) (eP (eCall1 reprD (eVar 1))))))))))) (mSeq (mIf (eOr (eNot (eTru (eVar 2))) (eT (eOp neX (eP (eCall1 reprD (eVar 3))) (eP (eCall1 reprD (eLc [5] (eRng1 (eCons (eF (eVar 1)) eNil)) (hName 5) eYesT (eF (eOpF addO (eC (.str "p")) (eCall1 Vd.strD (eVar 5)))))))))) (mSeq (mRet (eP (eC (.bool false)))) mPass) mPass) (mSeq (mDrop (eP (eMeth 3 mApp (eCons (eC (.str "")) eNil)))) (mSeq (mRet (eP (eOp eqX (eP (eCall1 reprD (eFn f_own_names (aCons (eP (eF (eVar 1))) aNil)))) (eP (eCall1 reprD (eLc [5] (eRng1 (eCons (eF (eVar 1)) eNil)) (hName 5) eYesT (eF (eOpF addO (eC (.str "p")) (eCall1 Vd.strD (eVar 5)))))))))) mPass))))) a b
  have fin : ∃ (a' b' : Int) (δ : List (Option O)), m__law_many_right [some (.ln [.int a, .int b]), none, none, none, none, none] = some (.rt (.fz (.bool true)) (some (.ln [.int a', .int b']) :: δ)) := by
    rcases hd with h | ⟨n, hn, rfl⟩
    · obtain ⟨a', b', e2⟩ := tail_bad h a1 b1
      exact ⟨a', b', [some (.fz d), some (.fz (.bool false)), none, none, none], e.trans e2⟩
    · obtain ⟨a', b', δ, e2⟩ := tail_good hn a1 b1
      exact ⟨a', b', δ, e.trans e2⟩
  obtain ⟨a', b', δ, e3⟩ := fin
  refine ⟨a', b', ?_⟩
  unfold val f__law_many_right
  simp -implicitDefEqProofs only [Ev.nd1, Ev.nd2, Ev.lent_fz, Ev.lent_ow, Ev.lent_oo, Ev.lent_mx, Ev.lent_ln, Ev.lent_nil, Ev.back_nil, Ev.back_tm, Ev.back_sl, Ev.runM_at, Ev.start_at, Ev.seq_at, Ev.pass_at, Ev.brk_at, Ev.cnt_at, Ev.ret_at, Ev.retN_at, Ev.asg_at, Ev.if_at, Ev.drop_at, Ev.tgt_at, Ev.tup_at, Ev.for_at, Ev.P_at, Ev.F_at, Ev.var_at, Ev.c_at, Ev.op_at, Ev.opF_at, Ev.call_at, Ev.call1_at, Ev.un_at, Ev.isi_at, Ev.nil_at, Ev.cons_at, Ev.aNil_at, Ev.aCons_at, Ev.lst_at', Ev.tupE_at, Ev.mix_at, Ev.t_at, Ev.tru_at, Ev.and_at, Ev.or_at, Ev.not_at, Ev.andV_at, Ev.orV_at, Ev.notV_at, Ev.if2_at, Ev.ix_at', Ev.no_at, Ev.yes_at, Ev.sl_at, Ev.rep_at, Ev.fn_at, Ev.fnK_at, Ev.seqL_at, Ev.seqT_at, Ev.enum_at, Ev.zip_at, Ec.rng1_D, Ec.lr1_D, Ev.lc_at, Ev.lcE_at, Ev.yesT_at, Ev.meth_at, Ev.idx_at, Ev.subApp_at, Ev.sortSet_at, Ev.hName_at, Ev.hNil_at, Ev.hCons_at, Ev.hTup_at, Ev.hSub_at, Ev.turns_nil, Ev.force_fz, Ev.force_ow, Ev.force_oo, Ev.force_mx, Ev.force_sl, Ev.norm_fz, Ev.norm_ow, Ev.norm_sl, Ev.argO_sl, Ev.own_at, Ev.setOwn_at, Ev.flatF, Ev.flatO, Ev.flatL, Ev.data_tm, Ev.data_sl, Ev.toD_fz, Ev.toD_ow, Ev.toD_ln, Ev.toD_oo, Ev.toD_mx, Ev.flat_fz, Ev.flat_ow, Ev.flat_sl, Ev.retP_fz, Ev.retP_ow, Ev.retP_oo, Ev.retP_sl, Ev.putP_fz, Ev.putP_ow, Ev.putP_oo, Ev.putP_mx, Ev.putP_sl, Ev.noLn_at, Ev.argOs_nil, Ev.argOs_cons, Ev.argO_fz, Ev.argO_ow, Ev.slots_nil, Ev.slots_tm, Ev.slots_sl, Ev.bOf_b, Ev.ownP_fz, Ev.ownP_ow, Ev.ownP_sl, Ev.ownPs_nil, Ev.ownPs_cons, Ev.putAll_nil, Ev.putAll_cons, Ev.mixI_nil, Ev.mixI_fz, Ev.mixI_ow, Ev.mixI_oo, Ev.ixD_list, Ev.ixD_tup, Ev.atI_0, Ev.atI_1, Ev.ixN_0, Ev.ixN_1, Ev.gt_ii, Ev.ge_ii, Ev.lt_ii, Ev.le_ii, Ev.add_ii, Ev.add_ll, Ev.sub_ii, Ev.mul_ii, Ev.fdv_ii, Ev.mod_ii, Ev.neg_i, Ev.int_i, Ev.abs_i, Ev.max2_ii, Ev.dvm_ii, Ev.len_l, Ev.len_t, Ev.listO_l, Ev.tupO_l, Ev.ints_map, Ev.intsD_map, Ev.sorted_l, Ev.sl_list, List.map_cons, List.map_nil, List.length_cons, List.length_nil, List.replicate_succ, List.replicate_zero, List.append_nil, List.nil_append, List.cons_append, List.getElem?_cons_zero, List.getElem?_cons_succ, List.getElem?_nil, List.set_cons_zero, List.set_cons_succ, List.set_nil, Option.bind_some, Option.bind_none, Option.map_some, Option.map_none, Nat.reduceAdd, Nat.reduceSub, Nat.reduceEqDiff, Nat.reduceLeDiff, if_true, if_false, reduceCtorEq, List.nodup_nil, Bool.false_eq_true, Bool.not_true, Bool.not_false, Bool.true_and, Bool.false_and, Bool.and_true, Bool.and_false, ↓reduceIte, id_eq, List.tail_cons, Nat.zero_add, List.all_cons, List.all_nil, ne_eq, not_false_eq_true, and_self, and_true, true_and, Ew.dsp1_at, Ew.key_i, Ew.swapNew_at, Ew.rng2_at, Ew.rngD_at, Ew.putP_dc, Ew.dc_at, Ew.din_at, Ew.dput_at, Ew.fnD_at, Ew.retGet_at, Ew.sortD_at, Ew.ext_at, Ew.L_at, Ew.LIx_at, Ew.Sc_at, Ew.callL_at, Ew.opNil_at, Ew.sv_i, Ew.oo_at, Ew.appO_at, Ew.sub2_at, Ew.fnL_at, Ew.subAppL_at, Ew.lcO_at, Ew.walk_at, Bool.true_xor, Bool.false_xor
, e3]
theorem v_law (ns : List Int) : ∃ l, val f_law [.fz (L ns)] = some (.fz (.bool true), l) := by
  obtain ⟨a0, b0, e0⟩ := v_pot ns 0 (by decide)
  obtain ⟨a1, b1, e1⟩ := v_tkr a0 b0
  obtain ⟨a2, b2, e2⟩ := v_nr a1 b1
  obtain ⟨a3, b3, e3⟩ := v_mr a2 b2
  refine ⟨[none], ?_⟩
  unfold val f_law m_law
  simp -implicitDefEqProofs only [Ev.nd1, Ev.nd2, Ev.lent_fz, Ev.lent_ow, Ev.lent_oo, Ev.lent_mx, Ev.lent_ln, Ev.lent_nil, Ev.back_nil, Ev.back_tm, Ev.back_sl, Ev.runM_at, Ev.start_at, Ev.seq_at, Ev.pass_at, Ev.brk_at, Ev.cnt_at, Ev.ret_at, Ev.retN_at, Ev.asg_at, Ev.if_at, Ev.drop_at, Ev.tgt_at, Ev.tup_at, Ev.for_at, Ev.P_at, Ev.F_at, Ev.var_at, Ev.c_at, Ev.op_at, Ev.opF_at, Ev.call_at, Ev.call1_at, Ev.un_at, Ev.isi_at, Ev.nil_at, Ev.cons_at, Ev.aNil_at, Ev.aCons_at, Ev.lst_at', Ev.tupE_at, Ev.mix_at, Ev.t_at, Ev.tru_at, Ev.and_at, Ev.or_at, Ev.not_at, Ev.andV_at, Ev.orV_at, Ev.notV_at, Ev.if2_at, Ev.ix_at', Ev.no_at, Ev.yes_at, Ev.sl_at, Ev.rep_at, Ev.fn_at, Ev.fnK_at, Ev.seqL_at, Ev.seqT_at, Ev.enum_at, Ev.zip_at, Ec.rng1_D, Ec.lr1_D, Ev.lc_at, Ev.lcE_at, Ev.yesT_at, Ev.meth_at, Ev.idx_at, Ev.subApp_at, Ev.sortSet_at, Ev.hName_at, Ev.hNil_at, Ev.hCons_at, Ev.hTup_at, Ev.hSub_at, Ev.turns_nil, Ev.force_fz, Ev.force_ow, Ev.force_oo, Ev.force_mx, Ev.force_sl, Ev.norm_fz, Ev.norm_ow, Ev.norm_sl, Ev.argO_sl, Ev.own_at, Ev.setOwn_at, Ev.flatF, Ev.flatO, Ev.flatL, Ev.data_tm, Ev.data_sl, Ev.toD_fz, Ev.toD_ow, Ev.toD_ln, Ev.toD_oo, Ev.toD_mx, Ev.flat_fz, Ev.flat_ow, Ev.flat_sl, Ev.retP_fz, Ev.retP_ow, Ev.retP_oo, Ev.retP_sl, Ev.putP_fz, Ev.putP_ow, Ev.putP_oo, Ev.putP_mx, Ev.putP_sl, Ev.noLn_at, Ev.argOs_nil, Ev.argOs_cons, Ev.argO_fz, Ev.argO_ow, Ev.slots_nil, Ev.slots_tm, Ev.slots_sl, Ev.bOf_b, Ev.ownP_fz, Ev.ownP_ow, Ev.ownP_sl, Ev.ownPs_nil, Ev.ownPs_cons, Ev.putAll_nil, Ev.putAll_cons, Ev.mixI_nil, Ev.mixI_fz, Ev.mixI_ow, Ev.mixI_oo, Ev.ixD_list, Ev.ixD_tup, Ev.atI_0, Ev.atI_1, Ev.ixN_0, Ev.ixN_1, Ev.gt_ii, Ev.ge_ii, Ev.lt_ii, Ev.le_ii, Ev.add_ii, Ev.add_ll, Ev.sub_ii, Ev.mul_ii, Ev.fdv_ii, Ev.mod_ii, Ev.neg_i, Ev.int_i, Ev.abs_i, Ev.max2_ii, Ev.dvm_ii, Ev.len_l, Ev.len_t, Ev.listO_l, Ev.tupO_l, Ev.ints_map, Ev.intsD_map, Ev.sorted_l, Ev.sl_list, List.map_cons, List.map_nil, List.length_cons, List.length_nil, List.replicate_succ, List.replicate_zero, List.append_nil, List.nil_append, List.cons_append, List.getElem?_cons_zero, List.getElem?_cons_succ, List.getElem?_nil, List.set_cons_zero, List.set_cons_succ, List.set_nil, Option.bind_some, Option.bind_none, Option.map_some, Option.map_none, Nat.reduceAdd, Nat.reduceSub, Nat.reduceEqDiff, Nat.reduceLeDiff, if_true, if_false, reduceCtorEq, List.nodup_nil, Bool.false_eq_true, Bool.not_true, Bool.not_false, Bool.true_and, Bool.false_and, Bool.and_true, Bool.and_false, ↓reduceIte, id_eq, List.tail_cons, Nat.zero_add, List.all_cons, List.all_nil, ne_eq, not_false_eq_true, and_self, and_true, true_and, Ew.dsp1_at, Ew.key_i, Ew.swapNew_at, Ew.rng2_at, Ew.rngD_at, Ew.putP_dc, Ew.dc_at, Ew.din_at, Ew.dput_at, Ew.fnD_at, Ew.retGet_at, Ew.sortD_at, Ew.ext_at, Ew.L_at, Ew.LIx_at, Ew.Sc_at, Ew.callL_at, Ew.opNil_at, Ew.sv_i, Ew.oo_at, Ew.appO_at, Ew.sub2_at, Ew.fnL_at, Ew.subAppL_at, Ew.lcO_at, Ew.walk_at, Bool.true_xor, Bool.false_xor
, e0, e1, e2, e3]
theorem law_true (ns : List Int) : ∃ δ : Δ, f_law [.fz (L ns)] = some (.fz (.bool true), δ) := by
  obtain ⟨l, e⟩ := v_law ns
  unfold val at e
  obtain ⟨s, e1, e2⟩ := Option.map_eq_some_iff.mp e
  obtain ⟨o, δ⟩ := s
  cases e2
  exact ⟨_, e1⟩
end K25
end
section
set_option Elab.async false
set_option linter.all false
set_option maxRecDepth 100000
set_option maxHeartbeats 0
namespace K25.HZ
open PySem PySem.Spec PyProof.Rows L2 Vi Vf Vo Vp Vs Vt Vu Vv Vg Vw Vx Vy Va Vb Vc Vk Vm Vl Vn Vd Ev K25 Ec Mo Ew Vfr Vq Vxr Vxt
theorem def_w {Pg : Program} {w : World} {K : Lay} {mg : Str → Option Value} {base : Heap} {x : Str} {st : Stmt} {f : Addr} {fd : FuncData} {N ps : List Str} {k : Nat} {m : Δ → Option Out} (Fd : FunD K.K x x (defArgs st) (defBody st) (defScope st) [] [] f fd) (hm : mg x = some (.ref f)) (S : FnScope N ps (defScope st)) (hn : ps.length ≤ N.length)
    (hb : ∀ (kV doc pm : Value) (an : Option Addr) (cdv ct : Value) (us : List Value), us.length = ps.length → bindArgs (PySem.W.fnOf x x (defArgs st) (defBody st) (defScope st) .none kV doc pm an cdv ct) ⟨us, []⟩ = pure (ps.zip us))
    (hbody : ∀ (cdv : Value) (B : Around) (es : List Env) (s : Shared) (H : Hp) (E : XK), (∃ oc od kV doc pm an ct osl, K.K.lookup f = some ⟨oc, od, .func (PySem.W.fnOf x x (defArgs st) (defBody st) (defScope st) .none kV doc pm an cdv ct), osl⟩ ∧ PySem.W.codeIn K.K cdv x = true) →
      Fits (cxOf CX0 Pg w K.K mg base N x (defScope st) f cdv B es s H E).nox K k → BXs (cxOf CX0 Pg w K.K mg base N x (defScope st) f cdv B es s H E).nox K (defBody st) m) :
    FnG Pg w K.K mg base CX0 (k + 1) f fd ps (SpV K (runM ps.length N.length m)) := by
  obtain ⟨oc, od, dV, kV, doc, pm, an, cdv, ct, osl, rfl, lk, hcd, hD, hK⟩ := Fd.ex
  have hdV : dV = .none := by
    rcases hD with ⟨_, e⟩ | ⟨e, _⟩
    · exact e
    · exact absurd rfl e
  subst hdV
  refine fnG_of lk hcd S (fun zs G R X h => spV_len h) fun B es t G zs R X hr hg h => ?_
  obtain ⟨T, hT, hs⟩ := hbody cdv B es t G X ⟨oc, od, kV, doc, pm, an, ct, osl, lk, hcd⟩ ⟨rfl, ⟨hr, hg⟩, rfl⟩
  refine ⟨T, hT.nox, ?_⟩
  obtain ⟨F, os, o, δ', e, r, q⟩ := h
  unfold runM at e
  split at e
  case isFalse => cases e
  rename_i hk
  have hn' : os.length ≤ N.length := by omega
  obtain ⟨r0, _⟩ := rep_start (N := N) r hn'
  split at e
  case h_1 o1 δ1 hm =>
    cases e
    refine hs _ _ hm _ F G r0 _ fun v σ' F' H' r1 g t1 n1 => ?_
    obtain ⟨b1, b2, b3⟩ := back_ok r hn' r1 g
    exact q v F' H' b1 b2 ⟨t1.ok, t1.nd, fun a ha z => t1.ap a ha (b3 a z)⟩ fun a ha => (n1 a ha).imp_left fun ⟨j, z⟩ => ⟨j, (rep_start r hn').2 j a z⟩
  case h_2 δ1 hm =>
    cases e
    refine hs _ _ hm _ F G r0 _ fun σ' F' H' r1 g => ?_
    obtain ⟨b1, b2, b3⟩ := back_ok r hn' r1 g
    exact q .non F' H' b1 b2 ⟨.non, by simp [O.fp], fun a ha => by cases ha⟩ fun a ha => by cases ha
  case h_3 => cases e
theorem ok_lawG {Pg : Program} {w : World} {K : Lay} {mg : Str → Option Value} {base : Heap} {fd : FuncData} (B : Bl mg) (G__law_pot : DefS Pg w K mg base 1 "_law_pot" s__law_pot ["_law_script", "_law_k"] f__law_pot) (G__law_tokens_right : DefS Pg w K mg base 5 "_law_tokens_right" s__law_tokens_right ["_law_pot_here"] f__law_tokens_right) (G__law_name_right : DefS Pg w K mg base 5 "_law_name_right" s__law_name_right ["_law_pot_here"] f__law_name_right) (G__law_many_right : DefS Pg w K mg base 10 "_law_many_right" s__law_many_right ["_law_pot_here"] f__law_many_right) (Fd : FunD K.K "law" "law" (defArgs s_law) (defBody s_law) (defScope s_law) [] [] (He.fAd K.K ("law", none)) fd) (hm : mg "law" = some (.ref (He.fAd K.K ("law", none)))) : FnG Pg w K.K mg base CX0 11 (He.fAd K.K ("law", none)) fd ["_law_script"] (SpV K f_law) :=
  def_w (k := 10) Fd hm sc_law (by decide) (fun _ _ _ _ _ _ us hl => match us, hl with | [_], _ => rfl) fun cdv Bk es s H E lk Z => by
    exact (bs_cons (b_asg 1 sc_law.nd (x_fn Z G__law_pot (by decide) (as_cons (EX.of (DX.of (x_var 0))) (as_cons (EX.of d_int) as_nil))))
  (bs_cons (b_ret (EX.of (d_and (DX.of (x_fn Z G__law_tokens_right (by decide) (as_cons (x_var 1) as_nil))) (d_and (DX.of (x_fn Z G__law_name_right (by decide) (as_cons (x_var 1) as_nil))) (d_one (DX.of (x_fn Z G__law_many_right (by decide) (as_cons (x_var 1) as_nil))))))))
  bs_nil))
def d_kept : He.DefD := ⟨("kept", none), "kept", "kept", defArgs s_kept, defBody s_kept, defScope s_kept, [], []⟩
def d_is_integer : He.DefD := ⟨("is_integer", none), "is_integer", "is_integer", defArgs s_is_integer, defBody s_is_integer, defScope s_is_integer, [], []⟩
def d_is_count : He.DefD := ⟨("is_count", none), "is_count", "is_count", defArgs s_is_count, defBody s_is_count, defScope s_is_count, [], []⟩
def d_check_many : He.DefD := ⟨("check_many", none), "check_many", "check_many", defArgs s_check_many, defBody s_check_many, defScope s_check_many, [], []⟩
def d_is_letter : He.DefD := ⟨("is_letter", none), "is_letter", "is_letter", defArgs s_is_letter, defBody s_is_letter, defScope s_is_letter, [], []⟩
def d_is_word_character : He.DefD := ⟨("is_word_character", none), "is_word_character", "is_word_character", defArgs s_is_word_character, defBody s_is_word_character, defScope s_is_word_character, [], []⟩
def d_is_part_name : He.DefD := ⟨("is_part_name", none), "is_part_name", "is_part_name", defArgs s_is_part_name, defBody s_is_part_name, defScope s_is_part_name, [], []⟩
def d_own_names : He.DefD := ⟨("own_names", none), "own_names", "own_names", defArgs s_own_names, defBody s_own_names, defScope s_own_names, [], []⟩
def d_line_words : He.DefD := ⟨("line_words", none), "line_words", "line_words", defArgs s_line_words, defBody s_line_words, defScope s_line_words, [], []⟩
def d_tokens : He.DefD := ⟨("tokens", none), "tokens", "tokens", defArgs s_tokens, defBody s_tokens, defScope s_tokens, [], []⟩
def d__law_pot : He.DefD := ⟨("_law_pot", none), "_law_pot", "_law_pot", defArgs s__law_pot, defBody s__law_pot, defScope s__law_pot, [], []⟩
def d__law_draw : He.DefD := ⟨("_law_draw", none), "_law_draw", "_law_draw", defArgs s__law_draw, defBody s__law_draw, defScope s__law_draw, [], []⟩
def d__law_pick : He.DefD := ⟨("_law_pick", none), "_law_pick", "_law_pick", defArgs s__law_pick, defBody s__law_pick, defScope s__law_pick, [], []⟩
def d__law_text : He.DefD := ⟨("_law_text", none), "_law_text", "_law_text", defArgs s__law_text, defBody s__law_text, defScope s__law_text, [], []⟩
def d__law_tokens : He.DefD := ⟨("_law_tokens", none), "_law_tokens", "_law_tokens", defArgs s__law_tokens, defBody s__law_tokens, defScope s__law_tokens, [], []⟩
def d__law_tokens_right : He.DefD := ⟨("_law_tokens_right", none), "_law_tokens_right", "_law_tokens_right", defArgs s__law_tokens_right, defBody s__law_tokens_right, defScope s__law_tokens_right, [], []⟩
def d__law_value : He.DefD := ⟨("_law_value", none), "_law_value", "_law_value", defArgs s__law_value, defBody s__law_value, defScope s__law_value, [], []⟩
def d__law_is_name : He.DefD := ⟨("_law_is_name", none), "_law_is_name", "_law_is_name", defArgs s__law_is_name, defBody s__law_is_name, defScope s__law_is_name, [], []⟩
def d__law_name_right : He.DefD := ⟨("_law_name_right", none), "_law_name_right", "_law_name_right", defArgs s__law_name_right, defBody s__law_name_right, defScope s__law_name_right, [], []⟩
def d__law_many_right : He.DefD := ⟨("_law_many_right", none), "_law_many_right", "_law_many_right", defArgs s__law_many_right, defBody s__law_many_right, defScope s__law_many_right, [], []⟩
def d_law : He.DefD := ⟨("law", none), "law", "law", defArgs s_law, defBody s_law, defScope s_law, [], []⟩
def di_InvalidMany : He.DefD := ⟨("InvalidMany", some "__init__"), "__init__", "InvalidMany.__init__", defArgs i_InvalidMany, defBody i_InvalidMany, defScope i_InvalidMany, [], []⟩
def fn : List He.DefD := [d_kept, d_is_integer, d_is_count, d_check_many, d_is_letter, d_is_word_character, d_is_part_name, d_own_names, d_line_words, d_tokens, d__law_pot, d__law_draw, d__law_pick, d__law_text, d__law_tokens, d__law_tokens_right, d__law_value, d__law_is_name, d__law_name_right, d__law_many_right, d_law, di_InvalidMany]
def fa : List He.Fa := [.glo "kept", .glo "is_integer", .glo "is_count", .glo "check_many", .glo "is_letter", .glo "is_word_character", .glo "is_part_name", .glo "own_names", .glo "line_words", .glo "tokens", .glo "_law_pot", .glo "_law_draw", .glo "_law_pick", .glo "_law_text", .glo "_law_tokens", .glo "_law_tokens_right", .glo "_law_value", .glo "_law_is_name", .glo "_law_name_right", .glo "_law_many_right", .glo "law", .free "ValueError", .free "abs", .free "all", .free "bool", .free "divmod", .free "enumerate", .free "int", .free "isinstance", .free "len", .free "list", .free "max", .free "range", .free "repr", .free "str", .free "tuple", .int "MOST_PARTS" 24, .glo "InvalidMany", .glo "MissingError", .glo "TermError", .glo "TooMany"]
def tf : List He.Defn := [("is_part_name", none)]
def tl : List (He.Defn × Str) := []
def ta : List He.Defn := tf ++ tl.map (·.1)
def exB0 (K : PySem.W.Frag) : Bool := (tl.all fun p => tf.all fun z => !decide ((He.cT K p.1).2 = (He.cT K z).2)) && (tl.all fun p => tl.all fun z => !decide ((He.cT K p.1).2 = (He.cT K z.1).2) || decide (p.2 = z.2))
def exC (K : PySem.W.Frag) : Bool := allB K (He.ga K "InvalidMany") && (decide (PySem.W.findIn K (.ref (He.ga K "InvalidMany")) "value" = some none) && (decide (PySem.W.findIn K (.ref (He.ga K "InvalidMany")) "__init__" = some (some (.ref (He.ma K (He.ga K "InvalidMany") "__init__")))) && (decide (PySem.W.typeIn K (.ref (He.ma K (He.ga K "InvalidMany") "__init__")) = some (.type "function")) && (decide (PySem.W.exmOne K (.ref (He.ga K "InvalidMany")) (.ref (He.ga K "InvalidMany")) = some true) && (decide (PySem.W.findIn K (.ref (He.ga K "InvalidMany")) "value" = some none) && (decide (PySem.W.kitOne K (.ref (He.ga K "InvalidMany")) (.ref (He.ga K "TermError")) = some true) && (decide (PySem.W.kitOne K (.ref (He.ga K "InvalidMany")) (.type "ValueError") = some true) && (decide (PySem.W.kitAny K (.ref (He.ga K "InvalidMany")) [.ref (He.ga K "MissingError"), .ref (He.ga K "TooMany")] = some false) && true))))))))
def exB (K : PySem.W.Frag) : Bool := exB0 K && exC K
theorem ex_A_InvalidMany {K : PySem.W.Frag} (h : exC K = true) : ExcAll K (He.ga K "InvalidMany") := allB_ok (Bool.and_eq_true_iff.mp h).1
theorem ex_hno_InvalidMany {K : PySem.W.Frag} (h : exC K = true) : PySem.W.findIn K (.ref (He.ga K "InvalidMany")) "value" = some none := of_decide_eq_true (Bool.and_eq_true_iff.mp (Bool.and_eq_true_iff.mp h).2).1
theorem ex_iC_InvalidMany {K : PySem.W.Frag} (h : exC K = true) : PySem.W.findIn K (.ref (He.ga K "InvalidMany")) "__init__" = some (some (.ref (He.ma K (He.ga K "InvalidMany") "__init__"))) := of_decide_eq_true (Bool.and_eq_true_iff.mp (Bool.and_eq_true_iff.mp (Bool.and_eq_true_iff.mp h).2).2).1
theorem ex_tI_InvalidMany {K : PySem.W.Frag} (h : exC K = true) : PySem.W.typeIn K (.ref (He.ma K (He.ga K "InvalidMany") "__init__")) = some (.type "function") := of_decide_eq_true (Bool.and_eq_true_iff.mp (Bool.and_eq_true_iff.mp (Bool.and_eq_true_iff.mp (Bool.and_eq_true_iff.mp h).2).2).2).1
theorem ex_E_InvalidMany_InvalidMany {K : PySem.W.Frag} (h : exC K = true) : PySem.W.exmOne K (.ref (He.ga K "InvalidMany")) (.ref (He.ga K "InvalidMany")) = some true := of_decide_eq_true (Bool.and_eq_true_iff.mp (Bool.and_eq_true_iff.mp (Bool.and_eq_true_iff.mp (Bool.and_eq_true_iff.mp (Bool.and_eq_true_iff.mp h).2).2).2).2).1
theorem ex_H_InvalidMany_value {K : PySem.W.Frag} (h : exC K = true) : PySem.W.findIn K (.ref (He.ga K "InvalidMany")) "value" = some none := of_decide_eq_true (Bool.and_eq_true_iff.mp (Bool.and_eq_true_iff.mp (Bool.and_eq_true_iff.mp (Bool.and_eq_true_iff.mp (Bool.and_eq_true_iff.mp (Bool.and_eq_true_iff.mp h).2).2).2).2).2).1
theorem ex_K_InvalidMany_TermError {K : PySem.W.Frag} (h : exC K = true) : PySem.W.kitOne K (.ref (He.ga K "InvalidMany")) (.ref (He.ga K "TermError")) = some true := of_decide_eq_true (Bool.and_eq_true_iff.mp (Bool.and_eq_true_iff.mp (Bool.and_eq_true_iff.mp (Bool.and_eq_true_iff.mp (Bool.and_eq_true_iff.mp (Bool.and_eq_true_iff.mp (Bool.and_eq_true_iff.mp h).2).2).2).2).2).2).1
theorem ex_K_InvalidMany_ValueError {K : PySem.W.Frag} (h : exC K = true) : PySem.W.kitOne K (.ref (He.ga K "InvalidMany")) (.type "ValueError") = some true := of_decide_eq_true (Bool.and_eq_true_iff.mp (Bool.and_eq_true_iff.mp (Bool.and_eq_true_iff.mp (Bool.and_eq_true_iff.mp (Bool.and_eq_true_iff.mp (Bool.and_eq_true_iff.mp (Bool.and_eq_true_iff.mp (Bool.and_eq_true_iff.mp h).2).2).2).2).2).2).2).1
theorem ex_KT_InvalidMany_MissingError_TooMany {K : PySem.W.Frag} (h : exC K = true) : PySem.W.kitAny K (.ref (He.ga K "InvalidMany")) [.ref (He.ga K "MissingError"), .ref (He.ga K "TooMany")] = some false := of_decide_eq_true (Bool.and_eq_true_iff.mp (Bool.and_eq_true_iff.mp (Bool.and_eq_true_iff.mp (Bool.and_eq_true_iff.mp (Bool.and_eq_true_iff.mp (Bool.and_eq_true_iff.mp (Bool.and_eq_true_iff.mp (Bool.and_eq_true_iff.mp (Bool.and_eq_true_iff.mp h).2).2).2).2).2).2).2).2).1
theorem ex_dj {K : PySem.W.Frag} (h : exB0 K = true) : ∀ p ∈ tl.map (fun p => ((He.cT K p.1).2, p.2)), p.1 ∉ tf.map fun p => (He.cT K p).2 := fun p hp z => by
  obtain ⟨q, hq, rfl⟩ := List.mem_map.mp hp
  obtain ⟨t, ht, e⟩ := List.mem_map.mp z
  have h1 := List.all_eq_true.mp (List.all_eq_true.mp (Bool.and_eq_true_iff.mp h).1 q hq) t ht
  rw [Bool.not_eq_true', decide_eq_false_iff_not] at h1
  exact h1 e.symm
def lay (K : PySem.W.Frag) (h : exB K = true) : Lay := ⟨K, tf.map (fun p => (He.cT K p).2), tl.map (fun p => ((He.cT K p.1).2, p.2)), ex_dj (Bool.and_eq_true_iff.mp h).1⟩
abbrev hk : PySem.W.Hook := He.hookX 4 fa fn [] ta exB
abbrev RR : PySem.W.OpenRow := PySem.W.OpenLaw.row PySem.Challenge.rw_webnames_k25_tokens_and_part_names
def ob (s : PySem.W.SharedT) : He.AlX := He.obsX 4 fa fn [] ta exB (HandSHeadRun.getT s)
theorem ob_eq (s : PySem.W.SharedT) : ob s = hk.obs s.abs := He.obsX_eq (HandSHeadRun.getT_eq s)
theorem says_d {w : World} {h : Heap} {K : PySem.W.Frag} (c : He.SaysX fa fn [] ta exB w h K) : He.SaysD fa fn K := congrArg (fun z : He.AlT => z.1) c.t
theorem bl_of {h : Heap} {K : PySem.W.Frag} {mg : Str → Option Value} (kin : K.In h) (G : h.Ns mainGlobals mg) (c : He.SaysD fa fn K) : Bl mg :=
  ⟨He.free_ok kin G (c.fact 21 (f := .free "ValueError") rfl), He.free_ok kin G (c.fact 22 (f := .free "abs") rfl), He.free_ok kin G (c.fact 23 (f := .free "all") rfl), He.free_ok kin G (c.fact 24 (f := .free "bool") rfl), He.free_ok kin G (c.fact 25 (f := .free "divmod") rfl), He.free_ok kin G (c.fact 26 (f := .free "enumerate") rfl), He.free_ok kin G (c.fact 27 (f := .free "int") rfl), He.free_ok kin G (c.fact 28 (f := .free "isinstance") rfl), He.free_ok kin G (c.fact 29 (f := .free "len") rfl), He.free_ok kin G (c.fact 30 (f := .free "list") rfl), He.free_ok kin G (c.fact 31 (f := .free "max") rfl), He.free_ok kin G (c.fact 32 (f := .free "range") rfl), He.free_ok kin G (c.fact 33 (f := .free "repr") rfl), He.free_ok kin G (c.fact 34 (f := .free "str") rfl), He.free_ok kin G (c.fact 35 (f := .free "tuple") rfl)⟩
theorem all_ok {Pg : Program} {w : World} {h : Heap} {K : PySem.W.Frag} {mg : Str → Option Value} (hd : Head fa fn ta exB w h K) (G : h.Ns mainGlobals mg) :
    ∃ fd, (∀ (s : Shared) (u : Value), BindsTo s fd ⟨[u], []⟩ [("_law_script", u)]) ∧ mg "law" = some (.ref (He.fAd K ("law", none))) ∧ ∀ base : Heap, K.In base → base.Ns mainGlobals mg → (∀ p ∈ ta, GxR.TabB base mg (He.cT K p).1 (He.cT K p).2) →
      FnG Pg w K mg base CX0 11 (He.fAd K ("law", none)) fd ["_law_script"] (SpV (lay K hd.x.more) f_law) := by
  have c := says_d hd.x
  have B := bl_of hd.kin G c
  have M_MOST_PARTS := He.int_ok hd.kin G (c.fact 36 (f := .int "MOST_PARTS" 24) rfl)
  have xc := (Bool.and_eq_true_iff.mp hd.x.more).2
  have mc_InvalidMany : mg "InvalidMany" = some (.ref (He.ga K "InvalidMany")) := He.glo_ok hd.kin G (c.fact 37 (f := .glo "InvalidMany") rfl)
  have mc_MissingError : mg "MissingError" = some (.ref (He.ga K "MissingError")) := He.glo_ok hd.kin G (c.fact 38 (f := .glo "MissingError") rfl)
  have mc_TermError : mg "TermError" = some (.ref (He.ga K "TermError")) := He.glo_ok hd.kin G (c.fact 39 (f := .glo "TermError") rfl)
  have mc_TooMany : mg "TooMany" = some (.ref (He.ga K "TooMany")) := He.glo_ok hd.kin G (c.fact 40 (f := .glo "TooMany") rfl)
  obtain ⟨fi_0, FI_InvalidMany⟩ := c.def_ 21 (d := di_InvalidMany) rfl
  obtain ⟨f_0, F_0⟩ := c.def_ 0 (d := d_kept) rfl
  have m_0 : mg "kept" = some (.ref (He.fAd K ("kept", none))) := He.glo_ok hd.kin G (c.fact 0 (f := .glo "kept") rfl)
  obtain ⟨f_1, F_1⟩ := c.def_ 1 (d := d_is_integer) rfl
  have m_1 : mg "is_integer" = some (.ref (He.fAd K ("is_integer", none))) := He.glo_ok hd.kin G (c.fact 1 (f := .glo "is_integer") rfl)
  obtain ⟨f_2, F_2⟩ := c.def_ 2 (d := d_is_count) rfl
  have m_2 : mg "is_count" = some (.ref (He.fAd K ("is_count", none))) := He.glo_ok hd.kin G (c.fact 2 (f := .glo "is_count") rfl)
  obtain ⟨f_3, F_3⟩ := c.def_ 3 (d := d_check_many) rfl
  have m_3 : mg "check_many" = some (.ref (He.fAd K ("check_many", none))) := He.glo_ok hd.kin G (c.fact 3 (f := .glo "check_many") rfl)
  obtain ⟨f_4, F_4⟩ := c.def_ 4 (d := d_is_letter) rfl
  have m_4 : mg "is_letter" = some (.ref (He.fAd K ("is_letter", none))) := He.glo_ok hd.kin G (c.fact 4 (f := .glo "is_letter") rfl)
  obtain ⟨f_5, F_5⟩ := c.def_ 5 (d := d_is_word_character) rfl
  have m_5 : mg "is_word_character" = some (.ref (He.fAd K ("is_word_character", none))) := He.glo_ok hd.kin G (c.fact 5 (f := .glo "is_word_character") rfl)
  obtain ⟨f_6, F_6⟩ := c.def_ 6 (d := d_is_part_name) rfl
  have m_6 : mg "is_part_name" = some (.ref (He.fAd K ("is_part_name", none))) := He.glo_ok hd.kin G (c.fact 6 (f := .glo "is_part_name") rfl)
  obtain ⟨f_7, F_7⟩ := c.def_ 7 (d := d_own_names) rfl
  have m_7 : mg "own_names" = some (.ref (He.fAd K ("own_names", none))) := He.glo_ok hd.kin G (c.fact 7 (f := .glo "own_names") rfl)
  obtain ⟨f_8, F_8⟩ := c.def_ 8 (d := d_line_words) rfl
  have m_8 : mg "line_words" = some (.ref (He.fAd K ("line_words", none))) := He.glo_ok hd.kin G (c.fact 8 (f := .glo "line_words") rfl)
  obtain ⟨f_9, F_9⟩ := c.def_ 9 (d := d_tokens) rfl
  have m_9 : mg "tokens" = some (.ref (He.fAd K ("tokens", none))) := He.glo_ok hd.kin G (c.fact 9 (f := .glo "tokens") rfl)
  obtain ⟨f_10, F_10⟩ := c.def_ 10 (d := d__law_pot) rfl
  have m_10 : mg "_law_pot" = some (.ref (He.fAd K ("_law_pot", none))) := He.glo_ok hd.kin G (c.fact 10 (f := .glo "_law_pot") rfl)
  obtain ⟨f_11, F_11⟩ := c.def_ 11 (d := d__law_draw) rfl
  have m_11 : mg "_law_draw" = some (.ref (He.fAd K ("_law_draw", none))) := He.glo_ok hd.kin G (c.fact 11 (f := .glo "_law_draw") rfl)
  obtain ⟨f_12, F_12⟩ := c.def_ 12 (d := d__law_pick) rfl
  have m_12 : mg "_law_pick" = some (.ref (He.fAd K ("_law_pick", none))) := He.glo_ok hd.kin G (c.fact 12 (f := .glo "_law_pick") rfl)
  obtain ⟨f_13, F_13⟩ := c.def_ 13 (d := d__law_text) rfl
  have m_13 : mg "_law_text" = some (.ref (He.fAd K ("_law_text", none))) := He.glo_ok hd.kin G (c.fact 13 (f := .glo "_law_text") rfl)
  obtain ⟨f_14, F_14⟩ := c.def_ 14 (d := d__law_tokens) rfl
  have m_14 : mg "_law_tokens" = some (.ref (He.fAd K ("_law_tokens", none))) := He.glo_ok hd.kin G (c.fact 14 (f := .glo "_law_tokens") rfl)
  obtain ⟨f_15, F_15⟩ := c.def_ 15 (d := d__law_tokens_right) rfl
  have m_15 : mg "_law_tokens_right" = some (.ref (He.fAd K ("_law_tokens_right", none))) := He.glo_ok hd.kin G (c.fact 15 (f := .glo "_law_tokens_right") rfl)
  obtain ⟨f_16, F_16⟩ := c.def_ 16 (d := d__law_value) rfl
  have m_16 : mg "_law_value" = some (.ref (He.fAd K ("_law_value", none))) := He.glo_ok hd.kin G (c.fact 16 (f := .glo "_law_value") rfl)
  obtain ⟨f_17, F_17⟩ := c.def_ 17 (d := d__law_is_name) rfl
  have m_17 : mg "_law_is_name" = some (.ref (He.fAd K ("_law_is_name", none))) := He.glo_ok hd.kin G (c.fact 17 (f := .glo "_law_is_name") rfl)
  obtain ⟨f_18, F_18⟩ := c.def_ 18 (d := d__law_name_right) rfl
  have m_18 : mg "_law_name_right" = some (.ref (He.fAd K ("_law_name_right", none))) := He.glo_ok hd.kin G (c.fact 18 (f := .glo "_law_name_right") rfl)
  obtain ⟨f_19, F_19⟩ := c.def_ 19 (d := d__law_many_right) rfl
  have m_19 : mg "_law_many_right" = some (.ref (He.fAd K ("_law_many_right", none))) := He.glo_ok hd.kin G (c.fact 19 (f := .glo "_law_many_right") rfl)
  obtain ⟨f_20, F_20⟩ := c.def_ 20 (d := d_law) rfl
  have m_20 : mg "law" = some (.ref (He.fAd K ("law", none))) := He.glo_ok hd.kin G (c.fact 20 (f := .glo "law") rfl)
  have b := FunD.bindsA (ps := ["_law_script"]) F_20 fun _ _ _ _ _ _ us hl => match us, hl with | [_], _ => rfl
  refine ⟨f_20, fun s v => b s [v] rfl, m_20, fun base kb nb hT => ?_⟩
  have g_kept := ok_kept (Pg := Pg) (w := w) (K := lay K hd.x.more) (base := base) B F_0 m_0
  have g_is_integer := ok_is_integer (Pg := Pg) (w := w) (K := lay K hd.x.more) (base := base) B F_1 m_1
  have g_is_count := ok_is_count (Pg := Pg) (w := w) (K := lay K hd.x.more) (base := base) B g_is_integer F_2 m_2
  have x_InvalidMany := oi_InvalidMany (Pg := Pg) (w := w) (K := lay K hd.x.more) (base := base) B g_kept FI_InvalidMany mc_InvalidMany (ex_A_InvalidMany xc).o (ex_hno_InvalidMany xc) (ex_iC_InvalidMany xc) (ex_tI_InvalidMany xc)
  have g_check_many := ok_check_many (Pg := Pg) (w := w) (K := lay K hd.x.more) (base := base) B g_is_count F_3 m_3
  have r_check_many := or_check_many (Pg := Pg) (w := w) (K := lay K hd.x.more) (base := base) B g_is_count x_InvalidMany F_3 m_3
  have g_is_letter := ok_is_letter (Pg := Pg) (w := w) (K := lay K hd.x.more) (base := base) B F_4 m_4
  have g_is_word_character := ok_is_word_character (Pg := Pg) (w := w) (K := lay K hd.x.more) (base := base) B g_is_letter F_5 m_5
  have g_is_part_name := ok_is_part_name (Pg := Pg) (w := w) (K := lay K hd.x.more) (base := base) B g_is_letter g_is_word_character (hT ("is_part_name", none) (by decide)) (List.mem_map.mpr ⟨("is_part_name", none), by decide, rfl⟩) F_6 m_6
  have g_own_names := ok_own_names (Pg := Pg) (w := w) (K := lay K hd.x.more) (base := base) B g_check_many M_MOST_PARTS F_7 m_7
  have r_own_names := or_own_names (Pg := Pg) (w := w) (K := lay K hd.x.more) (base := base) B M_MOST_PARTS r_check_many F_7 m_7
  have g_line_words := ok_line_words (Pg := Pg) (w := w) (K := lay K hd.x.more) (base := base) B g_is_word_character F_8 m_8
  have g_tokens := ok_tokens (Pg := Pg) (w := w) (K := lay K hd.x.more) (base := base) B g_line_words F_9 m_9
  have g__law_pot := ok__law_pot (Pg := Pg) (w := w) (K := lay K hd.x.more) (base := base) B F_10 m_10
  have g__law_draw := ok__law_draw (Pg := Pg) (w := w) (K := lay K hd.x.more) (base := base) B F_11 m_11
  have g__law_pick := ok__law_pick (Pg := Pg) (w := w) (K := lay K hd.x.more) (base := base) B g__law_draw F_12 m_12
  have g__law_text := ok__law_text (Pg := Pg) (w := w) (K := lay K hd.x.more) (base := base) B g__law_draw g__law_pick F_13 m_13
  have g__law_tokens := ok__law_tokens (Pg := Pg) (w := w) (K := lay K hd.x.more) (base := base) B F_14 m_14
  have g__law_tokens_right := ok__law_tokens_right (Pg := Pg) (w := w) (K := lay K hd.x.more) (base := base) B g_tokens g__law_text g__law_tokens F_15 m_15
  have g__law_value := ok__law_value (Pg := Pg) (w := w) (K := lay K hd.x.more) (base := base) B g__law_draw g__law_pick F_16 m_16
  have g__law_is_name := ok__law_is_name (Pg := Pg) (w := w) (K := lay K hd.x.more) (base := base) B F_17 m_17
  have g__law_name_right := ok__law_name_right (Pg := Pg) (w := w) (K := lay K hd.x.more) (base := base) B g_is_part_name g__law_value g__law_is_name F_18 m_18
  have g__law_many_right := ok__law_many_right (Pg := Pg) (w := w) (K := lay K hd.x.more) (base := base) B g_own_names g__law_draw g__law_pick (ex_A_InvalidMany xc) (ex_E_InvalidMany_InvalidMany xc) (ex_H_InvalidMany_value xc) (ex_K_InvalidMany_TermError xc) (ex_K_InvalidMany_ValueError xc) (ex_KT_InvalidMany_MissingError_TooMany xc) r_own_names x_InvalidMany mc_InvalidMany mc_MissingError mc_TermError mc_TooMany F_19 m_19
  exact ok_lawG (Pg := Pg) (w := w) (K := lay K hd.x.more) (base := base) B g__law_pot g__law_tokens_right g__law_name_right g__law_many_right F_20 m_20
theorem dp_ints (K : PySem.W.Frag) (H : Hp) : ∀ ns : List Int, DpAll K H (ns.map V.int) (ns.map PyData.int)
  | [] => .nil
  | n :: ns => .cons (.int n) (dp_ints K H ns)
theorem sp_law (K : PySem.W.Frag) (H : Hp) (a : Addr) (ns : List Int) (hx : exB K = true) (hT : ∀ p ∈ ta, H (He.cT K p).2 = some (.tbl #[])) (hS : SqL K H a (ns.map V.int)) : SpV (lay K hx) f_law [.ref a] H (fun v _ => v = .bl true) E0 := by
  obtain ⟨δ, e⟩ := law_true ns
  have tb : ∀ T ∈ (lay K hx).T, GxR.TabG H T := fun T h => by
    obtain ⟨p, hp, rfl⟩ := List.mem_map.mp h
    exact ⟨#[], hT p (List.mem_append_left _ hp), trivial⟩
  have nm : LamX.Tabs (lay K hx).L H := fun p h => by
    obtain ⟨q, hq, rfl⟩ := List.mem_map.mp h
    exact LamX.TabS.nil (hT q.1 (List.mem_append_right _ (List.mem_map.mpr ⟨q, hq, rfl⟩)))
  have r : Rep (lay K hx) H H (sm [.ref a]) (om [.fz (L ns)]) := by
    refine ⟨.rfl, rfl, fun i o h => ?_, fun i j b h => ?_, tb, nm⟩
    · match i, h with
      | 0, h =>
        cases h
        exact ⟨.ref a, rfl, .lst hS (dp_ints K H ns), .nil⟩
      | i + 1, h => simp [om] at h
    · obtain ⟨v, o, e1, e2, e3⟩ := h
      match i, e2 with
      | 0, e2 =>
        cases e2
        cases e3
      | i + 1, e2 => simp [om] at e2
  refine ⟨H, [.fz (L ns)], .fz (.bool true), δ, e, r, fun v F' H' r' g t n => ?_⟩
  have := t.ok
  exact dp_bool this
theorem run (w : World) : HandSHeadRun.RunEq RR (PySem.W.view RR.prog [30]) hk ob 3000 ((["__name__", "kept", "TermError", "InvalidMany", "MissingError", "LimitError", "TooMany", "is_integer", "is_count", "check_many", "MOST_PARTS", "is_letter", "is_word_character", "is_part_name", "own_names", "tokens", "line_words", "_law_pot", "_law_draw", "_law_pick"] : List PySem.Str) ++ (["_law_text", "_law_tokens", "_law_tokens_right", "_law_value", "_law_is_name", "_law_name_right", "_law_many_right"] : List PySem.Str)) w := by
  intro os
  kernel_rfl
end K25.HZ
open PySem PySem.W PySem.Calls PyProof.Rows
theorem PySem.Challenge.cw_webnames_k25_tokens_and_part_names_holds : PySem.Challenge.rw_webnames_k25_tokens_and_part_names.Holds := by
  w_on; o_law
  refine HandSHeadRun.head_any (r := OpenLaw.row PySem.Challenge.rw_webnames_k25_tokens_and_part_names) (q := view (OpenLaw.row PySem.Challenge.rw_webnames_k25_tokens_and_part_names).prog [30]) (H := K25.HZ.hk) (ob := K25.HZ.ob) (M := 3000) (loose := ((["__name__", "kept", "TermError", "InvalidMany", "MissingError", "LimitError", "TooMany", "is_integer", "is_count", "check_many", "MOST_PARTS", "is_letter", "is_word_character", "is_part_name", "own_names", "tokens", "line_words", "_law_pot", "_law_draw", "_law_pick"] : List PySem.Str) ++ (["_law_text", "_law_tokens", "_law_tokens_right", "_law_value", "_law_is_name", "_law_name_right", "_law_many_right"] : List PySem.Str))) (d := HandSHeadRun.topDef (OpenLaw.row PySem.Challenge.rw_webnames_k25_tokens_and_part_names).prog 30) (kwd := []) K25.HZ.ob_eq
    (by kernel_rfl) (fun s => by kernel_rfl) K25.HZ.run (by kernel_rfl) (by kernel_rfl) (by kernel_rfl) (by rfl) (by first | assumption | decide +kernel) (by decide +kernel) ⟨rfl, rfl, rfl, rfl, rfl, by decide +kernel⟩ ?hw ?hc
  case hw => w_witness2
  case hc =>
    refine Vc.walk_VX (l := PySem.Challenge.rw_webnames_k25_tokens_and_part_names) (n := 63) (k := 11) (x := "_law_script") rfl (by decide) (by kernel_rfl) ⟨rfl, by decide, by decide⟩ ?F
    intro w mg fa h K hd G hmg0
    have hmg : mg ("law" : PySem.Str) = some (.ref fa) := by
      have e : (HandSHeadRun.topDef (OpenLaw.row PySem.Challenge.rw_webnames_k25_tokens_and_part_names).prog 30).name = ("law" : PySem.Str) := by kernel_rfl
      rw [← e]
      exact hmg0
    obtain ⟨fd, hb, hl, hF⟩ := K25.HZ.all_ok (Pg := (PySem.Challenge.rw_webnames_k25_tokens_and_part_names).prog) (w := w) hd G
    have e := hmg.symm.trans hl
    cases e
    exact ⟨fd, _, hb, fun H a ns _ _ hT hS => K25.HZ.sp_law K H a ns hd.x.more hT hS, hF⟩
end
