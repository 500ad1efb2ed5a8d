import PyProof.Rows.All
import Wide.All
import OpenK.AllK
import Wide.FinOn
import HandS.ForMost
import HandS.HeadHook1
import HandS.IsInst
import HandS.NoneIn
import HandS.Wide
import HandS.TupAny
import HandS.SortInts
import HandS.Style
import HandS.Deep
import PyProof.Rows.InDataRows
import HandS.SetKeys
import HandS.Defaults
import HandS.Head0
import HandS.Head1
import HandS.Head2
import HandS.HeadEnd
import HandS.HeadHook2
import HandS.Conv
import HandS.TupSets
import KE.SortData
import PyProof.WalkInts
import HandS.SetFor
import HandS.Strs
import KE.KDictCopyH
import HandS.DictSubView
import KE.GoesEnum
import KE.GoesMore
import KE.DataMinMax
import PyProof.ReprRoads
import HandS.Ends
import HandS.FStr
import HandS.More
import HandS.DictComp
import HandS.HeadHook3
import HandS.HeadHook4
import HandS.TryOnly
import HandS.ExcInit
import HandS.ExcField
import HandS.ExcIs
import KE.KExcSuper
import KE.KSuper
import HandS.TryMany
import HandS.ExcOwn
import KE.KIsAll
import KE.KExcInit
import HandS.Words
import KE.KEqSeq
import PySem.Challenge.RW_beatnet_k27_refusals_made
import KE.KStateDown
import HandS.WordsExc
set_option Elab.async false
set_option linter.all false
set_option maxRecDepth 100000
set_option maxHeartbeats 0
/-! Mi0: data, what a value of the heap stands for, stores of changing lists, slots. -/
namespace Mi
open PySem L2
/-- what a value is, as plain data; scr: the script's own list -/
inductive D where
  | non | bl (b : Bool) | int (i : Int) | str (s : Str)
  | lst (xs : List D) | tup (xs : List D)
  | dic (kvs : List (Key × D)) | dit (kvs : List (List Key × D))
  | scr (ns : List Int)
  | ty (n : String)
  /-- an instance of the module's class c, by its fields; the module's def x -/
  | ins (c : Str) (fs : List (Str × D))
  | fn (x : Str)
  /-- the cell k itself -/
  | at (k : Nat)
  /-- an exception of the module's class c, by its fields -/
  | exc (c : Str) (fs : List (Str × D))
/-- at a: an exception of the class cls, its dict d -/
def ExV (cls : Value) (d : Option Addr) (a : Addr) : HO := .ext fun h => ∃ (oe : Obj) (vs : Array Value), h.get? a = some oe ∧ oe.cls = cls ∧ oe.dict = d ∧ oe.data = .fields vs
/-- what is kept apart: addresses; the cells that have a name; whether no new names are given -/
structure Trk where
  set : Addr → Prop
  nm : Nat → Option Addr
  fz : Bool
instance : CoeFun Trk (fun _ => Addr → Prop) := ⟨Trk.set⟩
def addS (S : Trk) (p : Addr) : Trk := ⟨fun a => S a ∨ a = p, S.nm, S.fz⟩
abbrev Names (S S' : Trk) : Prop := ∀ k a, S.nm k = some a → S'.nm k = some a
mutual
inductive Rep (K : PySem.W.Frag) (S : Trk) (H : Hp) : V → D → Prop
  | non : Rep K S H .non .non
  | bl (b : Bool) : Rep K S H (.bl b) (.bl b)
  | int (i : Int) : Rep K S H (.int i) (.int i)
  | str (x : Str) : Rep K S H (.str x) (.str x)
  | ty (n : String) : Rep K S H (.ty n) (.ty n)
  | fn (x : Str) : Rep K S H (.ref (He.ga K x)) (.fn x)
  | obj {a : Addr} {d : D} : ¬ S a → At K S H a d → Rep K S H (.ref a) d
  | at {a : Addr} {k : Nat} : S.nm k = some a → Rep K S H (.ref a) (.at k)
  | tupK {a : Addr} {o : Obj} {its : Array Value} {n : Nat} {xs : List V} {ds : List D} : K.lookup a = some o → o.cls = .type "tuple" → o.data = .seq its n → its.size ≤ sizeLine → Vals xs its.toList → Reps K S H xs ds → Rep K S H (.ref a) (.tup ds)
  | scrK {a : Addr} {o : Obj} {its : Array Value} {n : Nat} {ns : List Int} : K.lookup a = some o → o.cls = .type "list" → o.dict = none → o.data = .seq its n → its.size ≤ sizeLine → Vals (ns.map V.int) its.toList → Rep K S H (.ref a) (.scr ns)
inductive At (K : PySem.W.Frag) (S : Trk) (H : Hp) : Addr → D → Prop
  | lst {a : Addr} {xs : List V} {ds : List D} : H a = some (.lst xs) → Reps K S H xs ds → At K S H a (.lst ds)
  | tup {a : Addr} {xs : List V} {ds : List D} : H a = some (.tup xs) → Reps K S H xs ds → At K S H a (.tup ds)
  | dic {a : Addr} {kvs : List (Key × V)} {kds : List (Key × D)} : H a = some (.dK kvs) → RepK K S H kvs kds → At K S H a (.dic kds)
  | dit {a : Addr} {kvs : List (List Key × V)} {kds : List (List Key × D)} : H a = some (.dT kvs) → RepT K S H kvs kds → At K S H a (.dit kds)
  | scr {a : Addr} {o : Obj} {ns : List Int} : H a = some (.frz o (.lst (ns.map V.int))) → At K S H a (.scr ns)
  | ins {a dx : Addr} {c : Str} {fs : List (Str × V)} {fds : List (Str × D)} : H a = some (.ins (He.ga K c) dx fs) → RepF K S H fs fds → At K S H a (.ins c fds)
  | exc0 {a : Addr} {c : Str} : H a = some (ExV (.ref (He.ga K c)) none a) → At K S H a (.exc c [])
  | excD {a dd : Addr} {c : Str} {fs : List (Str × V)} {fds : List (Str × D)} : H a = some (ExV (.ref (He.ga K c)) (some dd) a) → ¬ S dd → H dd = some (.xd fs) → RepF K S H fs fds → At K S H a (.exc c fds)
inductive Reps (K : PySem.W.Frag) (S : Trk) (H : Hp) : List V → List D → Prop
  | nil : Reps K S H [] []
  | cons {v : V} {vs : List V} {d : D} {ds : List D} : Rep K S H v d → Reps K S H vs ds → Reps K S H (v :: vs) (d :: ds)
inductive RepK (K : PySem.W.Frag) (S : Trk) (H : Hp) : List (Key × V) → List (Key × D) → Prop
  | nil : RepK K S H [] []
  | cons {k : Key} {v : V} {vs : List (Key × V)} {d : D} {ds : List (Key × D)} : Rep K S H v d → RepK K S H vs ds → RepK K S H ((k, v) :: vs) ((k, d) :: ds)
inductive RepF (K : PySem.W.Frag) (S : Trk) (H : Hp) : List (Str × V) → List (Str × D) → Prop
  | nil : RepF K S H [] []
  | cons {k : Str} {v : V} {vs : List (Str × V)} {d : D} {ds : List (Str × D)} : Rep K S H v d → RepF K S H vs ds → RepF K S H ((k, v) :: vs) ((k, d) :: ds)
inductive RepT (K : PySem.W.Frag) (S : Trk) (H : Hp) : List (List Key × V) → List (List Key × D) → Prop
  | nil : RepT K S H [] []
  | cons {k : List Key} {v : V} {vs : List (List Key × V)} {d : D} {ds : List (List Key × D)} : Rep K S H v d → RepT K S H vs ds → RepT K S H ((k, v) :: vs) ((k, d) :: ds)
end
theorem At.some {K : PySem.W.Frag} {S : Trk} {H : Hp} {a : Addr} {d : D} (h : At K S H a d) : ∃ o, H a = some o := by
  cases h with
  | lst e _ => exact ⟨_, e⟩
  | tup e _ => exact ⟨_, e⟩
  | dic e _ => exact ⟨_, e⟩
  | dit e _ => exact ⟨_, e⟩
  | scr e => exact ⟨_, e⟩
  | ins e _ => exact ⟨_, e⟩
  | exc0 e => exact ⟨_, e⟩
  | excD e _ _ _ => exact ⟨_, e⟩
section
variable {K : PySem.W.Frag} {S S' : Trk} {H H' : Hp}
/-- carrying over: what is not in S stays, and S' takes nothing that stands in H -/
structure Carry (S : Trk) (H : Hp) (S' : Trk) (H' : Hp) : Prop where
  out : ∀ a o, H a = some o → ¬ S a → ¬ S' a
  keep : ∀ a o, H a = some o → ¬ S a → H' a = some o
  nm : Names S S' := by first | exact fun _ _ z => z | assumption
mutual
theorem Rep.carry (c : Carry S H S' H') : ∀ {v : V} {d : D}, Rep K S H v d → Rep K S' H' v d
  | _, _, .non => .non
  | _, _, .bl b => .bl b
  | _, _, .int i => .int i
  | _, _, .str x => .str x
  | _, _, .ty x => .ty x
  | _, _, .fn x => .fn x
  | _, _, .obj n h => by
    obtain ⟨o, e⟩ := h.some
    exact .obj (c.out _ o e n) (h.carryN c n)
  | _, _, .at h => .at (c.nm _ _ h)
  | _, _, .tupK a b e f g h => .tupK a b e f g (h.carry c)
  | _, _, .scrK a b e f g h => .scrK a b e f g h
theorem At.carryN (c : Carry S H S' H') : ∀ {a : Addr} {d : D}, At K S H a d → ¬ S a → At K S' H' a d
  | _, _, .lst e r, n => .lst (c.keep _ _ e n) (r.carry c)
  | _, _, .tup e r, n => .tup (c.keep _ _ e n) (r.carry c)
  | _, _, .dic e r, n => .dic (c.keep _ _ e n) (r.carry c)
  | _, _, .dit e r, n => .dit (c.keep _ _ e n) (r.carry c)
  | _, _, .scr e, n => .scr (c.keep _ _ e n)
  | _, _, .ins e r, n => .ins (c.keep _ _ e n) (r.carry c)
  | _, _, .exc0 e, n => .exc0 (c.keep _ _ e n)
  | _, _, .excD e m q r, n => .excD (c.keep _ _ e n) (c.out _ _ q m) (c.keep _ _ q m) (r.carry c)
theorem Reps.carry (c : Carry S H S' H') : ∀ {vs : List V} {ds : List D}, Reps K S H vs ds → Reps K S' H' vs ds
  | _, _, .nil => .nil
  | _, _, .cons r t => .cons (r.carry c) (t.carry c)
theorem RepK.carry (c : Carry S H S' H') : ∀ {vs : List (Key × V)} {ds : List (Key × D)}, RepK K S H vs ds → RepK K S' H' vs ds
  | _, _, .nil => .nil
  | _, _, .cons r t => .cons (r.carry c) (t.carry c)
theorem RepF.carry (c : Carry S H S' H') : ∀ {vs : List (Str × V)} {ds : List (Str × D)}, RepF K S H vs ds → RepF K S' H' vs ds
  | _, _, .nil => .nil
  | _, _, .cons r t => .cons (r.carry c) (t.carry c)
theorem RepT.carry (c : Carry S H S' H') : ∀ {vs : List (List Key × V)} {ds : List (List Key × D)}, RepT K S H vs ds → RepT K S' H' vs ds
  | _, _, .nil => .nil
  | _, _, .cons r t => .cons (r.carry c) (t.carry c)
end
/-- the object itself stays as it is, whatever S says of it -/
theorem At.carry (c : Carry S H S' H') {a : Addr} {d : D} (e : H' a = H a) (h : At K S H a d) : At K S' H' a d := by
  cases h with
  | lst q r => exact .lst (e.trans q) (r.carry c)
  | tup q r => exact .tup (e.trans q) (r.carry c)
  | dic q r => exact .dic (e.trans q) (r.carry c)
  | dit q r => exact .dit (e.trans q) (r.carry c)
  | scr q => exact .scr (e.trans q)
  | ins q r => exact .ins (e.trans q) (r.carry c)
  | exc0 q => exact .exc0 (e.trans q)
  | excD q m q2 r => exact .excD (e.trans q) (c.out _ _ q2 m) (c.keep _ _ q2 m) (r.carry c)
theorem Carry.less (h : ∀ a, S' a → S a) (hn : Names S S' := by first | exact fun _ _ z => z | assumption) : Carry S H S' H := ⟨fun a _ _ n z => n (h a z), fun _ _ e _ => e, hn⟩
theorem Carry.grow (h : ∀ a o, H a = some o → H' a = some o) : Carry S H S H' := ⟨fun _ _ _ n => n, fun a o e _ => h a o e, fun _ _ z => z⟩
theorem Carry.add {p : Addr} (h : H p = none) : Carry S H (addS S p) H :=
  ⟨fun a o e n z => z.elim n fun q => (by rw [q, h] at e; cases e), fun _ _ e _ => e, fun _ _ z => z⟩
theorem Carry.remove {p : Addr} : Carry (addS S p) H S H := ⟨fun _ _ _ n z => n (.inl z), fun _ _ e _ => e, fun _ _ z => z⟩
theorem Carry.trans {S2 : Trk} {H2 : Hp} (a : Carry S H S' H') (b : Carry S' H' S2 H2) : Carry S H S2 H2 :=
  ⟨fun x o e n => b.out x o (a.keep x o e n) (a.out x o e n), fun x o e n => b.keep x o (a.keep x o e n) (a.out x o e n), fun k x z => b.nm k x (a.nm k x z)⟩
end
/-! ### cells and slots -/
abbrev Store := List D
inductive Slot where
  | no | im (d : D) | pt (k : Nat)
  /-- a list of one's own whose items are these -/
  | ns (ss : List Slot)
abbrev En := List Slot
def deref : Slot → Store → Option D
  | .no, _ => none
  | .im d, _ => some d
  | .pt k, st => match st[k]? with
    | some (.tup _) => none
    | o => o
  | .ns _, _ => none
def imOf : Slot → Option D
  | .im d => some d
  | _ => none
structure Sim (md : Bool) (K : PySem.W.Frag) (S : Trk) (L : List Addr) (H : Hp) (st : Store) : Prop where
  nd : L.Nodup
  sub : ∀ a ∈ L, S a
  trk : ∀ a, S a → ∃ o, H a = some o
  cells : Paired (At K S H) L st
  fz : S.fz = md
  lk : ∀ k a, S.nm k = some a → L[k]? = some a
structure Ext (S : Trk) (L : List Addr) (H : Hp) (S' : Trk) (L' : List Addr) (H' : Hp) : Prop where
  pre : ∃ t, L' = L ++ t
  up : ∀ a, S a → S' a
  new : ∀ a, S' a → ¬ S a → H a = none
  keep : ∀ a o, H a = some o → a ∉ L → H' a = some o
  cel : ∀ a ∈ L', a ∉ L → H a = none
  nm : Names S S' := by first | exact fun _ _ z => z | assumption
  fx : S.fz = true → S'.nm = S.nm := by first | exact fun _ => rfl | assumption
  ff : S'.fz = S.fz := by first | exact rfl | assumption
mutual
inductive SlotV (K : PySem.W.Frag) (S : Trk) (L : List Addr) (H : Hp) : V → Slot → Prop
  | im {v : V} {d : D} : Rep K S H v d → SlotV K S L H v (.im d)
  | pt {a : Addr} {k : Nat} : L[k]? = some a → SlotV K S L H (.ref a) (.pt k)
  | ns {a : Addr} {ss : List Slot} {vs : List V} : S a → a ∉ L → H a = some (.lst vs) → SlotVs K S L H vs ss → SlotV K S L H (.ref a) (.ns ss)
inductive SlotVs (K : PySem.W.Frag) (S : Trk) (L : List Addr) (H : Hp) : List V → List Slot → Prop
  | nil : SlotVs K S L H [] []
  | cons {v : V} {vs : List V} {s : Slot} {ss : List Slot} : SlotV K S L H v s → SlotVs K S L H vs ss → SlotVs K S L H (v :: vs) (s :: ss)
end
inductive SlotO (K : PySem.W.Frag) (S : Trk) (L : List Addr) (H : Hp) : Option V → Slot → Prop
  | no {o : Option V} : SlotO K S L H o .no
  | of {v : V} {s : Slot} : SlotV K S L H v s → SlotO K S L H (some v) s
abbrev Slots (K : PySem.W.Frag) (S : Trk) (L : List Addr) (H : Hp) : L2.St → En → Prop := Paired (SlotO K S L H)
/-- a value as it may be read: plain data, or a cell's content -/
def Shp (K : PySem.W.Frag) (S : Trk) (H : Hp) (v : V) (d : D) : Prop := Rep K S H v d ∨ ∃ a, v = .ref a ∧ At K S H a d ∧ ∀ ds, d ≠ .tup ds
theorem deref_pt {k : Nat} {st : Store} {d : D} (h : deref (.pt k) st = some d) : st[k]? = some d ∧ ∀ ds, d ≠ .tup ds := by
  have h : (match st[k]? with | some (.tup _) => none | o => o) = some d := h
  split at h
  · cases h
  · rename_i n
    exact ⟨h, fun ds e => n ds (by rw [h, e])⟩
section
variable {K : PySem.W.Frag} {S S' S2 : Trk} {L L' L2' : List Addr} {H H' H2 : Hp} {st st' : Store}
theorem Ext.refl : Ext S L H S L H := ⟨⟨[], by simp⟩, fun _ h => h, fun _ h n => (n h).elim, fun _ _ e _ => e, fun _ h n => (n h).elim, fun _ _ z => z, fun _ => rfl, rfl⟩
theorem Ext.trans (hs : ∀ a ∈ L, S a) (x : Ext S L H S' L' H') (y : Ext S' L' H' S2 L2' H2) : Ext S L H S2 L2' H2 := by
  obtain ⟨t1, e1⟩ := x.pre
  obtain ⟨t2, e2⟩ := y.pre
  have back : ∀ a, a ∉ L → H' a = none → H a = none := fun a n h => by
    cases q : H a with
    | none => rfl
    | some o => rw [x.keep a o q n] at h; cases h
  refine ⟨⟨t1 ++ t2, by rw [e2, e1, List.append_assoc]⟩, fun a h => y.up a (x.up a h), fun a h n => ?_, fun a o e n => ?_, fun a h n => ?_, fun k a z => y.nm k a (x.nm k a z), fun z => (y.fx (x.ff.trans z)).trans (x.fx z), y.ff.trans x.ff⟩
  · by_cases h1 : S' a
    · exact x.new a h1 n
    · exact back a (fun z => n (hs a z)) (y.new a h h1)
  · have n' : a ∉ L' := fun h => by
      have := x.cel a h n
      rw [e] at this; cases this
    exact y.keep a o (x.keep a o e n) n'
  · by_cases h1 : a ∈ L'
    · exact x.cel a h1 n
    · exact back a n (y.cel a h h1)
/-- an extension carries what is plain -/
theorem Ext.carry (hs : ∀ a ∈ L, S a) (x : Ext S L H S' L' H') : Carry S H S' H' :=
  ⟨fun a o e n z => (by have := x.new a z n; rw [e] at this; cases this), fun a o e n => x.keep a o e fun z => n (hs a z), x.nm⟩
theorem Ext.get (x : Ext S L H S' L' H') {k : Nat} {a : Addr} (h : L[k]? = some a) : L'[k]? = some a := by
  obtain ⟨t, e⟩ := x.pre
  rw [e, List.getElem?_append_left (List.getElem?_eq_some_iff.mp h).1]
  exact h
mutual
theorem SlotV.ext (hs : ∀ a ∈ L, S a) (x : Ext S L H S' L' H') : ∀ {v : V} {s : Slot}, SlotV K S L H v s → SlotV K S' L' H' v s
  | _, _, .im r => .im (r.carry (x.carry hs))
  | _, _, .pt e => .pt (x.get e)
  | _, _, .ns h1 h2 h3 h4 => .ns (x.up _ h1) (fun z => by have := x.cel _ z h2; rw [h3] at this; cases this) (x.keep _ _ h3 h2) (SlotVs.ext hs x h4)
theorem SlotVs.ext (hs : ∀ a ∈ L, S a) (x : Ext S L H S' L' H') : ∀ {v : List V} {s : List Slot}, SlotVs K S L H v s → SlotVs K S' L' H' v s
  | _, _, .nil => .nil
  | _, _, .cons r t => .cons (SlotV.ext hs x r) (SlotVs.ext hs x t)
end
theorem SlotVs.of : ∀ {vs : List V} {ss : List Slot}, Paired (SlotV K S L H) vs ss → SlotVs K S L H vs ss
  | _, _, .nil => .nil
  | _, _, .cons r t => .cons r (SlotVs.of t)
theorem SlotVs.to : ∀ {vs : List V} {ss : List Slot}, SlotVs K S L H vs ss → Paired (SlotV K S L H) vs ss
  | _, _, .nil => .nil
  | _, _, .cons r t => .cons r (SlotVs.to t)
theorem SlotVs.length : ∀ {vs : List V} {ss : List Slot}, SlotVs K S L H vs ss → vs.length = ss.length
  | _, _, .nil => rfl
  | _, _, .cons _ t => by rw [List.length_cons, List.length_cons, t.length]
theorem SlotO.ext (hs : ∀ a ∈ L, S a) (x : Ext S L H S' L' H') {v : Option V} {s : Slot} (h : SlotO K S L H v s) : SlotO K S' L' H' v s := by
  cases h with
  | no => exact .no
  | of r => exact .of (r.ext hs x)
theorem Slots.ext (hs : ∀ a ∈ L, S a) (x : Ext S L H S' L' H') {σ : L2.St} {env : En} (h : Slots K S L H σ env) : Slots K S' L' H' σ env :=
  Paired.mapP h fun _ _ r => r.ext hs x
/-- the heap grows, nothing else -/
abbrev Grow (H H' : Hp) : Prop := ∀ a o, H a = some o → H' a = some o
theorem Ext.grow (g : Grow H H') : Ext S L H S L H' := ⟨⟨[], by simp⟩, fun _ h => h, fun _ h n => (n h).elim, fun a o e _ => g a o e, fun _ h n => (n h).elim, fun _ _ z => z, fun _ => rfl, rfl⟩
theorem Grow.new {p : Addr} {o : HO} (h : H p = none) : Grow H (upd H p o) := fun a u e => by rw [upd_ne (ne_of_none e h)]; exact e
theorem Sim.grow (s : Sim md K S L H st) (g : Grow H H') : Sim md K S L H' st :=
  ⟨s.nd, s.sub, fun a h => let ⟨o, e⟩ := s.trk a h; ⟨o, g a o e⟩, Paired.mapP s.cells fun a d r => by
    obtain ⟨o, e⟩ := r.some
    exact r.carry (.grow g) ((g a o e).trans e.symm), s.fz, s.lk⟩
theorem Sim.cell (s : Sim md K S L H st) {k : Nat} {a : Addr} (h : L[k]? = some a) : ∃ d, st[k]? = some d ∧ At K S H a d := by
  have go : ∀ {l : List Addr} {t : Store}, Paired (At K S H) l t → ∀ {k : Nat}, l[k]? = some a → ∃ d, t[k]? = some d ∧ At K S H a d := by
    intro l t p
    induction p with
    | nil => intro k h; simp at h
    | cons r t ih =>
      intro k h
      cases k with
      | zero => simp at h; subst h; exact ⟨_, rfl, r⟩
      | succ k => exact ih (by simpa using h)
  exact go s.cells h
theorem SlotV.shp (s : Sim md K S L H st) {v : V} {x : Slot} {d : D} (h : SlotV K S L H v x) (e : deref x st = some d) : Shp K S H v d := by
  cases h with
  | im r => cases e; exact .inl r
  | pt q =>
    obtain ⟨d', e', r⟩ := s.cell q
    obtain ⟨this, nt⟩ := deref_pt e
    rw [e'] at this; cases this
    exact .inr ⟨_, rfl, r, nt⟩
  | ns _ _ _ _ => cases e
theorem SlotV.rep {v : V} {x : Slot} {d : D} (h : SlotV K S L H v x) (e : imOf x = some d) : Rep K S H v d := by
  cases h with
  | im r => cases e; exact r
  | pt q => cases e
  | ns _ _ _ _ => cases e
theorem Slots.get {σ : L2.St} {env : En} (h : Slots K S L H σ env) {i : Nat} {s : Slot} (e : env[i]? = some s) (n : s ≠ .no) : ∃ v, σ[i]? = some (some v) ∧ SlotV K S L H v s := by
  induction h generalizing i with
  | nil => simp at e
  | cons r t ih =>
    cases i with
    | zero =>
      simp at e; subst e
      cases r with
      | no => exact absurd rfl n
      | of r => exact ⟨_, rfl, r⟩
    | succ i => exact ih (by simpa using e)
theorem Slots.set {σ : L2.St} {env : En} (h : Slots K S L H σ env) {v : V} {s : Slot} (r : SlotV K S L H v s) (i : Nat) : Slots K S L H (σ.set i (some v)) (env.set i s) := by
  induction h generalizing i with
  | nil => exact .nil
  | cons q t ih =>
    cases i with
    | zero => exact .cons (.of r) t
    | succ i => exact .cons q (ih i)
theorem Slots.unset {σ : L2.St} {env : En} (h : Slots K S L H σ env) (i : Nat) : Slots K S L H (σ.set i none) (env.set i .no) := by
  induction h generalizing i with
  | nil => exact .nil
  | cons q t ih =>
    cases i with
    | zero => exact .cons .no t
    | succ i => exact .cons q (ih i)
def wipeE (env : En) : List Nat → En
  | [] => env
  | v :: vs => (wipeE env vs).set v .no
theorem Slots.wipe {σ : L2.St} {env : En} (h : Slots K S L H σ env) : ∀ vs : List Nat, Slots K S L H (wipe σ vs) (wipeE env vs)
  | [] => h
  | v :: vs => (Slots.wipe h vs).unset v
/-! ### a value's shape -/
theorem Shp.int {v : V} {i : Int} (h : Shp K S H v (.int i)) : v = .int i := by
  rcases h with h | ⟨a, _, h, nt⟩
  · cases h with
    | int => rfl
    | obj _ q => cases q
  · cases h
theorem Shp.bl {v : V} {i : Bool} (h : Shp K S H v (.bl i)) : v = .bl i := by
  rcases h with h | ⟨a, _, h, nt⟩
  · cases h with
    | bl => rfl
    | obj _ q => cases q
  · cases h
theorem Shp.str {v : V} {i : Str} (h : Shp K S H v (.str i)) : v = .str i := by
  rcases h with h | ⟨a, _, h, nt⟩
  · cases h with
    | str => rfl
    | obj _ q => cases q
  · cases h
theorem Shp.ty {v : V} {i : String} (h : Shp K S H v (.ty i)) : v = .ty i := by
  rcases h with h | ⟨a, _, h, nt⟩
  · cases h with
    | ty => rfl
    | obj _ q => cases q
  · cases h
theorem Shp.non {v : V} (h : Shp K S H v .non) : v = .non := by
  rcases h with h | ⟨a, _, h, nt⟩
  · cases h with
    | non => rfl
    | obj _ q => cases q
  · cases h
theorem Shp.lst {v : V} {ds : List D} (h : Shp K S H v (.lst ds)) : ∃ a xs, v = .ref a ∧ H a = some (.lst xs) ∧ Reps K S H xs ds := by
  rcases h with h | ⟨a, e, h, nt⟩
  · cases h with
    | obj _ q => cases q with | lst e r => exact ⟨_, _, rfl, e, r⟩
  · cases h with | lst q r => exact ⟨_, _, e, q, r⟩
theorem Shp.tup {v : V} {ds : List D} (h : Shp K S H v (.tup ds)) : ∃ a xs, v = .ref a ∧ SqT K H a xs ∧ Reps K S H xs ds := by
  rcases h with h | ⟨a, e, h, nt⟩
  · cases h with
    | obj _ q => cases q with | tup e r => exact ⟨_, _, rfl, .inl (.inl e), r⟩
    | tupK a b c d e r => exact ⟨_, _, rfl, .inr ⟨_, _, _, a, b, c, d, e⟩, r⟩
  · exact absurd rfl (nt _)
theorem Shp.tupR {v : V} {ds : List D} (h : Shp K S H v (.tup ds)) : Rep K S H v (.tup ds) := by
  rcases h with h | ⟨a, e, h, nt⟩
  · exact h
  · exact absurd rfl (nt _)
theorem Shp.dic {v : V} {ds : List (Key × D)} (h : Shp K S H v (.dic ds)) : ∃ a xs, v = .ref a ∧ H a = some (.dK xs) ∧ RepK K S H xs ds := by
  rcases h with h | ⟨a, e, h, nt⟩
  · cases h with
    | obj _ q => cases q with | dic e r => exact ⟨_, _, rfl, e, r⟩
  · cases h with | dic q r => exact ⟨_, _, e, q, r⟩
theorem Shp.dit {v : V} {ds : List (List Key × D)} (h : Shp K S H v (.dit ds)) : ∃ a xs, v = .ref a ∧ H a = some (.dT xs) ∧ RepT K S H xs ds := by
  rcases h with h | ⟨a, e, h, nt⟩
  · cases h with
    | obj _ q => cases q with | dit e r => exact ⟨_, _, rfl, e, r⟩
  · cases h with | dit q r => exact ⟨_, _, e, q, r⟩
theorem Shp.scr {v : V} {ns : List Int} (h : Shp K S H v (.scr ns)) : ∃ a, v = .ref a ∧ SqL K H a (ns.map V.int) := by
  rcases h with h | ⟨a, e, h, nt⟩
  · cases h with
    | obj _ q => cases q with | scr e => exact ⟨_, rfl, .inl (.inr ⟨_, e⟩)⟩
    | scrK a b c d e f => exact ⟨_, rfl, .inr ⟨_, _, _, a, b, c, d, e, f⟩⟩
  · cases h with | scr q => exact ⟨_, e, .inl (.inr ⟨_, q⟩)⟩
theorem Reps.length : ∀ {vs : List V} {ds : List D}, Reps K S H vs ds → vs.length = ds.length
  | _, _, .nil => rfl
  | _, _, .cons _ t => by rw [List.length_cons, List.length_cons, t.length]
theorem Reps.get : ∀ {vs : List V} {ds : List D}, Reps K S H vs ds → ∀ {i : Nat} {d : D}, ds[i]? = some d → ∃ v, vs[i]? = some v ∧ Rep K S H v d
  | _, _, .nil, i, d, e => by simp at e
  | _, _, .cons r t, 0, d, e => by simp at e; subst e; exact ⟨_, rfl, r⟩
  | _, _, .cons r t, i + 1, d, e => by
    obtain ⟨v, h, q⟩ := t.get (i := i) (by simpa using e)
    exact ⟨v, by simpa using h, q⟩
theorem Reps.getV : ∀ {vs : List V} {ds : List D}, Reps K S H vs ds → ∀ {i : Nat} {v : V}, vs[i]? = some v → ∃ d, ds[i]? = some d ∧ Rep K S H v d
  | _, _, .nil, i, d, e => by simp at e
  | _, _, .cons r t, 0, d, e => by simp at e; subst e; exact ⟨_, rfl, r⟩
  | _, _, .cons r t, i + 1, d, e => by
    obtain ⟨v, h, q⟩ := t.getV (i := i) (by simpa using e)
    exact ⟨v, by simpa using h, q⟩
theorem Reps.append : ∀ {vs ws : List V} {ds es : List D}, Reps K S H vs ds → Reps K S H ws es → Reps K S H (vs ++ ws) (ds ++ es)
  | _, _, _, _, .nil, s => s
  | _, _, _, _, .cons r t, s => .cons r (t.append s)
theorem Reps.drop : ∀ {vs : List V} {ds : List D} (n : Nat), Reps K S H vs ds → Reps K S H (vs.drop n) (ds.drop n)
  | _, _, 0, r => r
  | _, _, _ + 1, .nil => .nil
  | _, _, n + 1, .cons _ t => Reps.drop n t
theorem Reps.take : ∀ {vs : List V} {ds : List D} (n : Nat), Reps K S H vs ds → Reps K S H (vs.take n) (ds.take n)
  | _, _, 0, _ => .nil
  | _, _, _ + 1, .nil => .nil
  | _, _, n + 1, .cons r t => .cons r (Reps.take n t)
theorem Reps.set {v : V} {d : D} (r : Rep K S H v d) : ∀ {vs : List V} {ds : List D} (i : Nat), Reps K S H vs ds → Reps K S H (vs.set i v) (ds.set i d)
  | _, _, _, .nil => .nil
  | _, _, 0, .cons _ t => .cons r t
  | _, _, i + 1, .cons q t => .cons q (Reps.set r i t)
theorem Reps.erase : ∀ {vs : List V} {ds : List D} (i : Nat), Reps K S H vs ds → Reps K S H (vs.eraseIdx i) (ds.eraseIdx i)
  | _, _, _, .nil => .nil
  | _, _, 0, .cons _ t => t
  | _, _, i + 1, .cons q t => .cons q (Reps.erase i t)
theorem Reps.reverse : ∀ {vs : List V} {ds : List D}, Reps K S H vs ds → Reps K S H vs.reverse ds.reverse
  | _, _, .nil => .nil
  | _, _, .cons r t => by
    rw [List.reverse_cons, List.reverse_cons]
    exact t.reverse.append (.cons r .nil)
theorem Reps.rep {vs : List V} {ds : List D} (h : Reps K S H vs ds) : ∀ k : Nat, Reps K S H (List.replicate k vs).flatten (List.replicate k ds).flatten
  | 0 => .nil
  | k + 1 => by
    rw [List.replicate_succ, List.replicate_succ, List.flatten_cons, List.flatten_cons]
    exact h.append (h.rep k)
end
end Mi
/-! Mi1: what an expression, a test, an argument list comes to, told over plain data; names, constants, operations, calls of built-ins. -/
namespace Mi
open PySem L2
abbrev M (α : Type) := En → Store → Option (α × Store)
section
variable (md : Bool) (K : PySem.W.Frag)
/-- e comes to the slot value that m tells -/
def tE (m : M Slot) : TE := fun σ H Q => ∃ S L env st s st', Sim md K S L H st ∧ Slots K S L H σ env ∧ m env st = some (s, st') ∧
  ∀ v S' L' H', Ext S L H S' L' H' → Sim md K S' L' H' st' → SlotV K S' L' H' v s → Q v H'
/-- e comes to a new object with the content that m tells -/
def tF (m : M D) : TE := fun σ H Q => ∃ S L env st d st', Sim md K S L H st ∧ Slots K S L H σ env ∧ m env st = some (d, st') ∧
  ∀ p S' L' H', Ext S L H S' L' H' → Sim md K S' L' H' st' → ¬ S p → S' p → p ∉ L' → At K S' H' p d → Q (.ref p) H'
def tT (m : M Bool) : TT := fun σ H Q => ∃ S L env st b st', Sim md K S L H st ∧ Slots K S L H σ env ∧ m env st = some (b, st') ∧
  ∀ S' L' H', Ext S L H S' L' H' → Sim md K S' L' H' st' → Q b H'
def tA (m : M (List Slot)) : TA := fun σ H Q => ∃ S L env st s st', Sim md K S L H st ∧ Slots K S L H σ env ∧ m env st = some (s, st') ∧
  ∀ vs S' L' H', Ext S L H S' L' H' → Sim md K S' L' H' st' → Paired (SlotV K S' L' H') vs s → Q vs H'
end
theorem pe_weak {X : Cx} {e : Expr} {t t' : TE} (h : PE X e t) (w : ∀ σ H Q, t' σ H Q → t σ H Q) : PE X e t' := ⟨fun pins s σ H Q I q => h.run pins s σ H Q I (w σ H Q q)⟩
theorem pt_weak {X : Cx} {e : Expr} {t t' : TT} (h : PT X e t) (w : ∀ σ H Q, t' σ H Q → t σ H Q) : PT X e t' := ⟨fun pins s σ H Q I q => h.run pins s σ H Q I (w σ H Q q)⟩
theorem pw_weak {X : Cx} {e : Expr} {t t' : TT} (h : PW X e t) (w : ∀ σ H Q, t' σ H Q → t σ H Q) : PW X e t' := ⟨fun wh pins s σ H Q I q => h.run wh pins s σ H Q I (w σ H Q q)⟩
theorem pa_weak {X : Cx} {e : List Expr} {t t' : TA} (h : PA X e t) (w : ∀ σ H Q, t' σ H Q → t σ H Q) : PA X e t' := ⟨fun pos pins s σ H Q I q => h.run pos pins s σ H Q I (w σ H Q q)⟩
theorem ps_weak {X : Cx} {e : Stmt} {t t' : TS} (h : PS X e t) (w : ∀ D σ H, t' D σ H → t D σ H) : PS X e t' := ⟨fun pins s σ H D I q => h.run pins s σ H D I (w D σ H q)⟩
theorem pss_weak {X : Cx} {e : List Stmt} {t t' : TS} (h : PSs X e t) (w : ∀ D σ H, t' D σ H → t D σ H) : PSs X e t' := ⟨fun pins s σ H D I q => h.run pins s σ H D I (w D σ H q)⟩
/-! ### the mirror's words -/
def bindM {α β : Type} (o : Option α) (f : α → Option β) : Option β := match o with
  | none => none
  | some a => f a
theorem bindM_some {α β : Type} {o : Option α} {f : α → Option β} {b : β} (h : bindM o f = some b) : ∃ a, o = some a ∧ f a = some b := by
  cases o with
  | none => cases h
  | some a => exact ⟨a, rfl, h⟩
@[simp] theorem bindM_eq {α β : Type} {a : α} {f : α → Option β} : bindM (some a) f = f a := rfl
@[simp] theorem bindM_none {α β : Type} {f : α → Option β} : bindM none f = none := rfl
def mVar (i : Nat) : M Slot := fun env st => match env[i]? with
  | some .no => none
  | some s => some (s, st)
  | none => none
def mC (d : D) : M Slot := fun _ st => some (.im d, st)
/-- a new object as a plain value -/
def mF (m : M D) : M Slot := fun env st => bindM (m env st) fun r => some (.im r.1, r.2)
def mOp (g : D → D → Option D) (ma mb : M Slot) : M Slot := fun env st => bindM (ma env st) fun r1 => bindM (mb env r1.2) fun r2 =>
  bindM (deref r1.1 r2.2) fun d1 => bindM (deref r2.1 r2.2) fun d2 => bindM (g d1 d2) fun z => some (.im z, r2.2)
def mOpF (g : D → D → Option D) (ma mb : M Slot) : M D := fun env st => bindM (ma env st) fun r1 => bindM (mb env r1.2) fun r2 =>
  bindM (deref r1.1 r2.2) fun d1 => bindM (deref r2.1 r2.2) fun d2 => bindM (g d1 d2) fun z => some (z, r2.2)
def mUn (g : D → Option D) (ma : M Slot) : M Slot := fun env st => bindM (ma env st) fun r1 => bindM (deref r1.1 r1.2) fun d1 => bindM (g d1) fun z => some (.im z, r1.2)
def mNil : M (List Slot) := fun _ st => some ([], st)
def mCons (ma : M Slot) (mr : M (List Slot)) : M (List Slot) := fun env st => bindM (ma env st) fun r1 => bindM (mr env r1.2) fun r2 => some (r1.1 :: r2.1, r2.2)
def derefs : List Slot → Store → Option (List D)
  | [], _ => some []
  | s :: r, st => bindM (deref s st) fun d => bindM (derefs r st) fun ds => some (d :: ds)
def imsOf : List Slot → Option (List D)
  | [] => some []
  | s :: r => bindM (imOf s) fun d => bindM (imsOf r) fun ds => some (d :: ds)
/-- a built-in called -/
def mB (g : List D → Option D) (ma : M (List Slot)) : M Slot := fun env st => bindM (ma env st) fun r => bindM (derefs r.1 r.2) fun ds => bindM (g ds) fun z => some (.im z, r.2)
def mBF (g : List D → Option D) (ma : M (List Slot)) : M D := fun env st => bindM (ma env st) fun r => bindM (derefs r.1 r.2) fun ds => bindM (g ds) fun z => some (z, r.2)
def mTup (ma : M (List Slot)) : M Slot := fun env st => bindM (ma env st) fun r => bindM (imsOf r.1) fun ds => if ds.length ≤ 100000 then some (.im (.tup ds), r.2) else none
def mLst (ma : M (List Slot)) : M D := fun env st => bindM (ma env st) fun r => bindM (imsOf r.1) fun ds => if ds.length ≤ 100000 then some (.lst ds, r.2) else none
/-- truth -/
def truth : D → Option Bool
  | .non => some false
  | .bl b => some b
  | .int i => some (i != 0)
  | .str s => if s.length ≤ 100000 then some ((s.length : Int) != 0) else none
  | .lst xs => some (!xs.isEmpty)
  | .tup xs => some (!xs.isEmpty)
  | .dic xs => some (!xs.isEmpty)
  | _ => none
def mTru (ma : M Slot) : M Bool := fun env st => bindM (ma env st) fun r1 => bindM (deref r1.1 r1.2) fun d1 => bindM (truth d1) fun b => some (b, r1.2)
/-- a value that is a truth -/
def mBool (ma : M Slot) : M Bool := fun env st => bindM (ma env st) fun r1 => match r1.1 with
  | .im (.bl b) => some (b, r1.2)
  | _ => none
def mAnd (ma mb : M Bool) : M Bool := fun env st => bindM (ma env st) fun r => if r.1 = true then mb env r.2 else some (false, r.2)
def mOr (ma mb : M Bool) : M Bool := fun env st => bindM (ma env st) fun r => if r.1 = true then some (true, r.2) else mb env r.2
def mNot (ma : M Bool) : M Bool := fun env st => bindM (ma env st) fun r => some (!r.1, r.2)
/-- a test as a value -/
def mVal (ma : M Bool) : M Slot := fun env st => bindM (ma env st) fun r => some (.im (.bl r.1), r.2)
def mIf (mc : M Bool) (ma mb : M Slot) : M Slot := fun env st => bindM (mc env st) fun r => if r.1 = true then ma env r.2 else mb env r.2
section
variable {K : PySem.W.Frag} {S S' : Trk} {L L' : List Addr} {H H' : Hp} {st st' : Store}
theorem derefs_shp (sm : Sim md K S L H st) : ∀ {vs : List V} {s : List Slot} {ds : List D}, Paired (SlotV K S L H) vs s → derefs s st = some ds → Paired (Shp K S H) vs ds
  | _, _, ds, .nil, e => by
    cases e
    exact .nil
  | _, _, ds, .cons r t, e => by
    obtain ⟨d, e1, e⟩ := bindM_some e
    obtain ⟨es, e2, e⟩ := bindM_some e
    cases e
    exact .cons (r.shp sm e1) (derefs_shp sm t e2)
theorem ims_rep : ∀ {vs : List V} {s : List Slot} {ds : List D}, Paired (SlotV K S L H) vs s → imsOf s = some ds → Reps K S H vs ds
  | _, _, ds, .nil, e => by
    cases e
    exact .nil
  | _, _, ds, .cons r t, e => by
    obtain ⟨d, e1, e⟩ := bindM_some e
    obtain ⟨es, e2, e⟩ := bindM_some e
    cases e
    exact .cons (r.rep e1) (ims_rep t e2)
theorem slotvs_ext (hs : ∀ a ∈ L, S a) (x : Ext S L H S' L' H') {vs : List V} {s : List Slot} (h : Paired (SlotV K S L H) vs s) : Paired (SlotV K S' L' H') vs s := Paired.mapP h fun _ _ r => r.ext hs x
/-- a new tuple, a new list, of plain values -/
theorem at_new_tup {p : Addr} (h : H p = none) {xs : List V} {ds : List D} (r : Reps K S H xs ds) : At K (addS S p) (upd H p (.tup xs)) p (.tup ds) :=
  .tup upd_same (r.carry ((Carry.add h).trans (.grow (Grow.new h))))
theorem at_new_lst {p : Addr} (h : H p = none) {xs : List V} {ds : List D} (r : Reps K S H xs ds) : At K (addS S p) (upd H p (.lst xs)) p (.lst ds) :=
  .lst upd_same (r.carry ((Carry.add h).trans (.grow (Grow.new h))))
theorem Sim.free (sm : Sim md K S L H st) {p : Addr} (h : H p = none) : ¬ S p := fun z => by
  obtain ⟨o, e⟩ := sm.trk p z
  rw [h] at e; cases e
/-- a new object is laid: it is kept apart -/
structure Laid (md : Bool) (K : PySem.W.Frag) (S : Trk) (L : List Addr) (H H' : Hp) (st : Store) (p : Addr) (d : D) : Prop where
  ext : Ext S L H (addS S p) L H'
  sim : Sim md K (addS S p) L H' st
  out : ¬ S p
  mem : addS S p p
  cell : p ∉ L
  at_ : At K (addS S p) H' p d
theorem Sim.laid (sm : Sim md K S L H st) {p : Addr} {d : D} (hp : H p = none) (g : Grow H H') (h : At K (addS S p) H' p d) : Laid md K S L H H' st p d where
  ext := ⟨⟨[], by simp⟩, fun _ z => .inl z, fun a z n => z.elim (fun z => (n z).elim) fun q => (by rw [q]; exact hp), fun a o e _ => g a o e, fun _ z n => (n z).elim, fun _ _ z => z, fun _ => rfl, rfl⟩
  sim := ⟨sm.nd, fun a z => .inl (sm.sub a z), fun a z => z.elim (fun z => let ⟨o, e⟩ := sm.trk a z; ⟨o, g a o e⟩) fun z => by subst z; exact h.some,
    Paired.mapP sm.cells fun a d r => by
      obtain ⟨o, e⟩ := r.some
      exact r.carry ((Carry.add hp).trans (.grow g)) ((g a o e).trans e.symm), sm.fz, sm.lk⟩
  out := sm.free hp
  mem := .inr rfl
  cell := fun z => sm.free hp (sm.sub p z)
  at_ := h
/-- .. and is not kept apart any more: a plain value -/
def remS (S : Trk) (p : Addr) : Trk := ⟨fun a => S a ∧ a ≠ p, S.nm, S.fz⟩
theorem plain_of (x : Ext S L H S' L' H') (sm : Sim md K S' L' H' st) {p : Addr} {d : D} (n : ¬ S p) (c : p ∉ L') (h : At K S' H' p d) :
    Ext S L H (remS S' p) L' H' ∧ Sim md K (remS S' p) L' H' st ∧ Rep K (remS S' p) H' (.ref p) d := by
  have cr : Carry S' H' (remS S' p) H' := .less fun a z => z.1
  exact ⟨⟨x.pre, fun a z => ⟨x.up a z, fun q => n (q ▸ z)⟩, fun a z m => x.new a z.1 m, x.keep, x.cel, x.nm, x.fx, x.ff⟩,
    ⟨sm.nd, fun a z => ⟨sm.sub a z, fun q => c (q ▸ z)⟩, fun a z => sm.trk a z.1, Paired.mapP sm.cells fun a d r => r.carry cr rfl, sm.fz, sm.lk⟩, .obj (fun z => z.2 rfl) (h.carry cr rfl)⟩
end
/-! ### what an operation by values does, over plain data -/
/-- the answer is a plain value -/
def OpD (K : PySem.W.Frag) (r : R2) (g : D → D → Option D) : Prop := ∀ (S : Trk) (H : Hp) (x y : V) (d e z : D) (Q : VK), (∀ a, H a = none → ¬ S a) → Shp K S H x d → Shp K S H y e → g d e = some z →
  (∀ v H', Grow H H' → Rep K S H' v z → Q v H') → r x y H Q
/-- the answer is a new object -/
def OpF (K : PySem.W.Frag) (r : R2) (g : D → D → Option D) : Prop := ∀ (S : Trk) (H : Hp) (x y : V) (d e z : D) (Q : VK), Shp K S H x d → Shp K S H y e → g d e = some z →
  (∀ p H', H p = none → Grow H H' → At K (addS S p) H' p z → Q (.ref p) H') → r x y H Q
def UnD (K : PySem.W.Frag) (r : V → Hp → VK → Prop) (g : D → Option D) : Prop := ∀ (S : Trk) (H : Hp) (x : V) (d z : D) (Q : VK), (∀ a, H a = none → ¬ S a) → Shp K S H x d → g d = some z → (∀ v H', Grow H H' → Rep K S H' v z → Q v H') → r x H Q
def CallD (K : PySem.W.Frag) (r : List V → Hp → VK → Prop) (g : List D → Option D) : Prop := ∀ (S : Trk) (H : Hp) (xs : List V) (ds : List D) (z : D) (Q : VK), (∀ a, H a = none → ¬ S a) → Paired (Shp K S H) xs ds → g ds = some z → (∀ v H', Grow H H' → Rep K S H' v z → Q v H') → r xs H Q
def CallF (K : PySem.W.Frag) (r : List V → Hp → VK → Prop) (g : List D → Option D) : Prop := ∀ (S : Trk) (H : Hp) (xs : List V) (ds : List D) (z : D) (Q : VK), Paired (Shp K S H) xs ds → g ds = some z →
  (∀ p H', H p = none → Grow H H' → At K (addS S p) H' p z → Q (.ref p) H') → r xs H Q
section
variable {X : Cx} {a b c e : Expr} {es rest : List Expr} {pos : Pos} {ma mb mc : M Slot} {mt mu : M Bool}
theorem j_var (i : Nat) {x : Str} (hN : X.N[i]? = some x := by rfl) (hv : Vis X.env.scope x := by first | exact Or.inl rfl | exact Or.inr (Or.inl rfl) | exact Or.inr (Or.inr rfl)) (hd : (x == ("__debug__" : Str)) = false := by decide)
    (hcd : (x == ("__classdict__" : Str)) = false := by decide) : PE X (.Name x pos) (tE md X.K (mVar i)) := by
  refine pe_weak (pe_var (i := i) hN hv hd hcd) ?_
  rintro σ H Q ⟨S, L, env, st, s, st', sm, sl, e, k⟩
  unfold mVar at e
  split at e
  · cases e
  · rename_i s' n e1
    cases e
    obtain ⟨v, e2, r⟩ := sl.get e1 n
    exact ⟨v, e2, k v S L H .refl sm r⟩
  · cases e
theorem j_const {v : V} {d : D} (h : PE X e (tC v)) (r : ∀ S H, Rep X.K S H v d) : PE X e (tE md X.K (mC d)) := by
  refine pe_weak h ?_
  rintro σ H Q ⟨S, L, env, st, s, st', sm, sl, e, k⟩
  cases e
  exact k v S L H .refl sm (.im (r S H))
theorem j_int {i j} : PE X (.Constant (.int i) j pos) (tE md X.K (mC (.int i))) := j_const pe_int fun _ _ => .int i
theorem j_bl {i j} : PE X (.Constant (.bool i) j pos) (tE md X.K (mC (.bl i))) := j_const pe_bl fun _ _ => .bl i
theorem j_non {j} : PE X (.Constant .none j pos) (tE md X.K (mC .non)) := j_const pe_non fun _ _ => .non
theorem j_str {i j} : PE X (.Constant (.str i) j pos) (tE md X.K (mC (.str i))) := j_const pe_str fun _ _ => .str i
/-- a new object as a plain value -/
theorem j_F {m : M D} (h : PE X e (tF md X.K m)) : PE X e (tE md X.K (mF m)) := by
  refine pe_weak h ?_
  rintro σ H Q ⟨S, L, env, st, s, st', sm, sl, e, k⟩
  obtain ⟨⟨d, st1⟩, e1, e⟩ := bindM_some e
  cases e
  exact ⟨S, L, env, st, d, st1, sm, sl, e1, fun p S' L' H' x sm' n _ c h => by
    obtain ⟨x2, sm2, r⟩ := plain_of x sm' n c h
    exact k _ _ L' H' x2 sm2 (.im r)⟩
theorem j_bin {R : R2} {g : D → D → Option D} (hp : PE X e (tOp R (tE md X.K ma) (tE md X.K mb))) (hg : OpD X.K R g) : PE X e (tE md X.K (mOp g ma mb)) := by
  refine pe_weak hp ?_
  rintro σ H Q ⟨S, L, env, st, s, st', sm, sl, e, k⟩
  obtain ⟨⟨s1, st1⟩, e1, e⟩ := bindM_some e
  obtain ⟨⟨s2, st2⟩, e2, e⟩ := bindM_some e
  obtain ⟨d1, f1, e⟩ := bindM_some e
  obtain ⟨d2, f2, e⟩ := bindM_some e
  obtain ⟨z, f3, e⟩ := bindM_some e
  cases e
  refine ⟨S, L, env, st, s1, st1, sm, sl, e1, fun v S1 L1 H1 x1 sm1 r1 => ?_⟩
  refine ⟨S1, L1, env, st1, s2, st2, sm1, sl.ext sm.sub x1, e2, fun w S2 L2 H2 x2 sm2 r2 => ?_⟩
  exact hg S2 H2 v w d1 d2 _ Q (fun _ z => sm2.free z) ((r1.ext sm1.sub x2).shp sm2 f1) (r2.shp sm2 f2) f3 fun u H' gr ru =>
    k u S2 L2 H' ((x1.trans sm.sub x2).trans sm.sub (.grow gr)) (sm2.grow gr) (.im ru)
theorem j_binF {R : R2} {g : D → D → Option D} (hp : PE X e (tOp R (tE md X.K ma) (tE md X.K mb))) (hg : OpF X.K R g) : PE X e (tF md X.K (mOpF g ma mb)) := by
  refine pe_weak hp ?_
  rintro σ H Q ⟨S, L, env, st, s, st', sm, sl, e, k⟩
  obtain ⟨⟨s1, st1⟩, e1, e⟩ := bindM_some e
  obtain ⟨⟨s2, st2⟩, e2, e⟩ := bindM_some e
  obtain ⟨d1, f1, e⟩ := bindM_some e
  obtain ⟨d2, f2, e⟩ := bindM_some e
  obtain ⟨z, f3, e⟩ := bindM_some e
  cases e
  refine ⟨S, L, env, st, s1, st1, sm, sl, e1, fun v S1 L1 H1 x1 sm1 r1 => ?_⟩
  refine ⟨S1, L1, env, st1, s2, st2, sm1, sl.ext sm.sub x1, e2, fun w S2 L2 H2 x2 sm2 r2 => ?_⟩
  exact hg S2 H2 v w d1 d2 _ Q ((r1.ext sm1.sub x2).shp sm2 f1) (r2.shp sm2 f2) f3 fun p H' hp gr at_ =>
    let l := sm2.laid hp gr at_
    k p _ L2 H' ((x1.trans sm.sub x2).trans sm.sub l.ext) l.sim (fun z => l.out (x2.up _ (x1.up _ z))) l.mem l.cell l.at_
theorem j_op {op : Operator} {R : R2} {g : D → D → Option D} (ho : OpR X (binaryOp op) R) (hg : OpD X.K R g) (ha : PE X a (tE md X.K ma)) (hb : PE X b (tE md X.K mb)) : PE X (.BinOp a op b pos) (tE md X.K (mOp g ma mb)) := j_bin (pe_op ho ha hb) hg
theorem j_opF {op : Operator} {R : R2} {g : D → D → Option D} (ho : OpR X (binaryOp op) R) (hg : OpF X.K R g) (ha : PE X a (tE md X.K ma)) (hb : PE X b (tE md X.K mb)) : PE X (.BinOp a op b pos) (tF md X.K (mOpF g ma mb)) := j_binF (pe_op ho ha hb) hg
theorem j_cmp {op : CmpOp} {R : R2} {g : D → D → Option D} (ho : OpR X (compareOp op) R) (hg : OpD X.K R g) (ha : PE X a (tE md X.K ma)) (hb : PE X b (tE md X.K mb)) (hm : behindInMarks op b = false) : PE X (.Compare a [op] [b] pos) (tE md X.K (mOp g ma mb)) := j_bin (pe_cmpR ho ha hb hm) hg
theorem j_cmpT {op : CmpOp} {R : R2} {g : D → D → Option D} (ho : OpR X (compareOp op) R) (hg : OpD X.K R g) (ha : PE X a (tE md X.K ma)) (hb : PE X b (tE md X.K mb)) (hm : behindInMarks op b = false) : PT X (.Compare a [op] [b] pos) (tT md X.K (mBool (mOp g ma mb))) := by
  refine pt_weak (pt_cmpR ho ha hb hm) ?_
  rintro σ H Q ⟨S, L, env, st, s, st', sm, sl, e, k⟩
  obtain ⟨⟨s0, st0⟩, e0, e⟩ := bindM_some e
  split at e
  · rename_i q e9
    obtain ⟨⟨s1, st1⟩, e1, e0⟩ := bindM_some e0
    obtain ⟨⟨s2, st2⟩, e2, e0⟩ := bindM_some e0
    obtain ⟨d1, f1, e0⟩ := bindM_some e0
    obtain ⟨d2, f2, e0⟩ := bindM_some e0
    obtain ⟨z, f3, e0⟩ := bindM_some e0
    cases e0
    cases e
    injection e9 with e9
    subst e9
    refine ⟨S, L, env, st, s1, st1, sm, sl, e1, fun v S1 L1 H1 x1 sm1 r1 => ?_⟩
    refine ⟨S1, L1, env, st1, s2, st2, sm1, sl.ext sm.sub x1, e2, fun w S2 L2 H2 x2 sm2 r2 => ?_⟩
    exact hg S2 H2 v w d1 d2 _ _ (fun _ z => sm2.free z) ((r1.ext sm1.sub x2).shp sm2 f1) (r2.shp sm2 f2) f3 fun u H' gr ru =>
      ⟨_, (show Shp X.K S2 H' u (.bl _) from .inl ru).bl, k S2 L2 H' ((x1.trans sm.sub x2).trans sm.sub (.grow gr)) (sm2.grow gr)⟩
  · cases e
theorem j_ix {R : R2} {g : D → D → Option D} (hr : IxR X R) (hg : OpD X.K R g) (ha : PE X a (tE md X.K ma)) (hb : PE X b (tE md X.K mb)) (hs : PlainIx b) : PE X (.Subscript a b pos) (tE md X.K (mOp g ma mb)) := j_bin (pe_ix hr ha hb hs) hg
theorem j_un {op : UnaryOp} {r : V → Hp → VK → Prop} {g : D → Option D} (ho : UnR X (unaryOp op) r) (hg : UnD X.K r g) (ha : PE X a (tE md X.K ma)) : PE X (.UnaryOp op a pos) (tE md X.K (mUn g ma)) := by
  refine pe_weak (pe_un ho ha) ?_
  rintro σ H Q ⟨S, L, env, st, s, st', sm, sl, e, k⟩
  obtain ⟨⟨s1, st1⟩, e1, e⟩ := bindM_some e
  obtain ⟨d1, f1, e⟩ := bindM_some e
  obtain ⟨z, f3, e⟩ := bindM_some e
  cases e
  refine ⟨S, L, env, st, s1, st1, sm, sl, e1, fun v S1 L1 H1 x1 sm1 r1 => ?_⟩
  exact hg S1 H1 v d1 _ Q (fun _ z => sm1.free z) (r1.shp sm1 f1) f3 fun u H' gr ru => k u S1 L1 H' (x1.trans sm.sub (.grow gr)) (sm1.grow gr) (.im ru)
theorem j_nil : PA X [] (tA md X.K mNil) := by
  refine pa_weak pa_nil ?_
  rintro σ H Q ⟨S, L, env, st, s, st', sm, sl, e, k⟩
  cases e
  exact k [] S L H .refl sm .nil
theorem j_cons {mr : M (List Slot)} (ha : PE X e (tE md X.K ma)) (hr : PA X es (tA md X.K mr)) (hs : starEach (e :: es) X.env = (false, eval e X.env) :: starEach es X.env := by rfl) : PA X (e :: es) (tA md X.K (mCons ma mr)) := by
  refine pa_weak (pa_cons ha hr hs) ?_
  rintro σ H Q ⟨S, L, env, st, s, st', sm, sl, e, k⟩
  obtain ⟨⟨s1, st1⟩, e1, e⟩ := bindM_some e
  obtain ⟨⟨s2, st2⟩, e2, e⟩ := bindM_some e
  cases e
  refine ⟨S, L, env, st, s1, st1, sm, sl, e1, fun v S1 L1 H1 x1 sm1 r1 => ?_⟩
  refine ⟨S1, L1, env, st1, s2, st2, sm1, sl.ext sm.sub x1, e2, fun vs S2 L2 H2 x2 sm2 r2 => ?_⟩
  exact k (v :: vs) S2 L2 H2 (x1.trans sm.sub x2) sm2 (.cons (r1.ext sm1.sub x2) r2)
section
variable {x id T : Str} {p : Pos} {r : List V → Hp → VK → Prop} {g : List D → Option D} {m : M (List Slot)}
theorem j_cb (hp : PE X e (tCB r (tA md X.K m))) (hg : CallD X.K r g) : PE X e (tE md X.K (mB g m)) := by
  refine pe_weak hp ?_
  rintro σ H Q ⟨S, L, env, st, s, st', sm, sl, e, k⟩
  obtain ⟨⟨s1, st1⟩, e1, e⟩ := bindM_some e
  obtain ⟨ds, f1, e⟩ := bindM_some e
  obtain ⟨z, f3, e⟩ := bindM_some e
  cases e
  refine ⟨S, L, env, st, s1, st1, sm, sl, e1, fun v S1 L1 H1 x1 sm1 r1 => ?_⟩
  exact hg S1 H1 v ds _ Q (fun _ z => sm1.free z) (derefs_shp sm1 r1 f1) f3 fun u H' gr ru => k u S1 L1 H' (x1.trans sm.sub (.grow gr)) (sm1.grow gr) (.im ru)
theorem j_cbF (hp : PE X e (tCB r (tA md X.K m))) (hg : CallF X.K r g) : PE X e (tF md X.K (mBF g m)) := by
  refine pe_weak hp ?_
  rintro σ H Q ⟨S, L, env, st, s, st', sm, sl, e, k⟩
  obtain ⟨⟨s1, st1⟩, e1, e⟩ := bindM_some e
  obtain ⟨ds, f1, e⟩ := bindM_some e
  obtain ⟨z, f3, e⟩ := bindM_some e
  cases e
  refine ⟨S, L, env, st, s1, st1, sm, sl, e1, fun v S1 L1 H1 x1 sm1 r1 => ?_⟩
  exact hg S1 H1 v ds _ Q (derefs_shp sm1 r1 f1) f3 fun p H' hp gr at_ =>
    let l := sm1.laid hp gr at_
    k p _ L1 H' (x1.trans sm.sub l.ext) l.sim (fun z => l.out (x1.up _ z)) l.mem l.cell l.at_
end
theorem sz {n : Nat} (h : n ≤ 100000) : n ≤ sizeLine := Nat.le_trans h (by decide)
theorem j_tup {m : M (List Slot)} {x1} (h : PA X es (tA md X.K m)) : PE X (.Tuple es x1 pos) (tE md X.K (mTup m)) := by
  refine pe_weak (pe_tup h) ?_
  rintro σ H Q ⟨S, L, env, st, s, st', sm, sl, e, k⟩
  obtain ⟨⟨s1, st1⟩, e1, e⟩ := bindM_some e
  obtain ⟨ds, f1, e⟩ := bindM_some e
  split at e
  · rename_i hl
    cases e
    refine ⟨S, L, env, st, s1, st1, sm, sl, e1, fun vs S1 L1 H1 x1 sm1 r1 => ?_⟩
    have hr := ims_rep r1 f1
    refine ⟨by rw [hr.length]; exact sz hl, fun p hp => ?_⟩
    have l := sm1.laid hp (Grow.new hp) (at_new_tup hp hr)
    obtain ⟨x2, sm2, r⟩ := plain_of l.ext l.sim l.out l.cell l.at_
    exact k _ _ L1 _ (x1.trans sm.sub x2) sm2 (.im r)
  · cases e
theorem j_lst {m : M (List Slot)} (h : PA X es (tA md X.K m)) : PE X (.List es pos) (tF md X.K (mLst m)) := by
  refine pe_weak (pe_lst h) ?_
  rintro σ H Q ⟨S, L, env, st, s, st', sm, sl, e, k⟩
  obtain ⟨⟨s1, st1⟩, e1, e⟩ := bindM_some e
  obtain ⟨ds, f1, e⟩ := bindM_some e
  split at e
  · rename_i hl
    cases e
    refine ⟨S, L, env, st, s1, st1, sm, sl, e1, fun vs S1 L1 H1 x1 sm1 r1 => ?_⟩
    have hr := ims_rep r1 f1
    refine ⟨by rw [hr.length]; exact sz hl, fun p hp => ?_⟩
    have l := sm1.laid hp (Grow.new hp) (at_new_lst hp hr)
    exact k _ _ L1 _ (x1.trans sm.sub l.ext) l.sim (fun z => l.out (x1.up _ z)) l.mem l.cell l.at_
  · cases e
/-! ### tests -/
theorem tru_of {S : Trk} {H : Hp} {v : V} {d : D} {b : Bool} (h : Shp X.K S H v d) (e : truth d = some b) : TruV X.K v H b := by
  cases d with
  | non => cases h.non; cases e; rfl
  | bl i => cases h.bl; cases e; rfl
  | int i => cases h.int; cases e; rfl
  | str i =>
    cases h.str
    have e : (if i.length ≤ 100000 then some ((i.length : Int) != 0) else none) = some b := e
    split at e
    · rename_i hl
      cases e
      exact ⟨sz hl, rfl⟩
    · cases e
  | lst ds =>
    obtain ⟨p, xs, rfl, hp, r⟩ := h.lst
    cases e
    exact .inl ⟨xs, .of hp, by cases r <;> rfl⟩
  | tup ds =>
    obtain ⟨p, xs, rfl, hp, r⟩ := h.tup
    cases e
    exact .inr (.inl ⟨xs, hp, by cases r <;> rfl⟩)
  | dic ds =>
    obtain ⟨p, xs, rfl, hp, r⟩ := h.dic
    cases e
    exact .inr (.inr ⟨xs, hp, by cases r <;> rfl⟩)
  | dit _ => cases e
  | ins _ _ => cases e
  | fn _ => cases e
  | «at» _ => cases e
  | exc _ _ => cases e
  | scr _ => cases e
  | ty _ => cases e
theorem j_tru (h : PE X e (tE md X.K ma)) (he : ∀ whole, isTrue e X.env whole = (do let v ← whole; standAt e.pos; holding [v] (truthy v)) := by intro _; rfl) : PT X e (tT md X.K (mTru ma)) := by
  refine pt_weak (pt_truth h he) ?_
  rintro σ H Q ⟨S, L, env, st, s, st', sm, sl, e, k⟩
  obtain ⟨⟨s1, st1⟩, e1, e⟩ := bindM_some e
  obtain ⟨d, f1, e⟩ := bindM_some e
  obtain ⟨b, f2, e⟩ := bindM_some e
  cases e
  exact ⟨S, L, env, st, s1, st1, sm, sl, e1, fun v S1 L1 H1 x1 sm1 r1 => ⟨_, tru_of (r1.shp sm1 f1) f2, k S1 L1 H1 x1 sm1⟩⟩
theorem j_not (h : PT X a (tT md X.K mt)) : PT X (.UnaryOp .Not a pos) (tT md X.K (mNot mt)) := by
  refine pt_weak (pt_not h) ?_
  rintro σ H Q ⟨S, L, env, st, s, st', sm, sl, e, k⟩
  obtain ⟨⟨s1, st1⟩, e1, e⟩ := bindM_some e
  cases e
  exact ⟨S, L, env, st, s1, st1, sm, sl, e1, fun S1 L1 H1 x1 sm1 => k S1 L1 H1 x1 sm1⟩
theorem w_and (ha : PT X a (tT md X.K mt)) (hb : PW X (.BoolOp .And (b :: rest) pos) (tT md X.K mu)) : PW X (.BoolOp .And (a :: b :: rest) pos) (tT md X.K (mAnd mt mu)) := by
  refine pw_weak (pw_and ha hb) ?_
  rintro σ H Q ⟨S, L, env, st, s, st', sm, sl, e, k⟩
  obtain ⟨⟨s1, st1⟩, e1, e⟩ := bindM_some e
  refine ⟨S, L, env, st, s1, st1, sm, sl, e1, fun S1 L1 H1 x1 sm1 => ?_⟩
  cases s1 with
  | true => exact ⟨S1, L1, env, st1, s, st', sm1, sl.ext sm.sub x1, e, fun S2 L2 H2 x2 sm2 => k S2 L2 H2 (x1.trans sm.sub x2) sm2⟩
  | false =>
    cases e
    exact k S1 L1 H1 x1 sm1
theorem w_or (ha : PT X a (tT md X.K mt)) (hb : PW X (.BoolOp .Or (b :: rest) pos) (tT md X.K mu)) : PW X (.BoolOp .Or (a :: b :: rest) pos) (tT md X.K (mOr mt mu)) := by
  refine pw_weak (pw_or ha hb) ?_
  rintro σ H Q ⟨S, L, env, st, s, st', sm, sl, e, k⟩
  obtain ⟨⟨s1, st1⟩, e1, e⟩ := bindM_some e
  refine ⟨S, L, env, st, s1, st1, sm, sl, e1, fun S1 L1 H1 x1 sm1 => ?_⟩
  cases s1 with
  | false => exact ⟨S1, L1, env, st1, s, st', sm1, sl.ext sm.sub x1, e, fun S2 L2 H2 x2 sm2 => k S2 L2 H2 (x1.trans sm.sub x2) sm2⟩
  | true =>
    cases e
    exact k S1 L1 H1 x1 sm1
theorem w_and1 (ha : PT X a (tT md X.K mt)) : PW X (.BoolOp .And [a] pos) (tT md X.K mt) := pw_and1 ha
theorem w_or1 (ha : PT X a (tT md X.K mt)) : PW X (.BoolOp .Or [a] pos) (tT md X.K mt) := pw_or1 ha
/-! ### truths as values -/
theorem bool_of {S : Trk} {L : List Addr} {H : Hp} {v : V} {b : Bool} (r : SlotV X.K S L H v (.im (.bl b))) : v = .bl b := by
  cases r with | im r => exact (show Shp X.K S H v (.bl b) from .inl r).bl
theorem mVal_bool {m : M Bool} {env : En} {st : Store} {s : Slot} {st' : Store} (h : mVal m env st = some (s, st')) : ∃ b, s = .im (.bl b) ∧ m env st = some (b, st') := by
  obtain ⟨⟨b, st1⟩, e1, e⟩ := bindM_some h
  cases e
  exact ⟨b, rfl, e1⟩
/-- a value known to be a truth -/
def EB (md : Bool) (X : Cx) (e : Expr) (m : M Bool) : Prop := PE X e (tE md X.K (mVal m))
theorem v_of (h : PE X e (tE md X.K ma)) : EB md X e (mBool ma) := by
  refine pe_weak h ?_
  rintro σ H Q ⟨S, L, env, st, s, st', sm, sl, e, k⟩
  obtain ⟨b, hs, f⟩ := mVal_bool e
  subst hs
  clear e
  have e := f
  clear f
  obtain ⟨⟨s1, st1⟩, e1, e⟩ := bindM_some e
  split at e
  · rename_i q e9
    cases e
    have : s1 = .im (.bl b) := e9
    subst this
    exact ⟨S, L, env, st, _, _, sm, sl, e1, fun v S1 L1 H1 x1 sm1 r1 => k v S1 L1 H1 x1 sm1 r1⟩
  · cases e
theorem v_one {op} (h : EB md X a mt) : EB md X (.BoolOp op [a] pos) mt := pe_one h
theorem v_and (ha : EB md X a mt) (hb : EB md X (.BoolOp .And (b :: rest) pos) mu) : EB md X (.BoolOp .And (a :: b :: rest) pos) (mAnd mt mu) := by
  refine pe_weak (pe_and ha hb) ?_
  rintro σ H Q ⟨S, L, env, st, s, st', sm, sl, e, k⟩
  obtain ⟨b, hs, f⟩ := mVal_bool e
  subst hs
  clear e
  have e := f
  clear f
  obtain ⟨⟨s1, st1⟩, e1, e⟩ := bindM_some e
  refine ⟨S, L, env, st, .im (.bl s1), st1, sm, sl, by unfold mVal; rw [e1]; rfl, fun v S1 L1 H1 x1 sm1 r1 => ⟨s1, bool_of r1, ?_⟩⟩
  cases s1 with
  | true => exact ⟨S1, L1, env, st1, _, st', sm1, sl.ext sm.sub x1, (by unfold mVal; rw [show mu env st1 = some (b, st') from e]; rfl), fun v S2 L2 H2 x2 sm2 r2 => k v S2 L2 H2 (x1.trans sm.sub x2) sm2 r2⟩
  | false =>
    cases e
    exact k _ S1 L1 H1 x1 sm1 (.im (.bl false))
theorem v_or (ha : EB md X a mt) (hb : EB md X (.BoolOp .Or (b :: rest) pos) mu) : EB md X (.BoolOp .Or (a :: b :: rest) pos) (mOr mt mu) := by
  refine pe_weak (pe_or ha hb) ?_
  rintro σ H Q ⟨S, L, env, st, s, st', sm, sl, e, k⟩
  obtain ⟨b, hs, f⟩ := mVal_bool e
  subst hs
  clear e
  have e := f
  clear f
  obtain ⟨⟨s1, st1⟩, e1, e⟩ := bindM_some e
  refine ⟨S, L, env, st, .im (.bl s1), st1, sm, sl, by unfold mVal; rw [e1]; rfl, fun v S1 L1 H1 x1 sm1 r1 => ⟨s1, bool_of r1, ?_⟩⟩
  cases s1 with
  | false => exact ⟨S1, L1, env, st1, _, st', sm1, sl.ext sm.sub x1, (by unfold mVal; rw [show mu env st1 = some (b, st') from e]; rfl), fun v S2 L2 H2 x2 sm2 r2 => k v S2 L2 H2 (x1.trans sm.sub x2) sm2 r2⟩
  | true =>
    cases e
    exact k _ S1 L1 H1 x1 sm1 (.im (.bl true))
theorem v_not (ha : EB md X a mt) : EB md X (.UnaryOp .Not a pos) (mNot mt) := by
  refine pe_weak (pe_not ha) ?_
  rintro σ H Q ⟨S, L, env, st, s, st', sm, sl, e, k⟩
  obtain ⟨b, hs, f⟩ := mVal_bool e
  subst hs
  clear e
  have e := f
  clear f
  obtain ⟨⟨s1, st1⟩, e1, e⟩ := bindM_some e
  cases e
  exact ⟨S, L, env, st, .im (.bl s1), st1, sm, sl, by unfold mVal; rw [e1]; rfl, fun v S1 L1 H1 x1 sm1 r1 => ⟨s1, bool_of r1, k _ S1 L1 H1 x1 sm1 (.im (.bl _))⟩⟩
/-- a value known to be a truth, as a test -/
theorem t_of (h : EB md X e mt) (he : ∀ whole, isTrue e X.env whole = (do let v ← whole; standAt e.pos; holding [v] (truthy v)) := by intro _; rfl) : PT X e (tT md X.K mt) := by
  refine pt_weak (pt_val h he) ?_
  rintro σ H Q ⟨S, L, env, st, s, st', sm, sl, e, k⟩
  exact ⟨S, L, env, st, .im (.bl s), st', sm, sl, by unfold mVal; rw [e]; rfl, fun v S1 L1 H1 x1 sm1 r1 => ⟨s, bool_of r1, k S1 L1 H1 x1 sm1⟩⟩
theorem j_if (hc : PT X c (tT md X.K mt)) (ha : PE X a (tE md X.K ma)) (hb : PE X b (tE md X.K mb)) : PE X (.IfExp c a b pos) (tE md X.K (mIf mt ma mb)) := by
  refine pe_weak (pe_ifExp hc ha hb) ?_
  rintro σ H Q ⟨S, L, env, st, s, st', sm, sl, e, k⟩
  obtain ⟨⟨s1, st1⟩, e1, e⟩ := bindM_some e
  refine ⟨S, L, env, st, s1, st1, sm, sl, e1, fun S1 L1 H1 x1 sm1 => ?_⟩
  cases s1 with
  | true => exact ⟨S1, L1, env, st1, s, st', sm1, sl.ext sm.sub x1, e, fun v S2 L2 H2 x2 sm2 r2 => k v S2 L2 H2 (x1.trans sm.sub x2) sm2 r2⟩
  | false => exact ⟨S1, L1, env, st1, s, st', sm1, sl.ext sm.sub x1, e, fun v S2 L2 H2 x2 sm2 r2 => k v S2 L2 H2 (x1.trans sm.sub x2) sm2 r2⟩
end
end Mi
/-! Mi2: statements, loops, comprehensions, defs, told over plain data. -/
namespace Mi
open PySem L2
/-! ### targets -/
inductive Tgt where
  | nm (i : Nat) | tp (is : List Nat)
def asgs : List Nat → List D → En → Option En
  | [], [], env => some env
  | i :: is, d :: ds, env => asgs is ds (env.set i (.im d))
  | _, _, _ => none
def asg : Tgt → D → En → Option En
  | .nm i, d, env => some (env.set i (.im d))
  | .tp is, .tup ds, env => asgs is ds env
  | .tp is, .lst ds, env => asgs is ds env
  | _, _, _ => none
def Tgt.idx : Tgt → List Nat
  | .nm i => [i]
  | .tp is => is
def gT (K : PySem.W.Frag) (t : Tgt) : TG := fun v σ H Q => ∃ S L env d env', Slots K S L H σ env ∧ Rep K S H v d ∧ asg t d env = some env' ∧
  ∀ σ', Slots K S L H σ' env' → (∀ i, i ∉ t.idx → σ'[i]? = σ[i]?) → σ'.length = σ.length → Q σ' H
theorem pg_weak {X : Cx} {e : Expr} {t t' : TG} (h : PG X e t) (w : ∀ v σ H Q, t' v σ H Q → t v σ H Q) : PG X e t' := ⟨fun pins s σ H v u Q I r q => h.run pins s σ H v u Q I r (w v σ H Q q)⟩
def gNs : List Nat → TGs
  | [] => gNil
  | i :: is => gCons (gName i) (gNs is)
theorem gNs_ok {K : PySem.W.Frag} {S : Trk} {L : List Addr} {H : Hp} : ∀ {is : List Nat} {vs : List V} {ds : List D} {σ : L2.St} {env env' : En} {Q : L2.St → Hp → Prop}, Slots K S L H σ env → Reps K S H vs ds → asgs is ds env = some env' →
    (∀ σ', Slots K S L H σ' env' → (∀ i, i ∉ is → σ'[i]? = σ[i]?) → σ'.length = σ.length → Q σ' H) → gNs is vs σ H Q
  | [], _, _, σ, env, env', Q, sl, .nil, e, k => by
    cases e
    exact ⟨rfl, k σ sl (fun _ _ => rfl) rfl⟩
  | [], _, _, σ, env, env', Q, sl, .cons _ _, e, k => by cases e
  | i :: is, _, _, σ, env, env', Q, sl, .nil, e, k => by cases e
  | i :: is, _, _, σ, env, env', Q, sl, .cons r t, e, k => by
    refine ⟨_, _, rfl, gNs_ok (sl.set (.im r) i) t e fun σ' sl' h1 h2 => k σ' sl' (fun j hj => ?_) (by rw [h2, List.length_set])⟩
    rw [h1 j fun z => hj (List.mem_cons_of_mem _ z), List.getElem?_set_ne]
    intro z
    exact hj (by rw [z]; exact List.mem_cons_self)
section
variable {X : Cx}
theorem g_nm {i : Nat} {x : Str} {pos : Pos} (hN : X.N.Nodup) (hi : X.N[i]? = some x) (hx : Loc X.env.scope x) (hf : X.fn x = true ∨ X.env.scope.names.lookup x = some .local := by first | exact .inl rfl | exact .inr rfl | assumption) : PG X (.Name x pos) (gT X.K (.nm i)) := by
  refine pg_weak (pg_name hN hi hx hf) ?_
  rintro v σ H Q ⟨S, L, env, d, env', sl, r, e, k⟩
  cases e
  refine k _ (sl.set (.im r) i) (fun j hj => ?_) (by rw [List.length_set])
  rw [List.getElem?_set_ne]
  intro z
  exact hj (by rw [z]; exact List.mem_cons_self)
theorem asgs_len : ∀ {is : List Nat} {ds : List D} {env env' : En}, asgs is ds env = some env' → ds.length = is.length
  | [], [], _, _, _ => rfl
  | [], _ :: _, _, _, e => by cases e
  | _ :: _, [], _, _, e => by cases e
  | i :: is, d :: ds, env, env', e => by rw [List.length_cons, List.length_cons, asgs_len (is := is) (ds := ds) e]
theorem g_tp {is : List Nat} {es : List Expr} {k : Nat} {pos : Pos} {n : Nat} (hc : X.calm = true) (h : PGs X es (gNs is)) (hl : is.length = n := by rfl) (hn : (assignEach es X.env).length = n := by rfl) (hst : (assignEach es X.env).findIdx? (·.1) = none := by rfl) :
    PG X (.Tuple es k pos) (gT X.K (.tp is)) := by
  refine ⟨fun pins s σ H v u Q I rv q => ?_⟩
  obtain ⟨S, L, env, d, env', sl, r, e, k⟩ := q
  cases d with
  | tup ds =>
    obtain ⟨a, xs, rfl, sq, rs⟩ := (show Shp X.K S H v (.tup ds) from .inl r).tup
    exact (pg_tup hc h hn hst).run pins s σ H _ u Q I rv ⟨a, xs, rfl, sq, by rw [rs.length, asgs_len e, hl], gNs_ok sl rs e k⟩
  | lst ds =>
    obtain ⟨a, xs, rfl, sq, rs⟩ := (show Shp X.K S H v (.lst ds) from .inl r).lst
    exact (pg_unl hc h hn hst).run pins s σ H _ u Q I rv ⟨a, xs, rfl, .inl (.inl sq), by rw [rs.length, asgs_len e, hl], gNs_ok sl rs e k⟩
  | _ => cases e
end
/-! ### statements -/
inductive Out where
  | nx | bk | ct | rt (s : Slot) | rtF (d : D)
  /-- a new list of these -/
  | rtN (ss : List Slot)
abbrev StM := En → Store → Option (Out × En × Store)
section
variable (md : Bool) (K : PySem.W.Frag)
def Fin (D' : Ends) (S0 S : Trk) (L : List Addr) (H : Hp) : Out → En → Prop
  | .nx, env => ∀ σ, Slots K S L H σ env → D'.nx σ H
  | .bk, env => ∀ σ, Slots K S L H σ env → D'.bk σ H
  | .ct, env => ∀ σ, Slots K S L H σ env → D'.ct σ H
  | .rt s, _ => ∀ v, SlotV K S L H v s → D'.rt v H
  | .rtF d, _ => ∀ p, ¬ S0 p → S p → p ∉ L → At K S H p d → D'.rt (.ref p) H
  | .rtN ss, _ => ∀ p vs, ¬ S0 p → S p → p ∉ L → H p = some (.lst vs) → SlotVs K S L H vs ss → D'.rt (.ref p) H
def tS (m : StM) : TS := fun D' σ H => ∃ S L env st o env' st', Sim md K S L H st ∧ Slots K S L H σ env ∧ m env st = some (o, env', st') ∧
  ∀ S' L' H', Ext S L H S' L' H' → Sim md K S' L' H' st' → Fin K D' S S' L' H' o env'
end
def mSeq (a b : StM) : StM := fun env st => bindM (a env st) fun r => match r with
  | (.nx, env', st') => b env' st'
  | (.bk, env', st') => some (.bk, env', st')
  | (.ct, env', st') => some (.ct, env', st')
  | (.rt s, env', st') => some (.rt s, env', st')
  | (.rtF d, env', st') => some (.rtF d, env', st')
  | (.rtN d, env', st') => some (.rtN d, env', st')
def mSkip : StM := fun env st => some (.nx, env, st)
def mBk : StM := fun env st => some (.bk, env, st)
def mCt : StM := fun env st => some (.ct, env, st)
def mStuck : StM := fun _ _ => none
/-- x = e -/
def mSet (i : Nat) (m : M Slot) : StM := fun env st => bindM (m env st) fun r => some (.nx, env.set i r.1, r.2)
/-- x = a new object that will change -/
def mNew (i : Nat) (m : M D) : StM := fun env st => bindM (m env st) fun r => some (.nx, env.set i (.pt r.2.length), r.2 ++ [r.1])
/-- a, b = e -/
def mSetT (t : Tgt) (m : M Slot) : StM := fun env st => bindM (m env st) fun r => bindM (imOf r.1) fun d => bindM (asg t d env) fun env' => some (.nx, env', r.2)
def mRet (m : M Slot) : StM := fun env st => bindM (m env st) fun r => some (.rt r.1, env, r.2)
def mRetF (m : M D) : StM := fun env st => bindM (m env st) fun r => some (.rtF r.1, env, r.2)
/-- a new list of these -/
def mRetL (m : M (List Slot)) : StM := fun env st => bindM (m env st) fun r => if r.1.length ≤ 100000 then some (.rtN r.1, env, r.2) else none
def mRetN : StM := fun env st => some (.rt (.im .non), env, st)
def mIfS (c : M Bool) (a b : StM) : StM := fun env st => bindM (c env st) fun r => if r.1 = true then a env r.2 else b env r.2
def mDrop (m : M Slot) : StM := fun env st => bindM (m env st) fun r => some (.nx, env, r.2)
section
variable {X : Cx} {st : Stmt} {rest : List Stmt} {e : Expr} {pos : Pos} {a b : StM} {ma : M Slot} {mc : M Bool}
theorem Fin.less {K : PySem.W.Frag} {D' : Ends} {S0 S1 S : Trk} {L : List Addr} {H : Hp} {o : Out} {env : En} (h : Fin K D' S0 S L H o env) (n : ∀ a, S0 a → S1 a) : Fin K D' S1 S L H o env := by
  cases o with
  | rtF d => exact fun p z => h p fun q => z (n p q)
  | rtN d => exact fun p vs z => h p vs fun q => z (n p q)
  | _ => exact h
theorem Fin.seqX {K : PySem.W.Frag} {D' : Ends} {t : L2.St → Hp → Prop} {S0 S : Trk} {L : List Addr} {H : Hp} {o : Out} {env : En} (h : Fin K D' S0 S L H o env) (n : o ≠ .nx) : Fin K { D' with nx := t } S0 S L H o env := by
  cases o with
  | nx => exact absurd rfl n
  | bk => exact h
  | ct => exact h
  | rt s => exact h
  | rtF d => exact h
  | rtN d => exact h
theorem s_nil : PSs X [] (tS md X.K mSkip) := by
  refine pss_weak pss_nil ?_
  rintro D' σ H ⟨S, L, env, st, o, env', st', sm, sl, e, k⟩
  cases e
  exact k S L H .refl sm σ sl
theorem s_cons (h1 : PS X st (tS md X.K a)) (h2 : PSs X rest (tS md X.K b)) : PSs X (st :: rest) (tS md X.K (mSeq a b)) := by
  refine pss_weak (pss_cons h1 h2) ?_
  rintro D' σ H ⟨S, L, env, st, o, env', st', sm, sl, e, k⟩
  obtain ⟨⟨o1, env1, st1⟩, e1, e⟩ := bindM_some e
  refine ⟨S, L, env, st, o1, env1, st1, sm, sl, e1, fun S1 L1 H1 x1 sm1 => ?_⟩
  cases o1 with
  | nx => exact fun σ1 sl1 => ⟨S1, L1, env1, st1, o, env', st', sm1, sl1, e, fun S2 L2 H2 x2 sm2 => (k S2 L2 H2 (x1.trans sm.sub x2) sm2).less x1.up⟩
  | bk => cases e; exact (k S1 L1 H1 x1 sm1).seqX (fun z => nomatch z)
  | ct => cases e; exact (k S1 L1 H1 x1 sm1).seqX (fun z => nomatch z)
  | rt s => cases e; exact (k S1 L1 H1 x1 sm1).seqX (fun z => nomatch z)
  | rtF d => cases e; exact (k S1 L1 H1 x1 sm1).seqX (fun z => nomatch z)
  | rtN d => cases e; exact (k S1 L1 H1 x1 sm1).seqX (fun z => nomatch z)
theorem s_one (h1 : PS X st (tS md X.K a)) : PSs X [st] (tS md X.K a) := pss_one h1
theorem s_pass : PS X (.Pass pos) (tS md X.K mSkip) := by
  refine ps_weak ps_pass ?_
  rintro D' σ H ⟨S, L, env, st, o, env', st', sm, sl, e, k⟩
  cases e
  exact k S L H .refl sm σ sl
theorem s_break : PS X (.Break pos) (tS md X.K mBk) := by
  refine ps_weak ps_break ?_
  rintro D' σ H ⟨S, L, env, st, o, env', st', sm, sl, e, k⟩
  cases e
  exact k S L H .refl sm σ sl
theorem s_continue : PS X (.Continue pos) (tS md X.K mCt) := by
  refine ps_weak ps_continue ?_
  rintro D' σ H ⟨S, L, env, st, o, env', st', sm, sl, e, k⟩
  cases e
  exact k S L H .refl sm σ sl
theorem s_never : PS X st (tS md X.K mStuck) := by
  refine ps_weak ps_never ?_
  rintro D' σ H ⟨S, L, env, st, o, env', st', sm, sl, e, k⟩
  cases e
theorem s_set {i : Nat} {x : Str} {pos' : Pos} (hN : X.N.Nodup) (hi : X.N[i]? = some x) (hx : Loc X.env.scope x) (he : PE X e (tE md X.K ma)) (hs : swapsWith e (some (.Name x pos')) pos.line X.env = pure false := by rfl)
    (hf : X.fn x = true ∨ X.env.scope.names.lookup x = some .local := by first | exact .inl rfl | exact .inr rfl | assumption) : PS X (.Assign [.Name x pos'] e pos) (tS md X.K (mSet i ma)) := by
  refine ps_weak (ps_set hN hi hx he hs hf) ?_
  rintro D' σ H ⟨S, L, env, st, o, env', st', sm, sl, e, k⟩
  obtain ⟨⟨s1, st1⟩, e1, e⟩ := bindM_some e
  cases e
  exact ⟨S, L, env, st, s1, st1, sm, sl, e1, fun v S1 L1 H1 x1 sm1 r1 => k S1 L1 H1 x1 sm1 _ ((sl.ext sm.sub x1).set r1 i)⟩
/-- the new object becomes a cell -/
theorem cell_new {K : PySem.W.Frag} {S S' : Trk} {L L' : List Addr} {H H' : Hp} {p : Addr} {st : Store} {d : D} (x : Ext S L H S' L' H') (sm : Sim md K S' L' H' st) (n : ¬ S p) (i : S' p) (c : p ∉ L') (h : At K S' H' p d) :
    Ext S L H S' (L' ++ [p]) H' ∧ Sim md K S' (L' ++ [p]) H' (st ++ [d]) ∧ SlotV K S' (L' ++ [p]) H' (.ref p) (.pt st.length) := by
  obtain ⟨t, e⟩ := x.pre
  have hl : L'.length = st.length := sm.cells.length
  refine ⟨⟨⟨t ++ [p], by rw [e, List.append_assoc]⟩, x.up, x.new, x.keep, fun a ha hn => ?_, x.nm, x.fx, x.ff⟩, ⟨List.nodup_append.mpr ⟨sm.nd, by simp, fun a ha b hb => ?_⟩, fun a ha => ?_, sm.trk, sm.cells.snoc h, sm.fz, fun k a z => by rw [List.getElem?_append_left (List.getElem?_eq_some_iff.mp (sm.lk k a z)).1]; exact sm.lk k a z⟩, .pt ?_⟩
  · rcases List.mem_append.mp ha with z | z
    · exact x.cel a z hn
    · have : a = p := List.mem_singleton.mp z
      subst this
      exact x.new a i n
  · rw [List.mem_singleton] at hb
    subst hb
    exact fun z => c (z ▸ ha)
  · rcases List.mem_append.mp ha with z | z
    · exact sm.sub a z
    · exact List.mem_singleton.mp z ▸ i
  · rw [← hl, List.getElem?_append_right (Nat.le_refl _), Nat.sub_self]
    rfl
theorem s_new {i : Nat} {x : Str} {pos' : Pos} {m : M D} (hN : X.N.Nodup) (hi : X.N[i]? = some x) (hx : Loc X.env.scope x) (he : PE X e (tF md X.K m)) (hs : swapsWith e (some (.Name x pos')) pos.line X.env = pure false := by rfl)
    (hf : X.fn x = true ∨ X.env.scope.names.lookup x = some .local := by first | exact .inl rfl | exact .inr rfl | assumption) : PS X (.Assign [.Name x pos'] e pos) (tS md X.K (mNew i m)) := by
  refine ps_weak (ps_set hN hi hx he hs hf) ?_
  rintro D' σ H ⟨S, L, env, st, o, env', st', sm, sl, e, k⟩
  obtain ⟨⟨s1, st1⟩, e1, e⟩ := bindM_some e
  cases e
  refine ⟨S, L, env, st, s1, st1, sm, sl, e1, fun p S1 L1 H1 x1 sm1 n i1 c at_ => ?_⟩
  obtain ⟨x2, sm2, r⟩ := cell_new x1 sm1 n i1 c at_
  exact k S1 _ H1 x2 sm2 _ ((sl.ext sm.sub x2).set r i)
theorem s_asgT {t : Tgt} {tg : Expr} (he : PE X e (tE md X.K ma)) (hg : PG X tg (gT X.K t)) (hs : swapsWithSole [tg] e pos.line X.env = pure false := by rfl) (hw : swappedStores [tg] e X.env = pure none := by rfl)
    (h1 : (assignEach [tg] X.env).map (·.2) = [assign tg X.env] := by rfl) : PS X (.Assign [tg] e pos) (tS md X.K (mSetT t ma)) := by
  refine ps_weak (ps_asg he hg hs hw h1) ?_
  rintro D' σ H ⟨S, L, env, st, o, env', st', sm, sl, e, k⟩
  obtain ⟨⟨s1, st1⟩, e1, e⟩ := bindM_some e
  obtain ⟨d, f1, e⟩ := bindM_some e
  obtain ⟨env2, f2, e⟩ := bindM_some e
  cases e
  refine ⟨S, L, env, st, s1, st1, sm, sl, e1, fun v S1 L1 H1 x1 sm1 r1 => ?_⟩
  exact ⟨S1, L1, env, d, _, sl.ext sm.sub x1, r1.rep f1, f2, fun σ' sl' _ _ => k S1 L1 H1 x1 sm1 σ' sl'⟩
theorem s_ret (he : PE X e (tE md X.K ma)) : PS X (.Return (some e) pos) (tS md X.K (mRet ma)) := by
  refine ps_weak (ps_ret he) ?_
  rintro D' σ H ⟨S, L, env, st, o, env', st', sm, sl, e, k⟩
  obtain ⟨⟨s1, st1⟩, e1, e⟩ := bindM_some e
  cases e
  exact ⟨S, L, env, st, s1, st1, sm, sl, e1, fun v S1 L1 H1 x1 sm1 r1 => k S1 L1 H1 x1 sm1 v r1⟩
theorem s_retF {m : M D} (he : PE X e (tF md X.K m)) : PS X (.Return (some e) pos) (tS md X.K (mRetF m)) := by
  refine ps_weak (ps_ret he) ?_
  rintro D' σ H ⟨S, L, env, st, o, env', st', sm, sl, e, k⟩
  obtain ⟨⟨s1, st1⟩, e1, e⟩ := bindM_some e
  cases e
  exact ⟨S, L, env, st, s1, st1, sm, sl, e1, fun p S1 L1 H1 x1 sm1 n i c at_ => k S1 L1 H1 x1 sm1 p n i c at_⟩
theorem s_retL {m : M (List Slot)} {es : List Expr} {lp : Pos} (h : PA X es (tA md X.K m)) : PS X (.Return (some (.List es lp)) pos) (tS md X.K (mRetL m)) := by
  refine ps_weak (ps_ret (pe_lst h)) ?_
  rintro D' σ H ⟨S, L, env, st, o, env', st', sm, sl, e, k⟩
  obtain ⟨⟨s1, st1⟩, e1, e⟩ := bindM_some e
  split at e
  · rename_i hl
    cases e
    refine ⟨S, L, env, st, s1, st1, sm, sl, e1, fun vs S1 L1 H1 x1 sm1 r1 => ?_⟩
    refine ⟨by rw [r1.length]; exact sz hl, fun p hp => ?_⟩
    have gr := Grow.new (o := .lst vs) hp
    have ex : Ext S1 L1 H1 (addS S1 p) L1 (upd H1 p (.lst vs)) := ⟨⟨[], by simp⟩, fun _ z => .inl z, fun a z n => z.elim (fun z => (n z).elim) fun q => (by rw [q]; exact hp), fun a o e _ => gr a o e, fun _ z n => (n z).elim, fun _ _ z => z, fun _ => rfl, rfl⟩
    have sm2 : Sim md X.K (addS S1 p) L1 (upd H1 p (.lst vs)) st1 := ⟨sm1.nd, fun a z => .inl (sm1.sub a z), fun a z => z.elim (fun z => let ⟨o, e⟩ := sm1.trk a z; ⟨o, gr a o e⟩) fun z => by subst z; exact ⟨_, upd_same⟩,
      Paired.mapP sm1.cells fun a d r => by
        obtain ⟨o, e⟩ := r.some
        exact r.carry ((Carry.add hp).trans (.grow gr)) ((gr a o e).trans e.symm), sm1.fz, sm1.lk⟩
    have np : p ∉ L1 := fun z => sm1.free hp (sm1.sub p z)
    exact k _ L1 _ (x1.trans sm.sub ex) sm2 p vs (fun z => sm1.free hp (x1.up _ z)) (.inr rfl) np upd_same ((SlotVs.of r1).ext sm1.sub ex)
  · cases e
theorem s_retN : PS X (.Return none pos) (tS md X.K mRetN) := by
  refine ps_weak ps_retN ?_
  rintro D' σ H ⟨S, L, env, st, o, env', st', sm, sl, e, k⟩
  cases e
  exact k S L H .refl sm _ (.im .non)
theorem s_if {c : Expr} {ba bb : List Stmt} (hc : PT X c (tT md X.K mc)) (ha : PSs X ba (tS md X.K a)) (hb : PSs X bb (tS md X.K b)) : PS X (.If c ba bb pos) (tS md X.K (mIfS mc a b)) := by
  refine ps_weak (ps_if hc ha hb) ?_
  rintro D' σ H ⟨S, L, env, st, o, env', st', sm, sl, e, k⟩
  obtain ⟨⟨s1, st1⟩, e1, e⟩ := bindM_some e
  refine ⟨S, L, env, st, s1, st1, sm, sl, e1, fun S1 L1 H1 x1 sm1 => ?_⟩
  cases s1 with
  | true => exact ⟨S1, L1, env, st1, o, env', st', sm1, sl.ext sm.sub x1, e, fun S2 L2 H2 x2 sm2 => (k S2 L2 H2 (x1.trans sm.sub x2) sm2).less x1.up⟩
  | false => exact ⟨S1, L1, env, st1, o, env', st', sm1, sl.ext sm.sub x1, e, fun S2 L2 H2 x2 sm2 => (k S2 L2 H2 (x1.trans sm.sub x2) sm2).less x1.up⟩
theorem s_drop (he : PE X e (tE md X.K ma)) (hs : swapsWith e none pos.line X.env = pure false := by rfl) : PS X (.Expr e pos) (tS md X.K (mDrop ma)) := by
  refine ps_weak (ps_expr he hs) ?_
  rintro D' σ H ⟨S, L, env, st, o, env', st', sm, sl, e, k⟩
  obtain ⟨⟨s1, st1⟩, e1, e⟩ := bindM_some e
  cases e
  exact ⟨S, L, env, st, s1, st1, sm, sl, e1, fun v S1 L1 H1 x1 sm1 r1 => k S1 L1 H1 x1 sm1 σ (sl.ext sm.sub x1)⟩
end
end Mi
/-! Mi3: what is walked, for, while, comprehensions. -/
namespace Mi
open PySem L2
/-- what a walked thing's turns are: the items, as long as the slot s still holds d0 -/
structure Src where
  s : Slot
  d0 : D
  items : List D
def chk (q : Src) (st : Store) : Prop := deref q.s st = some q.d0
def SrvV (md : Bool) (K : PySem.W.Frag) (J : It) (v : V) (q : Src) : Prop := ∀ (S : Trk) (L : List Addr) (H : Hp) (st : Store), Sim md K S L H st → SlotV K S L H v q.s → deref q.s st = some q.d0 →
  (∀ i, i < q.items.length → J.go i H) ∧ (∀ i, q.items.length ≤ i → J.stop i H) ∧ ∀ i, i < q.items.length → ∀ x H', J.yld i H x H' → Grow H H' ∧ ∃ d, q.items[i]? = some d ∧ Rep K S H' x d
/-- the same, of what stands behind this heap -/
def SrvX (md : Bool) (K : PySem.W.Frag) (J : It) (v : V) (q : Src) (S1 : Trk) (L1 : List Addr) (H1 : Hp) : Prop := ∀ (S : Trk) (L : List Addr) (H : Hp) (st : Store), Carry S1 H1 S H → Sim md K S L H st → SlotV K S L H v q.s → deref q.s st = some q.d0 →
  (∀ i, i < q.items.length → J.go i H) ∧ (∀ i, q.items.length ≤ i → J.stop i H) ∧ ∀ i, i < q.items.length → ∀ x H', J.yld i H x H' → Grow H H' ∧ ∃ d, q.items[i]? = some d ∧ Rep K S H' x d
theorem SrvV.x {md : Bool} {K : PySem.W.Frag} {J : It} {v : V} {q : Src} (h : SrvV md K J v q) {S1 : Trk} {L1 : List Addr} {H1 : Hp} : SrvX md K J v q S1 L1 H1 := fun S L H st _ sm r e => h S L H st sm r e
def tI (md : Bool) (K : PySem.W.Frag) (m : M Src) : TI := fun σ H R => ∃ S L env st q st', Sim md K S L H st ∧ Slots K S L H σ env ∧ m env st = some (q, st') ∧
  ∀ J v S' L' H', Ext S L H S' L' H' → Sim md K S' L' H' st' → SlotV K S' L' H' v q.s → deref q.s st' = some q.d0 → SrvX md K J v q S' L' H' → R J H'
theorem pi_weak {X : Cx} {tg e : Expr} {t t' : TI} (h : PI X tg e t) (w : ∀ σ H Q, t' σ H Q → t σ H Q) : PI X tg e t' := ⟨fun pins s σ H R I q => h.run pins s σ H R I (w σ H R q)⟩
section
open Classical
noncomputable def forGo (t : Tgt) (q : Src) (body : StM) : List D → StM
  | [], env, st => if chk q st then some (.nx, env, st) else none
  | d :: ds, env, st => if chk q st then bindM (asg t d env) fun env1 => bindM (body env1 st) fun r => match r with
      | (.nx, env', st') => forGo t q body ds env' st'
      | (.ct, env', st') => forGo t q body ds env' st'
      | (.bk, env', st') => some (.nx, env', st')
      | (.rt s, env', st') => some (.rt s, env', st')
      | (.rtF s, env', st') => some (.rtF s, env', st')
      | (.rtN s, env', st') => some (.rtN s, env', st')
    else none
noncomputable def mFor (t : Tgt) (src : M Src) (body : StM) : StM := fun env st => bindM (src env st) fun r => forGo t r.1 body r.1.items env r.2
noncomputable def lcGo (t : Tgt) (q : Src) (mt : M Bool) (me : M Slot) (envw : En) : List D → Store → Option (List D × Store)
  | [], st => if chk q st then some ([], st) else none
  | d :: ds, st => if chk q st then bindM (asg t d envw) fun env1 => bindM (mt env1 st) fun r => if r.1 = true then
        bindM (me env1 r.2) fun r2 => bindM (imOf r2.1) fun z => bindM (lcGo t q mt me envw ds r2.2) fun r3 => some (z :: r3.1, r3.2)
      else lcGo t q mt me envw ds r.2
    else none
/-- [e for t in src if c]; vs: the comprehension's own slots -/
noncomputable def mLc (t : Tgt) (src : M Src) (mt : M Bool) (me : M Slot) (vs : List Nat) : M D := fun env st => bindM (src env st) fun r =>
  if r.1.items.length ≤ 100000 then bindM (lcGo t r.1 mt me (wipeE env vs) r.1.items r.2) fun r2 => some (.lst r2.1, r2.2) else none
end
def mYes : M Bool := fun _ st => some (true, st)
def whGo (c : M Bool) (body : StM) : Nat → StM
  | 0, _, _ => none
  | n + 1, env, st => bindM (c env st) fun r => if r.1 = true then bindM (body env r.2) fun r2 => match r2 with
      | (.nx, env', st') => whGo c body n env' st'
      | (.ct, env', st') => whGo c body n env' st'
      | (.bk, env', st') => some (.nx, env', st')
      | (.rt s, env', st') => some (.rt s, env', st')
      | (.rtF s, env', st') => some (.rtF s, env', st')
      | (.rtN s, env', st') => some (.rtN s, env', st')
    else some (.nx, env, r.2)
section
variable {X : Cx} {pos : Pos} {e tg iter : Expr} {body : List Stmt} {src : M Src} {t : Tgt} {mb : StM} {mc : M Bool}
theorem drop_cons {α : Type} {l : List α} {i : Nat} {d : α} (h : l[i]? = some d) : l.drop i = d :: l.drop (i + 1) := by
  obtain ⟨hi, e⟩ := List.getElem?_eq_some_iff.mp h
  rw [List.drop_eq_getElem_cons hi, e]
theorem drop_nil {α : Type} {l : List α} {i : Nat} (h : l.length ≤ i) : l.drop i = [] := List.drop_eq_nil_of_le h
theorem s_for (hp : PassesOwn (model X.prog X.w) X.A X.env X.xe) (hc : X.calm = true) (hi : PI X tg iter (tI md X.K src)) (hg : PG X tg (gT X.K t)) (hb : PSs X body (tS md X.K mb))
    (hs : ∀ x, foldedSetIterable iter X.env x = pure x := by intro _; rfl) : PS X (.For tg iter body [] pos) (tS md X.K (mFor t src mb)) := by
  refine ps_weak (ps_for hp hc hi hg hb hs) ?_
  rintro D' σ H ⟨S, L, env, st, o, env', st', sm, sl, e, k⟩
  obtain ⟨⟨q, st1⟩, e1, e⟩ := bindM_some e
  refine ⟨S, L, env, st, q, st1, sm, sl, e1, fun J v S1 L1 H1 x1 sm1 r1 f1 srv => ?_⟩
  let W : Nat → L2.St → Hp → Prop := fun i σ H2 => ∃ S2 L2 env2 st2, Ext S1 L1 H1 S2 L2 H2 ∧ Sim md X.K S2 L2 H2 st2 ∧ Slots X.K S2 L2 H2 σ env2 ∧ forGo t q mb (q.items.drop i) env2 st2 = some (o, env', st')
  refine ⟨fun i m σ H2 => m = q.items.length - i ∧ i ≤ q.items.length ∧ W i σ H2, ⟨q.items.length, by simp, Nat.zero_le _, S1, L1, env, st1, .refl, sm1, sl.ext sm.sub x1, e⟩, ?_⟩
  rintro i m σ2 H2 ⟨rfl, hi, S2, L2, env2, st2, x2, sm2, sl2, e2⟩
  by_cases hlt : i < q.items.length
  · obtain ⟨d, hd⟩ : ∃ d, q.items[i]? = some d := ⟨q.items[i], List.getElem?_eq_getElem hlt⟩
    rw [drop_cons hd] at e2
    unfold forGo at e2
    split at e2
    · rename_i hk
      obtain ⟨g1, g2, g3⟩ := srv S2 L2 H2 st2 (x2.carry sm1.sub) sm2 (r1.ext sm1.sub x2) hk
      refine .inr ⟨g1 i hlt, W (i + 1), fun σ' H' w => ⟨q.items.length - (i + 1), by omega, rfl, hlt, w⟩, fun x H3 y => ?_⟩
      obtain ⟨gr, d', hd', rx⟩ := g3 i hlt x H3 y
      rw [hd] at hd'
      cases hd'
      obtain ⟨env3, e3, e2⟩ := bindM_some e2
      obtain ⟨⟨o4, env4, st4⟩, e4, e2⟩ := bindM_some e2
      refine ⟨S2, L2, env2, d, env3, sl2.ext sm2.sub (.grow gr), rx, e3, fun σ3 sl3 _ _ => ?_⟩
      refine ⟨S2, L2, env3, st2, o4, env4, st4, sm2.grow gr, sl3, e4, fun S5 L5 H5 x5 sm5 => ?_⟩
      have x5' : Ext S1 L1 H1 S5 L5 H5 := (x2.trans sm1.sub (.grow gr)).trans sm1.sub x5
      have x0 : Ext S L H S5 L5 H5 := x1.trans sm.sub x5'
      have up : ∀ a, S a → S2 a := fun a z => x2.up a (x1.up a z)
      cases o4 with
      | nx => exact fun σ' sl' => ⟨S5, L5, env4, st4, x5', sm5, sl', e2⟩
      | ct => exact fun σ' sl' => ⟨S5, L5, env4, st4, x5', sm5, sl', e2⟩
      | bk =>
        cases e2
        exact fun σ' sl' => k S5 L5 H5 x0 sm5 σ' sl'
      | rt s =>
        cases e2
        exact fun v' hv => k S5 L5 H5 x0 sm5 v' hv
      | rtF s =>
        cases e2
        exact fun p n => k S5 L5 H5 x0 sm5 p fun z => n (up p z)
      | rtN s =>
        cases e2
        exact fun p vs n => k S5 L5 H5 x0 sm5 p vs fun z => n (up p z)
    · cases e2
  · rw [drop_nil (Nat.le_of_not_lt hlt)] at e2
    unfold forGo at e2
    split at e2
    · rename_i hk
      obtain ⟨g1, g2, g3⟩ := srv S2 L2 H2 st2 (x2.carry sm1.sub) sm2 (r1.ext sm1.sub x2) hk
      cases e2
      exact .inl ⟨g2 i (Nat.le_of_not_lt hlt), k S2 L2 H2 (x1.trans sm.sub x2) sm2 σ2 sl2⟩
    · cases e2
theorem s_while (n : Nat) (hp : PassesOwn (model X.prog X.w) X.A X.env X.xe) {c : Expr} (hc : PT X c (tT md X.K mc)) (hb : PSs X body (tS md X.K mb)) : PS X (.While c body [] pos) (tS md X.K (whGo mc mb n)) := by
  refine ps_weak (ps_while hp hc hb) ?_
  rintro D' σ H ⟨S, L, env, st, o, env', st', sm, sl, e, k⟩
  refine ⟨fun m σ2 H2 => ∃ S2 L2 env2 st2, Ext S L H S2 L2 H2 ∧ Sim md X.K S2 L2 H2 st2 ∧ Slots X.K S2 L2 H2 σ2 env2 ∧ whGo mc mb m env2 st2 = some (o, env', st'), ⟨n, S, L, env, st, .refl, sm, sl, e⟩, ?_⟩
  rintro m σ2 H2 ⟨S2, L2, env2, st2, x2, sm2, sl2, e2⟩
  cases m with
  | zero => cases e2
  | succ m =>
    unfold whGo at e2
    obtain ⟨⟨b, st3⟩, e3, e2⟩ := bindM_some e2
    refine ⟨S2, L2, env2, st2, b, st3, sm2, sl2, e3, fun S3 L3 H3 x3 sm3 => ?_⟩
    have x03 : Ext S L H S3 L3 H3 := x2.trans sm.sub x3
    cases b with
    | false =>
      cases e2
      exact k S3 L3 H3 x03 sm3 σ2 (sl2.ext sm2.sub x3)
    | true =>
      have e2 := e2
      rw [if_pos rfl] at e2
      obtain ⟨⟨o4, env4, st4⟩, e4, e2⟩ := bindM_some e2
      refine ⟨fun σ' H' => ∃ S2 L2 env2 st2, Ext S L H S2 L2 H' ∧ Sim md X.K S2 L2 H' st2 ∧ Slots X.K S2 L2 H' σ' env2 ∧ whGo mc mb m env2 st2 = some (o, env', st'), fun σ' H' w => ⟨m, Nat.lt_succ_self m, w⟩, ?_⟩
      refine ⟨S3, L3, env2, st3, o4, env4, st4, sm3, sl2.ext sm2.sub x3, e4, fun S5 L5 H5 x5 sm5 => ?_⟩
      have x0 : Ext S L H S5 L5 H5 := x03.trans sm.sub x5
      have up : ∀ a, S a → S3 a := x03.up
      cases o4 with
      | nx => exact fun σ' sl' => ⟨S5, L5, env4, st4, x0, sm5, sl', e2⟩
      | ct => exact fun σ' sl' => ⟨S5, L5, env4, st4, x0, sm5, sl', e2⟩
      | bk =>
        cases e2
        exact fun σ' sl' => k S5 L5 H5 x0 sm5 σ' sl'
      | rt s =>
        cases e2
        exact fun v' hv => k S5 L5 H5 x0 sm5 v' hv
      | rtF s =>
        cases e2
        exact fun p n => k S5 L5 H5 x0 sm5 p fun z => n (up p z)
      | rtN s =>
        cases e2
        exact fun p vs n => k S5 L5 H5 x0 sm5 p vs fun z => n (up p z)
theorem wipe_len2 (σ : L2.St) : ∀ vs : List Nat, (wipe σ vs).length = σ.length := wipe_length σ
theorem wipe_in {σ : L2.St} {i : Nat} (hi : i < σ.length) : ∀ {vs : List Nat}, i ∈ vs → (wipe σ vs)[i]? = some none
  | v :: vs, h => by
    unfold wipe
    by_cases c : v = i
    · subst c
      rw [List.getElem?_set_self (by rw [wipe_length]; exact hi)]
    · rw [List.getElem?_set_ne c]
      rcases List.mem_cons.mp h with z | z
      · exact absurd z.symm c
      · exact wipe_in hi z
theorem wipe_of {σ σ2 : L2.St} {vs is : List Nat} (hs : ∀ i ∈ is, i ∈ vs) (h : ∀ i, i ∉ is → σ2[i]? = (wipe σ vs)[i]?) (hl : σ2.length = (wipe σ vs).length) : wipe σ2 vs = wipe σ vs := by
  rw [wipe_length] at hl
  apply List.ext_getElem?
  intro i
  by_cases c : i ∈ vs
  · by_cases hi : i < σ.length
    · rw [wipe_in (by omega) c, wipe_in hi c]
    · rw [List.getElem?_eq_none (by rw [wipe_length]; omega), List.getElem?_eq_none (by rw [wipe_length]; omega)]
  · rw [wipe_out c, h i (fun z => c (hs i z))]
/-- what is laid during the comprehension: its list, at p, is kept apart -/
theorem app_sim {K : PySem.W.Frag} {S : Trk} {L : List Addr} {H : Hp} {st : Store} {p : Addr} {xs : List V} {o : HO} (sm : Sim md K S L H st) (hp : S p) (hc : p ∉ L) (h : H p = some (.lst xs)) :
    Sim md K S L (upd H p o) st ∧ (∀ {v d}, Rep K S H v d → Rep K S (upd H p o) v d) := by
  have cr : Carry S H S (upd H p o) := ⟨fun _ _ _ n => n, fun a u e n => by rw [upd_ne (fun z => n (by rw [z]; exact hp))]; exact e, fun _ _ z => z⟩
  refine ⟨⟨sm.nd, sm.sub, fun a z => ?_, ?_, sm.fz, sm.lk⟩, fun r => r.carry cr⟩
  · by_cases c : a = p
    · subst c; exact ⟨o, upd_same⟩
    · obtain ⟨u, e⟩ := sm.trk a z
      exact ⟨u, by rw [upd_ne c]; exact e⟩
  · have go : ∀ {l : List Addr} {t : Store}, (∀ a ∈ l, a ≠ p) → Paired (At K S H) l t → Paired (At K S (upd H p o)) l t := by
      intro l t hn q
      induction q with
      | nil => exact .nil
      | cons r _ ih =>
        refine .cons (r.carry cr ?_) (ih fun a ha => hn a (List.mem_cons_of_mem _ ha))
        rw [upd_ne (hn _ List.mem_cons_self)]
    exact go (fun a ha z => hc (z ▸ ha)) sm.cells
theorem lcGo_len {t : Tgt} {q : Src} {mt : M Bool} {me : M Slot} {envw : En} : ∀ {ds : List D} {st : Store} {r : List D × Store}, lcGo t q mt me envw ds st = some r → r.1.length ≤ ds.length
  | [], st, r, e => by
    unfold lcGo at e
    split at e
    · cases e; exact Nat.le_refl _
    · cases e
  | d :: ds, st, r, e => by
    unfold lcGo at e
    split at e
    · obtain ⟨env1, _, e⟩ := bindM_some e
      obtain ⟨⟨b, st1⟩, _, e⟩ := bindM_some e
      split at e
      · obtain ⟨r2, _, e⟩ := bindM_some e
        obtain ⟨z, _, e⟩ := bindM_some e
        obtain ⟨r3, e3, e⟩ := bindM_some e
        cases e
        have := lcGo_len e3
        rw [List.length_cons, List.length_cons]
        omega
      · have := lcGo_len e
        rw [List.length_cons]
        omega
    · cases e
theorem lc_read {K : PySem.W.Frag} {mt : M Bool} {me : M Slot} {vs : List Nat} (hv : ∀ i ∈ t.idx, i ∈ vs) {σ : L2.St} {H : Hp} {Q : VK} (h : tF md K (mLc t src mt me vs) σ H Q) : tLc (tI md K src) (gT K t) (tT md K mt) (tE md K me) vs σ H Q := by
  obtain ⟨S, L, env, st, o, st', sm, sl, e, k⟩ := h
  obtain ⟨⟨q, st1⟩, e1, e⟩ := bindM_some e
  split at e
  · rename_i hlen
    have hlen : q.items.length ≤ 100000 := hlen
    obtain ⟨⟨out, st2'⟩, e2, e⟩ := bindM_some e
    cases e
    refine ⟨S, L, env, st, q, st1, sm, sl, e1, fun J v S1 L1 H1 x1 sm1 r1 f1 srv => fun Dl hD => ?_⟩
    -- the list's place is kept apart from here on
    have l0 := sm1.laid hD (Grow.new (o := .lst []) hD) (at_new_lst hD .nil)
    have slw := (sl.ext sm.sub x1).wipe vs
    let W : Nat → Hp → Prop := fun i H2 => ∃ S2 L2 st2 acc accD rest, Ext S1 L1 H1 S2 L2 H2 ∧ Sim md K S2 L2 H2 st2 ∧ S2 Dl ∧ Dl ∉ L2 ∧ H2 Dl = some (.lst acc) ∧ Reps K S2 H2 acc accD ∧
      accD.length ≤ i ∧ lcGo t q mt me (wipeE env vs) (q.items.drop i) st2 = some (rest, st2') ∧ accD ++ rest = out
    refine ⟨fun i m H2 => m = q.items.length - i ∧ i ≤ q.items.length ∧ W i H2, ⟨q.items.length, by simp, Nat.zero_le _, _, L1, st1, [], [], out, l0.ext, l0.sim, l0.mem, l0.cell, upd_same, .nil, Nat.le_refl _, e2, rfl⟩, ?_⟩
    rintro i m H2 ⟨rfl, hi, S2, L2, st2, acc, accD, rest, x2, sm2, hS2, nl, hacc, racc, hal, e3, eo⟩
    have x02 : Ext S L H S2 L2 H2 := x1.trans sm.sub x2
    by_cases hlt : i < q.items.length
    · obtain ⟨d, hd⟩ : ∃ d, q.items[i]? = some d := ⟨q.items[i], List.getElem?_eq_getElem hlt⟩
      rw [drop_cons hd] at e3
      unfold lcGo at e3
      split at e3
      · rename_i hk
        obtain ⟨g1, g2, g3⟩ := srv S2 L2 H2 st2 (x2.carry sm1.sub) sm2 (r1.ext sm1.sub x2) hk
        refine .inr ⟨g1 i hlt, W (i + 1), fun H' w => ⟨q.items.length - (i + 1), by omega, rfl, hlt, w⟩, fun x H3 y => ?_⟩
        obtain ⟨gr, d', hd', rx⟩ := g3 i hlt x H3 y
        rw [hd] at hd'
        cases hd'
        obtain ⟨env3, f3, e3⟩ := bindM_some e3
        obtain ⟨⟨b, st4⟩, f4, e3⟩ := bindM_some e3
        have x3 : Ext S1 L1 H1 S2 L2 H3 := x2.trans sm1.sub (.grow gr)
        refine ⟨S2, L2, wipeE env vs, d, env3, (slw.ext sm1.sub x3), rx, f3, fun σ3 sl3 hout hle => ⟨wipe_of hv hout hle, ?_⟩⟩
        refine ⟨S2, L2, env3, st2, b, st4, sm2.grow gr, sl3, f4, fun S4 L4 H4 x4 sm4 => ?_⟩
        have x04 : Ext S1 L1 H1 S4 L4 H4 := x3.trans sm1.sub x4
        have c4 : Carry S2 H3 S4 H4 := x4.carry sm2.sub
        have nl4 : Dl ∉ L4 := fun z => by
          have := x4.cel Dl z nl
          rw [gr Dl _ hacc] at this; cases this
        have hacc4 : H4 Dl = some (.lst acc) := x4.keep Dl _ (gr Dl _ hacc) nl
        have racc4 : Reps K S4 H4 acc accD := (racc.carry (.grow gr)).carry c4
        cases b with
        | false =>
          exact ⟨S4, L4, st4, acc, accD, rest, x04, sm4, x4.up _ hS2, nl4, hacc4, racc4, by omega, e3, eo⟩
        | true =>
          have e3 := e3
          rw [if_pos rfl] at e3
          obtain ⟨⟨s5, st5⟩, f5, e3⟩ := bindM_some e3
          obtain ⟨z, f6, e3⟩ := bindM_some e3
          obtain ⟨⟨rest', st6⟩, f7, e3⟩ := bindM_some e3
          cases e3
          refine ⟨S4, L4, env3, st4, s5, st5, sm4, sl3.ext sm2.sub x4, f5, fun y S5 L5 H5 x5 sm5 r5 => ?_⟩
          have x05 := x04.trans sm1.sub x5
          have c5 : Carry S4 H4 S5 H5 := x5.carry sm4.sub
          have nl5 : Dl ∉ L5 := fun w => by
            have := x5.cel Dl w nl4
            rw [hacc4] at this; cases this
          have hacc5 : H5 Dl = some (.lst acc) := x5.keep Dl _ hacc4 nl4
          have hS5 : S5 Dl := x5.up _ (x4.up _ hS2)
          have racc5 : Reps K S5 H5 acc accD := racc4.carry c5
          have ry : Rep K S5 H5 y z := r5.rep f6
          have hal' : acc.length ≤ 100000 := by rw [racc.length]; omega
          obtain ⟨sm6, cr6⟩ := app_sim (o := .lst (acc ++ [y])) sm5 hS5 nl5 hacc5
          have cr : Carry S5 H5 S5 (upd H5 Dl (.lst (acc ++ [y]))) := ⟨fun _ _ _ n => n, fun a u e n => by rw [upd_ne (fun w => n (by rw [w]; exact hS5))]; exact e, fun _ _ z => z⟩
          refine ⟨acc, hacc5, Nat.lt_of_le_of_lt hal' (by decide), S5, L5, st5, acc ++ [y], accD ++ [z], rest', ?_, sm6, hS5, nl5, upd_same, (racc5.carry cr).append (.cons (cr6 ry) .nil), by rw [List.length_append]; simp; omega, f7, by rw [← eo, List.append_assoc]; rfl⟩
          exact ⟨x05.pre, x05.up, x05.new, fun a u e n => by
            rw [upd_ne (ne_of_none e hD)]
            exact x05.keep a u e n, x05.cel, x05.nm, x05.fx, x05.ff⟩
      · cases e3
    · rw [drop_nil (Nat.le_of_not_lt hlt)] at e3
      unfold lcGo at e3
      split at e3
      · rename_i hk
        obtain ⟨g1, g2, g3⟩ := srv S2 L2 H2 st2 (x2.carry sm1.sub) sm2 (r1.ext sm1.sub x2) hk
        cases e3
        rw [List.append_nil] at eo
        subst eo
        exact .inl ⟨g2 i (Nat.le_of_not_lt hlt), k Dl S2 L2 H2 x02 sm2 (fun z => l0.out (x1.up _ z)) hS2 nl (.lst hacc racc)⟩
      · cases e3
  · cases e
end
end Mi
/-! Mi4: comprehensions as expressions, what is walked, defs and their calls, methods of cells. -/
namespace Mi
open PySem L2 PySem.Spec PyProof.Rows
section
variable {X : Cx} {pos spos : Pos} {e tg iter elt : Expr} {src : M Src} {t : Tgt} {mc : M Bool} {me : M Slot}
/-- the parts of a comprehension, within its block -/
abbrev InBlk (X : Cx) (scope : Scope) (p : Cx → Prop) : Prop := ∀ (s : Shared) (H : Hp) (C : Addr) (cl : List (Str × Addr)) (fp : List Addr), p (X.blk s H scope (compEnvC scope cl C X.env) fp)
/-- the tests of a comprehension's clause -/
abbrev JTs (md : Bool) (X : Cx) (ifs : List Expr) (m : M Bool) : Prop := PTs X ifs (tT md X.K m)
theorem ts_nil : JTs md X [] mYes := by
  refine ⟨fun pins s σ H Q I h => ?_⟩
  obtain ⟨S, L, env, st, b, st', sm, sl, e, k⟩ := h
  cases e
  exact pts_nil.run pins s σ H Q I (k S L H .refl sm)
theorem ts_one {c : Expr} (h : PT X c (tT md X.K mc)) : JTs md X [c] mc := pts_one h
theorem f_lc {scope : Scope} {ifs : List Expr} {own : List (Str × Nat)} (hc : X.calm = true) (hN : X.N.Nodup) (hi : PI X tg iter (tI md X.K src)) (ok : BlkOk X.N X.env.scope scope own) (hv : ∀ i ∈ t.idx, i ∈ own.map (·.2))
    (hg : InBlk X scope fun X => PG X tg (gT X.K t)) (ht : InBlk X scope fun X => JTs md X ifs mc) (he : InBlk X scope fun X => PE X elt (tE md X.K me)) (hs : ∀ x, foldedSetIterable iter X.env x = pure x := by intro _; rfl) :
    PE X (.ListComp elt [⟨tg, iter, ifs, 0⟩] scope pos) (tF md X.K (mLc t src mc me (own.map (·.2)))) :=
  pe_weak (pe_lc (g := gT X.K t) (tt := tT md X.K mc) (te := tE md X.K me) hc hN hi ok hg ht he hs) fun _ _ _ h => lc_read hv h
/-- y = [..], a plain list -/
theorem s_setLc {i : Nat} {y : Str} {py : Pos} {scope : Scope} {ifs : List Expr} {own : List (Str × Nat)} (hc : X.calm = true) (hN : X.N.Nodup) (hy : X.N[i]? = some y) (hyl : X.env.scope.names.lookup y = some .local)
    (hsw : swapsWith (.ListComp elt [⟨tg, iter, ifs, 0⟩] scope pos) (some (.Name y py)) spos.line X.env = pure true) (hi : PI X tg iter (tI md X.K src)) (ok : BlkOk X.N X.env.scope scope own) (hv : ∀ i ∈ t.idx, i ∈ own.map (·.2))
    (hg : InBlk X scope fun X => PG X tg (gT X.K t)) (ht : InBlk X scope fun X => JTs md X ifs mc) (he : InBlk X scope fun X => PE X elt (tE md X.K me)) (hs : ∀ x, foldedSetIterable iter X.env x = pure x := by intro _; rfl) :
    PS X (.Assign [.Name y py] (.ListComp elt [⟨tg, iter, ifs, 0⟩] scope pos) spos) (tS md X.K (mSet i (mF (mLc t src mc me (own.map (·.2)))))) := by
  refine ps_weak (ps_setLc (g := gT X.K t) (tt := tT md X.K mc) (te := tE md X.K me) hc hN hy hyl hsw hi ok hg ht he hs) ?_
  rintro D' σ H ⟨S, L, env, st, o, env', st', sm, sl, e, k⟩
  refine lc_read hv ?_
  obtain ⟨⟨s1, st1⟩, e1, e⟩ := bindM_some e
  obtain ⟨⟨d, st2⟩, e2, e1⟩ := bindM_some e1
  cases e1
  cases e
  refine ⟨S, L, env, st, d, _, sm, sl, e2, fun p S1 L1 H1 x1 sm1 n i1 c at_ => ?_⟩
  obtain ⟨x2, sm2, r⟩ := plain_of x1 sm1 n c at_
  exact k _ L1 H1 x2 sm2 _ ((sl.ext sm.sub x2).set (.im r) i)
/-- y = [..], a list that will change -/
theorem s_newLc {i : Nat} {y : Str} {py : Pos} {scope : Scope} {ifs : List Expr} {own : List (Str × Nat)} (hc : X.calm = true) (hN : X.N.Nodup) (hy : X.N[i]? = some y) (hyl : X.env.scope.names.lookup y = some .local)
    (hsw : swapsWith (.ListComp elt [⟨tg, iter, ifs, 0⟩] scope pos) (some (.Name y py)) spos.line X.env = pure true) (hi : PI X tg iter (tI md X.K src)) (ok : BlkOk X.N X.env.scope scope own) (hv : ∀ i ∈ t.idx, i ∈ own.map (·.2))
    (hg : InBlk X scope fun X => PG X tg (gT X.K t)) (ht : InBlk X scope fun X => JTs md X ifs mc) (he : InBlk X scope fun X => PE X elt (tE md X.K me)) (hs : ∀ x, foldedSetIterable iter X.env x = pure x := by intro _; rfl) :
    PS X (.Assign [.Name y py] (.ListComp elt [⟨tg, iter, ifs, 0⟩] scope pos) spos) (tS md X.K (mNew i (mLc t src mc me (own.map (·.2))))) := by
  refine ps_weak (ps_setLc (g := gT X.K t) (tt := tT md X.K mc) (te := tE md X.K me) hc hN hy hyl hsw hi ok hg ht he hs) ?_
  rintro D' σ H ⟨S, L, env, st, o, env', st', sm, sl, e, k⟩
  refine lc_read hv ?_
  obtain ⟨⟨d, st2⟩, e2, e⟩ := bindM_some e
  cases e
  refine ⟨S, L, env, st, d, st2, sm, sl, e2, fun p S1 L1 H1 x1 sm1 n i1 c at_ => ?_⟩
  obtain ⟨x2, sm2, r⟩ := cell_new x1 sm1 n i1 c at_
  exact k S1 _ H1 x2 sm2 _ ((sl.ext sm.sub x2).set r i)
end
/-! ### what is walked -/
def seqItems : D → Option (List D)
  | .lst ds => some ds
  | .tup ds => some ds
  | .scr ns => some (ns.map D.int)
  | _ => none
def mSeqS (m : M Slot) : M Src := fun env st => bindM (m env st) fun r => bindM (deref r.1 r.2) fun d => bindM (seqItems d) fun ds => some (⟨r.1, d, ds⟩, r.2)
def mRng1 (m : M (List Slot)) : M Src := fun env st => bindM (m env st) fun r => match r.1 with
  | [.im (.int n)] => if -(2 ^ 62) ≤ n ∧ n < 2 ^ 62 then some (⟨.im .non, .non, (List.range n.toNat).map fun i => D.int (i : Nat)⟩, r.2) else none
  | _ => none
def mRng2 (m : M (List Slot)) : M Src := fun env st => bindM (m env st) fun r => match r.1 with
  | [.im (.int a), .im (.int n)] => if -(2 ^ 62) ≤ a ∧ a < 2 ^ 62 ∧ -(2 ^ 62) ≤ n ∧ n < 2 ^ 62 then some (⟨.im .non, .non, (List.range (n - a).toNat).map fun i => D.int (a + (i : Nat))⟩, r.2) else none
  | _ => none
section
variable {X : Cx} {tg l : Expr} {ml : M Slot} {K : PySem.W.Frag}
/-- a list, a tuple, the script: by what it is when the loop begins -/
def iSeq (K : PySem.W.Frag) (tl : TE) : TI := fun σ H R => tl σ H fun x H1 => ∃ a, x = .ref a ∧ (((∃ xs, SqL K H1 a xs) ∧ R (Itl K a) H1) ∨ ((∃ xs, SqT K H1 a xs) ∧ R (Itt K a) H1))
theorem pi_seq {tl : TE} (hl : PE X l tl) : PI X tg l (iSeq X.K tl) := by
  refine ⟨fun pins s σ H R I h => ?_⟩
  refine thn (hl.run pins s σ H _ I h) fun v s1 ⟨x, H1, I1, r1, q1⟩ => ?_
  obtain ⟨a, e, q⟩ := q1
  subst e
  have e : v = Value.ref a := r1
  subst e
  have fp0 : ∀ b ∈ [s1.heap.objs.size], FpOk X pins H1 b := fun b hb => by
    have e : b = s1.heap.objs.size := by simpa using hb
    subst e
    exact I1.fpOk (Nat.le_refl _) (I1.hok.fresh (Nat.le_refl _))
  rcases q with ⟨⟨xs, hq⟩, q⟩ | ⟨⟨xs, hq⟩, q⟩
  · obtain ⟨its, rv, p, hz⟩ := I1.list hq
    exact wpAny_pyIter_list p.isList ⟨s1.heap.objs.size, [s1.heap.objs.size], _, _, H1, rfl, I1.kept (t' := s1.toks) fun b o e => Heap.get?_push_of_some _ e, turn_list a _, ⟨_, Heap.get?_push_size _ rfl, rfl, rfl⟩, fp0, q⟩
  · obtain ⟨its, rv, p, hz⟩ := I1.tuple hq
    exact wpAny_pyIter_tuple (show s1.heap.IsTuple a its.toArray from p) ⟨s1.heap.objs.size, [s1.heap.objs.size], _, _, H1, rfl, I1.kept (t' := s1.toks) fun b o e => Heap.get?_push_of_some _ e, turn_tuple a _, ⟨_, Heap.get?_push_size _ rfl, rfl, rfl⟩, fp0, q⟩
theorem reps_ints {S : Trk} {H : Hp} : ∀ ns : List Int, Reps K S H (ns.map V.int) (ns.map D.int)
  | [] => .nil
  | n :: ns => .cons (.int n) (reps_ints ns)
theorem shp_sql {S : Trk} {H : Hp} {v : V} {d : D} {ds : List D} (h : Shp K S H v d) (e : d = .lst ds ∨ ∃ ns, d = .scr ns ∧ ds = ns.map D.int) : ∃ a xs, v = .ref a ∧ SqL K H a xs ∧ Reps K S H xs ds := by
  rcases e with e | ⟨ns, e, e2⟩
  · subst e
    obtain ⟨a, xs, e, hp, r⟩ := h.lst
    exact ⟨a, xs, e, .of hp, r⟩
  · subst e e2
    obtain ⟨a, e, hp⟩ := h.scr
    exact ⟨a, _, e, hp, reps_ints ns⟩
theorem SlotV.ref_eq {S : Trk} {L : List Addr} {H : Hp} {st : Store} (sm : Sim md K S L H st) {v : V} {s : Slot} {d : D} (r : SlotV K S L H v s) (e : deref s st = some d) : Shp K S H v d := r.shp sm e
theorem sqL_of_SqL {S : Trk} {H : Hp} {v : V} {a : Addr} {ds : List D} {d : D} (h : Shp K S H v d) (e : d = .lst ds ∨ ∃ ns, d = .scr ns ∧ ds = ns.map D.int) (ev : v = .ref a) : ∃ xs, SqL K H a xs ∧ Reps K S H xs ds := by
  obtain ⟨b, xs, e2, h1, h2⟩ := shp_sql h e
  rw [ev] at e2
  cases e2
  exact ⟨xs, h1, h2⟩
theorem srv_list {a : Addr} {s : Slot} {d : D} {ds : List D} (e : d = .lst ds ∨ ∃ ns, d = .scr ns ∧ ds = ns.map D.int) : SrvV md K (Itl K a) (.ref a) ⟨s, d, ds⟩ := by
  intro S L H st sm r f
  obtain ⟨xs, h1, h2⟩ := sqL_of_SqL (r.shp sm f) e rfl
  refine ⟨fun i hi => ?_, fun i hi => ⟨xs, h1, by rw [h2.length]; exact hi⟩, fun i hi x H' y => ?_⟩
  · have : i < xs.length := by rw [h2.length]; exact hi
    exact ⟨xs, xs[i], h1, List.getElem?_eq_getElem this⟩
  · obtain ⟨e1, e2⟩ := y
    subst e1
    obtain ⟨d', e3, r'⟩ := h2.getV (e2 xs h1)
    exact ⟨fun _ _ q => q, d', e3, r'⟩
theorem srv_tup {a : Addr} {s : Slot} {ds : List D} : SrvV md K (Itt K a) (.ref a) ⟨s, .tup ds, ds⟩ := by
  intro S L H st sm r f
  obtain ⟨b, xs, e, h1, h2⟩ := (r.shp sm f).tup
  cases e
  refine ⟨fun i hi => ?_, fun i hi => ⟨xs, h1, by rw [h2.length]; exact hi⟩, fun i hi x H' y => ?_⟩
  · have : i < xs.length := by rw [h2.length]; exact hi
    exact ⟨xs, xs[i], h1, List.getElem?_eq_getElem this⟩
  · obtain ⟨e1, e2⟩ := y
    subst e1
    obtain ⟨d', e3, r'⟩ := h2.getV (e2 xs h1)
    exact ⟨fun _ _ q => q, d', e3, r'⟩
theorem i_seq (hl : PE X l (tE md X.K ml)) : PI X tg l (tI md X.K (mSeqS ml)) := by
  refine pi_weak (pi_seq hl) ?_
  rintro σ H R ⟨S, L, env, st, q, st', sm, sl, e, k⟩
  obtain ⟨⟨s, st1⟩, e1, e⟩ := bindM_some e
  obtain ⟨d, e2, e⟩ := bindM_some e
  obtain ⟨ds, e3, e⟩ := bindM_some e
  cases e
  refine ⟨S, L, env, st, s, _, sm, sl, e1, fun v S1 L1 H1 x1 sm1 r1 => ?_⟩
  have sh := r1.shp sm1 e2
  cases d with
  | lst es =>
    cases e3
    obtain ⟨a, xs, ev, h1, h2⟩ := shp_sql sh (.inl rfl)
    subst ev
    exact ⟨a, rfl, .inl ⟨⟨xs, h1⟩, k _ _ S1 L1 H1 x1 sm1 r1 e2 (srv_list (.inl rfl)).x⟩⟩
  | scr es =>
    cases e3
    obtain ⟨a, xs, ev, h1, h2⟩ := shp_sql sh (.inr ⟨es, rfl, rfl⟩)
    subst ev
    exact ⟨a, rfl, .inl ⟨⟨xs, h1⟩, k _ _ S1 L1 H1 x1 sm1 r1 e2 (srv_list (.inr ⟨es, rfl, rfl⟩)).x⟩⟩
  | tup es =>
    cases e3
    obtain ⟨a, xs, ev, h1, h2⟩ := sh.tup
    subst ev
    exact ⟨a, rfl, .inr ⟨⟨xs, h1⟩, k _ _ S1 L1 H1 x1 sm1 r1 e2 srv_tup.x⟩⟩
  | _ => cases e3
theorem srv_range {v : V} {lo : Int} {n : Nat} : SrvV md K (Itr lo n) v ⟨.im .non, .non, (List.range n).map fun i => D.int (lo + (i : Nat))⟩ := by
  intro S L H st sm r f
  have hl : ((List.range n).map fun i => D.int (lo + (i : Nat))).length = n := by simp
  refine ⟨fun i hi => by rw [hl] at hi; exact hi, fun i hi => by rw [hl] at hi; exact hi, fun i hi x H' y => ?_⟩
  obtain ⟨e1, e2⟩ := y
  subst e1
  refine ⟨fun _ _ q => q, .int (lo + (i : Nat)), ?_, by rw [e2]; exact .int _⟩
  rw [hl] at hi
  show ((List.range n).map fun i => D.int (lo + (i : Nat)))[i]? = _
  rw [List.getElem?_map, List.getElem?_range hi]
  rfl
theorem i_range1 {e : Expr} {p pos : Pos} {m : M (List Slot)} (hg : Gl X "range") (hm : X.mg "range" = none) (ha : PA X [e] (tA md X.K m)) (hs : starEach [e] X.env = [(false, eval e X.env)] := by rfl) : PI X tg (.Call (.Name "range" p) [e] [] pos) (tI md X.K (mRng1 m)) := by
  refine pi_weak (pi_range1 hg hm ha hs) ?_
  rintro σ H R ⟨S, L, env, st, q, st', sm, sl, e, k⟩
  obtain ⟨⟨ss, st1⟩, e1, e⟩ := bindM_some e
  dsimp only at e
  split at e
  · rename_i n
    split at e
    · rename_i hb
      cases e
      refine ⟨S, L, env, st, _, _, sm, sl, e1, fun vs S1 L1 H1 x1 sm1 r1 => ?_⟩
      cases r1 with
      | cons r rr =>
        cases rr
        cases r with
        | im r =>
          cases (show Shp X.K S1 H1 _ (.int n) from .inl r).int
          refine ⟨n, rfl, hb.1, hb.2, k (Itr 0 n.toNat) .non S1 L1 H1 x1 sm1 (.im .non) rfl ?_⟩
          have z := srv_range (md := md) (K := X.K) (v := .non) (lo := 0) (n := n.toNat)
          simp only [Int.zero_add] at z
          exact z.x
    · cases e
  · cases e
theorem i_range2 {a b : Expr} {p pos : Pos} {m : M (List Slot)} (hg : Gl X "range") (hm : X.mg "range" = none) (ha : PA X [a, b] (tA md X.K m)) (hs : starEach [a, b] X.env = [(false, eval a X.env), (false, eval b X.env)] := by rfl) (hs2 : starEach [b] X.env = [(false, eval b X.env)] := by rfl) :
    PI X tg (.Call (.Name "range" p) [a, b] [] pos) (tI md X.K (mRng2 m)) := by
  refine pi_weak (pi_range2 hg hm ha hs hs2) ?_
  rintro σ H R ⟨S, L, env, st, q, st', sm, sl, e, k⟩
  obtain ⟨⟨ss, st1⟩, e1, e⟩ := bindM_some e
  dsimp only at e
  split at e
  · rename_i c n
    split at e
    · rename_i hb
      cases e
      refine ⟨S, L, env, st, _, _, sm, sl, e1, fun vs S1 L1 H1 x1 sm1 r1 => ?_⟩
      cases r1 with
      | cons r rr =>
        cases rr with
        | cons r' rr =>
          cases rr
          cases r with
          | im r =>
            cases r' with
            | im r' =>
              cases (show Shp X.K S1 H1 _ (.int c) from .inl r).int
              cases (show Shp X.K S1 H1 _ (.int n) from .inl r').int
              exact ⟨c, n, rfl, hb, k (Itr c (n - c).toNat) .non S1 L1 H1 x1 sm1 (.im .non) rfl srv_range.x⟩
    · cases e
  · cases e
end
/-! ### defs and their calls -/
inductive Res where
  | val (d : D) | fresh (d : D)
def Res.d : Res → D
  | .val d => d
  | .fresh d => d
abbrev Fn := List Slot → Store → Option (Res × Store)
def spM (K : PySem.W.Frag) (n : Nat) (f : Fn) : Sp := fun vs H Q _ => ∃ md S L args st r st', Sim md K S L H st ∧ Paired (SlotV K S L H) vs args ∧ args.length = n ∧ f args st = some (r, st') ∧
  match r with
  | .val d => ∀ v S' H', Ext S L H S' L H' → S'.nm = S.nm → Sim md K S' L H' st' → Rep K S' H' v d → Q v H'
  | .fresh d => ∀ p S' H', Ext S L H S' L H' → S'.nm = S.nm → Sim md K S' L H' st' → ¬ S p → S' p → p ∉ L → At K S' H' p d → Q (.ref p) H'
/-- slots as data, where cells are at n or behind -/
def frzN (n : Nat) : List Slot → Store → Option (List D)
  | [], _ => some []
  | .im d :: r, st => bindM (frzN n r st) fun ds => some (d :: ds)
  | .pt k :: r, st => if n ≤ k then bindM st[k]? fun d => bindM (frzN n r st) fun ds => some (d :: ds) else none
  | _ :: _, _ => none
def mkFn (N : Nat) (body : StM) : Fn := fun args st => bindM (body (args ++ List.replicate (N - args.length) .no) st) fun r => match r with
  | (.nx, _, st') => some (.val .non, st'.take st.length)
  | (.rt (.im d), _, st') => some (.val d, st'.take st.length)
  | (.rt (.pt k), _, st') => if st.length ≤ k then bindM st'[k]? fun d => some (.fresh d, st'.take st.length) else none
  | (.rtF d, _, st') => some (.fresh d, st'.take st.length)
  | (.rtN ss, _, st') => bindM (frzN st.length ss st') fun ds => some (.fresh (.lst ds), st'.take st.length)
  | _ => none
section
variable {K : PySem.W.Frag} {S S' : Trk} {L L' : List Addr} {H H' : Hp} {st st' : Store}
theorem Paired.takeP {α β : Type} {F : α → β → Prop} : ∀ {a : List α} {b : List β} (n : Nat), Paired F a b → Paired F (a.take n) (b.take n)
  | _, _, 0, _ => .nil
  | _, _, _ + 1, .nil => .nil
  | _, _, n + 1, .cons r t => .cons r (Paired.takeP n t)
/-- the cells that were made since are let go -/
theorem leave (x : Ext S L H S' L' H') (sm : Sim md K S' L' H' st') (hl : L.length = st.length) (hn : S'.nm = S.nm) (lk : ∀ k a, S.nm k = some a → L[k]? = some a) : Ext S L H S' L H' ∧ Sim md K S' L H' (st'.take st.length) := by
  obtain ⟨t, e⟩ := x.pre
  have et : L'.take L.length = L := by rw [e]; simp
  refine ⟨⟨⟨[], by simp⟩, x.up, x.new, x.keep, fun _ h n => (n h).elim, x.nm, x.fx, x.ff⟩, ⟨?_, fun a h => sm.sub a (by rw [e]; exact List.mem_append_left _ h), sm.trk, ?_, sm.fz, fun k a z => lk k a (by rw [← hn]; exact z)⟩⟩
  · have := sm.nd
    rw [e] at this
    exact (List.nodup_append.mp this).1
  · have := Paired.takeP L.length sm.cells
    rw [et, hl] at this
    exact this
theorem frzN_rep {p : Addr} (sm : Sim md K S L H st) (x : Ext S L H S' L' H') (sm1 : Sim md K S' L' H' st') (hn : S'.nm = S.nm) (hi : S' p) (hc : p ∉ L') (hL : L.length = st.length) : ∀ {vs : List V} {ss : List Slot} {ds : List D}, SlotVs K S' L' H' vs ss → frzN st.length ss st' = some ds → Reps K (addS S p) H' vs ds
  | _, _, ds, .nil, e => by cases e; exact .nil
  | _, s :: ss, ds, .cons r t, e => by
    have cr : Carry S' H' (addS S p) H' := .less (fun a z => z.elim (x.up a) fun q => q ▸ hi) (fun k a z => by rw [hn] at z; exact z)
    cases r with
    | im r =>
      obtain ⟨ds', e1, e⟩ := bindM_some (show bindM (frzN st.length ss st') _ = _ from e)
      cases e
      exact .cons (r.carry cr) (frzN_rep sm x sm1 hn hi hc hL t e1)
    | @pt a k q =>
      have e : (if st.length ≤ k then bindM st'[k]? fun d => bindM (frzN st.length ss st') fun ds => some (d :: ds) else none) = some ds := e
      split at e
      · rename_i hk
        obtain ⟨d, e1, e⟩ := bindM_some e
        obtain ⟨ds', e2, e⟩ := bindM_some e
        cases e
        obtain ⟨u, et⟩ := x.pre
        have hnl : a ∉ L := fun z => by
          obtain ⟨i, hi, hie⟩ := List.getElem_of_mem z
          have h1 : L'[i]? = some a := by rw [et, List.getElem?_append_left hi, List.getElem?_eq_getElem hi, hie]
          have := nd_ix sm1.nd h1 q
          omega
        have ha : a ∈ L' := List.mem_of_getElem? q
        obtain ⟨d', e3, hat⟩ := sm1.cell q
        rw [e1] at e3
        cases e3
        refine .cons (.obj (fun z => z.elim (sm.free (x.cel a ha hnl)) fun q => hc (q ▸ ha)) (hat.carry cr rfl)) (frzN_rep sm x sm1 hn hi hc hL t e2)
      · cases e
    | ns => cases e
theorem rtN_fin {p : Addr} {vs : List V} {ss : List Slot} {ds : List D} {R : Prop} (sm : Sim md K S L H st) (x : Ext S L H S' L' H') (sm1 : Sim md K S' L' H' st') (hn : S'.nm = S.nm) (hL : L.length = st.length) (n : ¬ S p) (hi : S' p) (hc : p ∉ L') (hp : H' p = some (.lst vs)) (hv : SlotVs K S' L' H' vs ss) (e : frzN st.length ss st' = some ds)
    (k : Ext S L H (addS S p) L H' → Sim md K (addS S p) L H' (st'.take st.length) → ¬ S p → addS S p p → p ∉ L → At K (addS S p) H' p (.lst ds) → R) : R := by
  obtain ⟨x2, sm2⟩ := leave x sm1 hL hn sm.lk
  obtain ⟨u, et⟩ := x.pre
  have cr : Carry S' H' (addS S p) H' := .less (fun a z => z.elim (x.up a) fun q => q ▸ hi) (fun k a z => by rw [hn] at z; exact z)
  refine k ⟨⟨[], by simp⟩, fun _ z => .inl z, fun a z m => z.elim (fun z => (m z).elim) fun q => (by rw [q]; exact x.new p hi n), x.keep, fun _ h n => (n h).elim, fun _ _ z => z, fun _ => rfl, rfl⟩
    ⟨sm2.nd, fun a h => .inl (sm.sub a h), fun a z => z.elim (fun z => sm1.trk a (x.up a z)) fun q => (by rw [q]; exact ⟨_, hp⟩), Paired.mapP sm2.cells fun a d r => r.carry cr rfl, sm.fz, sm.lk⟩ n (.inr rfl) (fun z => hc (by rw [et]; exact List.mem_append_left _ z))
    (.lst hp (frzN_rep sm x sm1 hn hi hc hL hv e))
theorem slots_start {N : List Str} {vs : List V} {args : List Slot} (h : Paired (SlotV K S L H) vs args) : Slots K S L H (L2.start N vs) (args ++ List.replicate (N.length - args.length) .no) := by
  have hl := h.length
  unfold L2.start
  rw [hl]
  have go : ∀ {vs : List V} {args : List Slot} {k : Nat}, Paired (SlotV K S L H) vs args → Slots K S L H (vs.map some ++ List.replicate k none) (args ++ List.replicate k .no) := by
    intro vs args k h
    induction h with
    | nil =>
      induction k with
      | zero => exact .nil
      | succ k ih => exact .cons .no ih
    | cons r _ ih => exact .cons (.of r) ih
  exact go h
end
/-! ### modes: a def that gives no names -/
def Trk.mode (S : Trk) (b : Bool) : Trk := ⟨S.set, S.nm, b⟩
section
variable {md b : Bool} {K : PySem.W.Frag} {S S1 : Trk} {L L1 : List Addr} {H H1 : Hp} {st st1 : Store}
theorem Carry.mode : Carry S H (S.mode b) H := .less fun _ z => z
theorem Carry.unmode : Carry (S.mode b) H S H := .less fun _ z => z
theorem Sim.mode (sm : Sim md K S L H st) : Sim b K (S.mode b) L H st := ⟨sm.nd, sm.sub, sm.trk, Paired.mapP sm.cells fun a d r => r.carry .mode rfl, rfl, sm.lk⟩
mutual
theorem SlotV.mode : ∀ {v : V} {s : Slot}, SlotV K S L H v s → SlotV K (S.mode b) L H v s
  | _, _, .im r => .im (r.carry .mode)
  | _, _, .pt e => .pt e
  | _, _, .ns h1 h2 h3 h4 => .ns h1 h2 h3 (SlotVs.mode h4)
theorem SlotVs.mode : ∀ {v : List V} {s : List Slot}, SlotVs K S L H v s → SlotVs K (S.mode b) L H v s
  | _, _, .nil => .nil
  | _, _, .cons r t => .cons (SlotV.mode r) (SlotVs.mode t)
end
theorem slots_mode {vs : List V} {ss : List Slot} (h : Paired (SlotV K S L H) vs ss) : Paired (SlotV K (S.mode b) L H) vs ss := Paired.mapP h fun _ _ r => r.mode
/-- back from where no names are given: the cells that were made since are let go -/
theorem leaveM (sm : Sim md K S L H st) (x : Ext (S.mode true) L H S1 L1 H1) (sm1 : Sim true K S1 L1 H1 st1) : Ext S L H (S1.mode md) L H1 ∧ Sim md K (S1.mode md) L H1 (st1.take st.length) := by
  have hL : L.length = st.length := sm.cells.length
  obtain ⟨x2, sm2⟩ := leave x sm1 hL (x.fx rfl) sm.lk
  exact ⟨⟨⟨[], by simp⟩, x2.up, x2.new, x2.keep, x2.cel, x.nm, fun _ => x.fx rfl, sm.fz.symm⟩, sm2.mode⟩
end
/-- a mirror's promise at the start of a body -/
theorem sp_start {K : PySem.W.Frag} {N : List Str} {n : Nat} {m : StM} {vs : List V} {H : Hp} {Q : VK} {E : XK} (h : spM K n (mkFn N.length m) vs H Q E) : tS true K m { nx := fun _ H' => Q .non H', rt := Q } (start N vs) H := by
  obtain ⟨md, S, L, args, st0, r, st', sm, pa, hl, e, q⟩ := h
  obtain ⟨⟨o, env', st1⟩, e1, e⟩ := bindM_some e
  have hL : L.length = st0.length := sm.cells.length
  refine ⟨S.mode true, L, _, st0, o, env', st1, sm.mode, slots_start (slots_mode pa), e1, fun S1 L1 H1 x1 sm1 => ?_⟩
  obtain ⟨x2, sm2⟩ := leaveM sm x1 sm1
  cases o with
  | nx =>
    cases e
    exact fun σ _ => q .non _ H1 x2 (x1.fx rfl) sm2 .non
  | bk => cases e
  | ct => cases e
  | rt s =>
    cases s with
    | no => cases e
    | ns ks => cases e
    | im d =>
      cases e
      intro v hv
      cases hv with | im hv => exact q v _ H1 x2 (x1.fx rfl) sm2 (hv.carry .mode)
    | pt j =>
      have e : (if st0.length ≤ j then bindM st1[j]? fun d => some (Res.fresh d, st1.take st0.length) else none) = some (r, st') := e
      split at e
      · rename_i hj
        obtain ⟨d, e2, e⟩ := bindM_some e
        cases e
        intro v hv
        cases hv with
        | pt hv =>
          rename_i a
          obtain ⟨t, et⟩ := x1.pre
          have hnl : a ∉ L := fun z => by
            obtain ⟨i, hi, hie⟩ := List.getElem_of_mem z
            have h1 : L1[i]? = some a := by rw [et, List.getElem?_append_left hi, List.getElem?_eq_getElem hi, hie]
            have := nd_ix sm1.nd h1 hv
            omega
          have ha : a ∈ L1 := List.mem_of_getElem? hv
          obtain ⟨d', e3, hat⟩ := sm1.cell hv
          rw [e2] at e3
          cases e3
          exact q a _ H1 x2 (x1.fx rfl) sm2 (sm.free (x1.cel a ha hnl)) (sm1.sub a ha) hnl (hat.carry .mode rfl)
      · cases e
  | rtF d =>
    cases e
    exact fun p n i c hat => q p _ H1 x2 (x1.fx rfl) sm2 n i (fun z => c (by obtain ⟨t, et⟩ := x1.pre; rw [et]; exact List.mem_append_left _ z)) (hat.carry .mode rfl)
  | rtN ss =>
    obtain ⟨ds, e2, e⟩ := bindM_some (show bindM (frzN st0.length ss st1) _ = _ from e)
    cases e
    exact fun p vs n i c hp hv => rtN_fin sm.mode x1 sm1 (x1.fx rfl) hL n i c hp hv e2 fun x3 sm3 n3 i3 c3 at3 => q p ((addS (S.mode true) p).mode md) H1 ⟨x3.pre, x3.up, x3.new, x3.keep, x3.cel, fun _ _ z => z, fun _ => rfl, sm.fz.symm⟩ rfl sm3.mode n3 i3 c3 (at3.carry .mode rfl)
section
variable {P : Program} {w : World} {K : PySem.W.Frag} {mg : Str → Option Value} {base : Heap}
theorem f_ok {x qual : Str} {st : Stmt} {f : Addr} {fd : FuncData} {N ps : List Str} {k n : Nat} {m : StM} (F : Fun K x qual st f fd) (Sc : FnScope N ps (defScope st)) (hn : ps.length = n)
    (hb : ∀ (cdv : Value) (A : Around) (outer : List Env) (s : Shared) (H : Hp) (E : XK), Room k (A.deeper (envOfC qual (defScope st) s.heap.objs.size f cdv)) →
      PSs (cxOf CX0 P w K mg base N qual (defScope st) f cdv A outer s H E).nox (defBody st) (tS true K m)) : FnOk P w K mg base CX0 (k + 1) f fd ps (spM K n (mkFn N.length m)) := by
  refine F.ok Sc (fun vs H Q E h => ?_) (fun cdv A outer s H vs Q E hr h => ⟨_, hb cdv A outer s H E hr, sp_start h⟩)
  obtain ⟨md, S, L, args, st, r, st', sm, pa, hl, _⟩ := h
  rw [pa.length, hl, hn]
/-- a weaker promise: the mirror may be replaced by another that tells no more -/
theorem FnOk.mir {k n : Nat} {f : Addr} {fd : FuncData} {ps : List Str} {g g' : Fn} (F : FnOk P w K mg base CX0 k f fd ps (spM K n g)) (h : ∀ args st r, g' args st = some r → g args st = some r) : FnOk P w K mg base CX0 k f fd ps (spM K n g') :=
  F.imp fun vs H Q E ⟨md, S, L, args, st, r, st', sm, pa, hl, e, q⟩ => ⟨md, S, L, args, st, r, st', sm, pa, hl, h _ _ _ e, q⟩
end
def mCall (f : Fn) (ma : M (List Slot)) : M Slot := fun env st => bindM (ma env st) fun r => bindM (f r.1 r.2) fun q => some (.im q.1.d, q.2)
def mCallF (f : Fn) (ma : M (List Slot)) : M D := fun env st => bindM (ma env st) fun r => bindM (f r.1 r.2) fun q => match q.1 with
  | .fresh d => some (d, q.2)
  | .val _ => none
section
variable {X : Cx} {k n : Nat} {f : Addr} {fd : FuncData} {ps : List Str} {g : Fn} {m : M (List Slot)} {e : Expr} {es : List Expr} {E : XK}
theorem call_read {t : TA} {σ : L2.St} {H : Hp} {Q : VK} (hl : ∀ r : List Slot, True) (h : tE md X.K (mCall g m) σ H Q) (hn : ∀ env st r, m env st = some r → r.1.length = n) : tCall (spM X.K n g) [] E (tA md X.K m) σ H Q := by
  obtain ⟨S, L, env, st, s, st', sm, sl, e, k⟩ := h
  obtain ⟨⟨ss, st1⟩, e1, e⟩ := bindM_some e
  obtain ⟨⟨r, st2⟩, e2, e⟩ := bindM_some e
  cases e
  refine ⟨S, L, env, st, ss, st1, sm, sl, e1, fun vs S1 L1 H1 x1 sm1 r1 => ?_⟩
  show spM X.K n g (vs ++ []) H1 Q E
  rw [List.append_nil]
  refine ⟨md, S1, L1, ss, st1, r, _, sm1, r1, hn _ _ _ e1, e2, ?_⟩
  cases r with
  | val d => exact fun v S2 H2 x2 _ sm2 r2 => k v S2 L1 H2 (x1.trans sm.sub x2) sm2 (.im r2)
  | fresh d =>
    intro p S2 H2 x2 _ sm2 n i c hat
    obtain ⟨x3, sm3, r3⟩ := plain_of x2 sm2 n c hat
    exact k _ _ L1 H2 (x1.trans sm.sub x3) sm3 (.im r3)
theorem callF_read {t : TA} {σ : L2.St} {H : Hp} {Q : VK} (h : tF md X.K (mCallF g m) σ H Q) (hn : ∀ env st r, m env st = some r → r.1.length = n) : tCall (spM X.K n g) [] E (tA md X.K m) σ H Q := by
  obtain ⟨S, L, env, st, s, st', sm, sl, e, k⟩ := h
  obtain ⟨⟨ss, st1⟩, e1, e⟩ := bindM_some e
  obtain ⟨⟨r, st2⟩, e2, e⟩ := bindM_some e
  cases r with
  | val d => cases e
  | fresh d =>
    cases e
    refine ⟨S, L, env, st, ss, st1, sm, sl, e1, fun vs S1 L1 H1 x1 sm1 r1 => ?_⟩
    show spM X.K n g (vs ++ []) H1 Q E
    rw [List.append_nil]
    refine ⟨md, S1, L1, ss, st1, .fresh _, _, sm1, r1, hn _ _ _ e1, e2, ?_⟩
    exact fun p S2 H2 x2 _ sm2 n i c hat => k p S2 L1 H2 (x1.trans sm.sub x2) sm2 (fun z => n (x1.up _ z)) i c hat
end
/-- how many arguments there are -/
theorem len_nil : ∀ env st r, mNil env st = some r → r.1.length = 0 := fun env st r e => by cases e; rfl
theorem len_cons {ma : M Slot} {mr : M (List Slot)} {n : Nat} (h : ∀ env st r, mr env st = some r → r.1.length = n) : ∀ env st r, mCons ma mr env st = some r → r.1.length = n + 1 := fun env st r e => by
  obtain ⟨r1, e1, e⟩ := bindM_some e
  obtain ⟨r2, e2, e⟩ := bindM_some e
  cases e
  rw [List.length_cons, h _ _ _ e2]
section
variable {X : Cx} {CX : CXT} {k n : Nat} {f : Addr} {fd : FuncData} {ps : List Str} {g : Fn} {m : M (List Slot)} {e : Expr} {es : List Expr} {x : Str} {p pos : Pos}
theorem j_call (F : FnOk X.prog X.w X.K X.mg X.base CX0 k f fd ps (spM X.K n g)) (hr : Room k X.A) (hg : Gl X x) (hm : X.mg x = some (.ref f)) (hk : PySem.W.keepIn X.K (.ref f) = true) (hb : Binds X.K fd ps []) (ha : PA X (e :: es) (tA md X.K m))
    (hn : ∀ env st r, m env st = some r → r.1.length = n) (hdb : (x == ("__debug__" : Str)) = false := by decide) (he : starEach (e :: es) X.env = (false, eval e X.env) :: starEach es X.env := by rfl) (hpl : (backTo pos (starEach es X.env)).any (·.1) = false := by rfl) :
    PE X (.Call (.Name x p) (e :: es) [] pos) (tE md X.K (mCall g m)) :=
  pe_weak (pe_call F hr hg hm hk hb .nil pass0 ha hdb he hpl) fun _ _ _ h => call_read (t := tA md X.K m) (fun _ => trivial) h hn
theorem f_call (F : FnOk X.prog X.w X.K X.mg X.base CX0 k f fd ps (spM X.K n g)) (hr : Room k X.A) (hg : Gl X x) (hm : X.mg x = some (.ref f)) (hk : PySem.W.keepIn X.K (.ref f) = true) (hb : Binds X.K fd ps []) (ha : PA X (e :: es) (tA md X.K m))
    (hn : ∀ env st r, m env st = some r → r.1.length = n) (hdb : (x == ("__debug__" : Str)) = false := by decide) (he : starEach (e :: es) X.env = (false, eval e X.env) :: starEach es X.env := by rfl) (hpl : (backTo pos (starEach es X.env)).any (·.1) = false := by rfl) :
    PE X (.Call (.Name x p) (e :: es) [] pos) (tF md X.K (mCallF g m)) :=
  pe_weak (pe_call F hr hg hm hk hb .nil pass0 ha hdb he hpl) fun _ _ _ h => callF_read (t := tA md X.K m) h hn
end
end Mi
/-! Mi5: the operations over plain data, one by one. -/
namespace Mi
open PySem L2 PySem.Spec PyProof.Rows
section
variable {K : PySem.W.Frag} {S : Trk} {H : Hp}
theorem new_rep {p : Addr} {o : HO} {d : D} (hS : ∀ a, H a = none → ¬ S a) (hp : H p = none) (h : At K (addS S p) (upd H p o) p d) : Rep K S (upd H p o) (.ref p) d :=
  .obj (hS p hp) (h.carry .remove rfl)
theorem reps_at {xs : List V} {ds : List D} (h : Reps K S H xs ds) {i : Int} {d : D} (e : atI ds i = some d) : ∃ v, atI xs i = some v ∧ Rep K S H v d := by
  unfold atI at e ⊢
  rw [h.length]
  cases hj : ixN ds.length i with
  | none => rw [hj] at e; cases e
  | some j =>
    rw [hj] at e
    exact h.get e
end
/-! ### + -/
def addD : D → D → Option D
  | .int a, .int b => some (.int (a + b))
  | .str a, .str b => if a.length + b.length ≤ 100000 then some (.str (a ++ b)) else none
  | .tup a, .tup b => if a.length + b.length ≤ 100000 then some (.tup (a ++ b)) else none
  | .lst a, .lst b => if a.length + b.length ≤ 100000 then some (.lst (a ++ b)) else none
  | _, _ => none
def addF : D → D → Option D
  | .lst a, .lst b => if a.length + b.length ≤ 100000 then some (.lst (a ++ b)) else none
  | _, _ => none
def rStrAdd : R2 := fun x y H Q => ∃ i j, x = .str i ∧ y = .str j ∧ i.length + j.length ≤ sizeLine ∧ Q (.str (i ++ j)) H
def rAddX (K : PySem.W.Frag) : R2 := fun x y H Q => ((rI0 fun i j => .int (i + j)) x y H Q ∨ rStrAdd x y H Q) ∨ (rCatA K x y H Q ∨ rCat x y H Q)
theorem op_addX {X : Cx} : OpR X (binaryOp .Add) (rAddX X.K) := (op_add.or op_add_str).or (op_catA.or op_cat)
theorem addF_ok {K : PySem.W.Frag} : OpF K (rAddX K) addF := by
  intro S H x y d e z Q hx hy hg k
  cases d with
  | lst a =>
    cases e with
    | lst b =>
      have hg : (if a.length + b.length ≤ 100000 then some (D.lst (a ++ b)) else none) = some z := hg
      split at hg
      · rename_i hl
        cases hg
        obtain ⟨p, xs, rfl, hp, rp⟩ := hx.lst
        obtain ⟨q, ys, rfl, hq, rq⟩ := hy.lst
        exact .inr (.inr ⟨p, q, xs, ys, rfl, rfl, hp, hq, by rw [rp.length, rq.length]; exact sz hl, fun n hn => k n _ hn (Grow.new hn) (at_new_lst hn (rp.append rq))⟩)
      · cases hg
    | _ => cases hg
  | _ => cases hg
theorem addD_ok {K : PySem.W.Frag} : OpD K (rAddX K) addD := by
  intro S H x y d e z Q hS hx hy hg k
  cases d with
  | int a =>
    cases e with
    | int b =>
      cases hg
      cases hx.int
      cases hy.int
      exact .inl (.inl ⟨a, b, rfl, rfl, k _ _ (fun _ _ h => h) (.int _)⟩)
    | _ => cases hg
  | str a =>
    cases e with
    | str b =>
      have hg : (if a.length + b.length ≤ 100000 then some (D.str (a ++ b)) else none) = some z := hg
      split at hg
      · rename_i hl
        cases hg
        cases hx.str
        cases hy.str
        exact .inl (.inr ⟨a, b, rfl, rfl, sz hl, k _ _ (fun _ _ h => h) (.str _)⟩)
      · cases hg
    | _ => cases hg
  | tup a =>
    cases e with
    | tup b =>
      have hg : (if a.length + b.length ≤ 100000 then some (D.tup (a ++ b)) else none) = some z := hg
      split at hg
      · rename_i hl
        cases hg
        have hx' := hx
        have hy' := hy
        obtain ⟨p, xs, rfl, hp, rp⟩ := hx.tup
        obtain ⟨q, ys, rfl, hq, rq⟩ := hy.tup
        refine .inr (.inl ⟨p, q, xs, ys, rfl, rfl, hp, hq, by rw [rp.length, rq.length]; exact sz hl, fun e => ?_, fun _ e => ?_, fun _ _ n hn => ?_⟩)
        · subst e
          cases rp
          exact k _ _ (fun _ _ h => h) hy'.tupR
        · subst e
          cases rq
          rw [List.append_nil] at k
          exact k _ _ (fun _ _ h => h) hx'.tupR
        · exact k _ _ (Grow.new hn) (new_rep hS hn (at_new_tup hn (rp.append rq)))
      · cases hg
    | _ => cases hg
  | lst a =>
    cases e with
    | lst b =>
      have hg : (if a.length + b.length ≤ 100000 then some (D.lst (a ++ b)) else none) = some z := hg
      refine addF_ok S H x y (.lst a) (.lst b) z Q hx hy hg fun p H' hp gr hat => ?_
      exact k _ _ gr (.obj (hS p hp) (hat.carry .remove rfl))
    | _ => cases hg
  | _ => cases hg
def subD : D → D → Option D
  | .int a, .int b => some (.int (a - b))
  | _, _ => none
theorem subD_ok {K : PySem.W.Frag} : OpD K (rI0 fun i j => .int (i - j)) subD := by
  intro S H x y d e z Q hS hx hy hg k
  cases d with
  | int a =>
    cases e with
    | int b =>
      cases hg
      cases hx.int
      cases hy.int
      exact ⟨a, b, rfl, rfl, k _ _ (fun _ _ h => h) (.int _)⟩
    | _ => cases hg
  | _ => cases hg
/-! ### * // % ** -/
def mulD : D → D → Option D
  | .int a, .int b => if a.natAbs.log2 + b.natAbs.log2 < 1000000 then some (.int (a * b)) else none
  | .lst xs, .int n => if -(2 ^ 63) ≤ n ∧ n < 2 ^ 63 ∧ xs.length * n.toNat ≤ 100000 then some (.lst (List.replicate n.toNat xs).flatten) else none
  | _, _ => none
def mulF : D → D → Option D
  | .lst xs, .int n => if -(2 ^ 63) ≤ n ∧ n < 2 ^ 63 ∧ xs.length * n.toNat ≤ 100000 then some (.lst (List.replicate n.toNat xs).flatten) else none
  | _, _ => none
def rMulX : R2 := fun x y H Q => (rI CMulW fun i j => .int (i * j)) x y H Q ∨ rRep x y H Q
theorem op_mulX {X : Cx} : OpR X (binaryOp .Mult) rMulX := op_mulW.or op_rep
theorem mulF_ok {K : PySem.W.Frag} : OpF K rMulX mulF := by
  intro S H x y d e z Q hx hy hg k
  cases d with
  | lst a =>
    cases e with
    | int n =>
      have hg : (if -(2 ^ 63) ≤ n ∧ n < 2 ^ 63 ∧ a.length * n.toNat ≤ 100000 then some (D.lst (List.replicate n.toNat a).flatten) else none) = some z := hg
      split at hg
      · rename_i hl
        cases hg
        obtain ⟨p, xs, rfl, hp, rp⟩ := hx.lst
        cases hy.int
        exact .inr ⟨p, n, xs, rfl, rfl, hp, hl.1, hl.2.1, by rw [rp.length]; exact sz hl.2.2, fun q hq => k q _ hq (Grow.new hq) (at_new_lst hq (rp.rep _))⟩
      · cases hg
    | _ => cases hg
  | _ => cases hg
theorem mulD_ok {K : PySem.W.Frag} : OpD K rMulX mulD := by
  intro S H x y d e z Q hS hx hy hg k
  cases d with
  | int a =>
    cases e with
    | int b =>
      have hg : (if a.natAbs.log2 + b.natAbs.log2 < 1000000 then some (D.int (a * b)) else none) = some z := hg
      split at hg
      · rename_i hl
        cases hg
        cases hx.int
        cases hy.int
        exact .inl ⟨a, b, rfl, rfl, hl, k _ _ (fun _ _ h => h) (.int _)⟩
      · cases hg
    | _ => cases hg
  | lst a =>
    cases e with
    | int n =>
      refine mulF_ok S H x y (.lst a) (.int n) z Q hx hy hg fun p H' hp gr hat => ?_
      exact k _ _ gr (.obj (hS p hp) (hat.carry .remove rfl))
    | _ => cases hg
  | _ => cases hg
def divD : D → D → Option D
  | .int a, .int b => if 0 < b ∧ b.natAbs.log2 < 9000 then some (.int (a / b)) else none
  | _, _ => none
theorem divD_ok {K : PySem.W.Frag} : OpD K (rI CDivW fun i j => .int (i / j)) divD := by
  intro S H x y d e z Q hS hx hy hg k
  cases d with
  | int a =>
    cases e with
    | int b =>
      have hg : (if 0 < b ∧ b.natAbs.log2 < 9000 then some (D.int (a / b)) else none) = some z := hg
      split at hg
      · rename_i hl
        cases hg
        cases hx.int
        cases hy.int
        exact ⟨a, b, rfl, rfl, hl, k _ _ (fun _ _ h => h) (.int _)⟩
      · cases hg
    | _ => cases hg
  | _ => cases hg
def modD : D → D → Option D
  | .int a, .int b => if 0 < b then some (.int (a % b)) else none
  | _, _ => none
theorem modD_ok {K : PySem.W.Frag} : OpD K (rI (fun _ j => 0 < j) fun i j => .int (i % j)) modD := by
  intro S H x y d e z Q hS hx hy hg k
  cases d with
  | int a =>
    cases e with
    | int b =>
      have hg : (if 0 < b then some (D.int (a % b)) else none) = some z := hg
      split at hg
      · rename_i hl
        cases hg
        cases hx.int
        cases hy.int
        exact ⟨a, b, rfl, rfl, hl, k _ _ (fun _ _ h => h) (.int _)⟩
      · cases hg
    | _ => cases hg
  | _ => cases hg
def CPowX (i j : Int) : Prop := 0 ≤ j ∧ j ≤ 100 ∧ i.natAbs.log2 < 100000
theorem op_powX {X : Cx} : OpR X (binaryOp .Pow) (rI CPowX fun i j => .int (i ^ j.toNat)) := opI fun i j _ _ _ _ _ hc q => by
  refine pow_int hc.1 ?_ q
  have hb : Builtin.Int.intBits i ≤ 100000 := by
    unfold Builtin.Int.intBits
    split
    · exact Nat.zero_le _
    · exact hc.2.2
  have h1 : (Builtin.Int.intBits i : Int) * j ≤ 100000 * j := Int.mul_le_mul_of_nonneg_right (by omega) hc.1
  have := hc.2.1
  omega
def powD : D → D → Option D
  | .int a, .int b => if 0 ≤ b ∧ b ≤ 100 ∧ a.natAbs.log2 < 100000 then some (.int (a ^ b.toNat)) else none
  | _, _ => none
theorem powD_ok {K : PySem.W.Frag} : OpD K (rI CPowX fun i j => .int (i ^ j.toNat)) powD := by
  intro S H x y d e z Q hS hx hy hg k
  cases d with
  | int a =>
    cases e with
    | int b =>
      have hg : (if 0 ≤ b ∧ b ≤ 100 ∧ a.natAbs.log2 < 100000 then some (D.int (a ^ b.toNat)) else none) = some z := hg
      split at hg
      · rename_i hl
        cases hg
        cases hx.int
        cases hy.int
        exact ⟨a, b, rfl, rfl, hl, k _ _ (fun _ _ h => h) (.int _)⟩
      · cases hg
    | _ => cases hg
  | _ => cases hg
def negD : D → Option D
  | .int a => some (.int (-a))
  | _ => none
theorem negD_ok {K : PySem.W.Frag} : UnD K (rU fun i => .int (-i)) negD := by
  intro S H x d z Q hS hx hg k
  cases d with
  | int a =>
    cases hg
    cases hx.int
    exact ⟨a, rfl, k _ _ (fun _ _ h => h) (.int _)⟩
  | _ => cases hg
/-! ### == != is, of data -/
mutual
def toPy : D → Option PyData
  | .non => some .none
  | .bl b => some (.bool b)
  | .int i => some (.int i)
  | .str s => some (.str s)
  | .lst ds => bindM (toPys ds) fun ps => some (.list ps)
  | .tup ds => bindM (toPys ds) fun ps => some (.tuple ps)
  | _ => none
def toPys : List D → Option (List PyData)
  | [] => some []
  | d :: ds => bindM (toPy d) fun p => bindM (toPys ds) fun ps => some (p :: ps)
end
section
variable {K : PySem.W.Frag} {S : Trk} {H : Hp}
mutual
theorem Rep.dp : ∀ {v : V} {d : D} {p : PyData}, Rep K S H v d → toPy d = some p → Dp K H v p
  | _, _, _, .non, e => by cases e; exact .non
  | _, _, _, .bl b, e => by cases e; exact .bl b
  | _, _, _, .int i, e => by cases e; exact .int i
  | _, _, _, .str x, e => by cases e; exact .str x
  | _, _, _, .ty x, e => by cases e
  | _, _, _, .obj n h, e => h.dp e
  | _, _, _, .tupK a b c d r h, e => by
    obtain ⟨ps, e1, e⟩ := bindM_some (show bindM (toPys _) _ = some _ from e)
    cases e
    exact .tup (.inr ⟨_, _, _, a, b, c, d, r⟩) (h.dp e1)
  | _, _, _, .scrK _ _ _ _ _ _, e => by cases e
theorem At.dp : ∀ {a : Addr} {d : D} {p : PyData}, At K S H a d → toPy d = some p → Dp K H (.ref a) p
  | _, _, _, .lst h r, e => by
    obtain ⟨ps, e1, e⟩ := bindM_some (show bindM (toPys _) _ = some _ from e)
    cases e
    exact .lst (.of h) (r.dp e1)
  | _, _, _, .tup h r, e => by
    obtain ⟨ps, e1, e⟩ := bindM_some (show bindM (toPys _) _ = some _ from e)
    cases e
    exact .tup (.of h) (r.dp e1)
  | _, _, _, .dic _ _, e => by cases e
  | _, _, _, .dit _ _, e => by cases e
  | _, _, _, .scr _, e => by cases e
theorem Reps.dp : ∀ {vs : List V} {ds : List D} {ps : List PyData}, Reps K S H vs ds → toPys ds = some ps → DpAll K H vs ps
  | _, _, _, .nil, e => by cases e; exact .nil
  | _, _, _, .cons r t, e => by
    obtain ⟨p, e1, e⟩ := bindM_some (show bindM (toPy _) _ = some _ from e)
    obtain ⟨ps, e2, e⟩ := bindM_some e
    cases e
    exact .cons (r.dp e1) (t.dp e2)
end
theorem Shp.dp {v : V} {d : D} {p : PyData} (h : Shp K S H v d) (e : toPy d = some p) : Dp K H v p := by
  rcases h with h | ⟨a, ev, h, _⟩
  · exact h.dp e
  · subst ev
    exact h.dp e
end
def eqOf (d e : D) : Option Bool := bindM (toPy d) fun p => bindM (toPy e) fun q => if SeqAt.shaped p = true ∧ SeqAt.shaped q = true then some (PyData.eqv p q) else none
def eqD (d e : D) : Option D := bindM (eqOf d e) fun b => some (.bl b)
def neD (d e : D) : Option D := bindM (eqOf d e) fun b => some (.bl (!b))
theorem eqD_ok {K : PySem.W.Frag} : OpD K (rEqD K) eqD := by
  intro S H x y d e z Q hS hx hy hg k
  obtain ⟨b, e0, hg⟩ := bindM_some hg
  obtain ⟨p, e1, e0⟩ := bindM_some e0
  obtain ⟨q, e2, e0⟩ := bindM_some e0
  split at e0
  · rename_i hs
    cases e0
    cases hg
    exact ⟨p, q, hx.dp e1, hy.dp e2, hs.1, hs.2, k _ _ (fun _ _ h => h) (.bl _)⟩
  · cases e0
theorem neD_ok {K : PySem.W.Frag} : OpD K (rNeD K) neD := by
  intro S H x y d e z Q hS hx hy hg k
  obtain ⟨b, e0, hg⟩ := bindM_some hg
  obtain ⟨p, e1, e0⟩ := bindM_some e0
  obtain ⟨q, e2, e0⟩ := bindM_some e0
  split at e0
  · rename_i hs
    cases e0
    cases hg
    exact ⟨p, q, hx.dp e1, hy.dp e2, hs.1, hs.2, k _ _ (fun _ _ h => h) (.bl _)⟩
  · cases e0
def isNonD : D → D → Option D
  | .non, .non => some (.bl true)
  | _, .non => some (.bl false)
  | _, _ => none
def isNotNonD : D → D → Option D
  | .non, .non => some (.bl false)
  | _, .non => some (.bl true)
  | _, _ => none
/-! ### < -/
def intsOf : List D → Option (List Int)
  | [] => some []
  | .int i :: ds => bindM (intsOf ds) fun ns => some (i :: ns)
  | _ :: _ => none
theorem reps_intsOf {K : PySem.W.Frag} {S : Trk} {H : Hp} : ∀ {xs : List V} {ds : List D} {ns : List Int}, Reps K S H xs ds → intsOf ds = some ns → xs = ns.map V.int ∧ ds = ns.map D.int
  | _, _, _, .nil, e => by cases e; exact ⟨rfl, rfl⟩
  | _, d :: ds, _, .cons r t, e => by
    cases d with
    | int i =>
      obtain ⟨ns, e1, e⟩ := bindM_some (show bindM (intsOf ds) _ = some _ from e)
      cases e
      obtain ⟨h1, h2⟩ := reps_intsOf t e1
      cases (show Shp K S H _ (.int i) from .inl r).int
      exact ⟨by rw [h1]; rfl, by rw [h2]; rfl⟩
    | _ => cases e
def ltD : D → D → Option D
  | .int a, .int b => some (.bl (decide (a < b)))
  | .tup a, .tup b => bindM (intsOf a) fun ns => bindM (intsOf b) fun ms => some (.bl (HT.lexLt ns ms))
  | _, _ => none
def rLtX (K : PySem.W.Frag) : R2 := fun x y H Q => (rI0 fun i j => .bl (decide (i < j))) x y H Q ∨ rLtT K x y H Q
theorem op_ltX {X : Cx} (hu : X.A.units < cLine) : OpR X (compareOp .Lt) (rLtX X.K) := op_lt.or (op_ltT hu)
theorem ltD_ok {K : PySem.W.Frag} : OpD K (rLtX K) ltD := by
  intro S H x y d e z Q hS hx hy hg k
  cases d with
  | int a =>
    cases e with
    | int b =>
      cases hg
      cases hx.int
      cases hy.int
      exact .inl ⟨a, b, rfl, rfl, k _ _ (fun _ _ h => h) (.bl _)⟩
    | _ => cases hg
  | tup a =>
    cases e with
    | tup b =>
      obtain ⟨ns, e1, hg⟩ := bindM_some (show bindM (intsOf a) _ = some z from hg)
      obtain ⟨ms, e2, hg⟩ := bindM_some hg
      cases hg
      obtain ⟨p, xs, rfl, hp, rp⟩ := hx.tup
      obtain ⟨q, ys, rfl, hq, rq⟩ := hy.tup
      have h1 := (reps_intsOf rp e1).1
      have h2 := (reps_intsOf rq e2).1
      subst h1 h2
      exact .inr ⟨p, q, ns, ms, rfl, rfl, hp, hq, k _ _ (fun _ _ h => h) (.bl _)⟩
    | _ => cases hg
  | _ => cases hg
def cmpD (f : Int → Int → Bool) : D → D → Option D
  | .int a, .int b => some (.bl (f a b))
  | _, _ => none
theorem cmpD_ok {K : PySem.W.Frag} {f : Int → Int → Bool} : OpD K (rI0 fun i j => .bl (f i j)) (cmpD f) := by
  intro S H x y d e z Q hS hx hy hg k
  cases d with
  | int a =>
    cases e with
    | int b =>
      cases hg
      cases hx.int
      cases hy.int
      exact ⟨a, b, rfl, rfl, k _ _ (fun _ _ h => h) (.bl _)⟩
    | _ => cases hg
  | _ => cases hg
def leD := cmpD fun a b => decide (a ≤ b)
def gtD := cmpD fun a b => decide (b < a)
def geD := cmpD fun a b => decide (b ≤ a)
/-! ### is None -/
def nonD : D → Bool
  | .non => true
  | _ => false
theorem shp_non {K : PySem.W.Frag} {S : Trk} {H : Hp} {v : V} {d : D} (h : Shp K S H v d) : decide (v = .non) = nonD d := by
  rcases h with h | ⟨a, e, h, _⟩
  · cases h with
    | non => rfl
    | bl => rfl
    | int => rfl
    | str => rfl
    | ty => rfl
    | fn => rfl
    | «at» => rfl
    | obj n h => cases h <;> rfl
    | tupK _ _ _ _ _ _ => rfl
    | scrK _ _ _ _ _ _ => rfl
  · subst e
    cases h <;> rfl
def isN : D → D → Option D := fun d e => if nonD e = true then some (.bl (nonD d)) else none
def isNotN : D → D → Option D := fun d e => if nonD e = true then some (.bl (!nonD d)) else none
theorem isN_ok {K : PySem.W.Frag} : OpD K (fun x y H Q => y = .non ∧ Q (.bl (decide (x = .non))) H) isN := by
  intro S H x y d e z Q hS hx hy hg k
  have hg : (if nonD e = true then some (D.bl (nonD d)) else none) = some z := hg
  split at hg
  · rename_i he
    cases hg
    have h1 := shp_non hy
    rw [he] at h1
    exact ⟨of_decide_eq_true h1, by rw [shp_non hx]; exact k _ _ (fun _ _ h => h) (.bl _)⟩
  · cases hg
theorem isNotN_ok {K : PySem.W.Frag} : OpD K (fun x y H Q => y = .non ∧ Q (.bl (!decide (x = .non))) H) isNotN := by
  intro S H x y d e z Q hS hx hy hg k
  have hg : (if nonD e = true then some (D.bl (!nonD d)) else none) = some z := hg
  split at hg
  · rename_i he
    cases hg
    have h1 := shp_non hy
    rw [he] at h1
    exact ⟨of_decide_eq_true h1, by rw [shp_non hx]; exact k _ _ (fun _ _ h => h) (.bl _)⟩
  · cases hg
def isBD : D → D → Option D
  | .bl a, .bl b => some (.bl (decide (a = b)))
  | _, _ => none
def isNotBD : D → D → Option D
  | .bl a, .bl b => some (.bl (!decide (a = b)))
  | _, _ => none
theorem isBD_ok {K : PySem.W.Frag} : OpD K rIsB isBD := by
  intro S H x y d e z Q hS hx hy hg k
  cases d with
  | bl a =>
    cases e with
    | bl b =>
      cases hg
      cases hx.bl
      cases hy.bl
      exact ⟨a, b, rfl, rfl, k _ _ (fun _ _ h => h) (.bl _)⟩
    | _ => cases hg
  | _ => cases hg
theorem isNotBD_ok {K : PySem.W.Frag} : OpD K rNotB isNotBD := by
  intro S H x y d e z Q hS hx hy hg k
  cases d with
  | bl a =>
    cases e with
    | bl b =>
      cases hg
      cases hx.bl
      cases hy.bl
      exact ⟨a, b, rfl, rfl, k _ _ (fun _ _ h => h) (.bl _)⟩
    | _ => cases hg
  | _ => cases hg
/-! ### in: lists and tuples of data -/
def inOf (d : D) (ds : List D) : Option Bool := bindM (toPy d) fun p => bindM (toPys ds) fun qs => if SeqAt.shaped p = true ∧ SeqAt.shaped (.list qs) = true then some (qs.any fun z => PyData.eqv z p) else none
def inD (d : D) (e : D) : Option D := match e with
  | .lst ds => bindM (inOf d ds) fun b => some (.bl b)
  | .tup ds => bindM (inOf d ds) fun b => some (.bl b)
  | _ => none
def ninD (d : D) (e : D) : Option D := match e with
  | .lst ds => bindM (inOf d ds) fun b => some (.bl (!b))
  | .tup ds => bindM (inOf d ds) fun b => some (.bl (!b))
  | _ => none
/-! ### places -/
def signs (s : Str) : List D := s.cps.toList.map fun c => D.str ⟨#[c]⟩
def ixD : D → D → Option D
  | .lst ds, .int i => atI ds i
  | .tup ds, .int i => atI ds i
  | .scr ns, .int i => bindM (atI ns i) fun n => some (.int n)
  | .str s, .int i => if s.length ≤ 100000 then bindM (atI s.cps.toList i) fun c => some (.str ⟨#[c]⟩) else none
  | _, _ => none
theorem atI_map {α β : Type} {f : α → β} {xs : List α} {i : Int} {v : α} (h : atI xs i = some v) : atI (xs.map f) i = some (f v) := by
  unfold atI at h ⊢
  rw [List.length_map]
  cases hj : ixN xs.length i with
  | none => rw [hj] at h; cases h
  | some j =>
    rw [hj] at h
    show (xs.map f)[j]? = some (f v)
    rw [List.getElem?_map, show xs[j]? = some v from h]
    rfl
theorem ixD_ok {K : PySem.W.Frag} : OpD K (rIx K) ixD := by
  intro S H x y d e z Q hS hx hy hg k
  cases d with
  | lst ds =>
    cases e with
    | int i =>
      obtain ⟨p, xs, rfl, hp, r⟩ := hx.lst
      cases hy.int
      obtain ⟨v, e1, rv⟩ := reps_at r (show atI ds i = some z from hg)
      exact .inl ⟨p, xs, i, v, rfl, rfl, .of hp, e1, k _ _ (fun _ _ h => h) rv⟩
    | _ => cases hg
  | tup ds =>
    cases e with
    | int i =>
      obtain ⟨p, xs, rfl, hp, r⟩ := hx.tup
      cases hy.int
      obtain ⟨v, e1, rv⟩ := reps_at r (show atI ds i = some z from hg)
      exact .inr (.inl ⟨p, xs, i, v, rfl, rfl, hp, e1, k _ _ (fun _ _ h => h) rv⟩)
    | _ => cases hg
  | scr ns =>
    cases e with
    | int i =>
      obtain ⟨p, rfl, hp⟩ := hx.scr
      cases hy.int
      obtain ⟨n, e1, hg⟩ := bindM_some (show bindM (atI ns i) _ = some z from hg)
      cases hg
      exact .inl ⟨p, _, i, _, rfl, rfl, hp, atI_map e1, k _ _ (fun _ _ h => h) (.int _)⟩
    | _ => cases hg
  | str s =>
    cases e with
    | int i =>
      have hg : (if s.length ≤ 100000 then bindM (atI s.cps.toList i) fun c => some (D.str ⟨#[c]⟩) else none) = some z := hg
      split at hg
      · rename_i hl
        cases hx.str
        cases hy.int
        obtain ⟨c, e1, hg⟩ := bindM_some hg
        cases hg
        exact .inr (.inr ⟨s, i, c, rfl, rfl, sz hl, e1, k _ _ (fun _ _ h => h) (.str _)⟩)
      · cases hg
    | _ => cases hg
  | _ => cases hg
/-! ### slices -/
def tO (md : Bool) (K : PySem.W.Frag) (m : M (Option Int)) : TO := fun σ H Q => ∃ S L env st o st', Sim md K S L H st ∧ Slots K S L H σ env ∧ m env st = some (o, st') ∧ ∀ S' L' H', Ext S L H S' L' H' → Sim md K S' L' H' st' → Q o H'
def mNone : M (Option Int) := fun _ st => some (none, st)
def mSome (m : M Slot) : M (Option Int) := fun env st => bindM (m env st) fun r => match r.1 with
  | .im (.int i) => some (some i, r.2)
  | _ => none
theorem po_weak {X : Cx} {e : Option Expr} {t t' : TO} (h : PO X e t) (w : ∀ σ H Q, t' σ H Q → t σ H Q) : PO X e t' := ⟨fun pins s σ H Q I q => h.run pins s σ H Q I (w σ H Q q)⟩
theorem o_none {X : Cx} : PO X none (tO md X.K mNone) := by
  refine po_weak po_none ?_
  rintro σ H Q ⟨S, L, env, st, o, st', sm, sl, e, k⟩
  cases e
  exact k S L H .refl sm
theorem o_some {X : Cx} {e : Expr} {m : M Slot} (h : PE X e (tE md X.K m)) : PO X (some e) (tO md X.K (mSome m)) := by
  refine po_weak (po_some h) ?_
  rintro σ H Q ⟨S, L, env, st, o, st', sm, sl, e, k⟩
  obtain ⟨⟨s1, st1⟩, e1, e⟩ := bindM_some e
  dsimp only at e
  split at e
  · rename_i i
    cases e
    refine ⟨S, L, env, st, _, _, sm, sl, e1, fun v S1 L1 H1 x1 sm1 r1 => ?_⟩
    cases r1 with
    | im r =>
      exact ⟨i, (show Shp X.K S1 H1 v (.int i) from .inl r).int, k S1 L1 H1 x1 sm1⟩
  · cases e
def cutD {α : Type} (xs : List α) (lo hi : Option Int) : List α := (xs.drop (HT.sIx xs.length 0 lo)).take (HT.sIx xs.length xs.length hi - HT.sIx xs.length 0 lo)
theorem reps_cut {K : PySem.W.Frag} {S : Trk} {H : Hp} {xs : List V} {ds : List D} (r : Reps K S H xs ds) (lo hi : Option Int) : Reps K S H (cutV xs lo hi) (cutD ds lo hi) := by
  unfold cutV cutD
  rw [r.length]
  exact (r.drop _).take _
def slD : D → Option Int → Option Int → Option D
  | .lst ds, lo, hi => some (.lst (cutD ds lo hi))
  | .tup ds, lo, hi => some (.tup (cutD ds lo hi))
  | _, _, _ => none
def slF : D → Option Int → Option Int → Option D
  | .lst ds, lo, hi => some (.lst (cutD ds lo hi))
  | _, _, _ => none
def mSl (m : M Slot) (lo hi : M (Option Int)) : M Slot := fun env st => bindM (m env st) fun r => bindM (lo env r.2) fun l => bindM (hi env l.2) fun h => bindM (deref r.1 h.2) fun d => bindM (slD d l.1 h.1) fun z => some (.im z, h.2)
def mSlF (m : M Slot) (lo hi : M (Option Int)) : M D := fun env st => bindM (m env st) fun r => bindM (lo env r.2) fun l => bindM (hi env l.2) fun h => bindM (deref r.1 h.2) fun d => bindM (slF d l.1 h.1) fun z => some (z, h.2)
def rSlX (K : PySem.W.Frag) : V → Option Int → Option Int → Hp → VK → Prop := fun x lo hi H Q => rSlL K x lo hi H Q ∨ rSlA K x lo hi H Q
theorem sl_X {X : Cx} : SlR X (rSlX X.K) := sl_list.or sl_tupA
theorem cutD_whole {α : Type} {xs : List α} {lo hi : Option Int} (h : HT.sIx xs.length 0 lo = 0 ∧ HT.sIx xs.length xs.length hi = xs.length) : cutD xs lo hi = xs := by
  unfold cutD
  rw [h.1, h.2]
  simp
theorem j_slice {X : Cx} {e : Expr} {lo hi : Option Expr} {m : M Slot} {ml mh : M (Option Int)} {p2 pos : Pos} (he : PE X e (tE md X.K m)) (hl : PO X lo (tO md X.K ml)) (hh : PO X hi (tO md X.K mh)) : PE X (.Subscript e (.Slice lo hi none p2) pos) (tE md X.K (mSl m ml mh)) := by
  refine pe_weak (pe_slice sl_X he hl hh) ?_
  rintro σ H Q ⟨S, L, env, st, s, st', sm, sl, e, k⟩
  obtain ⟨⟨s1, st1⟩, e1, e⟩ := bindM_some e
  obtain ⟨⟨l, st2⟩, e2, e⟩ := bindM_some e
  obtain ⟨⟨h, st3⟩, e3, e⟩ := bindM_some e
  obtain ⟨d, e4, e⟩ := bindM_some e
  obtain ⟨z, e5, e⟩ := bindM_some e
  cases e
  refine ⟨S, L, env, st, s1, st1, sm, sl, e1, fun v S1 L1 H1 x1 sm1 r1 => ?_⟩
  have sl1 := sl.ext sm.sub x1
  refine ⟨S1, L1, env, st1, l, st2, sm1, sl1, e2, fun S2 L2 H2 x2 sm2 => ?_⟩
  have sl2 := sl1.ext sm1.sub x2
  refine ⟨S2, L2, env, st2, h, _, sm2, sl2, e3, fun S3 L3 H3 x3 sm3 => ?_⟩
  have x03 := (x1.trans sm.sub x2).trans sm.sub x3
  have sh := ((r1.ext sm1.sub x2).ext sm2.sub x3).shp sm3 e4
  cases d with
  | lst ds =>
    cases e5
    obtain ⟨p, xs, rfl, hp, r⟩ := sh.lst
    refine .inl ⟨p, xs, rfl, .of hp, fun q hq => ?_⟩
    have ly := sm3.laid hq (Grow.new hq) (at_new_lst hq (reps_cut r l h))
    obtain ⟨x4, sm4, r4⟩ := plain_of ly.ext ly.sim ly.out ly.cell ly.at_
    exact k _ _ L3 _ (x03.trans sm.sub x4) sm4 (.im r4)
  | tup ds =>
    cases e5
    have sh' := sh
    obtain ⟨p, xs, rfl, hp, r⟩ := sh.tup
    refine .inr ⟨p, xs, rfl, hp, fun hw => ?_, fun hw q hq => ?_⟩
    · have hw' : cutD ds l h = ds := cutD_whole (by rw [← r.length]; exact hw)
      dsimp only at k
      rw [hw'] at k
      exact k _ S3 L3 H3 x03 sm3 (.im sh'.tupR)
    · have ly := sm3.laid hq (Grow.new hq) (at_new_tup hq (reps_cut r l h))
      obtain ⟨x4, sm4, r4⟩ := plain_of ly.ext ly.sim ly.out ly.cell ly.at_
      exact k _ _ L3 _ (x03.trans sm.sub x4) sm4 (.im r4)
  | _ => cases e5
end Mi
/-! Mi6: in, calls of built-ins, methods of cells, dicts. -/
namespace Mi
open PySem L2 PySem.Spec PyProof.Rows
/-! ### in -/
def rInX (K : PySem.W.Frag) (neg : Bool) : R2 := fun x y H Q => ∃ d ds, Dp K H x d ∧ (Dp K H y (.list ds) ∨ Dp K H y (.tuple ds)) ∧ SeqAt.shaped d = true ∧ SeqAt.shaped (.list ds) = true ∧ Q (.bl (if neg then !ds.any fun z => PyData.eqv z d else ds.any fun z => PyData.eqv z d)) H
theorem op_inX {X : Cx} (hu : X.A.units + 65 < cLine) : OpR X (compareOp .In) (rInX X.K false) := by
  intro pins s σ H x y v u Q I rx ry h
  obtain ⟨d, ds, hd, he, sd, se, q⟩ := h
  obtain ⟨as, r1⟩ := Dp.reads I d x v hd rx
  have cl : PyData.canLayAll0 ds = true := SeqAt.canLay_of_shaped se
  rcases he with he | he
  · obtain ⟨bs, r2⟩ := Dp.reads I (.list ds) y u he ry
    exact SeqAt.in_list_reads r2 r1 cl (SeqAt.canLay_of_shaped sd) (room_in_shaped sd hu) ⟨.bl _, H, I, rfl, q⟩
  · obtain ⟨bs, r2⟩ := Dp.reads I (.tuple ds) y u he ry
    exact SeqAt.in_tuple_reads r2 r1 cl (SeqAt.canLay_of_shaped sd) (room_in_shaped sd hu) ⟨.bl _, H, I, rfl, q⟩
theorem op_ninX {X : Cx} (hu : X.A.units + 65 < cLine) : OpR X (compareOp .NotIn) (rInX X.K true) := by
  intro pins s σ H x y v u Q I rx ry h
  obtain ⟨d, ds, hd, he, sd, se, q⟩ := h
  obtain ⟨as, r1⟩ := Dp.reads I d x v hd rx
  have cl : PyData.canLayAll0 ds = true := SeqAt.canLay_of_shaped se
  rcases he with he | he
  · obtain ⟨bs, r2⟩ := Dp.reads I (.list ds) y u he ry
    exact SeqAt.notIn_list_reads r2 r1 cl (SeqAt.canLay_of_shaped sd) (room_in_shaped sd hu) ⟨.bl _, H, I, rfl, q⟩
  · obtain ⟨bs, r2⟩ := Dp.reads I (.tuple ds) y u he ry
    exact SeqAt.notIn_tuple_reads r2 r1 cl (SeqAt.canLay_of_shaped sd) (room_in_shaped sd hu) ⟨.bl _, H, I, rfl, q⟩
theorem in_read {K : PySem.W.Frag} {neg : Bool} {S : Trk} {H : Hp} {x y : V} {d e : D} {ds : List D} {b : Bool} {Q : VK} (hx : Shp K S H x d) (hy : Shp K S H y e) (he : e = .lst ds ∨ e = .tup ds) (hg : inOf d ds = some b) (k : Q (.bl (if neg then !b else b)) H) : rInX K neg x y H Q := by
  obtain ⟨p, e1, hg⟩ := bindM_some hg
  obtain ⟨qs, e2, hg⟩ := bindM_some hg
  split at hg
  · rename_i hs
    cases hg
    refine ⟨p, qs, hx.dp e1, ?_, hs.1, hs.2, k⟩
    rcases he with he | he
    · subst he
      exact .inl (hy.dp (by show bindM (toPys ds) _ = _; rw [e2]; rfl))
    · subst he
      exact .inr (hy.dp (by show bindM (toPys ds) _ = _; rw [e2]; rfl))
  · cases hg
theorem inD_ok {K : PySem.W.Frag} : OpD K (rInX K false) inD := by
  intro S H x y d e z Q hS hx hy hg k
  cases e with
  | lst ds =>
    obtain ⟨b, e1, hg⟩ := bindM_some (show bindM (inOf d ds) _ = some z from hg)
    cases hg
    exact in_read hx hy (.inl rfl) e1 (k _ _ (fun _ _ h => h) (.bl _))
  | tup ds =>
    obtain ⟨b, e1, hg⟩ := bindM_some (show bindM (inOf d ds) _ = some z from hg)
    cases hg
    exact in_read hx hy (.inr rfl) e1 (k _ _ (fun _ _ h => h) (.bl _))
  | _ => cases hg
theorem ninD_ok {K : PySem.W.Frag} : OpD K (rInX K true) ninD := by
  intro S H x y d e z Q hS hx hy hg k
  cases e with
  | lst ds =>
    obtain ⟨b, e1, hg⟩ := bindM_some (show bindM (inOf d ds) _ = some z from hg)
    cases hg
    exact in_read hx hy (.inl rfl) e1 (k _ _ (fun _ _ h => h) (.bl _))
  | tup ds =>
    obtain ⟨b, e1, hg⟩ := bindM_some (show bindM (inOf d ds) _ = some z from hg)
    cases hg
    exact in_read hx hy (.inr rfl) e1 (k _ _ (fun _ _ h => h) (.bl _))
  | _ => cases hg
/-! ### calls of built-ins -/
section
variable {K : PySem.W.Frag} {S : Trk} {H : Hp}
theorem shp1 {xs : List V} {d : D} (h : Paired (Shp K S H) xs [d]) : ∃ v, xs = [v] ∧ Shp K S H v d := by
  cases h with | cons r t => cases t; exact ⟨_, rfl, r⟩
theorem shp2 {xs : List V} {d e : D} (h : Paired (Shp K S H) xs [d, e]) : ∃ v w, xs = [v, w] ∧ Shp K S H v d ∧ Shp K S H w e := by
  cases h with | cons r t => cases t with | cons r2 t => cases t; exact ⟨_, _, rfl, r, r2⟩
end
def lenD : List D → Option D
  | [.lst ds] => some (.int (ds.length : Int))
  | [.tup ds] => some (.int (ds.length : Int))
  | [.scr ns] => some (.int (ns.length : Int))
  | [.str s] => if s.length ≤ 100000 then some (.int (s.length : Int)) else none
  | [.dic kvs] => some (.int (kvs.length : Int))
  | _ => none
theorem RepK.len {K : PySem.W.Frag} {S : Trk} {H : Hp} : ∀ {kvs : List (Key × V)} {kds : List (Key × D)}, RepK K S H kvs kds → kvs.length = kds.length
  | _, _, .nil => rfl
  | _, _, .cons _ t => by rw [List.length_cons, List.length_cons, t.len]
def rLenX (K : PySem.W.Frag) : List V → Hp → VK → Prop := fun xs H Q => (∃ p ys, xs = [.ref p] ∧ (SqL K H p ys ∨ SqT K H p ys) ∧ Q (.int ys.length) H) ∨ ((∃ z, xs = [.str z] ∧ z.length ≤ sizeLine ∧ Q (.int z.length) H) ∨ ∃ a kvs, xs = [V.ref a] ∧ H a = some (.dK kvs) ∧ Q (.int kvs.length) H)
theorem call_lenX {X : Cx} : CallR X (.builtin "len") (rLenX X.K) := call_len_seq.or (call_len_str.or call_lenD)
theorem lenD_ok {K : PySem.W.Frag} : CallD K (rLenX K) lenD := by
  intro S H xs ds z Q hS hx hg k
  match ds, hg with
  | [.lst es], hg =>
    cases hg
    obtain ⟨v, rfl, h⟩ := shp1 hx
    obtain ⟨p, ys, rfl, hp, r⟩ := h.lst
    exact .inl ⟨p, ys, rfl, .inl (.of hp), by rw [r.length]; exact k _ _ (fun _ _ h => h) (.int _)⟩
  | [.tup es], hg =>
    cases hg
    obtain ⟨v, rfl, h⟩ := shp1 hx
    obtain ⟨p, ys, rfl, hp, r⟩ := h.tup
    exact .inl ⟨p, ys, rfl, .inr hp, by rw [r.length]; exact k _ _ (fun _ _ h => h) (.int _)⟩
  | [.scr ns], hg =>
    cases hg
    obtain ⟨v, rfl, h⟩ := shp1 hx
    obtain ⟨p, rfl, hp⟩ := h.scr
    exact .inl ⟨p, _, rfl, .inl hp, by rw [List.length_map]; exact k _ _ (fun _ _ h => h) (.int _)⟩
  | [.str s], hg =>
    have hg : (if s.length ≤ 100000 then some (D.int (s.length : Int)) else none) = some z := hg
    split at hg
    · rename_i hl
      cases hg
      obtain ⟨v, rfl, h⟩ := shp1 hx
      cases h.str
      exact .inr (.inl ⟨s, rfl, sz hl, k _ _ (fun _ _ h => h) (.int _)⟩)
    · cases hg
  | [.dic kvs], hg =>
    cases hg
    obtain ⟨v, rfl, h⟩ := shp1 hx
    obtain ⟨a, ps, rfl, ha, r⟩ := h.dic
    exact .inr (.inr ⟨a, ps, rfl, ha, by rw [r.len]; exact k _ _ (fun _ _ h => h) (.int _)⟩)
def blsOf : List D → Option (List Bool)
  | [] => some []
  | .bl i :: ds => bindM (blsOf ds) fun ns => some (i :: ns)
  | _ :: _ => none
theorem reps_blsOf {K : PySem.W.Frag} {S : Trk} {H : Hp} : ∀ {xs : List V} {ds : List D} {ns : List Bool}, Reps K S H xs ds → blsOf ds = some ns → xs = ns.map V.bl
  | _, _, _, .nil, e => by cases e; rfl
  | _, d :: ds, _, .cons r t, e => by
    cases d with
    | bl i =>
      obtain ⟨ns, e1, e⟩ := bindM_some (show bindM (blsOf ds) _ = some _ from e)
      cases e
      rw [reps_blsOf t e1, (show Shp K S H _ (.bl i) from .inl r).bl]
      rfl
    | _ => cases e
def allD : List D → Option D
  | [.lst ds] => bindM (blsOf ds) fun bs => some (.bl (bs.all id))
  | _ => none
def anyD : List D → Option D
  | [.lst ds] => bindM (blsOf ds) fun bs => some (.bl (bs.any id))
  | _ => none
theorem allD_ok {K : PySem.W.Frag} : CallD K (rAll K) allD := by
  intro S H xs ds z Q hS hx hg k
  match ds, hg with
  | [.lst es], hg =>
    obtain ⟨bs, e1, hg⟩ := bindM_some (show bindM (blsOf es) _ = some z from hg)
    cases hg
    obtain ⟨v, rfl, h⟩ := shp1 hx
    obtain ⟨p, ys, rfl, hp, r⟩ := h.lst
    have e2 := reps_blsOf r e1
    subst e2
    exact ⟨p, bs, rfl, .of hp, k _ _ (fun _ _ h => h) (.bl _)⟩
theorem anyD_ok {K : PySem.W.Frag} : CallD K (rAny K) anyD := by
  intro S H xs ds z Q hS hx hg k
  match ds, hg with
  | [.lst es], hg =>
    obtain ⟨bs, e1, hg⟩ := bindM_some (show bindM (blsOf es) _ = some z from hg)
    cases hg
    obtain ⟨v, rfl, h⟩ := shp1 hx
    obtain ⟨p, ys, rfl, hp, r⟩ := h.lst
    have e2 := reps_blsOf r e1
    subst e2
    exact ⟨p, bs, rfl, .of hp, k _ _ (fun _ _ h => h) (.bl _)⟩
/-- list(x), tuple(x) -/
def listD : List D → Option D
  | [.lst ds] => some (.lst ds)
  | [.tup ds] => some (.lst ds)
  | _ => none
def rListOf (K : PySem.W.Frag) : List V → Hp → VK → Prop := fun xs H Q => ∃ p ys, xs = [.ref p] ∧ (SqL K H p ys ∨ SqT K H p ys) ∧ ∀ l, H l = none → Q (.ref l) (upd H l (.lst ys))
theorem listF_ok {K : PySem.W.Frag} : CallF K (rListOf K) listD := by
  intro S H xs ds z Q hx hg k
  match ds, hg with
  | [.lst es], hg =>
    cases hg
    obtain ⟨v, rfl, h⟩ := shp1 hx
    obtain ⟨p, ys, rfl, hp, r⟩ := h.lst
    exact ⟨p, ys, rfl, .inl (.of hp), fun l hl => k l _ hl (Grow.new hl) (at_new_lst hl r)⟩
  | [.tup es], hg =>
    cases hg
    obtain ⟨v, rfl, h⟩ := shp1 hx
    obtain ⟨p, ys, rfl, hp, r⟩ := h.tup
    exact ⟨p, ys, rfl, .inr hp, fun l hl => k l _ hl (Grow.new hl) (at_new_lst hl r)⟩
def tupleD : List D → Option D
  | [.lst ds] => some (.tup ds)
  | [.tup ds] => some (.tup ds)
  | _ => none
def rTupleOf (K : PySem.W.Frag) : List V → Hp → VK → Prop := fun xs H Q => ∃ p ys, xs = [.ref p] ∧ ((SqL K H p ys ∧ ∀ l, H l = none → Q (.ref l) (upd H l (.tup ys))) ∨ (SqT K H p ys ∧ Q (.ref p) H))
theorem tupleD_ok {K : PySem.W.Frag} : CallD K (rTupleOf K) tupleD := by
  intro S H xs ds z Q hS hx hg k
  match ds, hg with
  | [.lst es], hg =>
    cases hg
    obtain ⟨v, rfl, h⟩ := shp1 hx
    obtain ⟨p, ys, rfl, hp, r⟩ := h.lst
    exact ⟨p, ys, rfl, .inl ⟨.of hp, fun l hl => k _ _ (Grow.new hl) (new_rep hS hl (at_new_tup hl r))⟩⟩
  | [.tup es], hg =>
    cases hg
    obtain ⟨v, rfl, h⟩ := shp1 hx
    have h' := h
    obtain ⟨p, ys, rfl, hp, r⟩ := h.tup
    exact ⟨p, ys, rfl, .inr ⟨hp, k _ _ (fun _ _ h => h) h'.tupR⟩⟩
/-- sorted(x), ints -/
def insI (x : Int) : List Int → List Int
  | [] => [x]
  | y :: ys => if x ≤ y then x :: y :: ys else y :: insI x ys
def sortI : List Int → List Int
  | [] => []
  | x :: xs => insI x (sortI xs)
theorem insI_perm (x : Int) : ∀ ys : List Int, (insI x ys).Perm (x :: ys)
  | [] => .refl _
  | y :: ys => by
    unfold insI
    split
    · exact .refl _
    · exact ((insI_perm x ys).cons y).trans (.swap _ _ _)
theorem sortI_perm : ∀ xs : List Int, (sortI xs).Perm xs
  | [] => .refl _
  | x :: xs => (insI_perm x _).trans ((sortI_perm xs).cons x)
theorem insI_sorted (x : Int) : ∀ {ys : List Int}, ys.Pairwise (· ≤ ·) → (insI x ys).Pairwise (· ≤ ·)
  | [], _ => by simp [insI]
  | y :: ys, h => by
    unfold insI
    rw [List.pairwise_cons] at h
    split
    · rename_i hxy
      exact List.pairwise_cons.mpr ⟨fun z hz => by
        rcases List.mem_cons.mp hz with e | e
        · omega
        · exact Int.le_trans hxy (h.1 z e), List.pairwise_cons.mpr h⟩
    · rename_i hxy
      exact List.pairwise_cons.mpr ⟨fun z hz => by
        rcases List.mem_cons.mp ((insI_perm x ys).mem_iff.mp hz) with e | e
        · omega
        · exact h.1 z e, insI_sorted x h.2⟩
theorem sortI_sorted : ∀ xs : List Int, (sortI xs).Pairwise (· ≤ ·)
  | [] => .nil
  | x :: xs => insI_sorted x (sortI_sorted xs)
theorem sorted_unique : ∀ {xs ys : List Int}, xs.Perm ys → xs.Pairwise (· ≤ ·) → ys.Pairwise (· ≤ ·) → xs = ys
  | [], ys, p, _, _ => by rw [p.symm.eq_nil]
  | x :: xs, [], p, _, _ => by cases p.eq_nil
  | x :: xs, y :: ys, p, h1, h2 => by
    have e : x = y := by
      have hx : x ∈ y :: ys := p.mem_iff.mp List.mem_cons_self
      have hy : y ∈ x :: xs := p.mem_iff.mpr List.mem_cons_self
      have a1 : x ≤ y := by
        rcases List.mem_cons.mp hy with e | e
        · omega
        · exact (List.pairwise_cons.mp h1).1 y e
      have a2 : y ≤ x := by
        rcases List.mem_cons.mp hx with e | e
        · omega
        · exact (List.pairwise_cons.mp h2).1 x e
      omega
    subst e
    rw [sorted_unique (List.Perm.cons_inv p) (List.pairwise_cons.mp h1).2 (List.pairwise_cons.mp h2).2]
def sortedD : List D → Option D
  | [.lst ds] => bindM (intsOf ds) fun ns => some (.lst ((sortI ns).map D.int))
  | _ => none
theorem sortedF_ok {K : PySem.W.Frag} : CallF K (rSortedI K) sortedD := by
  intro S H xs ds z Q hx hg k
  match ds, hg with
  | [.lst es], hg =>
    obtain ⟨ns, e1, hg⟩ := bindM_some (show bindM (intsOf es) _ = some z from hg)
    cases hg
    obtain ⟨v, rfl, h⟩ := shp1 hx
    obtain ⟨p, ys, rfl, hp, r⟩ := h.lst
    obtain ⟨e2, _⟩ := reps_intsOf r e1
    subst e2
    refine ⟨p, ns, rfl, .of hp, fun ns' l hperm hsort hl => ?_⟩
    have e3 : ns' = sortI ns := sorted_unique (hperm.trans (sortI_perm ns).symm) hsort (sortI_sorted ns)
    subst e3
    exact k l _ hl (Grow.new hl) (at_new_lst hl (reps_ints _))
def max2D : List D → Option D
  | [.int i, .int j] => some (.int (if j > i then j else i))
  | _ => none
def min2D : List D → Option D
  | [.int i, .int j] => some (.int (if j < i then j else i))
  | _ => none
theorem max2D_ok {K : PySem.W.Frag} : CallD K (fun xs H Q => ∃ i j, xs = [.int i, .int j] ∧ Q (.int (if j > i then j else i)) H) max2D := by
  intro S H xs ds z Q hS hx hg k
  match ds, hg with
  | [.int i, .int j], hg =>
    cases hg
    obtain ⟨v, w, rfl, h1, h2⟩ := shp2 hx
    cases h1.int
    cases h2.int
    exact ⟨i, j, rfl, k _ _ (fun _ _ h => h) (.int _)⟩
theorem min2D_ok {K : PySem.W.Frag} : CallD K (fun xs H Q => ∃ i j, xs = [.int i, .int j] ∧ Q (.int (if j < i then j else i)) H) min2D := by
  intro S H xs ds z Q hS hx hg k
  match ds, hg with
  | [.int i, .int j], hg =>
    cases hg
    obtain ⟨v, w, rfl, h1, h2⟩ := shp2 hx
    cases h1.int
    cases h2.int
    exact ⟨i, j, rfl, k _ _ (fun _ _ h => h) (.int _)⟩
/-- int(x) of an int or a truth -/
def intD : List D → Option D
  | [.int i] => some (.int i)
  | [.bl b] => some (.int (if b then 1 else 0))
  | _ => none
theorem intD_ok {K : PySem.W.Frag} : CallD K (fun xs H Q => (∃ i, xs = [.int i] ∧ Q (.int i) H) ∨ ∃ k, xs = [.bl k] ∧ Q (.int (if k then 1 else 0)) H) intD := by
  intro S H xs ds z Q hS hx hg k
  match ds, hg with
  | [.int i], hg =>
    cases hg
    obtain ⟨v, rfl, h⟩ := shp1 hx
    cases h.int
    exact .inl ⟨i, rfl, k _ _ (fun _ _ h => h) (.int _)⟩
  | [.bl b], hg =>
    cases hg
    obtain ⟨v, rfl, h⟩ := shp1 hx
    cases h.bl
    exact .inr ⟨b, rfl, k _ _ (fun _ _ h => h) (.int _)⟩
end Mi
/-! Mi7: isinstance, least and greatest, methods of cells, stores by place, dicts. -/
namespace Mi
open PySem L2 PySem.Spec PyProof.Rows
/-! ### isinstance -/
def tyName : D → Option String
  | .non => some "NoneType"
  | .bl _ => some "bool"
  | .int _ => some "int"
  | .str _ => some "str"
  | .lst _ => some "list"
  | .tup _ => some "tuple"
  | .dic _ => some "dict"
  | .dit _ => some "dict"
  | .scr _ => some "list"
  | .ty _ => none
  | .ins _ _ => none
  | .fn _ => none
  | .at _ => none
  | .exc _ _ => none
/-- is a thing of the first kind one of the second -/
def kindIs (a b : String) : Option Bool :=
  if b = "int" then some (a == "int" || a == "bool") else if b = "bool" then some (a == "bool") else if b = "str" then some (a == "str") else if b = "list" then some (a == "list") else if b = "tuple" then some (a == "tuple") else if b = "dict" then some (a == "dict") else none
theorem kind_tab : (["NoneType", "bool", "int", "str", "list", "tuple", "dict"].all fun a => ["int", "bool", "str", "list", "tuple", "dict"].all fun b => kitB a b == kindIs a b) = true := by decide +kernel
theorem kindIs_kit {a b : String} {r : Bool} (ha : a ∈ ["NoneType", "bool", "int", "str", "list", "tuple", "dict"]) (h : kindIs a b = some r) : kitB a b = some r := by
  have hb : b ∈ ["int", "bool", "str", "list", "tuple", "dict"] := by
    unfold kindIs at h
    repeat' split at h
    all_goals first | (simp only [List.mem_cons, *, true_or, or_true]; done) | (simp at h; done)
  have := List.all_eq_true.mp (List.all_eq_true.mp kind_tab a ha) b hb
  rw [beq_iff_eq] at this
  rw [this, h]
theorem tyName_mem {d : D} {a : String} (h : tyName d = some a) : a ∈ ["NoneType", "bool", "int", "str", "list", "tuple", "dict"] := by
  cases d <;> cases h <;> decide
theorem shp_ty {K : PySem.W.Frag} {S : Trk} {H : Hp} {v : V} {d : D} {a : String} (h : Shp K S H v d) (e : tyName d = some a) : TyX K H v (.type a) := by
  have at_ : ∀ {p : Addr} {d : D}, At K S H p d → tyName d = some a → TyX K H (.ref p) (.type a) := fun {p d} h e => by
    cases h with
    | lst q r => cases e; exact .base (.lst q)
    | tup q r => cases e; exact .base (.tup q)
    | dic q r => cases e; exact .base (.dK q)
    | dit q r => cases e; exact .base (.dT q)
    | scr q => cases e; exact .base (.frz q)
    | ins _ _ => cases e
    | exc0 _ => cases e
    | excD _ _ _ _ => cases e
  rcases h with h | ⟨p, ev, h, _⟩
  · cases h with
    | non => cases e; exact .base .non
    | bl b => cases e; exact .base (.bl b)
    | int b => cases e; exact .base (.int b)
    | str b => cases e; exact .base (.str b)
    | ty _ => cases e
    | fn _ => cases e
    | «at» _ => cases e
    | obj n h => exact at_ h e
    | tupK a b c d r h => cases e; exact .kTuple a b
    | scrK a b c d r h => cases e; exact .kList a b
  · subst ev
    exact at_ h e
def isiD : List D → Option D
  | [d, .ty b] => bindM (tyName d) fun a => bindM (kindIs a b) fun r => some (.bl r)
  | _ => none
theorem isiD_ok {K : PySem.W.Frag} : CallD K (rIsi K) isiD := by
  intro S H xs ds z Q hS hx hg k
  match ds, hg with
  | [d, .ty b], hg =>
    obtain ⟨a, e1, hg⟩ := bindM_some (show bindM (tyName d) _ = some z from hg)
    obtain ⟨r, e2, hg⟩ := bindM_some hg
    cases hg
    obtain ⟨v, w, rfl, h1, h2⟩ := shp2 hx
    cases h2.ty
    exact ⟨v, .ty b, .type a, .type b, r, rfl, .ty b, shp_ty h1 e1, kit_ty (kindIs_kit (tyName_mem e1) e2), k _ _ (fun _ _ h => h) (.bl _)⟩
/-- isinstance(x, (S, T, ..)): the tuple is made in the call -/
def kindAny (a : String) : List D → Option Bool
  | [] => some false
  | .ty b :: r => bindM (kindIs a b) fun k => bindM (kindAny a r) fun q => some (k || q)
  | _ => none
def isiTD : List D → Option D
  | [d, .tup ts] => bindM (tyName d) fun a => bindM (kindAny a ts) fun r => some (.bl r)
  | _ => none
theorem kindAny_kit {K : PySem.W.Frag} {S : Trk} {H : Hp} {a : String} (ha : a ∈ ["NoneType", "bool", "int", "str", "list", "tuple", "dict"]) : ∀ {cs : List V} {ts : List D} {r : Bool}, Reps K S H cs ts → kindAny a ts = some r → ∃ us, Paired ClsV cs us ∧ PySem.W.kitAny K (.type a) us = some r
  | _, _, _, .nil, e => by cases e; exact ⟨[], .nil, rfl⟩
  | _, d :: ts, _, .cons r t, e => by
    cases d with
    | ty b =>
      obtain ⟨k, e1, e⟩ := bindM_some (show bindM (kindIs a b) _ = some _ from e)
      obtain ⟨q, e2, e⟩ := bindM_some e
      cases e
      obtain ⟨us, h1, h2⟩ := kindAny_kit ha t e2
      have hv := (show Shp K S H _ (.ty b) from .inl r).ty
      subst hv
      refine ⟨.type b :: us, .cons (.ty b) h1, kitAny_cons (kit_ty (kindIs_kit ha e1)) (fun hk => by subst hk; rw [Bool.false_or]; exact h2) (fun hk => by subst hk; rfl)⟩
    | _ => cases e
theorem shp_tup_any {K : PySem.W.Frag} {S : Trk} {H : Hp} {v : V} {ds : List D} (h : Shp K S H v (.tup ds)) : (∃ p cs, v = .ref p ∧ H p = some (.tup cs) ∧ Reps K S H cs ds) ∨ ∃ p o its n cs, v = .ref p ∧ K.lookup p = some o ∧ o.cls = .type "tuple" ∧ o.data = .seq its n ∧ Vals cs its.toList ∧ Reps K S H cs ds := by
  cases h.tupR with
  | obj n q => cases q with | tup e r => exact .inl ⟨_, _, rfl, e, r⟩
  | tupK a b c d r h => exact .inr ⟨_, _, _, _, _, rfl, a, b, c, r, h⟩
def rIsiX (K : PySem.W.Frag) : List V → Hp → VK → Prop := fun xs H Q => rIsiT K xs H Q ∨ rIsiK K xs H Q
theorem call_isiX {X : Cx} : CallR X (.builtin "isinstance") (rIsiX X.K) := call_isiT.or call_isiK
theorem isiTD_ok {K : PySem.W.Frag} : CallD K (rIsiX K) isiTD := by
  intro S H xs ds z Q hS hx hg k
  match ds, hg with
  | [d, .tup ts], hg =>
    obtain ⟨a, e1, hg⟩ := bindM_some (show bindM (tyName d) _ = some z from hg)
    obtain ⟨r, e2, hg⟩ := bindM_some hg
    cases hg
    obtain ⟨v, w, rfl, h1, h2⟩ := shp2 hx
    rcases shp_tup_any h2 with ⟨p, cs, rfl, hp, rs⟩ | ⟨p, o, its, n, cs, rfl, hk, hc, hd, rv, rs⟩
    · obtain ⟨us, g1, g2⟩ := kindAny_kit (tyName_mem e1) rs e2
      exact .inl ⟨v, p, cs, .type a, us, r, rfl, hp, g1, shp_ty h1 e1, g2, k _ _ (fun _ _ h => h) (.bl _)⟩
    · obtain ⟨us, g1, g2⟩ := kindAny_kit (tyName_mem e1) rs e2
      have eu : its.toList = us := ClsV.all g1 rv
      obtain ⟨oc, od, dt, sl⟩ := o
      have hc : oc = .type "tuple" := hc
      have hd : dt = .seq its n := hd
      subst hc hd
      refine .inr ⟨v, p, od, us, n, sl, .type a, r, rfl, ?_, shp_ty h1 e1, g2, k _ _ (fun _ _ h => h) (.bl _)⟩
      rw [hk, ← eu]
/-! ### min, max of a list of ints -/
def leastI : Int → List Int → Int
  | m, [] => m
  | m, x :: xs => leastI (if x < m then x else m) xs
def greatI : Int → List Int → Int
  | m, [] => m
  | m, x :: xs => greatI (if m < x then x else m) xs
theorem leastI_le : ∀ (xs : List Int) (m : Int), leastI m xs ≤ m ∧ (∀ y ∈ xs, leastI m xs ≤ y) ∧ (leastI m xs = m ∨ leastI m xs ∈ xs)
  | [], m => ⟨Int.le_refl m, fun y h => (nomatch h), .inl rfl⟩
  | x :: xs, m => by
    obtain ⟨c, hc⟩ : ∃ c, c = (if x < m then x else m) := ⟨_, rfl⟩
    have hb : c ≤ m ∧ c ≤ x ∧ (c = m ∨ c = x) := by
      rw [hc]
      split <;> omega
    have e : leastI m (x :: xs) = leastI c xs := by rw [hc]; rfl
    rw [e]
    obtain ⟨h1, h2, h3⟩ := leastI_le xs c
    refine ⟨by omega, fun y hy => ?_, ?_⟩
    · rcases List.mem_cons.mp hy with e | e
      · omega
      · exact h2 y e
    · rcases h3 with h3 | h3
      · rcases hb.2.2 with q | q
        · exact .inl (h3.trans q)
        · exact .inr (by rw [h3, q]; exact List.mem_cons_self)
      · exact .inr (List.mem_cons_of_mem _ h3)
theorem greatI_ge : ∀ (xs : List Int) (m : Int), m ≤ greatI m xs ∧ (∀ y ∈ xs, y ≤ greatI m xs) ∧ (greatI m xs = m ∨ greatI m xs ∈ xs)
  | [], m => ⟨Int.le_refl m, fun y h => (nomatch h), .inl rfl⟩
  | x :: xs, m => by
    obtain ⟨c, hc⟩ : ∃ c, c = (if m < x then x else m) := ⟨_, rfl⟩
    have hb : m ≤ c ∧ x ≤ c ∧ (c = m ∨ c = x) := by
      rw [hc]
      split <;> omega
    have e : greatI m (x :: xs) = greatI c xs := by rw [hc]; rfl
    rw [e]
    obtain ⟨h1, h2, h3⟩ := greatI_ge xs c
    refine ⟨by omega, fun y hy => ?_, ?_⟩
    · rcases List.mem_cons.mp hy with e | e
      · omega
      · exact h2 y e
    · rcases h3 with h3 | h3
      · rcases hb.2.2 with q | q
        · exact .inl (h3.trans q)
        · exact .inr (by rw [h3, q]; exact List.mem_cons_self)
      · exact .inr (List.mem_cons_of_mem _ h3)
def minLD : List D → Option D
  | [.lst ds] => bindM (intsOf ds) fun ns => match ns with
    | [] => none
    | n :: r => some (.int (leastI n r))
  | _ => none
def maxLD : List D → Option D
  | [.lst ds] => bindM (intsOf ds) fun ns => match ns with
    | [] => none
    | n :: r => some (.int (greatI n r))
  | _ => none
theorem minLD_ok {K : PySem.W.Frag} : CallD K (rMin K) minLD := by
  intro S H xs ds z Q hS hx hg k
  match ds, hg with
  | [.lst es], hg =>
    obtain ⟨ns, e1, hg⟩ := bindM_some (show bindM (intsOf es) _ = some z from hg)
    obtain ⟨v, rfl, h⟩ := shp1 hx
    obtain ⟨p, ys, rfl, hp, rr⟩ := h.lst
    obtain ⟨e2, _⟩ := reps_intsOf rr e1
    clear rr
    subst e2
    cases ns with
    | nil => cases hg
    | cons n r =>
      cases hg
      refine ⟨p, n :: r, rfl, .of hp, by simp, fun m hm hle => ?_⟩
      obtain ⟨h1, h2, h3⟩ := leastI_le r n
      have e : m = leastI n r := by
        have a1 : leastI n r ∈ n :: r := by
          rcases h3 with h3 | h3
          · rw [h3]; exact List.mem_cons_self
          · exact List.mem_cons_of_mem _ h3
        have a2 := hle _ a1
        rcases List.mem_cons.mp hm with e | e
        · omega
        · have := h2 m e
          omega
      subst e
      exact k _ _ (fun _ _ h => h) (.int _)
theorem maxLD_ok {K : PySem.W.Frag} : CallD K (rMax K) maxLD := by
  intro S H xs ds z Q hS hx hg k
  match ds, hg with
  | [.lst es], hg =>
    obtain ⟨ns, e1, hg⟩ := bindM_some (show bindM (intsOf es) _ = some z from hg)
    obtain ⟨v, rfl, h⟩ := shp1 hx
    obtain ⟨p, ys, rfl, hp, rr⟩ := h.lst
    obtain ⟨e2, _⟩ := reps_intsOf rr e1
    clear rr
    subst e2
    cases ns with
    | nil => cases hg
    | cons n r =>
      cases hg
      refine ⟨p, n :: r, rfl, .of hp, by simp, fun m hm hle => ?_⟩
      obtain ⟨h1, h2, h3⟩ := greatI_ge r n
      have e : m = greatI n r := by
        have a1 : greatI n r ∈ n :: r := by
          rcases h3 with h3 | h3
          · rw [h3]; exact List.mem_cons_self
          · exact List.mem_cons_of_mem _ h3
        have a2 := hle _ a1
        rcases List.mem_cons.mp hm with e | e
        · omega
        · have := h2 m e
          omega
      subst e
      exact k _ _ (fun _ _ h => h) (.int _)
theorem Paired.mapPm {α β : Type} {F G : α → β → Prop} : ∀ {l₁ : List α} {l₂ : List β}, Paired F l₁ l₂ → (∀ a b, a ∈ l₁ → F a b → G a b) → Paired G l₁ l₂
  | _, _, .nil, _ => .nil
  | _, _, .cons r t, f => .cons (f _ _ List.mem_cons_self r) (Paired.mapPm t fun a b h => f a b (List.mem_cons_of_mem _ h))
/-! ### a cell's content changes -/
section
variable {K : PySem.W.Frag} {S : Trk} {L : List Addr} {H : Hp} {st : Store}
theorem Sim.put (sm : Sim md K S L H st) {k : Nat} {a : Addr} (ha : L[k]? = some a) {o : HO} {d : D} (h : At K S (upd H a o) a d) : Sim md K S L (upd H a o) (st.set k d) ∧ Ext S L H S L (upd H a o) := by
  have hS : S a := sm.sub a (List.mem_of_getElem? ha)
  have cr : Carry S H S (upd H a o) := ⟨fun _ _ _ n => n, fun b u e n => by rw [upd_ne (fun z => n (by rw [z]; exact hS))]; exact e, fun _ _ z => z⟩
  refine ⟨⟨sm.nd, sm.sub, fun b z => ?_, ?_, sm.fz, sm.lk⟩, ⟨⟨[], by simp⟩, fun _ z => z, fun _ z n => (n z).elim, fun b u e n => ?_, fun _ z n => (n z).elim, fun _ _ z => z, fun _ => rfl, rfl⟩⟩
  · by_cases c : b = a
    · subst c; exact ⟨o, upd_same⟩
    · obtain ⟨u, e⟩ := sm.trk b z
      exact ⟨u, by rw [upd_ne c]; exact e⟩
  · have go : ∀ {l : List Addr} {t : Store} {k : Nat}, l.Nodup → l[k]? = some a → Paired (At K S H) l t → Paired (At K S (upd H a o)) l (t.set k d) := by
      intro l t k nd hk q
      induction q generalizing k with
      | nil => simp at hk
      | @cons b d' l t r q ih =>
        rw [List.nodup_cons] at nd
        cases k with
        | zero =>
          have hb : b = a := by simpa using hk
          subst hb
          refine .cons h (Paired.mapPm q fun x d'' hx r' => ?_)
          exact r'.carry cr (upd_ne fun z => nd.1 (z ▸ hx))
        | succ k =>
          have hk' : l[k]? = some a := by simpa using hk
          refine .cons (r.carry cr (upd_ne fun z => nd.1 (z ▸ List.mem_of_getElem? hk'))) (ih nd.2 hk')
    exact go sm.nd ha sm.cells
  · exact by rw [upd_ne (fun z => n (by rw [z]; exact List.mem_of_getElem? ha))]; exact e
end
end Mi
/-! Mi8: methods of cells, stores by place, dicts with plain keys. -/
namespace Mi
open PySem L2 PySem.Spec PyProof.Rows
/-! ### methods that change a cell -/
def mMeth (isT : D → Bool) (g : D → List D → Option (D × D)) (mo : M Slot) (ma : M (List Slot)) : M Slot := fun env st => bindM (mo env st) fun r1 => match r1.1 with
  | .pt k => bindM r1.2[k]? fun d0 => if isT d0 = true then bindM (ma env r1.2) fun r2 => bindM r2.2[k]? fun d => bindM (imsOf r2.1) fun ds => bindM (g d ds) fun q => some (.im q.2, r2.2.set k q.1) else none
  | _ => none
/-- .. whose argument may be a cell -/
def mMethS (isT : D → Bool) (g : D → List D → Option (D × D)) (mo : M Slot) (ma : M (List Slot)) : M Slot := fun env st => bindM (mo env st) fun r1 => match r1.1 with
  | .pt k => bindM r1.2[k]? fun d0 => if isT d0 = true then bindM (ma env r1.2) fun r2 => bindM r2.2[k]? fun d => bindM (derefs r2.1 r2.2) fun ds => bindM (g d ds) fun q => some (.im q.2, r2.2.set k q.1) else none
  | _ => none
def isL : D → Bool
  | .lst _ => true
  | _ => false
def isDi : D → Bool
  | .dic _ => true
  | _ => false
def MethD (K : PySem.W.Frag) (r : V → List V → Hp → VK → Prop) (g : D → List D → Option (D × D)) : Prop := ∀ (S : Trk) (H : Hp) (a : Addr) (vs : List V) (ds : List D) (d d' z : D) (Q : VK), At K S H a d → S a → Reps K S H vs ds → g d ds = some (d', z) →
  (∀ v o, At K S (upd H a o) a d' → Rep K S (upd H a o) v z → Q v (upd H a o)) → r (.ref a) vs H Q
def MethS (K : PySem.W.Frag) (r : V → List V → Hp → VK → Prop) (g : D → List D → Option (D × D)) : Prop := ∀ (S : Trk) (H : Hp) (a : Addr) (vs : List V) (ds : List D) (d d' z : D) (Q : VK), At K S H a d → S a → Paired (Shp K S H) vs ds → g d ds = some (d', z) →
  (∀ v o, At K S (upd H a o) a d' → Rep K S (upd H a o) v z → Q v (upd H a o)) → r (.ref a) vs H Q
theorem carry_upd {K : PySem.W.Frag} {S : Trk} {H : Hp} {a : Addr} {o : HO} (h : S a) : Carry S H S (upd H a o) := ⟨fun _ _ _ n => n, fun b u e n => by rw [upd_ne (fun z => n (by rw [z]; exact h))]; exact e, fun _ _ z => z⟩
theorem tyV_list {K : PySem.W.Frag} {S : Trk} {H : Hp} {a : Addr} {d : D} (h : At K S H a d) (e : isL d = true) : tyV K "list" (.ref a) H := by
  cases h with
  | lst q r => exact .inl ⟨rfl, _, .of q⟩
  | _ => cases e
theorem tyV_dict {K : PySem.W.Frag} {S : Trk} {H : Hp} {a : Addr} {d : D} (h : At K S H a d) (e : isDi d = true) : tyV K "dict" (.ref a) H := by
  cases h with
  | dic q r => exact .inr (.inr (.inl ⟨rfl, .inl ⟨_, q⟩⟩))
  | _ => cases e
section
variable {X : Cx} {e : Expr} {T : String} {r : V → List V → Hp → VK → Prop} {g : D → List D → Option (D × D)} {mo : M Slot} {ma : M (List Slot)} {isT : D → Bool}
theorem j_meth (hp : PE X e (tBM X.K T r (tE md X.K mo) (tA md X.K ma))) (hT : ∀ S H a d, At X.K S H a d → isT d = true → tyV X.K T (.ref a) H) (hg : MethD X.K r g) : PE X e (tE md X.K (mMeth isT g mo ma)) := by
  refine pe_weak hp ?_
  rintro σ H Q ⟨S, L, env, st, s, st', sm, sl, e, k⟩
  obtain ⟨⟨s1, st1⟩, e1, e⟩ := bindM_some e
  dsimp only at e
  split at e
  · rename_i kk
    obtain ⟨d0, f0, e⟩ := bindM_some e
    split at e
    · rename_i hd0
      obtain ⟨⟨ss, st2⟩, e2, e⟩ := bindM_some e
      obtain ⟨d, f1, e⟩ := bindM_some e
      obtain ⟨ds, f2, e⟩ := bindM_some e
      obtain ⟨⟨d', z⟩, f3, e⟩ := bindM_some e
      cases e
      refine ⟨S, L, env, st, _, st1, sm, sl, e1, fun v S1 L1 H1 x1 sm1 r1 => ?_⟩
      cases r1 with
      | pt ha =>
        rename_i a
        obtain ⟨d0', g0, hat0⟩ := sm1.cell ha
        rw [f0] at g0
        cases g0
        refine ⟨hT _ _ _ _ hat0 hd0, ?_⟩
        refine ⟨S1, L1, env, st1, ss, st2, sm1, sl.ext sm.sub x1, e2, fun vs S2 L2 H2 x2 sm2 r2 => ?_⟩
        have ha2 := x2.get ha
        obtain ⟨d'', g1, hat⟩ := sm2.cell ha2
        rw [f1] at g1
        cases g1
        refine hg S2 H2 a vs ds d d' z Q hat (sm2.sub a (List.mem_of_getElem? ha2)) (ims_rep r2 f2) f3 fun w o hat' hw => ?_
        obtain ⟨sm3, x3⟩ := sm2.put ha2 hat'
        exact k w S2 L2 _ ((x1.trans sm.sub x2).trans sm.sub x3) sm3 (.im hw)
    · cases e
  · cases e
theorem j_methS (hp : PE X e (tBM X.K T r (tE md X.K mo) (tA md X.K ma))) (hT : ∀ S H a d, At X.K S H a d → isT d = true → tyV X.K T (.ref a) H) (hg : MethS X.K r g) : PE X e (tE md X.K (mMethS isT g mo ma)) := by
  refine pe_weak hp ?_
  rintro σ H Q ⟨S, L, env, st, s, st', sm, sl, e, k⟩
  obtain ⟨⟨s1, st1⟩, e1, e⟩ := bindM_some e
  dsimp only at e
  split at e
  · rename_i kk
    obtain ⟨d0, f0, e⟩ := bindM_some e
    split at e
    · rename_i hd0
      obtain ⟨⟨ss, st2⟩, e2, e⟩ := bindM_some e
      obtain ⟨d, f1, e⟩ := bindM_some e
      obtain ⟨ds, f2, e⟩ := bindM_some e
      obtain ⟨⟨d', z⟩, f3, e⟩ := bindM_some e
      cases e
      refine ⟨S, L, env, st, _, st1, sm, sl, e1, fun v S1 L1 H1 x1 sm1 r1 => ?_⟩
      cases r1 with
      | pt ha =>
        rename_i a
        obtain ⟨d0', g0, hat0⟩ := sm1.cell ha
        rw [f0] at g0
        cases g0
        refine ⟨hT _ _ _ _ hat0 hd0, ?_⟩
        refine ⟨S1, L1, env, st1, ss, st2, sm1, sl.ext sm.sub x1, e2, fun vs S2 L2 H2 x2 sm2 r2 => ?_⟩
        have ha2 := x2.get ha
        obtain ⟨d'', g1, hat⟩ := sm2.cell ha2
        rw [f1] at g1
        cases g1
        refine hg S2 H2 a vs ds d d' z Q hat (sm2.sub a (List.mem_of_getElem? ha2)) (derefs_shp sm2 r2 f2) f3 fun w o hat' hw => ?_
        obtain ⟨sm3, x3⟩ := sm2.put ha2 hat'
        exact k w S2 L2 _ ((x1.trans sm.sub x2).trans sm.sub x3) sm3 (.im hw)
    · cases e
  · cases e
theorem j_meth0 (hp : PE X e (tBM0 X.K T r (tE md X.K mo))) (hT : ∀ S H a d, At X.K S H a d → isT d = true → tyV X.K T (.ref a) H) (hg : MethD X.K r g) : PE X e (tE md X.K (mMeth isT g mo mNil)) := by
  refine pe_weak hp ?_
  rintro σ H Q ⟨S, L, env, st, s, st', sm, sl, e, k⟩
  obtain ⟨⟨s1, st1⟩, e1, e⟩ := bindM_some e
  dsimp only at e
  split at e
  · rename_i kk
    obtain ⟨d0, f0, e⟩ := bindM_some e
    split at e
    · rename_i hd0
      obtain ⟨⟨ss, st2⟩, e2, e⟩ := bindM_some e
      cases e2
      obtain ⟨d, f1, e⟩ := bindM_some e
      obtain ⟨ds, f2, e⟩ := bindM_some e
      cases f2
      obtain ⟨⟨d', z⟩, f3, e⟩ := bindM_some e
      cases e
      refine ⟨S, L, env, st, _, st1, sm, sl, e1, fun v S1 L1 H1 x1 sm1 r1 => ?_⟩
      cases r1 with
      | pt ha =>
        rename_i a
        obtain ⟨d0', g0, hat0⟩ := sm1.cell ha
        rw [f0] at g0
        cases g0
        rw [f0] at f1
        cases f1
        refine ⟨hT _ _ _ _ hat0 hd0, ?_⟩
        refine hg S1 H1 a [] [] d0 d' z Q hat0 (sm1.sub a (List.mem_of_getElem? ha)) .nil f3 fun w o hat' hw => ?_
        obtain ⟨sm3, x3⟩ := sm1.put ha hat'
        exact k w S1 L1 _ (x1.trans sm.sub x3) sm3 (.im hw)
    · cases e
  · cases e
end
def appendG : D → List D → Option (D × D)
  | .lst xs, [d] => if xs.length < 100000 then some (.lst (xs ++ [d]), .non) else none
  | _, _ => none
theorem appendG_ok {K : PySem.W.Frag} : MethD K rAppend appendG := by
  intro S H a vs ds d d' z Q hat hS hr hg k
  cases hat with
  | lst hp rx =>
    rename_i xs es
    match ds, hr, hg with
    | [y], .cons ry .nil, hg =>
      have hg : (if es.length < 100000 then some (D.lst (es ++ [y]), D.non) else none) = some (d', z) := hg
      split at hg
      · rename_i hl
        cases hg
        exact ⟨a, _, _, rfl, rfl, hp, by rw [rx.length]; exact Nat.lt_of_lt_of_le hl (by decide), k .non _ (.lst upd_same ((rx.append (.cons ry .nil)).carry (carry_upd (K := K) hS))) .non⟩
      · cases hg
  | _ => cases hg
def popAtG : D → List D → Option (D × D)
  | .lst xs, [.int i] => if -(2 ^ 63) ≤ i ∧ i < 2 ^ 63 then bindM (ixN xs.length i) fun k => bindM xs[k]? fun y => some (.lst (xs.eraseIdx k), y) else none
  | _, _ => none
theorem popAtG_ok {K : PySem.W.Frag} : MethD K rPopAt popAtG := by
  intro S H a vs ds d d' z Q hat hS hr hg k
  cases hat with
  | lst hp rx =>
    rename_i xs es
    match ds, hr, hg with
    | [.int i], .cons ry .nil, hg =>
      have hg : (if -(2 ^ 63) ≤ i ∧ i < 2 ^ 63 then bindM (ixN es.length i) fun k => bindM es[k]? fun y => some (D.lst (es.eraseIdx k), y) else none) = some (d', z) := hg
      split at hg
      · rename_i hl
        obtain ⟨j, e1, hg⟩ := bindM_some hg
        obtain ⟨y, e2, hg⟩ := bindM_some hg
        cases hg
        have hv := (show Shp K S H _ (.int i) from .inl ry).int
        subst hv
        obtain ⟨v, e3, rv⟩ := rx.get e2
        exact ⟨a, _, i, j, v, rfl, rfl, hp, hl.1, hl.2, by rw [rx.length]; exact (ixN_seq e1).1, e3, k _ _ (.lst upd_same ((rx.erase j).carry (carry_upd (K := K) hS))) (rv.carry (carry_upd (K := K) hS))⟩
      · cases hg
  | _ => cases hg
def popG : D → List D → Option (D × D)
  | .lst xs, [] => bindM xs[xs.length - 1]? fun y => some (.lst xs.dropLast, y)
  | _, _ => none
theorem popG_ok {K : PySem.W.Frag} : MethD K rPop popG := by
  intro S H a vs ds d d' z Q hat hS hr hg k
  cases hat with
  | lst hp rx =>
    rename_i xs es
    match ds, hr, hg with
    | [], .nil, hg =>
      obtain ⟨y, e2, hg⟩ := bindM_some (show bindM es[es.length - 1]? _ = _ from hg)
      cases hg
      obtain ⟨v, e3, rv⟩ := rx.get e2
      have er : Reps K S H xs.dropLast es.dropLast := by
        rw [List.dropLast_eq_take, List.dropLast_eq_take, rx.length]
        exact rx.take _
      exact ⟨a, _, v, rfl, rfl, hp, by rw [rx.length]; exact e3, k _ _ (.lst upd_same (er.carry (carry_upd (K := K) hS))) (rv.carry (carry_upd (K := K) hS))⟩
  | _ => cases hg
def reverseG : D → List D → Option (D × D)
  | .lst xs, [] => some (.lst xs.reverse, .non)
  | _, _ => none
theorem reverseG_ok {K : PySem.W.Frag} : MethD K rReverse reverseG := by
  intro S H a vs ds d d' z Q hat hS hr hg k
  cases hat with
  | lst hp rx =>
    rename_i xs es
    match ds, hr, hg with
    | [], .nil, hg =>
      cases hg
      exact ⟨a, _, rfl, rfl, hp, k .non _ (.lst upd_same (rx.reverse.carry (carry_upd (K := K) hS))) .non⟩
  | _ => cases hg
def extendG : D → List D → Option (D × D)
  | .lst xs, [.lst ys] => if xs.length + ys.length ≤ 100000 then some (.lst (xs ++ ys), .non) else none
  | _, _ => none
theorem extendG_ok {K : PySem.W.Frag} : MethS K rExtend extendG := by
  intro S H a vs ds d d' z Q hat hS hr hg k
  cases hat with
  | lst hp rx =>
    rename_i xs es
    match ds, hr, hg with
    | [.lst ys], hr, hg =>
      have hg : (if es.length + ys.length ≤ 100000 then some (D.lst (es ++ ys), D.non) else none) = some (d', z) := hg
      split at hg
      · rename_i hl
        cases hg
        obtain ⟨v, rfl, hv⟩ := shp1 hr
        obtain ⟨b, zs, rfl, hb, rz⟩ := hv.lst
        exact ⟨a, b, _, _, rfl, rfl, hp, hb, by rw [rx.length, rz.length]; exact sz hl, k .non _ (.lst upd_same ((rx.append rz).carry (carry_upd (K := K) hS))) .non⟩
      · cases hg
  | _ => cases hg
/-! ### x[i] = e -/
def setG : D → D → D → Option D
  | .lst xs, .int i, v => bindM (ixN xs.length i) fun j => some (.lst (xs.set j v))
  | _, _, _ => none
/-- value, then object, then place -/
def mSetIx (mv mo mi : M Slot) : StM := fun env st => bindM (mv env st) fun r0 => bindM (mo env r0.2) fun r1 => match r1.1 with
  | .pt k => bindM (mi env r1.2) fun r2 => bindM r2.2[k]? fun d => bindM (imOf r0.1) fun v => bindM (imOf r2.1) fun i => bindM (setG d i v) fun d' => some (.nx, env, r2.2.set k d')
  | _ => none
section
variable {X : Cx} {e o i : Expr} {pos tpos : Pos} {mv mo mi : M Slot}
theorem s_setIx (hv : PE X e (tE md X.K mv)) (ho : PE X o (tE md X.K mo)) (hi : PE X i (tE md X.K mi))
    (ha : ∀ v, assign (.Subscript o i tpos) X.env v = (do
      let ov ← holding [v] (eval o X.env)
      let iv ← holding [v, ov] (eval i X.env)
      standAt tpos
      holding [v, ov, iv] (setItem ov iv v)
      release [v, ov, iv] []) := by intro _; rfl)
    (hs : swapsWithSole [.Subscript o i tpos] e pos.line X.env = pure false := by rfl) (hw : swappedStores [.Subscript o i tpos] e X.env = pure none := by rfl)
    (h1 : (assignEach [.Subscript o i tpos] X.env).map (·.2) = [assign (.Subscript o i tpos) X.env] := by rfl) : PS X (.Assign [.Subscript o i tpos] e pos) (tS md X.K (mSetIx mv mo mi)) := by
  refine ps_weak (ps_asg hv (pg_sub ho hi set_list ha) hs hw h1) ?_
  rintro D' σ H ⟨S, L, env, st, o', env', st', sm, sl, e, k⟩
  obtain ⟨⟨s0, st0⟩, e0, e⟩ := bindM_some e
  obtain ⟨⟨s1, st1⟩, e1, e⟩ := bindM_some e
  dsimp only at e
  split at e
  · rename_i kk
    obtain ⟨⟨s2, st2⟩, e2, e⟩ := bindM_some e
    obtain ⟨d, f1, e⟩ := bindM_some e
    obtain ⟨v, f2, e⟩ := bindM_some e
    obtain ⟨iv, f3, e⟩ := bindM_some e
    obtain ⟨d', f4, e⟩ := bindM_some e
    cases e
    refine ⟨S, L, env, st, s0, st0, sm, sl, e0, fun w S0 L0 H0 x0 sm0 r0 => ?_⟩
    have sl0 := sl.ext sm.sub x0
    refine ⟨S0, L0, env, st0, _, st1, sm0, sl0, e1, fun a0 S1 L1 H1 x1 sm1 r1 => ?_⟩
    have sl1 := sl0.ext sm0.sub x1
    refine ⟨S1, L1, env, st1, s2, st2, sm1, sl1, e2, fun i0 S2 L2 H2 x2 sm2 r2 => ?_⟩
    have sl2 := sl1.ext sm1.sub x2
    cases r1 with
    | pt ha =>
      rename_i a
      have ha2 := x2.get ha
      obtain ⟨d'', g1, hat⟩ := sm2.cell ha2
      rw [f1] at g1
      cases g1
      have hSa := sm2.sub a (List.mem_of_getElem? ha2)
      cases hat with
      | @lst _ xs es hp rx =>
        cases iv with
        | int n =>
          obtain ⟨j, g2, f4⟩ := bindM_some (show bindM (ixN es.length n) _ = some d' from f4)
          cases f4
          have hi0 := (show Shp X.K S2 H2 i0 (.int n) from .inl (r2.rep f3)).int
          subst hi0
          have rw0 : Rep X.K S2 H2 w v := ((r0.ext sm0.sub x1).ext sm1.sub x2).rep f2
          refine ⟨a, xs, n, j, rfl, rfl, hp, by rw [rx.length]; exact g2, ?_⟩
          have hat' : At X.K S2 (upd H2 a (.lst (xs.set j w))) a (.lst (es.set j v)) := .lst upd_same ((Reps.set rw0 j rx).carry (carry_upd (K := X.K) hSa))
          obtain ⟨sm3, x3⟩ := sm2.put ha2 hat'
          exact k S2 L2 _ (((x0.trans sm.sub x1).trans sm.sub x2).trans sm.sub x3) sm3 σ (sl2.ext sm2.sub x3)
        | _ => cases f4
      | _ => cases f4
  · cases e
end
/-! ### dicts whose keys are ints and texts -/
def keyOf : D → Option Key
  | .int i => some (.inl i)
  | .str s => some (.inr s)
  | _ => none
theorem keyOf_ok {K : PySem.W.Frag} {S : Trk} {H : Hp} {v : V} {d : D} {k : Key} (h : Shp K S H v d) (e : keyOf d = some k) : v = kV k := by
  cases d with
  | int i => cases e; exact h.int
  | str i => cases e; exact h.str
  | _ => cases e
def valE {κ : Type} [DecidableEq κ] (kvs : List (κ × D)) (k : κ) : Option D := (kvs.find? fun kv => decide (kv.1 = k)).map (·.2)
def putE {κ : Type} [DecidableEq κ] (kvs : List (κ × D)) (k : κ) (v : D) : List (κ × D) := if kvs.any (fun kv => decide (kv.1 = k)) = true then kvs.map fun kv => if kv.1 = k then (kv.1, v) else kv else kvs ++ [(k, v)]
section
variable {K : PySem.W.Frag} {S : Trk} {H : Hp}
theorem RepK.val : ∀ {kvs : List (Key × V)} {kds : List (Key × D)}, RepK K S H kvs kds → ∀ (k : Key), (∀ d, valE kds k = some d → ∃ v, valV kvs k = some v ∧ Rep K S H v d) ∧ (valE kds k = none → valV kvs k = none)
  | _, _, .nil, k => ⟨fun d e => (by cases e), fun _ => rfl⟩
  | _, _, .cons (k := k0) (v := v0) (d := d0) (vs := vs) (ds := ds) r t, k => by
    obtain ⟨h1, h2⟩ := RepK.val t k
    by_cases c : k0 = k
    · subst c
      have e1 : valE ((k0, d0) :: ds) k0 = some d0 := by simp [valE, List.find?_cons]
      have e2 : valV ((k0, v0) :: vs) k0 = some v0 := by simp [valV, List.find?_cons]
      rw [e1, e2]
      exact ⟨fun d e => by cases e; exact ⟨_, rfl, r⟩, fun e => by cases e⟩
    · have e1 : valE ((k0, d0) :: ds) k = valE ds k := by simp [valE, List.find?_cons, c]
      have e2 : valV ((k0, v0) :: vs) k = valV vs k := by simp [valV, List.find?_cons, c]
      rw [e1, e2]
      exact ⟨h1, h2⟩
theorem RepK.any : ∀ {kvs : List (Key × V)} {kds : List (Key × D)}, RepK K S H kvs kds → ∀ (k : Key), (kvs.any fun kv => decide (kv.1 = k)) = kds.any fun kv => decide (kv.1 = k)
  | _, _, .nil, k => rfl
  | _, _, .cons r t, k => by
    rw [List.any_cons, List.any_cons, RepK.any t k]
theorem RepK.repl {v : V} {d : D} (rv : Rep K S H v d) (k : Key) : ∀ {kvs : List (Key × V)} {kds : List (Key × D)}, RepK K S H kvs kds → RepK K S H (kvs.map fun kv => if kv.1 = k then (kv.1, v) else kv) (kds.map fun kv => if kv.1 = k then (kv.1, d) else kv)
  | _, _, .nil => .nil
  | _, _, .cons (k := k0) r t => by
    rw [List.map_cons, List.map_cons]
    by_cases c : k0 = k
    · subst c
      simp only [if_true]
      exact .cons rv (RepK.repl rv _ t)
    · simp only [c, if_false]
      exact .cons r (RepK.repl rv _ t)
theorem RepK.snoc {v : V} {d : D} (rv : Rep K S H v d) (k : Key) : ∀ {kvs : List (Key × V)} {kds : List (Key × D)}, RepK K S H kvs kds → RepK K S H (kvs ++ [(k, v)]) (kds ++ [(k, d)])
  | _, _, .nil => .cons rv .nil
  | _, _, .cons r t => .cons r (RepK.snoc rv k t)
theorem RepK.put {v : V} {d : D} (rv : Rep K S H v d) (k : Key) {kvs : List (Key × V)} {kds : List (Key × D)} (h : RepK K S H kvs kds) : RepK K S H (putK kvs k v) (putE kds k d) := by
  unfold putK putE
  rw [h.any k]
  split
  · exact h.repl rv k
  · exact h.snoc rv k
theorem RepK.length : ∀ {kvs : List (Key × V)} {kds : List (Key × D)}, RepK K S H kvs kds → kvs.length = kds.length
  | _, _, .nil => rfl
  | _, _, .cons _ t => by rw [List.length_cons, List.length_cons, t.length]
end
def getG : D → D → Option D
  | .dic kvs, k => bindM (keyOf k) fun k => valE kvs k
  | _, _ => none
def hasG (neg : Bool) : D → D → Option D
  | k, .dic kvs => bindM (keyOf k) fun k => some (.bl (if neg then !(valE kvs k).isSome else (valE kvs k).isSome))
  | _, _ => none
def mGet (mo mi : M Slot) : M Slot := mOp getG mo mi
section
variable {X : Cx} {e o i : Expr} {pos tpos : Pos} {mv mo mi : M Slot}
theorem dget_read {S : Trk} {H : Hp} {x y : V} {d e z : D} (hx : Shp X.K S H x d) (hy : Shp X.K S H y e) (hg : getG d e = some z) : ∃ a v, x = .ref a ∧ DGet H a y (some v) ∧ Rep X.K S H v z := by
  cases d with
  | dic kvs =>
    obtain ⟨k, e1, hg⟩ := bindM_some (show bindM (keyOf e) _ = some z from hg)
    obtain ⟨a, ps, rfl, hp, r⟩ := hx.dic
    have hk := keyOf_ok hy e1
    subst hk
    obtain ⟨v, e2, rv⟩ := (r.val k).1 z hg
    have := DGet.k (k := k) hp
    rw [e2] at this
    exact ⟨a, v, rfl, this, rv⟩
  | _ => cases hg
theorem j_dget (hu : X.A.units + 1 < cLine) (ho : PE X o (tE md X.K mo)) (hi : PE X i (tE md X.K mi)) (hs : NoSl i) : PE X (.Subscript o i pos) (tE md X.K (mOp getG mo mi)) := by
  refine pe_weak (pe_dget hu ho hi hs) ?_
  rintro σ H Q ⟨S, L, env, st, s, st', sm, sl, e, k⟩
  obtain ⟨⟨s1, st1⟩, e1, e⟩ := bindM_some e
  obtain ⟨⟨s2, st2⟩, e2, e⟩ := bindM_some e
  obtain ⟨d1, f1, e⟩ := bindM_some e
  obtain ⟨d2, f2, e⟩ := bindM_some e
  obtain ⟨z, f3, e⟩ := bindM_some e
  cases e
  refine ⟨S, L, env, st, s1, st1, sm, sl, e1, fun v S1 L1 H1 x1 sm1 r1 => ?_⟩
  refine ⟨S1, L1, env, st1, s2, _, sm1, sl.ext sm.sub x1, e2, fun w S2 L2 H2 x2 sm2 r2 => ?_⟩
  obtain ⟨a, u, h1, h2, h3⟩ := dget_read ((r1.ext sm1.sub x2).shp sm2 f1) (r2.shp sm2 f2) f3
  exact ⟨a, u, h1, h2, k u S2 L2 H2 (x1.trans sm.sub x2) sm2 (.im h3)⟩
theorem dhas_read {S : Trk} {H : Hp} {neg : Bool} {x y : V} {d e z : D} (hy : Shp X.K S H y e) (hx : Shp X.K S H x d) (hg : hasG neg e d = some z) : ∃ a o, x = .ref a ∧ DGet H a y o ∧ z = .bl (if neg then !o.isSome else o.isSome) := by
  cases d with
  | dic kvs =>
    obtain ⟨k, e1, hg⟩ := bindM_some (show bindM (keyOf e) _ = some z from hg)
    cases hg
    obtain ⟨a, ps, rfl, hp, r⟩ := hx.dic
    have hk := keyOf_ok hy e1
    subst hk
    refine ⟨a, _, rfl, DGet.k (k := k) hp, ?_⟩
    have hsome : (valE kvs k).isSome = (valV ps k).isSome := by
      cases c : valE kvs k with
      | none => rw [(r.val k).2 c]; rfl
      | some d =>
        obtain ⟨v, e2, _⟩ := (r.val k).1 d c
        rw [e2]
        rfl
    rw [hsome]
  | _ => cases hg
/-- k in d, k not in d, as values (the key first) -/
theorem j_din (hu : X.A.units + 1 < cLine) (hi : PE X i (tE md X.K mi)) (ho : PE X o (tE md X.K mo)) (h1 : behindInMarks .In o = false := by rfl) : PE X (.Compare i [.In] [o] pos) (tE md X.K (mOp (hasG false) mi mo)) := by
  refine pe_weak (pe_cmp (pc_din hu hi ho) h1) ?_
  rintro σ H Q ⟨S, L, env, st, s, st', sm, sl, e, k⟩
  obtain ⟨⟨s1, st1⟩, e1, e⟩ := bindM_some e
  obtain ⟨⟨s2, st2⟩, e2, e⟩ := bindM_some e
  obtain ⟨d1, f1, e⟩ := bindM_some e
  obtain ⟨d2, f2, e⟩ := bindM_some e
  obtain ⟨z, f3, e⟩ := bindM_some e
  cases e
  refine ⟨S, L, env, st, s1, st1, sm, sl, e1, fun v S1 L1 H1 x1 sm1 r1 => ?_⟩
  refine ⟨S1, L1, env, st1, s2, _, sm1, sl.ext sm.sub x1, e2, fun w S2 L2 H2 x2 sm2 r2 => ?_⟩
  obtain ⟨a, o, h1, h2, h3⟩ := dhas_read ((r1.ext sm1.sub x2).shp sm2 f1) (r2.shp sm2 f2) f3
  subst h3
  exact ⟨a, o, h1, h2, k _ S2 L2 H2 (x1.trans sm.sub x2) sm2 (.im (.bl _))⟩
theorem j_dnin (hu : X.A.units + 1 < cLine) (hi : PE X i (tE md X.K mi)) (ho : PE X o (tE md X.K mo)) (h1 : behindInMarks .NotIn o = false := by rfl) : PE X (.Compare i [.NotIn] [o] pos) (tE md X.K (mOp (hasG true) mi mo)) := by
  refine pe_weak (pe_cmp (pc_dnotin hu hi ho) h1) ?_
  rintro σ H Q ⟨S, L, env, st, s, st', sm, sl, e, k⟩
  obtain ⟨⟨s1, st1⟩, e1, e⟩ := bindM_some e
  obtain ⟨⟨s2, st2⟩, e2, e⟩ := bindM_some e
  obtain ⟨d1, f1, e⟩ := bindM_some e
  obtain ⟨d2, f2, e⟩ := bindM_some e
  obtain ⟨z, f3, e⟩ := bindM_some e
  cases e
  refine ⟨S, L, env, st, s1, st1, sm, sl, e1, fun v S1 L1 H1 x1 sm1 r1 => ?_⟩
  refine ⟨S1, L1, env, st1, s2, _, sm1, sl.ext sm.sub x1, e2, fun w S2 L2 H2 x2 sm2 r2 => ?_⟩
  obtain ⟨a, o, h1, h2, h3⟩ := dhas_read ((r1.ext sm1.sub x2).shp sm2 f1) (r2.shp sm2 f2) f3
  subst h3
  exact ⟨a, o, h1, h2, k _ S2 L2 H2 (x1.trans sm.sub x2) sm2 (.im (.bl _))⟩
/-- .. as tests -/
theorem t_din (hu : X.A.units + 1 < cLine) (hi : PE X i (tE md X.K mi)) (ho : PE X o (tE md X.K mo)) (h1 : behindInMarks .In o = false := by rfl) : PT X (.Compare i [.In] [o] pos) (tT md X.K (mBool (mOp (hasG false) mi mo))) := by
  refine pt_weak (pt_cmp (pc_din hu hi ho) h1) ?_
  rintro σ H Q ⟨S, L, env, st, s, st', sm, sl, e, k⟩
  obtain ⟨⟨s0, st0⟩, e0, e⟩ := bindM_some e
  dsimp only at e
  split at e
  · cases e
    obtain ⟨⟨s1, st1⟩, e1, e0⟩ := bindM_some e0
    obtain ⟨⟨s2, st2⟩, e2, e0⟩ := bindM_some e0
    obtain ⟨d1, f1, e0⟩ := bindM_some e0
    obtain ⟨d2, f2, e0⟩ := bindM_some e0
    obtain ⟨z, f3, e0⟩ := bindM_some e0
    cases e0
    refine ⟨S, L, env, st, s1, st1, sm, sl, e1, fun v S1 L1 H1 x1 sm1 r1 => ?_⟩
    refine ⟨S1, L1, env, st1, s2, _, sm1, sl.ext sm.sub x1, e2, fun w S2 L2 H2 x2 sm2 r2 => ?_⟩
    obtain ⟨a, o, h1, h2, h3⟩ := dhas_read ((r1.ext sm1.sub x2).shp sm2 f1) (r2.shp sm2 f2) f3
    cases h3
    exact ⟨a, o, h1, h2, _, rfl, k S2 L2 H2 (x1.trans sm.sub x2) sm2⟩
  · cases e
theorem t_dnin (hu : X.A.units + 1 < cLine) (hi : PE X i (tE md X.K mi)) (ho : PE X o (tE md X.K mo)) (h1 : behindInMarks .NotIn o = false := by rfl) : PT X (.Compare i [.NotIn] [o] pos) (tT md X.K (mBool (mOp (hasG true) mi mo))) := by
  refine pt_weak (pt_cmp (pc_dnotin hu hi ho) h1) ?_
  rintro σ H Q ⟨S, L, env, st, s, st', sm, sl, e, k⟩
  obtain ⟨⟨s0, st0⟩, e0, e⟩ := bindM_some e
  dsimp only at e
  split at e
  · cases e
    obtain ⟨⟨s1, st1⟩, e1, e0⟩ := bindM_some e0
    obtain ⟨⟨s2, st2⟩, e2, e0⟩ := bindM_some e0
    obtain ⟨d1, f1, e0⟩ := bindM_some e0
    obtain ⟨d2, f2, e0⟩ := bindM_some e0
    obtain ⟨z, f3, e0⟩ := bindM_some e0
    cases e0
    refine ⟨S, L, env, st, s1, st1, sm, sl, e1, fun v S1 L1 H1 x1 sm1 r1 => ?_⟩
    refine ⟨S1, L1, env, st1, s2, _, sm1, sl.ext sm.sub x1, e2, fun w S2 L2 H2 x2 sm2 r2 => ?_⟩
    obtain ⟨a, o, h1, h2, h3⟩ := dhas_read ((r1.ext sm1.sub x2).shp sm2 f1) (r2.shp sm2 f2) f3
    cases h3
    exact ⟨a, o, h1, h2, _, rfl, k S2 L2 H2 (x1.trans sm.sub x2) sm2⟩
  · cases e
/-- d[k] = v -/
def putG : D → D → D → Option D
  | .dic kvs, k, v => bindM (keyOf k) fun k => if kvs.length < 100000 then some (.dic (putE kvs k v)) else none
  | _, _, _ => none
def mPut (mv mo mi : M Slot) : StM := fun env st => bindM (mv env st) fun r0 => bindM (mo env r0.2) fun r1 => match r1.1 with
  | .pt k => bindM (mi env r1.2) fun r2 => bindM r2.2[k]? fun d => bindM (imOf r0.1) fun v => bindM (imOf r2.1) fun i => bindM (putG d i v) fun d' => some (.nx, env, r2.2.set k d')
  | _ => none
theorem s_dput (hu : X.A.units + 1 < cLine) (hv : PE X e (tE md X.K mv)) (ho : PE X o (tE md X.K mo)) (hi : PE X i (tE md X.K mi)) (hs : swapsWith e (some (.Subscript o i tpos)) pos.line X.env = pure false := by rfl) :
    PS X (.Assign [.Subscript o i tpos] e pos) (tS md X.K (mPut mv mo mi)) := by
  refine ps_weak (ps_dput hu ho hi hv hs) ?_
  rintro D' σ H ⟨S, L, env, st, o', env', st', sm, sl, e, k⟩
  obtain ⟨⟨s0, st0⟩, e0, e⟩ := bindM_some e
  obtain ⟨⟨s1, st1⟩, e1, e⟩ := bindM_some e
  dsimp only at e
  split at e
  · rename_i kk
    obtain ⟨⟨s2, st2⟩, e2, e⟩ := bindM_some e
    obtain ⟨d, f1, e⟩ := bindM_some e
    obtain ⟨v, f2, e⟩ := bindM_some e
    obtain ⟨iv, f3, e⟩ := bindM_some e
    obtain ⟨d', f4, e⟩ := bindM_some e
    cases e
    refine ⟨S, L, env, st, s0, st0, sm, sl, e0, fun w S0 L0 H0 x0 sm0 r0 => ?_⟩
    have sl0 := sl.ext sm.sub x0
    refine ⟨S0, L0, env, st0, _, st1, sm0, sl0, e1, fun a0 S1 L1 H1 x1 sm1 r1 => ?_⟩
    have sl1 := sl0.ext sm0.sub x1
    refine ⟨S1, L1, env, st1, s2, st2, sm1, sl1, e2, fun i0 S2 L2 H2 x2 sm2 r2 => ?_⟩
    have sl2 := sl1.ext sm1.sub x2
    cases r1 with
    | pt ha =>
      rename_i a
      have ha2 := x2.get ha
      obtain ⟨d'', g1, hat⟩ := sm2.cell ha2
      rw [f1] at g1
      cases g1
      have hSa := sm2.sub a (List.mem_of_getElem? ha2)
      cases hat with
      | @dic _ ps kds hp rx =>
        obtain ⟨kk, g2, f4⟩ := bindM_some (show bindM (keyOf iv) _ = some d' from f4)
        split at f4
        · rename_i hl
          cases f4
          have hi0 := keyOf_ok (.inl (r2.rep f3)) g2
          subst hi0
          have rw0 : Rep X.K S2 H2 w v := ((r0.ext sm0.sub x1).ext sm1.sub x2).rep f2
          refine ⟨a, _, rfl, DPut.k hp (by rw [rx.length]; exact Nat.lt_of_lt_of_le hl (by decide)), ?_⟩
          have hat' : At X.K S2 (upd H2 a (.dK (putK ps kk w))) a (.dic (putE kds kk v)) := .dic upd_same ((RepK.put rw0 kk rx).carry (carry_upd (K := X.K) hSa))
          obtain ⟨sm3, x3⟩ := sm2.put ha2 hat'
          exact k S2 L2 _ (((x0.trans sm.sub x1).trans sm.sub x2).trans sm.sub x3) sm3 σ (sl2.ext sm2.sub x3)
        · cases f4
      | _ => cases f4
  · cases e
/-- {} -/
theorem f_dnew {p : Pos} : PE X (.Dict [] [] p) (tF md X.K fun _ st => some (.dic [], st)) := by
  refine pe_weak pe_dnewK ?_
  rintro σ H Q ⟨S, L, env, st, s, st', sm, sl, e, k⟩
  cases e
  intro q hq
  have l := sm.laid hq (Grow.new hq) (.dic (K := X.K) upd_same .nil)
  exact k q _ L _ l.ext l.sim l.out l.mem l.cell l.at_
end
end Mi
/-! Mi9: promises by name, the law's end. -/
namespace Mi
open PySem L2 PySem.Spec PyProof.Rows
section
variable {P : Program} {w : World} {K : PySem.W.Frag} {mg : Str → Option Value} {base : Heap}
theorem f_okD {x qual : Str} {params : Arguments} {body : List Stmt} {scope : Scope} {dvs : List V} {kws : List (Str × V)} {f : Addr} {fd : FuncData} {N ps : List Str} {k n : Nat} {m : StM} (F : FunD K x qual params body scope dvs kws f fd) (Sc : FnScope N ps scope) (hn : ps.length = n)
    (hb : ∀ (cdv : Value) (A : Around) (outer : List Env) (s : Shared) (H : Hp) (E : XK), Room k (A.deeper (envOfC qual scope s.heap.objs.size f cdv)) →
      PSs (cxOf CX0 P w K mg base N qual scope f cdv A outer s H E).nox body (tS true K m)) : FnOk P w K mg base CX0 (k + 1) f fd ps (spM K n (mkFn N.length m)) := by
  refine F.ok Sc (fun vs H Q E h => ?_) (fun cdv A outer s H vs Q E hr h => ⟨_, (hb cdv A outer s H E hr).nox, sp_start h⟩)
  obtain ⟨md, S, L, args, st, r, st', sm, pa, hl, _⟩ := h
  rw [pa.length, hl, hn]
/-- a def's promise, by its name -/
def Prom (P : Program) (w : World) (K : PySem.W.Frag) (mg : Str → Option Value) (base : Heap) (x : Str) (k n : Nat) (g : Fn) : Prop :=
  ∃ (f : Addr) (fd : FuncData) (ps : List Str), FnOk P w K mg base CX0 k f fd ps (spM K n g) ∧ mg x = some (.ref f) ∧ PySem.W.keepIn K (.ref f) = true ∧ Binds K fd ps []
end
section
variable {X : Cx} {k n : Nat} {g : Fn} {m : M (List Slot)} {e : Expr} {es : List Expr} {x : Str} {p pos : Pos}
theorem p_call (h : Prom X.prog X.w X.K X.mg X.base x k n g) (hr : Room k X.A) (ha : PA X (e :: es) (tA md X.K m)) (hn : ∀ env st r, m env st = some r → r.1.length = n) (hg : Gl X x := by rfl) (hdb : (x == ("__debug__" : Str)) = false := by decide)
    (he : starEach (e :: es) X.env = (false, eval e X.env) :: starEach es X.env := by rfl) (hpl : (backTo pos (starEach es X.env)).any (·.1) = false := by rfl) : PE X (.Call (.Name x p) (e :: es) [] pos) (tE md X.K (mCall g m)) := by
  obtain ⟨f, fd, ps, F, hm, hk, hb⟩ := h
  exact j_call F hr hg hm hk hb ha hn hdb he hpl
theorem p_callF (h : Prom X.prog X.w X.K X.mg X.base x k n g) (hr : Room k X.A) (ha : PA X (e :: es) (tA md X.K m)) (hn : ∀ env st r, m env st = some r → r.1.length = n) (hg : Gl X x := by rfl) (hdb : (x == ("__debug__" : Str)) = false := by decide)
    (he : starEach (e :: es) X.env = (false, eval e X.env) :: starEach es X.env := by rfl) (hpl : (backTo pos (starEach es X.env)).any (·.1) = false := by rfl) : PE X (.Call (.Name x p) (e :: es) [] pos) (tF md X.K (mCallF g m)) := by
  obtain ⟨f, fd, ps, F, hm, hk, hb⟩ := h
  exact f_call F hr hg hm hk hb ha hn hdb he hpl
/-- a module's int -/
theorem j_gint {i : Int} (hm : ∃ t, X.mg x = some (.int i t)) (hg : Gl X x := by rfl) (hd : (x == ("__debug__" : Str)) = false := by decide) : PE X (.Name x pos) (tE md X.K (mC (.int i))) := by
  obtain ⟨t, hm⟩ := hm
  exact j_const (pe_glob (v := .int i) hg hm ⟨t, rfl⟩ hd) fun _ _ => .int i
/-- a built-in class as a value -/
theorem j_ty {T : String} (hm : X.mg x = none) (hv : bootBuiltins x = some (.type T)) (hg : Gl X x := by rfl) (hn : x ≠ "__name__" := by decide) (hd : (x == ("__debug__" : Str)) = false := by decide) : PE X (.Name x pos) (tE md X.K (mC (.ty T))) :=
  j_const (pe_bltn (v := .ty T) hg hm hv rfl hn hd) fun _ _ => .ty T
end
/-- the law's own call: the script told, True comes back -/
theorem law_sp {K : PySem.W.Frag} {g : Fn} (hg : ∀ ns : List Int, ns.length ≤ 63 → ∃ st, g [.im (.scr ns)] [] = some (.val (.bl true), st)) (H : Hp) (a : Addr) (ns : List Int) (hl : ns.length ≤ 63) (hO : Only H) (hS : SqL K H a (ns.map V.int)) :
    spM K 1 g [.ref a] H (fun v _ => v = .bl true) (fun _ _ _ => False) := by
  obtain ⟨st, e⟩ := hg ns hl
  have rp : Rep K ⟨fun _ => False, fun _ => none, false⟩ H (.ref a) (.scr ns) := by
    rcases hS with (h | ⟨o, h⟩) | ⟨o, its, n, h1, h2, h3, h4, h5, h6⟩
    · rcases hO a with z | ⟨o, xs, z⟩
      · rw [h] at z; cases z
      · rw [h] at z; cases z
    · exact .obj (fun z => z) (.scr h)
    · exact .scrK h1 h2 h3 h4 h5 h6
  exact ⟨false, ⟨fun _ => False, fun _ => none, false⟩, [], _, [], _, st, ⟨.nil, fun _ z => absurd z (by simp), fun _ z => False.elim z, .nil, rfl, fun _ _ z => nomatch z⟩, .cons (.im rp) .nil, rfl, e, fun v S' H' _ _ _ r => (show Shp K S' H' v (.bl true) from .inl r).bl⟩
end Mi
/-! Mi10: more constructs. -/
namespace Mi
open PySem L2 PySem.Spec PyProof.Rows
theorem room65 {k : Nat} {A : Around} (r : Room k A) : A.units + 65 < cLine := by have := r.un; omega
theorem fnok_none {P : Program} {w : World} {K : PySem.W.Frag} {mg : Str → Option Value} {base : Heap} {k n : Nat} {f : Addr} {fd : FuncData} {ps : List Str} {g : Fn} (h : ∀ a s, g a s = none) : FnOk P w K mg base CX0 k f fd ps (spM K n g) :=
  ⟨fun vs H Q E h' => (by
    obtain ⟨md, S, L, args, st, r, st', sm, pa, hl, e, q⟩ := h'
    rw [h] at e
    cases e), fun A outer s H args us vs Q E hr he hb hv h' => (by
    obtain ⟨md, S, L, args, st, r, st', sm, pa, hl, e, q⟩ := h'
    rw [h] at e
    cases e)⟩
/-! ### {k: v} -/
def mDict1 (mk mv : M Slot) : M D := fun env st => bindM (mk env st) fun r1 => bindM (mv env r1.2) fun r2 => bindM (imOf r1.1) fun k => bindM (imOf r2.1) fun v => bindM (keyOf k) fun k => some (.dic [(k, v)], r2.2)
section
variable {X : Cx} {pos : Pos} {k v : Expr} {mk mv : M Slot}
theorem f_dict1 (hk : PE X k (tE md X.K mk)) (hv : PE X v (tE md X.K mv)) : PE X (.Dict [some k] [v] pos) (tF md X.K (mDict1 mk mv)) := by
  refine pe_weak (pe_disp (pps_cons hk hv pps_nil) (by rfl) (by rfl) (fun z => by cases z) (Nat.le_of_ble_eq_true rfl)) ?_
  rintro σ H Q ⟨S, L, env, st, s, st', sm, sl, e, kk⟩
  obtain ⟨⟨s1, st1⟩, e1, e⟩ := bindM_some e
  obtain ⟨⟨s2, st2⟩, e2, e⟩ := bindM_some e
  obtain ⟨dk, f1, e⟩ := bindM_some e
  obtain ⟨dv, f2, e⟩ := bindM_some e
  obtain ⟨key, f3, e⟩ := bindM_some e
  cases e
  intro p hp
  have l := sm.laid hp (Grow.new hp) (.dic (K := X.K) upd_same .nil)
  refine ⟨addS S p, L, env, st, s1, st1, l.sim, sl.ext sm.sub l.ext, e1, fun x S1 L1 H1 x1 sm1 r1 => ?_⟩
  refine ⟨S1, L1, env, st1, s2, st2, sm1, (sl.ext sm.sub l.ext).ext l.sim.sub x1, e2, fun y S2 L2 H2 x2 sm2 r2 => ?_⟩
  have c1 : p ∉ L1 := fun z => by
    have := x1.cel p z l.cell
    rw [upd_same] at this
    cases this
  have h1 : H1 p = some (.dK []) := x1.keep p _ upd_same l.cell
  have c2 : p ∉ L2 := fun z => by
    have := x2.cel p z c1
    rw [h1] at this
    cases this
  have h2 : H2 p = some (.dK []) := x2.keep p _ h1 c1
  have hS2 : S2 p := x2.up _ (x1.up _ l.mem)
  have rk : Rep X.K S2 H2 x dk := (r1.ext sm1.sub x2).rep f1
  have rv : Rep X.K S2 H2 y dv := r2.rep f2
  have ek := keyOf_ok (.inl rk) f3
  subst ek
  refine ⟨h2, [(key, y)], rfl, Nat.le_of_ble_eq_true rfl, ?_⟩
  have cr : Carry S2 H2 S2 (upd H2 p (.dK [(key, y)])) := carry_upd (K := X.K) hS2
  have hm : mergeK [] [(key, y)] = [(key, y)] := rfl
  rw [hm]
  have sm3 : Sim md X.K S2 L2 (upd H2 p (.dK [(key, y)])) st2 := by
    refine ⟨sm2.nd, sm2.sub, fun a z => ?_, Paired.mapPm sm2.cells fun a d ha r => r.carry cr (upd_ne fun z => c2 (z ▸ ha)), sm2.fz, sm2.lk⟩
    by_cases c : a = p
    · subst c; exact ⟨_, upd_same⟩
    · obtain ⟨u, e⟩ := sm2.trk a z
      exact ⟨u, by rw [upd_ne c]; exact e⟩
  have x02 : Ext S L H S2 L2 H2 := (l.ext.trans sm.sub x1).trans sm.sub x2
  refine kk p S2 L2 _ ⟨x02.pre, x02.up, x02.new, fun a u e n => by rw [upd_ne (ne_of_none e hp)]; exact x02.keep a u e n, x02.cel, x02.nm, x02.fx, x02.ff⟩ sm3 l.out hS2 c2 (.dic upd_same (.cons (rv.carry cr) .nil))
end
/-! ### list(range(..)), tuple(range(..)) -/
def rgD (a b : Int) : List D := (List.range (b - a).toNat).map fun i => D.int (a + (i : Nat))
theorem rgD_reps {K : PySem.W.Frag} {S : Trk} {H : Hp} (a b : Int) : Reps K S H (rgV a b) (rgD a b) := by
  unfold rgV rgD
  generalize List.range (b - a).toNat = l
  induction l with
  | nil => exact .nil
  | cons i l ih => exact .cons (.int _) ih
def mListRng1 (m : M (List Slot)) : M D := fun env st => bindM (m env st) fun r => match r.1 with
  | [.im (.int n)] => if 0 ≤ n ∧ n ≤ 100000 then some (.lst (rgD 0 n), r.2) else none
  | _ => none
def mListRng2 (m : M (List Slot)) : M D := fun env st => bindM (m env st) fun r => match r.1 with
  | [.im (.int a), .im (.int n)] => if 0 ≤ a ∧ a ≤ 100000 ∧ 0 ≤ n ∧ n ≤ 100000 then some (.lst (rgD a n), r.2) else none
  | _ => none
def mTupRng1 (m : M (List Slot)) : M Slot := fun env st => bindM (m env st) fun r => match r.1 with
  | [.im (.int n)] => if 0 ≤ n ∧ n ≤ 100000 then some (.im (.tup (rgD 0 n)), r.2) else none
  | _ => none
section
variable {X : Cx} {a b : Expr} {p pos p2 pos2 : Pos} {ma mb : M Slot} {k : Nat}
theorem two_im {x y : Slot} {env : En} {st : Store} {r : List Slot × Store} (e : mCons ma mNil env st = some r) : ∃ s, r.1 = [s] ∧ ma env st = some (s, r.2) := by
  obtain ⟨⟨s1, st1⟩, e1, e⟩ := bindM_some e
  obtain ⟨⟨s2, st2⟩, e2, e⟩ := bindM_some e
  cases e2
  cases e
  exact ⟨s1, rfl, e1⟩
theorem rg1_read {S : Trk} {L : List Addr} {H : Hp} {σ : L2.St} {env : En} {st st' : Store} {n : Int} {R : Int → Int → Hp → Prop} (sm : Sim md X.K S L H st) (sl : Slots X.K S L H σ env) (e : mCons ma mNil env st = some ([.im (.int n)], st'))
    (k : ∀ S' L' H', Ext S L H S' L' H' → Sim md X.K S' L' H' st' → R 0 n H') : tRg1 (tE md X.K ma) σ H R := by
  obtain ⟨s, h1, e1⟩ := two_im (x := .no) (y := .no) e
  cases h1
  exact ⟨S, L, env, st, _, st', sm, sl, e1, fun v S1 L1 H1 x1 sm1 r1 => ⟨n, (show Shp X.K S1 H1 v (.int n) from by cases r1 with | im r => exact .inl r).int, k S1 L1 H1 x1 sm1⟩⟩
theorem rg2_read {S : Trk} {L : List Addr} {H : Hp} {σ : L2.St} {env : En} {st st' : Store} {c n : Int} {R : Int → Int → Hp → Prop} (sm : Sim md X.K S L H st) (sl : Slots X.K S L H σ env) (e : mCons ma (mCons mb mNil) env st = some ([.im (.int c), .im (.int n)], st'))
    (k : ∀ S' L' H', Ext S L H S' L' H' → Sim md X.K S' L' H' st' → R c n H') : tRg2 (tE md X.K ma) (tE md X.K mb) σ H R := by
  obtain ⟨⟨s1, st1⟩, e1, e⟩ := bindM_some e
  obtain ⟨⟨r2, st2⟩, e2, e⟩ := bindM_some e
  obtain ⟨s, h1, e3⟩ := two_im (x := .no) (y := .no) e2
  dsimp only at h1
  subst h1
  cases e
  refine ⟨S, L, env, st, _, st1, sm, sl, e1, fun v S1 L1 H1 x1 sm1 r1 => ?_⟩
  refine ⟨S1, L1, env, st1, _, _, sm1, sl.ext sm.sub x1, e3, fun w S2 L2 H2 x2 sm2 r2 => ?_⟩
  refine ⟨c, n, ?_, ?_, k S2 L2 H2 (x1.trans sm.sub x2) sm2⟩
  · cases r1 with | im r => exact (show Shp X.K S1 H1 v (.int c) from .inl r).int
  · cases r2 with | im r => exact (show Shp X.K S2 H2 w (.int n) from .inl r).int
theorem f_listRng1 (hc : X.calm = true) (hm : X.mg "list" = none) (hm2 : X.mg "range" = none) (ha : PE X a (tE md X.K ma)) (hg : Gl X "list" := by rfl) (hg2 : Gl X "range" := by rfl)
    (na : starEach [a] X.env = (false, eval a X.env) :: starEach [] X.env := by rfl) (na2 : starEach [Expr.Call (.Name "range" p2) [a] [] pos2] X.env = (false, eval (Expr.Call (.Name "range" p2) [a] [] pos2) X.env) :: starEach [] X.env := by rfl) :
    PE X (.Call (.Name "list" p) [.Call (.Name "range" p2) [a] [] pos2] [] pos) (tF md X.K (mListRng1 (mCons ma mNil))) := by
  refine pe_weak (pe_listRg hc hg hm (prg_1 hg2 hm2 ha na) na2) ?_
  rintro σ H Q ⟨S, L, env, st, s, st', sm, sl, e, k⟩
  obtain ⟨⟨ss, st1⟩, e1, e⟩ := bindM_some e
  dsimp only at e
  split at e
  · split at e
    · rename_i n hb
      cases e
      refine rg1_read sm sl e1 fun S1 L1 H1 x1 sm1 => ⟨.of_le (by omega) (by omega) (by omega) (by omega), fun q hq => ?_⟩
      have l := sm1.laid hq (Grow.new hq) (at_new_lst hq (rgD_reps (K := X.K) 0 n))
      exact k q _ L1 _ (x1.trans sm.sub l.ext) l.sim (fun z => l.out (x1.up _ z)) l.mem l.cell l.at_
    · cases e
  · cases e
theorem f_listRng2 (hc : X.calm = true) (hm : X.mg "list" = none) (hm2 : X.mg "range" = none) (ha : PE X a (tE md X.K ma)) (hb : PE X b (tE md X.K mb)) (hg : Gl X "list" := by rfl) (hg2 : Gl X "range" := by rfl)
    (na : starEach [a, b] X.env = (false, eval a X.env) :: starEach [b] X.env := by rfl) (nb : starEach [b] X.env = (false, eval b X.env) :: starEach [] X.env := by rfl) (hp : (backTo pos2 (starEach [b] X.env)).any (·.1) = false := by rfl)
    (na2 : starEach [Expr.Call (.Name "range" p2) [a, b] [] pos2] X.env = (false, eval (Expr.Call (.Name "range" p2) [a, b] [] pos2) X.env) :: starEach [] X.env := by rfl) :
    PE X (.Call (.Name "list" p) [.Call (.Name "range" p2) [a, b] [] pos2] [] pos) (tF md X.K (mListRng2 (mCons ma (mCons mb mNil)))) := by
  refine pe_weak (pe_listRg hc hg hm (prg_2 hg2 hm2 ha hb na nb hp) na2) ?_
  rintro σ H Q ⟨S, L, env, st, s, st', sm, sl, e, k⟩
  obtain ⟨⟨ss, st1⟩, e1, e⟩ := bindM_some e
  dsimp only at e
  split at e
  · split at e
    · rename_i c n hb
      cases e
      refine rg2_read sm sl e1 fun S1 L1 H1 x1 sm1 => ⟨.of_le (by omega) (by omega) (by omega) (by omega), fun q hq => ?_⟩
      have l := sm1.laid hq (Grow.new hq) (at_new_lst hq (rgD_reps (K := X.K) c n))
      exact k q _ L1 _ (x1.trans sm.sub l.ext) l.sim (fun z => l.out (x1.up _ z)) l.mem l.cell l.at_
    · cases e
  · cases e
theorem j_tupRng1 (hc : X.calm = true) (hm : X.mg "tuple" = none) (hm2 : X.mg "range" = none) (ha : PE X a (tE md X.K ma)) (hg : Gl X "tuple" := by rfl) (hg2 : Gl X "range" := by rfl)
    (na : starEach [a] X.env = (false, eval a X.env) :: starEach [] X.env := by rfl) (na2 : starEach [Expr.Call (.Name "range" p2) [a] [] pos2] X.env = (false, eval (Expr.Call (.Name "range" p2) [a] [] pos2) X.env) :: starEach [] X.env := by rfl) :
    PE X (.Call (.Name "tuple" p) [.Call (.Name "range" p2) [a] [] pos2] [] pos) (tE md X.K (mTupRng1 (mCons ma mNil))) := by
  refine pe_weak (pe_tupRg hc hg hm (prg_1 hg2 hm2 ha na) na2) ?_
  rintro σ H Q ⟨S, L, env, st, s, st', sm, sl, e, k⟩
  obtain ⟨⟨ss, st1⟩, e1, e⟩ := bindM_some e
  dsimp only at e
  split at e
  · split at e
    · rename_i n hb
      cases e
      refine rg1_read sm sl e1 fun S1 L1 H1 x1 sm1 => ⟨.of_le (by omega) (by omega) (by omega) (by omega), fun q hq => ?_⟩
      have l := sm1.laid hq (Grow.new hq) (at_new_tup hq (rgD_reps (K := X.K) 0 n))
      obtain ⟨x2, sm2, r⟩ := plain_of l.ext l.sim l.out l.cell l.at_
      exact k _ _ L1 _ (x1.trans sm.sub x2) sm2 (.im r)
    · cases e
  · cases e
end
end Mi
/-! MiS: sets of tuples of ints up to 300 (tables of 8, 32, 128, 512 slots), sorted(set(..)). -/
namespace MiS
open PySem L2 PySem.Spec PyProof.Rows
/-! ### all slots are gone through -/
def stp (m x : Nat) : Nat := (x * 5 + 1) % (m + 1)
def orb (m : Nat) : Nat → Nat → List Nat
  | _, 0 => []
  | x, n + 1 => x :: orb m (stp m x) n
def bm : List Nat → Nat
  | [] => 0
  | x :: l => (1 <<< x) ||| bm l
theorem bm_mem (j : Nat) : ∀ l : List Nat, (bm l).testBit j = true → j ∈ l
  | [], h => by simp [bm] at h
  | x :: l, h => by
    simp only [bm, Nat.testBit_or, Bool.or_eq_true] at h
    rcases h with h | h
    · rw [Nat.one_shiftLeft, Nat.testBit_two_pow] at h
      simp at h
      simp [h]
    · exact List.mem_cons_of_mem _ (bm_mem j l h)
theorem lcg_front (m x : Nat) : ∀ k, lcgI m (stp m x) k = lcgI m x (k + 1)
  | 0 => rfl
  | k + 1 => congrArg (stp m) (lcg_front m x k)
theorem orb_mem (m j : Nat) : ∀ n x, j ∈ orb m x n → ∃ k, k < n ∧ lcgI m x k = j
  | 0, x, h => by cases h
  | n + 1, x, h => by
    rcases List.mem_cons.mp h with h | h
    · exact ⟨0, Nat.succ_pos _, h.symm⟩
    · obtain ⟨k, hk, e⟩ := orb_mem m j n _ h
      exact ⟨k + 1, Nat.succ_lt_succ hk, by rw [← lcg_front]; exact e⟩
theorem lcg_add (m x a : Nat) : ∀ k, lcgI m (lcgI m x a) k = lcgI m x (a + k)
  | 0 => rfl
  | k + 1 => congrArg (stp m) (lcg_add m x a k)
def Msk (m : Nat) : Prop := m = 7 ∨ m = 31 ∨ m = 127 ∨ m = 511
theorem msk_bm {m : Nat} (h : Msk m) : bm (orb m 0 (m + 1)) = 2 ^ (m + 1) - 1 ∧ lcgI m 0 (m + 1) = 0 := by
  rcases h with rfl | rfl | rfl | rfl <;> exact ⟨by decide +kernel, by decide +kernel⟩
theorem msk_from {m : Nat} (h : Msk m) {j : Nat} (hj : j ≤ m) : ∃ k, k ≤ m ∧ lcgI m 0 k = j := by
  have t : (bm (orb m 0 (m + 1))).testBit j = true := by
    rw [(msk_bm h).1, Nat.testBit_two_pow_sub_one]
    exact decide_eq_true (Nat.lt_succ_of_le hj)
  obtain ⟨k, a, b⟩ := orb_mem m j _ _ (bm_mem j _ t)
  exact ⟨k, Nat.le_of_lt_succ a, b⟩
theorem msk_all {m : Nat} (h : Msk m) {i j : Nat} (hi : i ≤ m) (hj : j ≤ m) : ∃ k, k ≤ m ∧ lcgI m i k = j := by
  obtain ⟨a, a1, a2⟩ := msk_from h hi
  obtain ⟨b, b1, b2⟩ := msk_from h hj
  by_cases c : a ≤ b
  · refine ⟨b - a, by omega, ?_⟩
    rw [← a2, lcg_add, show a + (b - a) = b by omega, b2]
  · refine ⟨m + 1 - a + b, by omega, ?_⟩
    rw [← a2, lcg_add, show a + (m + 1 - a + b) = (m + 1) + b by omega, ← lcg_add, (msk_bm h).2, b2]
theorem msk_run {m : Nat} (h : Msk m) (x : Int) {j : Nat} (hj : j ≤ m) : ∃ n, n ≤ m + 12 ∧ runI m (SetTable.bits x) n = j := by
  obtain ⟨k, h1, h2⟩ := msk_all h (runI_le m (SetTable.bits x) 12) hj
  refine ⟨12 + k, by omega, ?_⟩
  rw [runI_tail (bits_lt x), h2]
theorem msk_way {m : Nat} (h : Msk m) (x : Int) {j : Nat} (hj : j ≤ m) : ∃ k, k < 10 * SetTable.turns m ∧ way m x k = j := by
  obtain ⟨n, h1, h2⟩ := msk_run h x hj
  obtain ⟨k, h3, h4⟩ := run_nth m (SetTable.bits x) n
  exact ⟨k, by unfold SetTable.turns; omega, (congrArg SetTable.Probe.j h4).trans h2⟩
theorem way_in (m : Nat) (x : Int) (k : Nat) : way m x k ≤ m := by
  have b : SetTable.bits x % (m + 1) ≤ m := Nat.le_of_lt_succ (Nat.mod_lt _ (Nat.succ_pos m))
  obtain ⟨r1, r2, _⟩ := runEnd_bd b
  have q := nth_in (m := m) k (runAt m (SetTable.bits x % (m + 1)) (SetTable.bits x)) (by
    show SetTable.bits x % (m + 1) + (SetTable.runEnd m (SetTable.bits x % (m + 1)) - SetTable.bits x % (m + 1)) ≤ m
    omega)
  exact Nat.le_trans (Nat.le_add_right _ _) q
/-! ### the table by rows: slot, address, key -/
structure Rw where
  s : Nat
  a : Addr
  k : List Int
structure Tb (P : Program) (w : World) (t : SetTable) (R : List Rw) : Prop where
  ok : Msk t.mask
  pl : t.place.toList = R.map Rw.s
  ris : Ris (R.map Rw.s)
  dm : t.dummies = #[]
  bd : ∀ r ∈ R, r.s ≤ t.mask
  far : ∀ r ∈ R, ∃ n, way t.mask (thash P w r.k) n = r.s ∧ ∀ i, i < n → way t.mask (thash P w r.k) i ∈ R.map Rw.s
section
variable {P : Program} {w : World}
theorem Tb.free {t : SetTable} {R : List Rw} (T : Tb P w t R) (hl : R.length ≤ t.mask) (x : Int) : ∃ n, n < 10 * SetTable.turns t.mask ∧ way t.mask x n ∉ R.map Rw.s ∧ ∀ i, i < n → way t.mask x i ∈ R.map Rw.s := by
  obtain ⟨j, j1, j2⟩ := st_missing (R.map Rw.s) (t.mask + 1) (by rw [List.length_map]; omega)
  obtain ⟨k, k1, k2⟩ := msk_way T.ok x (Nat.le_of_lt_succ j1)
  obtain ⟨n, n1, n2, n3⟩ := st_least (p := fun i => way t.mask x i ∉ R.map Rw.s) k (by rw [k2]; exact j2)
  exact ⟨n, by omega, n2, fun i hi => Classical.not_not.mp (n3 i hi)⟩
theorem ris_nodup {l : List Nat} (r : Ris l) : l.Nodup := List.Pairwise.imp (fun h => Nat.ne_of_lt h) r
theorem map_one {α β : Type} {f : α → β} : ∀ {l : List α}, (l.map f).Nodup → ∀ {x y : α}, x ∈ l → y ∈ l → f x = f y → x = y
  | [], _, _, _, h, _, _ => by cases h
  | z :: l, n, x, y, hx, hy, e => by
    rw [List.map_cons, List.nodup_cons] at n
    rcases List.mem_cons.mp hx with a | a <;> rcases List.mem_cons.mp hy with b | b
    · rw [a, b]
    · exact absurd (List.mem_map.mpr ⟨y, b, by rw [← a, e]⟩) n.1
    · exact absurd (List.mem_map.mpr ⟨x, a, by rw [← b, e]⟩) n.1
    · exact map_one n.2 a b e
/-- a row put in where it belongs -/
theorem Tb.ins {t : SetTable} {R : List Rw} (T : Tb P w t R) {b : Addr} {k : List Int} {n : Nat} (h1 : way t.mask (thash P w k) n ∉ R.map Rw.s) (h2 : ∀ i, i < n → way t.mask (thash P w k) i ∈ R.map Rw.s)
    {j p : Nat} (hj : j = way t.mask (thash P w k) n) (hp : p = SetTable.below t.place j) :
    p ≤ R.length ∧ Tb P w (t.put j).1 (R.take p ++ ⟨j, b, k⟩ :: R.drop p) := by
  have hps : p ≤ R.length := by
    have c := (below_cut (xs := t.place) (by rw [T.pl]; exact T.ris) j).1
    have e := congrArg List.length T.pl
    rw [Array.length_toList, List.length_map] at e
    omega
  have hm : (R.take p ++ (⟨j, b, k⟩ : Rw) :: R.drop p).map Rw.s = (R.map Rw.s).take p ++ j :: (R.map Rw.s).drop p := by
    simp [List.map_take, List.map_drop]
  have hpl : (t.put j).1.place.toList = (R.map Rw.s).take p ++ j :: (R.map Rw.s).drop p := by
    rw [put_place, T.pl, hp]
  have hne : t.place[SetTable.below t.place j]? ≠ some j := fun z => h1 (by
    rw [← hj, ← T.pl]
    exact List.mem_of_getElem? (by rw [Array.getElem?_toList]; exact z))
  have up : ∀ {x : Nat}, x ∈ R.map Rw.s → x ∈ (R.map Rw.s).take p ++ j :: (R.map Rw.s).drop p := fun h => mem_ins.2 (.inr h)
  refine ⟨hps, T.ok, hpl.trans hm.symm, ?_, put_dm T.dm j, fun r hr => ?_, fun r hr => ?_⟩
  · rw [hm, ← hpl]
    exact ris_insert (by rw [T.pl]; exact T.ris) hne
  · rcases mem_ins.1 hr with rfl | hr
    · show j ≤ t.mask
      rw [hj]; exact way_in _ _ _
    · exact T.bd r hr
  · rw [hm]
    show ∃ n, way t.mask (thash P w r.k) n = r.s ∧ ∀ i, i < n → way t.mask (thash P w r.k) i ∈ _
    rcases mem_ins.1 hr with rfl | hr
    · exact ⟨n, hj.symm, fun i hi => up (h2 i hi)⟩
    · obtain ⟨n', a, c⟩ := T.far r hr
      exact ⟨n', a, fun i hi => up (c i hi)⟩
/-! ### laid anew -/
theorem own_one {m : Nat} (hm : Msk m) {done : List Int} {owner : Array (Option Nat)} (W : Own m done owner) (hl : done.length ≤ m) (x : Int) :
    ∃ j, SetTable.layClean.free m owner (SetTable.turns m) (SetTable.bits x % (m + 1)) (SetTable.bits x) = some j ∧ Own m (done ++ [x]) (owner.setIfInBounds j (some done.length)) := by
  obtain ⟨ps, p1, p2⟩ := W.ps
  obtain ⟨j0, c1, c2⟩ := st_missing ps (m + 1) (by omega)
  have e0 : oAt owner j0 = none := Classical.byContradiction fun z => c2 (p2 j0 (Nat.le_of_lt_succ c1) z)
  obtain ⟨n, n1, n2⟩ := msk_run hm x (Nat.le_of_lt_succ c1)
  have at0 : way m x (off m (SetTable.bits x % (m + 1)) (SetTable.bits x) n) = j0 := by
    have q := nth_off m n (SetTable.bits x % (m + 1)) (SetTable.bits x)
    rw [itL_run] at q
    exact (congrArg SetTable.Probe.j q).trans n2
  obtain ⟨K, k1, k2, k3⟩ := st_least (p := fun k => oAt owner (way m x k) = none) _ (by rw [at0]; exact e0)
  have occ : ∀ k, k < K → oAt owner (way m x k) ≠ none := k3
  have fnd := free_spec m owner (SetTable.turns m) n (SetTable.bits x % (m + 1)) (SetTable.bits x) K (by unfold SetTable.turns; omega) k1
    (fun k hk => by
      have q := occ k hk
      revert q
      show oAt owner (way m x k) ≠ none → (oAt owner (way m x k)).isNone = false
      cases oAt owner (way m x k) <;> simp)
    (by show (oAt owner (way m x K)).isNone = true; rw [k2]; rfl)
  have inb : way m x K < owner.size := by rw [W.sz]; exact Nat.lt_succ_of_le (way_in m x K)
  have self := oAt_set_self (owner := owner) (some done.length) inb
  refine ⟨way m x K, fnd, ?_⟩
  have keep : ∀ i, oAt owner i ≠ none → oAt (owner.setIfInBounds (way m x K) (some done.length)) i ≠ none := fun i hi => by
    rcases Decidable.em (i = way m x K) with rfl | d
    · exact absurd k2 hi
    · rw [oAt_set_ne _ d]; exact hi
  constructor
  · simp [W.sz]
  · intro j k hj e
    rcases Decidable.em (j = way m x K) with rfl | d
    · rw [self] at e
      cases e
      exact ⟨x, K, by simp, rfl, fun i hi => keep _ (occ i hi)⟩
    · rw [oAt_set_ne _ d] at e
      obtain ⟨y, K', b1, b2, b3⟩ := W.at_ j k hj e
      have hk : k < done.length := by
        rcases Nat.lt_or_ge k done.length with z | z
        · exact z
        · rw [List.getElem?_eq_none z] at b1; cases b1
      exact ⟨y, K', by rw [List.getElem?_append_left hk]; exact b1, b2, fun i hi => keep _ (b3 i hi)⟩
  · intro k hk
    rcases Nat.lt_or_ge k done.length with z | z
    · obtain ⟨j, b1, b2⟩ := W.all k z
      refine ⟨j, b1, ?_⟩
      rw [oAt_set_ne _ (fun y => by rw [y, k2] at b2; cases b2)]
      exact b2
    · have : k = done.length := by simp at hk; omega
      exact ⟨_, way_in m x K, by rw [self, this]⟩
  · refine ⟨way m x K :: ps, by simp [p1], fun j hj e => ?_⟩
    rcases Decidable.em (j = way m x K) with rfl | d
    · simp
    · rw [oAt_set_ne _ d] at e
      exact List.mem_cons_of_mem _ (p2 j hj e)
theorem own_many {m : Nat} (hm : Msk m) : ∀ (rest done : List Int) (owner : Array (Option Nat)), Own m done owner → done.length + rest.length ≤ m →
    ∃ ow, rest.foldl (stepF m) (some (owner, done.length)) = some (ow, done.length + rest.length) ∧ Own m (done ++ rest) ow := by
  intro rest
  induction rest with
  | nil => intro done owner W _; exact ⟨owner, rfl, by simpa using W⟩
  | cons x rest ih =>
    intro done owner W hl
    simp only [List.length_cons] at hl
    obtain ⟨j, e, W1⟩ := own_one hm W (by omega) x
    obtain ⟨ow, f, W2⟩ := ih (done ++ [x]) _ W1 (by simp; omega)
    refine ⟨ow, ?_, by simpa using W2⟩
    rw [List.foldl_cons, stepF_some e]
    simp only [List.length_append, List.length_cons, List.length_nil] at f ⊢
    rw [show done.length + (rest.length + 1) = done.length + (0 + 1) + rest.length by omega]
    exact f
theorem own_laid {m : Nat} (hm : Msk m) {hs : Array Int} (hn : hs.size ≤ m) : ∃ ow, SetTable.layClean m hs = some ow ∧ Own m hs.toList ow := by
  obtain ⟨ow, f, W⟩ := own_many hm hs.toList [] _ (Own.init m) (by simpa using hn)
  exact ⟨ow, by rw [layClean_eq]; exact congrArg (Option.map (·.1)) f, by simpa using W⟩
/-- the rows as they lie in the new table -/
def again (R : List Rw) (m : Nat) (ow : Array (Option Nat)) : List Rw := (liveOf m ow).map fun q => ⟨q.1, (R.getD q.2 ⟨0, 0, []⟩).a, (R.getD q.2 ⟨0, 0, []⟩).k⟩
def ent (P : Program) (w : World) (r : Rw) : Int × Value := (thash P w r.k, Value.ref r.a)
def ak (r : Rw) : Addr × List Int := (r.a, r.k)
theorem tb_again (t : SetTable) {R : List Rw} {es : Array (Int × Value)} (he : es.toList = R.map (ent P w)) {m wanted : Nat} (hw : SetTable.sizeAbove wanted - 1 = m) (hm : Msk m) (hl : R.length ≤ m) :
    ∃ t' order R', t.relaid (es.map (·.1)) wanted = some (t', order) ∧ (order.filterMap (es[·]?)).toList = R'.map (ent P w) ∧ (R'.map ak).Perm (R.map ak) ∧ Tb P w t' R' ∧ t'.mask = m ∧ t'.led = t.led ∧ t'.plain = t.plain := by
  have hz : es.size = R.length := by rw [← Array.length_toList, he, List.length_map]
  obtain ⟨ow, e, W⟩ := own_laid hm (hs := es.map (·.1)) (by rw [Array.size_map, hz]; exact hl)
  have hsl : (es.map (·.1)).toList = R.map fun r => thash P w r.k := by rw [Array.toList_map, he, List.map_map]; rfl
  rw [hsl] at W
  have lv : ∀ q ∈ liveOf m ow, q.1 ≤ m ∧ oAt ow q.1 = some q.2 := fun q hq => (mem_live W.sz).1 hq
  have lt : ∀ q ∈ liveOf m ow, q.2 < R.length := fun q hq => by
    obtain ⟨_, _, a, _⟩ := W.at_ q.1 q.2 (lv q hq).1 (lv q hq).2
    have := (List.getElem?_eq_some_iff.mp a).1
    simpa using this
  have rs := ris_live (fun j => ow.getD j none) (List.range (m + 1)) (by simpa [Array.toList_range] using ris_range (m + 1))
  have r1 : Ris ((liveOf m ow).map (·.1)) := rs.1
  have pm : ((liveOf m ow).map (·.2)).Perm (List.range R.length) := by
    obtain ⟨ps, p1, p2⟩ := W.ps
    rw [List.length_map] at p1
    have all : ∀ k, k < R.length → k ∈ (liveOf m ow).map (·.2) := fun k hk => by
      obtain ⟨j, a, b⟩ := W.all k (by simpa using hk)
      exact List.mem_map.mpr ⟨(j, k), (mem_live W.sz).2 ⟨a, b⟩, rfl⟩
    refine perm_range _ _ ?_ all
    have b1 := nat_nodup_len ((liveOf m ow).map (·.1)) ps (ris_nodup r1) fun x hx => by
      obtain ⟨q, hq, rfl⟩ := List.mem_map.mp hx
      exact p2 q.1 (lv q hq).1 (by rw [(lv q hq).2]; simp)
    have b2 := nat_nodup_len (List.range R.length) _ List.nodup_range fun k hk => all k (List.mem_range.mp hk)
    simp only [List.length_map, List.length_range] at b1 b2 ⊢
    omega
  have gt : ∀ i, i < R.length → R[i]? = some (R.getD i ⟨0, 0, []⟩) := fun i hi => by simp [List.getD, hi]
  have eg : ∀ i, i < R.length → es[i]? = some (ent P w (R.getD i ⟨0, 0, []⟩)) := fun i hi => by
    rw [← Array.getElem?_toList, he, List.getElem?_map, gt i hi]; rfl
  refine ⟨tabOf t m ow, ((liveOf m ow).map (·.2)).toArray, again R m ow, ?_, ?_, ?_, ?_, rfl, rfl, rfl⟩
  · rw [relaid_eq, hw, e]; rfl
  · rw [Array.toList_filterMap]
    show ((liveOf m ow).map (·.2)).filterMap (fun i => es[i]?) = _
    unfold again
    rw [List.map_map]
    have go : ∀ l : List (Nat × Nat), (∀ q ∈ l, q.2 < R.length) → (l.map (·.2)).filterMap (fun i => es[i]?) = l.map (ent P w ∘ fun q => (⟨q.1, (R.getD q.2 ⟨0, 0, []⟩).a, (R.getD q.2 ⟨0, 0, []⟩).k⟩ : Rw)) := by
      intro l
      induction l with
      | nil => intro _; rfl
      | cons q l ih =>
        intro h
        rw [List.map_cons, List.filterMap_cons_some (eg q.2 (h q (by simp))), ih fun x hx => h x (by simp [hx])]
        rfl
    exact go _ lt
  · have e1 : (again R m ow).map ak = ((liveOf m ow).map (·.2)).map fun i => ak (R.getD i ⟨0, 0, []⟩) := by
      unfold again
      rw [List.map_map, List.map_map]; rfl
    have e2 : R.map ak = (List.range R.length).map fun i => ak (R.getD i ⟨0, 0, []⟩) := by
      apply List.ext_getElem?
      intro i
      rw [List.getElem?_map, List.getElem?_map]
      rcases Nat.lt_or_ge i R.length with h | h
      · rw [gt i h, List.getElem?_range h]; rfl
      · rw [List.getElem?_eq_none h, List.getElem?_eq_none (by simpa using h)]; rfl
    rw [e1, e2]
    exact pm.map _
  · have e3 : (again R m ow).map Rw.s = (liveOf m ow).map (·.1) := by unfold again; rw [List.map_map]; rfl
    refine ⟨hm, ?_, by rw [e3]; exact r1, rfl, fun r hr => ?_, fun r hr => ?_⟩
    · rw [e3]; rfl
    · obtain ⟨q, hq, rfl⟩ := List.mem_map.mp hr
      exact (lv q hq).1
    · rw [e3]
      obtain ⟨q, hq, rfl⟩ := List.mem_map.mp hr
      obtain ⟨x, n, a, b, c⟩ := W.at_ q.1 q.2 (lv q hq).1 (lv q hq).2
      rw [List.getElem?_map, gt _ (lt q hq)] at a
      cases a
      refine ⟨n, b, fun i hi => ?_⟩
      cases z : oAt ow (way m (thash P w (R.getD q.2 ⟨0, 0, []⟩).k) i) with
      | none => exact absurd z (c i hi)
      | some v => exact List.mem_map.mpr ⟨(_, v), (mem_live W.sz).2 ⟨way_in _ _ _, z⟩, rfl⟩
end
end MiS
/-! MiT: a set of tuples of ints as an object: searching, adding. -/
namespace MiS
open PySem L2 PySem.Spec PyProof.Rows
structure SX (P : Program) (w : World) (h : Heap) (a : Addr) (R : List Rw) (es : Array (Int × Value)) (ep : Nat) (t : SetTable) : Prop where
  ob : ∃ o, h.get? a = some o ∧ o.ExactSet ∧ o.data = .set es ep t
  es : es.toList = R.map (ent P w)
  tb : Tb P w t R
  nd : (R.map Rw.k).Nodup
  tup : ∀ r ∈ R, IsT P w h r.k r.a
  plain : t.plain = true
  led : w.params.followText "set-order" = true ∨ t.led = true
  room : R.length * 5 < t.mask * 3
  few : R.length < 300
section
variable {P : Program} {w : World} {A : Around} {E : Value → Shared → Prop} {s : Shared} {a : Addr} {R : List Rw} {es : Array (Int × Value)} {ep : Nat} {t : SetTable}
theorem SX.size (X : SX P w s.heap a R es ep t) : es.size = R.length := by rw [← Array.length_toList, X.es, List.length_map]
theorem SX.psize (X : SX P w s.heap a R es ep t) : t.place.size = R.length := by rw [← Array.length_toList, X.tb.pl, List.length_map]
theorem SX.fits (X : SX P w s.heap a R es ep t) : t.fits es.size = true := by
  have h1 := X.room
  unfold SetTable.fits SetTable.fill
  rw [X.tb.dm, X.size, X.psize]
  simp
  omega
theorem SX.at (X : SX P w s.heap a R es ep t) {i : Nat} {r : Rw} (h : R[i]? = some r) : es[i]? = some (ent P w r) := by
  rw [← Array.getElem?_toList, X.es, List.getElem?_map, h]; rfl
theorem msk_odd {m : Nat} (h : Msk m) : m % 2 = 1 := by rcases h with rfl | rfl | rfl | rfl <;> rfl
abbrev σ0 (P : Program) (w : World) (t : SetTable) (k : List Int) : SetTable.Probe := runAt t.mask (SetTable.bits (thash P w k) % (t.mask + 1)) (SetTable.bits (thash P w k))
theorem nth_plain (m : Nat) : ∀ (n : Nat) (p : SetTable.Probe), p.dummy = none → (nth m p n).dummy = none
  | 0, _, h => h
  | n + 1, p, h => nth_plain m n (adv m p) (by unfold adv; split <;> exact h)
/-- a search that adds, from the c-th place of the way on -/
theorem look (X : SX P w s.heap a R es ep t) {b : Addr} {k : List Int} (hb : IsT P w s.heap k b) (hu : A.units < cLine) {n : Nat} (hn : n < 10 * SetTable.turns t.mask)
    (n1 : way t.mask (thash P w k) n ∉ R.map Rw.s) (n2 : ∀ i, i < n → way t.mask (thash P w k) i ∈ R.map Rw.s) {Q : SetFound → Shared → Prop}
    (yes : k ∈ R.map Rw.k → Q (.there none) s) (no : k ∉ R.map Rw.k → Q (.free (way t.mask (thash P w k) n) false) s) :
    ∀ (f c : Nat) (st : Option SetTable.Probe), st.getD (t.probeStart (thash P w k)) = nth t.mask (σ0 P w t k) c → c ≤ n → n < c + f →
      (∀ r ∈ R, r.k = k → ∃ c', c ≤ c' ∧ c' < n ∧ r.s = way t.mask (thash P w k) c') → wpAny (model P w) A (setSearchFrom a (.ref b) (thash P w k) true f st) Q E s := by
  intro f
  induction f with
  | zero => intro c st _ _ h; omega
  | succ f ih =>
    intro c st hst hc hf ahead
    obtain ⟨o, ho, hex, hd⟩ := X.ob
    rw [setSearchFrom_succ]
    refine wpAny_bind (wpAny_setState_of ho hd X.fits ?_)
    dsimp only
    refine wp_if_neg (by unfold SetTable.gaveWay; rw [msk_odd X.tb.ok]; decide) ?_
    try refine wpAny_bind (wpAny_pure ?_)
    have sh : ∀ q, nth t.mask (nth t.mask (σ0 P w t k) c) q = nth t.mask (σ0 P w t k) (c + q) := fun q => (nth_add t.mask c _ q).symm
    have wy : ∀ q, (nth t.mask (nth t.mask (σ0 P w t k) c) q).j = way t.mask (thash P w k) (c + q) := fun q => congrArg SetTable.Probe.j (sh q)
    have ix : ∀ {i : Nat} {r : Rw}, R[i]? = some r → (es[i]?.map Prod.fst).getD 0 = thash P w r.k := fun h => by rw [X.at h]; rfl
    have rs : Ris t.place.toList := by rw [X.tb.pl]; exact X.tb.ris
    have pos : ∀ r ∈ R, ∃ i, R[i]? = some r ∧ t.place.toList[i]? = some r.s := fun r hr => by
      obtain ⟨i, hi, e⟩ := List.getElem_of_mem hr
      have q : R[i]? = some r := by rw [List.getElem?_eq_getElem hi, e]
      exact ⟨i, q, by rw [X.tb.pl, List.getElem?_map, q]; rfl⟩
    -- none is passed
    have miss : ∀ {q : Nat}, (∀ k' i' : Nat, k' < q → t.place.toList[i']? = some (nth t.mask (nth t.mask (σ0 P w t k) c) k').j → (es[i']?.map Prod.fst).getD 0 ≠ thash P w k) → ∀ r ∈ R, r.k = k → ∀ c', c ≤ c' → r.s = way t.mask (thash P w k) c' → c + q ≤ c' := by
      intro q hno r hr hk c' h1 h2
      refine Nat.le_of_not_lt fun h3 => ?_
      obtain ⟨i, i1, i2⟩ := pos r hr
      refine hno (c' - c) i (by omega) ?_ (by rw [ix i1, hk])
      rw [wy, show c + (c' - c) = c' by omega, i2, h2]
    rcases go_spec t rs X.tb.dm (fun i => (es[i]?.map Prod.fst).getD 0) (thash P w k) (10 * SetTable.turns t.mask) (n - c) _ (nth_plain _ c _ rfl) (by omega)
        (fun q hq => by rw [wy, X.tb.pl]; exact n2 _ (by omega)) (by rw [wy, X.tb.pl, show c + (n - c) = n by omega]; exact n1) with ⟨q, i, q1, q2, q3, q4, q5⟩ | ⟨q4, q5⟩
    · rw [hst, show t.probe (fun i => (es[i]?.map Prod.fst).getD 0) (thash P w k) (nth t.mask (σ0 P w t k) c) = _ from q5]
      dsimp only
      rw [wy] at q2
      rw [wy, sh]
      obtain ⟨r, hr⟩ : ∃ r, R[i]? = some r := by
        rw [X.tb.pl, List.getElem?_map] at q2
        cases z : R[i]? with
        | none => rw [z] at q2; cases q2
        | some r => exact ⟨r, rfl⟩
      have hm : r ∈ R := List.mem_of_getElem? hr
      have hs : r.s = way t.mask (thash P w k) (c + q) := by
        rw [X.tb.pl, List.getElem?_map, hr] at q2
        exact Option.some.inj q2
      have more : wpAny (model P w) A (searchRest a (.ref b) (thash P w k) true f es t (way t.mask (thash P w k) (c + q)) i (nth t.mask (σ0 P w t k) (c + (q + 1)))) Q E s := by
        unfold searchRest
        rw [X.at hr]
        dsimp only [ent]
        refine wpAny_bind (wpAny_holding (wpAny_eqBool_tuple hu (X.tup r hm) hb ?_))
        refine wpAny_bind (wpAny_setState_of ho hd X.fits ?_)
        dsimp only
        rcases Decidable.em (r.k = k) with e | e
        · refine wp_if_pos (by simp [e]) (wpAny_pure (yes ?_))
          exact List.mem_map.mpr ⟨r, hm, e⟩
        · refine wp_if_neg (by simp [e]) ?_
          try refine wpAny_bind (wpAny_pure ?_)
          rw [sameMem]
          dsimp only
          have sl := slot_live rs q2
          simp only [if_true, sl, X.at hr, ent]
          refine wpAny_bind (wpAny_isSame_ref_self (wpAny_bind (wpAny_pure ?_)))
          simp only [if_true]
          refine wp_if_neg (by simp [e]) ?_
          refine ih (c + (q + 1)) _ rfl (by omega) (by omega) fun r0 h0 hk0 => ?_
          obtain ⟨c', a1, a2, a3⟩ := ahead r0 h0 hk0
          refine ⟨c', ?_, a2, a3⟩
          have b1 := miss q4 r0 h0 hk0 c' a1 a3
          rcases Nat.lt_or_eq_of_le b1 with z | z
          · omega
          · exfalso
            rw [← z, ← hs] at a3
            exact e (by rw [← map_one (ris_nodup X.tb.ris) h0 hm a3]; exact hk0)
      rcases Decidable.em (t.led = true) with hl | hl
      · refine wp_if_neg (by simp [hl]) ?_
        try refine wpAny_bind (wpAny_pure ?_)
        exact more
      · refine wp_if_pos (by simp [hl]) (wpAny_bind (seen_tup hb (fun y hy => ?_) ?_))
        · simp only [List.mem_map, Array.mem_toList_iff, Array.mem_filter] at hy
          obtain ⟨e, ⟨he, _⟩, rfl⟩ := hy
          rw [← Array.mem_toList_iff, X.es] at he
          obtain ⟨r2, h2, rfl⟩ := List.mem_map.mp he
          exact ⟨r2.k, r2.a, rfl, X.tup r2 h2⟩
        · refine wp_if_neg (by decide) ?_
          try refine wpAny_bind (wpAny_pure ?_)
          exact more
    · rw [hst, show t.probe (fun i => (es[i]?.map Prod.fst).getD 0) (thash P w k) (nth t.mask (σ0 P w t k) c) = _ from q5]
      rw [wy, show c + (n - c) = n by omega]
      dsimp only
      refine wpAny_pure (no fun hk => ?_)
      obtain ⟨r, hr, e⟩ := List.mem_map.mp hk
      obtain ⟨c', a1, a2, a3⟩ := ahead r hr e
      have := miss q4 r hr e c' a1 a3
      omega
theorem find (X : SX P w s.heap a R es ep t) {b : Addr} {k : List Int} (hb : IsT P w s.heap k b) (hu : A.units < cLine) {Q : SetFound → Shared → Prop} (yes : k ∈ R.map Rw.k → Q (.there none) s)
    (no : ∀ n, k ∉ R.map Rw.k → way t.mask (thash P w k) n ∉ R.map Rw.s → (∀ i, i < n → way t.mask (thash P w k) i ∈ R.map Rw.s) → Q (.free (way t.mask (thash P w k) n) false) s) :
    wpAny (model P w) A (setSearch a (.ref b) (thash P w k) true) Q E s := by
  have r := X.room
  obtain ⟨n, h0, h1, h2⟩ := X.tb.free (by omega) (thash P w k)
  have hb2 : 10 * SetTable.turns t.mask ≤ 99999 := by
    unfold SetTable.turns
    rcases X.tb.ok with e | e | e | e <;> omega
  refine look X hb hu h0 h1 h2 yes (fun z => no n z h1 h2) 100000 0 none rfl (Nat.zero_le _) (by omega) fun r hr hk => ?_
  obtain ⟨c, c1, c2⟩ := X.tb.far r hr
  rw [hk] at c1 c2
  refine ⟨c, Nat.zero_le _, Nat.lt_of_not_le fun z => ?_, c1.symm⟩
  rcases Nat.lt_or_eq_of_le z with z | z
  · exact h1 (c2 n z)
  · rw [z, c1] at h1
    exact h1 (List.mem_map.mpr ⟨r, hr, rfl⟩)
end
end MiS
/-! MiU: adding to a set of tuples of ints, set(xs), sorted(set(xs)). -/
namespace MiS
open PySem L2 PySem.Spec PyProof.Rows
section
variable {P : Program} {w : World} {A : Around} {E : Value → Shared → Prop} {s : Shared} {a : Addr} {R : List Rw} {es : Array (Int × Value)} {ep : Nat} {t : SetTable}
/-- a fuller table takes its place -/
theorem larger {o : Obj} (ho : s.heap.get? a = some o) (hex : o.ExactSet) (hd : o.data = .set es ep t) (he : es.toList = R.map (ent P w)) (T : Tb P w t R) (hl : R.length ≤ t.mask) (nd : (R.map Rw.k).Nodup) (tup : ∀ r ∈ R, IsT P w s.heap r.k r.a)
    (pl : t.plain = true) (ld : w.params.followText "set-order" = true ∨ t.led = true) (few : R.length < 300) {wanted m : Nat} (hw : SetTable.sizeAbove wanted = m + 1) (hm : Msk m) (hn : R.length * 5 < m * 3) {Q : Unit → Shared → Prop}
    (hQ : ∀ h' R' es' ep' t', Heap.SameBut a s.heap h' → SX P w h' a R' es' ep' t' → (R'.map ak).Perm (R.map ak) → Q () { s with heap := h' }) : wpAny (model P w) A (setRelay a wanted) Q E s := by
  have z1 : es.size = R.length := by rw [← Array.length_toList, he, List.length_map]
  have z2 : t.place.size = R.length := by rw [← Array.length_toList, T.pl, List.length_map]
  have fit : t.fits es.size = true := by
    unfold SetTable.fits SetTable.fill
    rw [T.dm, z1, z2]
    simp
    omega
  have m1 : m ≤ 511 := by rcases hm with e | e | e | e <;> omega
  obtain ⟨t', order, R', e1, e2, e3, T', e4, e5, e6⟩ := tb_again t he (show SetTable.sizeAbove wanted - 1 = m by omega) hm (by omega)
  have n3 : R'.length = R.length := by simpa using e3.length_eq
  have z3 : (order.filterMap (es[·]?)).size = es.size := by rw [← Array.length_toList, e2, List.length_map, n3, z1]
  rw [setRelay_eq]
  refine wpAny_bind (wpAny_setState_of ho hd fit ?_)
  dsimp only
  refine wp_if_neg (by rw [hw, sizeLine_eq]; omega) ?_
  try refine wpAny_bind (wpAny_pure ?_)
  rw [e1]
  dsimp only
  refine wpAny_bind (wp_if_neg (by rw [z3]; simp) ?_)
  try refine wpAny_bind (wpAny_pure ?_)
  refine wpAny_pure ?_
  dsimp only
  refine wpAny_storeSet_of ho hd (hQ _ R' (order.filterMap (es[·]?)) (ep + 1) t' (Heap.SameBut.update ..) ?_ e3) (by rw [z3, z1, sizeLine_eq]; omega)
  have kk : ∀ l : List Rw, l.map Rw.k = (l.map ak).map Prod.snd := fun l => by rw [List.map_map]; rfl
  refine ⟨⟨_, store_at ho hd, ⟨hex.1, hex.2.1, hex.2.2⟩, rfl⟩, e2, T', ?_, fun r hr => ?_, by rw [e6]; exact pl, by rw [e5]; exact ld, by rw [n3, e4]; exact hn, by rw [n3]; exact few⟩
  · rw [kk]
    exact (e3.map Prod.snd).nodup_iff.mpr (by rw [← kk]; exact nd)
  · have q := e3.mem_iff.mp (List.mem_map.mpr ⟨r, hr, rfl⟩)
    obtain ⟨r0, h0, q⟩ := List.mem_map.mp q
    have q1 : r0.a = r.a := congrArg Prod.fst q
    have q2 : r0.k = r.k := congrArg Prod.snd q
    rw [← q1, ← q2]
    exact isT_same (tup r0 h0) ho hd (Heap.SameBut.update ..)
theorem grow_steps {m n : Nat} (hm : Msk m) (h1 : n * 5 < m * 3) (h2 : (n + 1) * 5 ≥ m * 3) (h3 : n + 1 < 300) :
    ∃ m', Msk m' ∧ SetTable.sizeAbove (SetTable.grown (n + 1)) = m' + 1 ∧ (n + 1) * 5 < m' * 3 ∧ n + 1 ≤ m := by
  rcases hm with rfl | rfl | rfl | rfl
  · have : n = 4 := by omega
    subst this
    exact ⟨31, .inr (.inl rfl), by decide +kernel, by omega, by omega⟩
  · have : n = 18 := by omega
    subst this
    exact ⟨127, .inr (.inr (.inl rfl)), by decide +kernel, by omega, by omega⟩
  · have : n = 76 := by omega
    subst this
    exact ⟨511, .inr (.inr (.inr rfl)), by decide +kernel, by omega, by omega⟩
  · omega
/-- one more, or none -/
theorem adds (X : SX P w s.heap a R es ep t) {b : Addr} {k : List Int} (hb : IsT P w s.heap k b) (hu : A.units < cLine) (hf : R.length + 1 < 300) {Q : Bool → Shared → Prop}
    (hQ : ∀ yes h' R' es' ep' t', Heap.SameBut a s.heap h' → SX P w h' a R' es' ep' t' → (k ∈ R.map Rw.k → R' = R) → (k ∉ R.map Rw.k → (R'.map ak).Perm ((b, k) :: R.map ak)) → Q yes { s with heap := h' }) :
    wpAny (model P w) A (setAddHashed a (.ref b) (thash P w k)) Q E s := by
  obtain ⟨o, ho, hex, hd⟩ := X.ob
  have z := X.size
  have rm := X.room
  unfold setAddHashed
  rw [show (100000 : Nat) = 99999 + 1 from rfl, setAddHashedIn_succ]
  refine wpAny_holding (wpAny_bind (wpAny_setState_of ho hd X.fits ?_))
  dsimp only
  refine wp_if_neg (by simp [byScan, Value.scannable]) ?_
  try refine wpAny_bind (wpAny_pure ?_)
  refine wpAny_bind (find X hb hu (fun hk => ?_) fun n hk n1 n2 => ?_)
  · dsimp only
    exact wpAny_pure (hQ false _ R es ep t (Heap.SameBut.refl a _) X (fun _ => rfl) fun n => absurd hk n)
  dsimp only
  refine wpAny_bind (wpAny_setState_of ho hd X.fits ?_)
  dsimp only
  obtain ⟨p1, T1⟩ := X.tb.ins (b := b) n1 n2 rfl rfl
  have i1 : (SetTable.insertAt es (SetTable.below t.place (way t.mask (thash P w k) n)) (thash P w k, Value.ref b)).toList = (R.take (SetTable.below t.place (way t.mask (thash P w k) n)) ++ (⟨way t.mask (thash P w k) n, b, k⟩ : Rw) :: R.drop (SetTable.below t.place (way t.mask (thash P w k) n))).map (ent P w) := by
    rw [SetTable.toList_insertAt, X.es]
    simp [List.map_take, List.map_drop, ent]
  have pm : (R.take (SetTable.below t.place (way t.mask (thash P w k) n)) ++ (⟨way t.mask (thash P w k) n, b, k⟩ : Rw) :: R.drop (SetTable.below t.place (way t.mask (thash P w k) n))).Perm (⟨way t.mask (thash P w k) n, b, k⟩ :: R) := put_perm R _ _
  generalize R.take (SetTable.below t.place (way t.mask (thash P w k) n)) ++ (⟨way t.mask (thash P w k) n, b, k⟩ : Rw) :: R.drop (SetTable.below t.place (way t.mask (thash P w k) n)) = R1 at T1 i1 pm
  have g : t.put (way t.mask (thash P w k) n) = ((t.put (way t.mask (thash P w k) n)).1, SetTable.below t.place (way t.mask (thash P w k) n)) := rfl
  rw [g]
  have t1p : (t.put (way t.mask (thash P w k) n)).1.plain = true := X.plain
  have t1l : w.params.followText "set-order" = true ∨ (t.put (way t.mask (thash P w k) n)).1.led = true := X.led
  have t1m : (t.put (way t.mask (thash P w k) n)).1.mask = t.mask := rfl
  generalize (t.put (way t.mask (thash P w k) n)).1 = t1 at T1 t1p t1l t1m
  generalize SetTable.insertAt es (SetTable.below t.place (way t.mask (thash P w k) n)) (thash P w k, Value.ref b) = es1 at i1
  try dsimp only
  have l1 : R1.length = R.length + 1 := by simpa using pm.length_eq
  have z1 : es1.size = R.length + 1 := by rw [← Array.length_toList, i1, List.length_map, l1]
  have f1 : t1.fill = R.length + 1 := by
    have e := congrArg List.length T1.pl
    rw [Array.length_toList, List.length_map] at e
    unfold SetTable.fill
    rw [T1.dm, e, l1]; rfl
  have full : t1.tooFull = decide ((R.length + 1) * 5 ≥ t.mask * 3) := by unfold SetTable.tooFull; rw [f1, t1m]
  first
    | (refine wpAny_bind ?_; refine wp_if_pos t1p ?_; refine hashBy_tup hb ?_)
    | refine wp_if_pos t1p (wpAny_bind (hashBy_tup hb ?_))
  simp only [if_true]
  refine wpAny_bind (wpAny_storeSet_of ho hd ?_ (by rw [z1, sizeLine_eq]; omega))
  have sb : Heap.SameBut a s.heap (s.heap.update a (Obj.putSet es1 t1)) := Heap.SameBut.update ..
  have ho1 := store_at (es' := es1) (t' := t1) ho hd
  generalize s.heap.update a (Obj.putSet es1 t1) = h1 at sb ho1 ⊢
  have nd1 : (R1.map Rw.k).Nodup := (pm.map Rw.k).nodup_iff.mpr (List.nodup_cons.mpr ⟨hk, X.nd⟩)
  have tup1 : ∀ r ∈ R1, IsT P w h1 r.k r.a := fun r hr => by
    rcases List.mem_cons.mp (pm.mem_iff.mp hr) with rfl | hr
    · exact isT_same hb ho hd sb
    · exact isT_same (X.tup r hr) ho hd sb
  have pm2 : (R1.map ak).Perm ((b, k) :: R.map ak) := pm.map ak
  rcases Decidable.em ((R.length + 1) * 5 ≥ t.mask * 3) with hfl | hfl
  · first
      | (refine wpAny_bind ?_; refine wp_if_pos (by rw [full]; simp [hfl]) ?_)
      | (refine wp_if_pos (by rw [full]; simp [hfl]) ?_; refine wpAny_bind ?_)
    obtain ⟨m', h0, h2, h3, h4⟩ := grow_steps X.tb.ok rm hfl hf
    rw [z]
    refine larger (s := { s with heap := h1 }) ho1 ⟨hex.1, hex.2.1, hex.2.2⟩ rfl i1 T1 (by rw [l1, t1m]; exact h4) nd1 tup1 t1p t1l (by omega) h2 h0 (by rw [l1]; exact h3) fun h' R' es' ep' t' sb2 X' pm3 => ?_
    exact wpAny_pure (hQ true h' R' es' ep' t' (sb.trans sb2) X' (fun y => absurd y hk) fun _ => pm3.trans pm2)
  · first
      | refine wp_if_neg (by rw [full]; simp; omega) ?_
      | (refine wpAny_bind ?_; refine wp_if_neg (by rw [full]; simp; omega) ?_; refine wpAny_pure ?_)
    exact wpAny_pure (hQ true h1 R1 es1 (ep + 1) t1 sb ⟨⟨_, ho1, ⟨hex.1, hex.2.1, hex.2.2⟩, rfl⟩, i1, T1, nd1, tup1, t1p, t1l, by rw [l1, t1m]; omega, by omega⟩ (fun y => absurd y hk) fun _ => pm2)
end
end MiS
/-! MiV: set(xs), sorted(set(xs)). -/
namespace MiS
open PySem L2 PySem.Spec PyProof.Rows
/-- what the set holds of the first i -/
def Cov (ks : List (Addr × List Int)) (i : Nat) (R : List Rw) : Prop := R.length ≤ i ∧ (∀ r ∈ R, ak r ∈ ks.take i) ∧ ∀ p ∈ ks.take i, p.2 ∈ R.map Rw.k
theorem Cov.zero {ks : List (Addr × List Int)} : Cov ks 0 [] := ⟨Nat.le_refl _, (fun _ h => nomatch h), fun _ h => by cases h⟩
theorem mem_take_up {α : Type} {l : List α} {i : Nat} {x y : α} (h : l[i]? = some x) : y ∈ l.take (i + 1) ↔ y ∈ l.take i ∨ y = x := by
  rw [List.take_succ, h]
  simp
theorem Cov.up {ks : List (Addr × List Int)} {i : Nat} {R R' : List Rw} {x : Addr × List Int} (c : Cov ks i R) (h : ks[i]? = some x) (h1 : x.2 ∈ R.map Rw.k → R' = R) (h2 : x.2 ∉ R.map Rw.k → (R'.map ak).Perm (x :: R.map ak)) : Cov ks (i + 1) R' := by
  obtain ⟨c0, c1, c2⟩ := c
  rcases Classical.em (x.2 ∈ R.map Rw.k) with z | z
  · rw [h1 z]
    refine ⟨by omega, fun r hr => (mem_take_up h).2 (.inl (c1 r hr)), fun p hp => ?_⟩
    rcases (mem_take_up h).1 hp with q | rfl
    · exact c2 p q
    · exact z
  · have p := h2 z
    have kk : ∀ l : List Rw, l.map Rw.k = (l.map ak).map Prod.snd := fun l => by rw [List.map_map]; rfl
    refine ⟨?_, fun r hr => ?_, fun q hq => ?_⟩
    · have := p.length_eq
      simp at this
      omega
    · rcases List.mem_cons.mp (p.mem_iff.mp (List.mem_map.mpr ⟨r, hr, rfl⟩)) with e | e
      · exact (mem_take_up h).2 (.inr e)
      · obtain ⟨r0, h0, e⟩ := List.mem_map.mp e
        exact (mem_take_up h).2 (.inl (e ▸ c1 r0 h0))
    · rw [kk, (p.map Prod.snd).mem_iff, List.map_cons, ← kk]
      rcases (mem_take_up h).1 hq with y | rfl
      · exact List.mem_cons_of_mem _ (c2 q y)
      · exact List.mem_cons_self
section
variable {P : Program} {w : World} {A : Around} {E : Value → Shared → Prop} {s : Shared}
theorem SX.keep {h h' : Heap} {a : Addr} {R : List Rw} {es : Array (Int × Value)} {ep : Nat} {t : SetTable} (X : SX P w h a R es ep t) (k1 : ∀ o, h.get? a = some o → h'.get? a = some o) (k2 : ∀ r ∈ R, IsT P w h' r.k r.a) : SX P w h' a R es ep t :=
  let ⟨o, ho, z⟩ := X.ob
  ⟨⟨o, k1 o ho, z⟩, X.es, X.tb, X.nd, k2, X.plain, X.led, X.room, X.few⟩
abbrev new0 (w : World) : Obj := { cls := .type "set", dict := none, data := .set #[] 0 (.fresh 0 0 (!w.params.followText "set-order")) }
theorem sx_new {h : Heap} {a : Addr} (ho : h.get? a = some (new0 w)) : SX P w h a [] #[] 0 (.fresh 0 0 (!w.params.followText "set-order")) := by
  refine ⟨⟨_, ho, ⟨rfl, rfl, rfl⟩, rfl⟩, rfl, ⟨.inl rfl, rfl, List.Pairwise.nil, rfl, (fun _ h => nomatch h), (fun _ h => nomatch h)⟩, List.nodup_nil, (fun _ h => nomatch h), rfl, ?_, by show 0 * 5 < 7 * 3; decide, by show 0 < 300; decide⟩
  show _ ∨ (!w.params.followText "set-order") = true
  cases w.params.followText "set-order" <;> simp
/-- the items of a walk put into the set at S, from the i-th on -/
theorem walk {I : Addr} {fp wr : List Addr} {G : Array GenState → Array GenState → Prop} {n : Nat} {Pv : Nat → Value → Prop} {St : Nat → Shared → Prop} {Z : Result → Shared → Prop} (W : WalksS P w A.in1 I fp wr G n Pv St) {S : Addr} (hS : S ∉ fp)
    {ks : List (Addr × List Int)} (hn : n = ks.length) (few : ks.length < 300) (val : ∀ i v, Pv i v → ∃ p, ks[i]? = some p ∧ v = .ref p.1) {h0 : Heap} (hk : ∀ p ∈ ks, IsT P w h0 p.2 p.1) (S0 : h0.get? S = none) (w0 : ∀ b ∈ wr, h0.get? b = none) (hu : A.in1.units < cLine) :
    ∀ (k i : Nat) (s : Shared), i + k = n → St i s → (∀ b o, h0.get? b = some o → s.heap.get? b = some o) → (∃ R es ep t, SX P w s.heap S R es ep t ∧ Cov ks i R) →
      (∀ s' R es ep t, Moved (S :: wr) G s s' → SX P w s'.heap S R es ep t → Cov ks n R → (∀ b o, h0.get? b = some o → s'.heap.get? b = some o) → Z (.ok (.ret .none)) s') →
      codeAny (model P w) A (.builtin "set.update.loop" ⟨[.ref S, .ref I], []⟩) Z s := by
  have away : ∀ {s s' : Shared}, Moved wr G s s' → (∀ b o, h0.get? b = some o → s.heap.get? b = some o) → ∀ b o, h0.get? b = some o → s'.heap.get? b = some o := fun hm kp b o e =>
    hm.heap b o (fun z => by rw [w0 b z] at e; cases e) (kp b o e)
  have inK : ∀ {i : Nat} {R : List Rw}, Cov ks i R → ∀ r ∈ R, ak r ∈ ks := fun c r hr => List.mem_of_mem_take (c.2.1 r hr)
  intro k
  induction k with
  | zero =>
    intro i s hi hst kp ⟨R, es, ep, t, X, c⟩ done
    have hi : i = n := hi
    subst hi
    refine codeAny_builtin F.entry_set_update_loop ?_
    rw [Around.under_plainId F.plain_set_update_loop _]
    show wpAny _ A.in1 (pyNext (.ref I) >>= _) _ _ s
    refine wpAny_bind (W.done s _ _ hst fun s' hm => ?_)
    show wpAny _ A.in1 (ret Value.none) _ _ s'
    have kp' := away hm kp
    exact wpAny_pure (done s' R es ep t (hm.mono fun b hb => List.mem_cons_of_mem _ hb) (X.keep (fun o e => hm.heap S o (fun z => hS (W.sub _ z)) e) fun r hr => isT_keep (hk _ (inK c r hr)) kp') c kp')
  | succ k ih =>
    intro i s hi hst kp ⟨R, es, ep, t, X, c⟩ done
    refine codeAny_builtin F.entry_set_update_loop ?_
    rw [Around.under_plainId F.plain_set_update_loop _]
    show wpAny _ A.in1 (pyNext (.ref I) >>= _) _ _ s
    refine wpAny_bind (W.item i s _ _ (by omega) hst fun v s1 hv st1 m1 => ?_)
    obtain ⟨p, hp, rfl⟩ := val i v hv
    have kp1 := away m1 kp
    have X1 : SX P w s1.heap S R es ep t := X.keep (fun o e => m1.heap S o (fun z => hS (W.sub _ z)) e) fun r hr => isT_keep (hk _ (inK c r hr)) kp1
    have pT : IsT P w s1.heap p.2 p.1 := isT_keep (hk p (List.mem_of_getElem? hp)) kp1
    show wpAny _ A.in1 (holding [Value.ref p.1] (setAdd S (.ref p.1)) >>= _) _ _ s1
    unfold setAdd
    refine wpAny_bind (wpAny_holding (wpAny_holding (wpAny_bind (wpAny_pyHash_tuple hu pT ?_))))
    refine adds (s := { s1 with toks := s1.toks + (p.2.length + 1) }) X1 pT hu (by have := c.1; omega) fun yes h' R' es' ep' t' sb X2 c1 c2 => ?_
    have kp2 : ∀ b o, h0.get? b = some o → h'.get? b = some o := fun b o e => by
      rw [sb.2 b fun z => by rw [z, S0] at e; cases e]
      exact kp1 b o e
    refine wpAny_pure ⟨plainId_quiet F.plain_set_update_loop _, ih (i + 1) _ (by omega) (W.frame _ s1 _ _ st1 (Nat.le_add_right _ _) fun b hb o e => ?_) kp2 ⟨R', es', ep', t', X2, c.up hp c1 c2⟩ fun s2 R2 es2 ep2 t2 m2 X3 c3 kp3 => ?_⟩
    · rw [sb.2 b fun z => hS (z ▸ hb)]
      exact e
    · refine done s2 R2 es2 ep2 t2 (Moved.trans W.gtrans ((m1.mono fun b hb => List.mem_cons_of_mem _ hb).then_heap (Nat.le_add_right _ _) fun b o hb e => ?_) m2) X3 c3 kp3
      rw [sb.2 b fun z => hb (z ▸ List.mem_cons_self)]
      exact e
/-- set(xs) -/
theorem mkset {l : Addr} {its : Array Value} {ks : List (Addr × List Int)} {Q : Value → Shared → Prop} (hh : A.handled = none) (hl : s.heap.IsList l its) (hi : its.toList = ks.map fun p => Value.ref p.1) (hk : ∀ p ∈ ks, IsT P w s.heap p.2 p.1)
    (few : ks.length < 300) (hu : A.units + 3 < cLine) (hQ : ∀ (h' : Heap) (tk : Nat) R es ep t, SX P w h' s.heap.objs.size R es ep t → Cov ks ks.length R → (∀ b o, s.heap.get? b = some o → h'.get? b = some o) → Q (.ref s.heap.objs.size) { s with heap := h', toks := tk }) :
    wpAny (model P w) A (call (.type "set") [.ref l]) Q E s := by
  have iz : its.size = ks.length := by rw [← Array.length_toList, hi, List.length_map]
  obtain ⟨cC, cT, cM⟩ := F.called_set.mro
  have cMade := F.called_set.made
  have cSub := F.called_set.sub
  refine wpAny_call (codeAny_of_tree ?_)
  show wpAny _ _ (callAny (.type "set") _) _ _ _
  refine wpAny_pure ⟨Code.quiet_builtin _ (by decide +kernel), codeAny_builtin F.entry_type_call ?_⟩
  rw [Around.under_plain (weight_type_call_type "set" [.ref l] []) rfl]
  have cNot := F.called_set.notType
  have cCan := F.called_set.canCreate
  have cTc := F.typeCall_set_1 (.ref l)
  repeat any_goals first | assumption | wp_step
  refine codeAny_mono (code_set_led1 (.ref l) (E := E) (Q₁ := fun v s₁ => v = .ref s.heap.objs.size ∧ s₁ = { s with heap := s.heap.push (new0 w) }) ⟨rfl, rfl⟩) fun r s₁ hr => ?_
  rcases r with e | fl
  · exact hr
  cases fl with
  | ret v =>
    obtain ⟨rfl, rfl⟩ := hr
    have gS : (s.heap.push (new0 w)).get? s.heap.objs.size = some (new0 w) := Heap.get?_push_size _ rfl
    have tS : Shared.TypeIs { s with heap := s.heap.push (new0 w) } (.ref s.heap.objs.size) "set" := ⟨_, gS, rfl⟩
    have cLook := F.called_set.init.lookup
    have cBind := F.called_set.init.bind (.ref s.heap.objs.size)
    repeat any_goals first | assumption | wp_step
    refine codeAny_mono (codeAny_call_builtin (R := wants (fun r s₂ => r = .none ∧ ∃ h' tk R es ep t, s₂ = { s with heap := h', toks := tk } ∧ SX P w h' s.heap.objs.size R es ep t ∧ Cov ks ks.length R ∧ (∀ b o, s.heap.get? b = some o → h'.get? b = some o)) E)
      F.called_set.init.plain F.entry_set_init (check_set_init_1 tS ?_)) fun r₂ s₂ hr₂ => ?_
    · obtain ⟨⟨oc, od, oda, osl⟩, oh, ohc, on, ohd⟩ := hl
      cases ohc
      cases ohd
      have oh1 : (s.heap.push (new0 w)).get? l = some { cls := .type "list", dict := od, data := .seq its on, slots := osl } := Heap.get?_push_of_some _ oh
      have notF := F.sub_list_frozenset
      have notS := F.sub_list_set
      have notD : (Value.type "list" == Value.type "dict") = false := by decide
      have il : (s.heap.push (new0 w)).IsList l its := ⟨_, oh1, rfl, on, rfl⟩
      have lt : l < s.heap.objs.size := Heap.lt_size oh
      have hh3 : A.in1.in1.in1.handled = none := by simp [hh]
      unfold Builtin.«set.__init__» noKeywords Builtin.Frozenset.updateFrom
      generalize hPI : pyIter = PI
      wp_walk
      subst hPI
      refine wpAny_pyIter_list il (wpAny_bind (wpAny_runValue ?_))
      have pz : (s.heap.push (new0 w)).objs.size = s.heap.objs.size + 1 := Heap.size_push ..
      have nn : ∀ b, s.heap.objs.size ≤ b → s.heap.get? b = none := fun b hb => by
        cases q : s.heap.get? b with
        | none => rfl
        | some o => exact absurd (Heap.lt_size q) (Nat.not_lt.mpr hb)
      refine walk ((Walks.list hh3 _ l (by rw [pz]; exact Nat.ne_of_lt (Nat.lt_succ_of_lt lt)) its).toS) (S := s.heap.objs.size) (by rw [pz]; simp only [List.mem_cons, List.not_mem_nil, or_false, not_or]; exact ⟨Nat.ne_of_lt (Nat.lt_succ_self _), Nat.ne_of_gt lt⟩) iz few (fun i v hv => ?_) hk (nn _ (Nat.le_refl _)) (fun b hb => nn b (by rw [List.mem_singleton.mp hb, pz]; exact Nat.le_succ _)) hu its.size 0 _ (Nat.zero_add _)
        ⟨⟨_, Heap.get?_push_size _ rfl, rfl, rfl⟩, il.push _⟩ (fun b o e => Heap.get?_push_of_some _ (Heap.get?_push_of_some _ e)) ⟨[], #[], 0, _, sx_new (Heap.get?_push_of_some _ gS), Cov.zero⟩ fun s3 R es ep t mv X c kp => ?_
      · have q : its.toList[i]? = some v := by rw [Array.getElem?_toList]; exact hv
        rw [hi, List.getElem?_map, Option.map_eq_some_iff] at q
        obtain ⟨p, q1, q2⟩ := q
        exact ⟨p, q1, q2.symm⟩
      · obtain ⟨h3, g3, d3, k3, o3⟩ := s3
        have e1 : g3 = s.gens := mv.gens
        have e2 : d3 = s.drawn := mv.drawn
        have e3 : o3 = s.os := mv.os
        subst e1 e2 e3
        show wpAny _ _ _ _ _ _
        refine wpAny_pure ?_
        show wpAny _ _ (ret Value.none) _ _ _
        rw [iz] at c
        exact wpAny_pure ⟨rfl, h3, k3, R, es, ep, t, rfl, X, c, kp⟩
    · rcases r₂ with e | fl₂
      · exact hr₂
      cases fl₂ with
      | ret v =>
        obtain ⟨rfl, h', tk, R, es, ep, t, rfl, X, c, kp⟩ := hr₂
        repeat any_goals first | assumption | wp_step
        exact hQ _ _ _ _ _ _ X c kp
      | _ => exact hr₂.elim
  | _ => exact hr.elim
end
end MiS
/-! MiW: sorted(a set of pairs), both as rules of words. -/
namespace MiS
open PySem L2 PySem.Spec PyProof.Rows PySem.W
/-- pairs in their order, each once -/
def ple (p q : Int × Int) : Bool := decide (p.1 < q.1 ∨ (p.1 = q.1 ∧ p.2 ≤ q.2))
def plt (p q : Int × Int) : Prop := p.1 < q.1 ∨ (p.1 = q.1 ∧ p.2 < q.2)
def pin (p : Int × Int) : List (Int × Int) → List (Int × Int)
  | [] => [p]
  | q :: l => if p = q then q :: l else if ple p q = true then p :: q :: l else q :: pin p l
def pset : List (Int × Int) → List (Int × Int)
  | [] => []
  | p :: l => pin p (pset l)
theorem mem_pin {p x : Int × Int} : ∀ {l}, x ∈ pin p l ↔ x = p ∨ x ∈ l
  | [] => by simp [pin]
  | q :: l => by
    unfold pin
    split
    · rename_i e; subst e; simp
    · split
      · simp
      · simp only [List.mem_cons, mem_pin (l := l)]
        constructor <;> (intro h; rcases h with h | h | h <;> simp [h])
theorem mem_pset {x : Int × Int} : ∀ {l}, x ∈ pset l ↔ x ∈ l
  | [] => by simp [pset]
  | p :: l => by simp [pset, mem_pin, mem_pset (l := l)]
theorem plt_trans {a b c : Int × Int} (h : plt a b) (k : plt b c) : plt a c := by unfold plt at *; omega
theorem plt_tri {a b : Int × Int} (h : a ≠ b) (k : ple a b = false) : plt b a := by
  unfold ple at k
  rw [decide_eq_false_iff_not] at k
  unfold plt
  have : a.1 = b.1 → a.2 ≠ b.2 := fun e f => h (Prod.ext e f)
  omega
theorem plt_of {a b : Int × Int} (h : a ≠ b) (k : ple a b = true) : plt a b := by
  unfold ple at k
  rw [decide_eq_true_eq] at k
  unfold plt
  have : a.1 = b.1 → a.2 ≠ b.2 := fun e f => h (Prod.ext e f)
  omega
theorem pin_lt {p : Int × Int} : ∀ {l : List (Int × Int)}, l.Pairwise plt → (pin p l).Pairwise plt
  | [], _ => List.pairwise_singleton _ _
  | q :: l, h => by
    have h0 := List.pairwise_cons.mp h
    unfold pin
    split
    · exact h
    · rename_i ne
      split
      · rename_i le
        refine List.pairwise_cons.mpr ⟨fun x hx => ?_, h⟩
        rcases List.mem_cons.mp hx with rfl | hx
        · exact plt_of ne le
        · exact plt_trans (plt_of ne le) (h0.1 x hx)
      · rename_i le
        refine List.pairwise_cons.mpr ⟨fun x hx => ?_, pin_lt h0.2⟩
        rcases mem_pin.mp hx with rfl | hx
        · exact plt_tri ne (by simpa using le)
        · exact h0.1 x hx
theorem pset_lt : ∀ l, (pset l).Pairwise plt
  | [] => List.Pairwise.nil
  | _ :: l => pin_lt (pset_lt l)
theorem plt_irr {a : Int × Int} : ¬ plt a a := by unfold plt; omega
theorem lt_unique : ∀ {l m : List (Int × Int)}, l.Pairwise plt → m.Pairwise plt → (∀ x, x ∈ l ↔ x ∈ m) → l = m
  | [], [], _, _, _ => rfl
  | [], b :: m, _, _, h => by have := (h b).2 (by simp); cases this
  | a :: l, [], _, _, h => by have := (h a).1 (by simp); cases this
  | a :: l, b :: m, h1, h2, h => by
    have p1 := List.pairwise_cons.mp h1
    have p2 := List.pairwise_cons.mp h2
    have e : a = b := by
      rcases List.mem_cons.mp ((h a).1 (by simp)) with e | e
      · exact e
      · rcases List.mem_cons.mp ((h b).2 (by simp)) with f | f
        · exact f.symm
        · exact absurd (plt_trans (p1.1 b f) (p2.1 a e)) plt_irr
    subst e
    rw [lt_unique p1.2 p2.2 fun x => ?_]
    have := h x
    simp only [List.mem_cons] at this
    constructor
    · intro hx
      rcases this.1 (.inr hx) with rfl | q
      · exact absurd (p1.1 x hx) plt_irr
      · exact q
    · intro hx
      rcases this.2 (.inr hx) with rfl | q
      · exact absurd (p2.1 x hx) plt_irr
      · exact q
/-- sorted out, as the set's pairs: that is pset -/
theorem pset_of {out : List (Int × Int)} {ks : List (Int × Int)} (nd : out.Nodup) (le : out.Pairwise fun p q => ple p q = true) (m : ∀ x, x ∈ out ↔ x ∈ ks) : out = pset ks := by
  refine lt_unique ?_ (pset_lt ks) fun x => (m x).trans mem_pset.symm
  exact (nd.and le).imp fun h => plt_of h.1 h.2
section
variable {P : Program} {w : World} {A : Around} {E : Value → Shared → Prop} {s : Shared} {a : Addr} {R : List Rw} {es : Array (Int × Value)} {ep : Nat} {t : SetTable}
abbrev Pr := Addr × Int × Int
def encP (p : Pr) : PyData := .tuple [.int p.2.1, .int p.2.2]
theorem sort_set (X : SX P w s.heap a R es ep t) (hh : A.handled = none) (hu : A.units + 64 < cLine) {L : List Pr} (hL : R.map ak = L.map fun p => (p.1, [p.2.1, p.2.2])) {Q : Value → Shared → Prop}
    (hQ : ∀ s' p (out : Array Value) (c : Nat) (L' : List Pr), (∀ b o, s.heap.get? b = some o → s'.heap.get? b = some o) → s'.gens = s.gens → s'.os = s.os → s.heap.objs.size ≤ p →
      s'.heap.get? p = some (seqObj "list" out c) → out.toList = L'.map (fun q => Value.ref q.1) → L'.Perm L → L'.Pairwise (fun q r => ple q.2 r.2 = true) → Q (.ref p) s') :
    wpAny (model P w) A (call (.builtin "sorted") [.ref a]) Q E s := by
  obtain ⟨o, ho, hex, hd⟩ := X.ob
  have lR : R.length = L.length := by simpa using congrArg List.length hL
  refine Calls.call_function_entry kind_sorted plain_sorted entry_sorted (args_sorted1 _) ?_
  unfold Builtin.«sorted»
  refine wpAny_bind (m := checkCount "sorted" 1 1 _) (wpAny_pure ?_)
  refine wpAny_bind (collect_set (A := A.in1) hh ⟨o, ho, hex.1, hd⟩ X.fits (by rw [X.size]; have := X.few; unfold scanBound; omega) (by rw [X.tb.pl]; exact X.tb.ris) X.led fun s1 vs k1 hz g1 o1 pm => ?_)
  have ev : es.toList.map (·.2) = L.map fun q => Value.ref q.1 := by
    rw [X.es, List.map_map]
    have := congrArg (List.map fun q : Addr × List Int => Value.ref q.1) hL
    rw [List.map_map, List.map_map] at this
    exact this
  rw [ev] at pm
  obtain ⟨L1, e1, p1⟩ : ∃ L1 : List Pr, vs = L1.map (fun q => Value.ref q.1) ∧ L1.Perm L := by
    have go : ∀ {xs ys : List Value}, xs.Perm ys → ∀ L : List Pr, ys = L.map (fun q => Value.ref q.1) → ∃ L1 : List Pr, xs = L1.map (fun q => Value.ref q.1) ∧ L1.Perm L := by
      intro xs ys p
      induction p with
      | nil => intro L e; exact ⟨[], rfl, by cases L <;> simp_all⟩
      | cons x _ ih =>
        intro L e
        cases L with
        | nil => cases e
        | cons q L =>
          injection e with e1 e2
          obtain ⟨L1, f1, f2⟩ := ih L e2
          exact ⟨q :: L1, by rw [List.map_cons, ← f1, e1], f2.cons q⟩
      | swap x y l =>
        intro L e
        match L, e with
        | q :: r :: L, e =>
          injection e with e1 e2
          injection e2 with e2 e3
          exact ⟨r :: q :: L, by rw [List.map_cons, List.map_cons, e1, e2, e3], List.Perm.swap ..⟩
      | trans _ _ ih1 ih2 =>
        intro L e
        obtain ⟨L2, f1, f2⟩ := ih2 L e
        obtain ⟨L1, f3, f4⟩ := ih1 L2 f1
        exact ⟨L1, f3, f4.trans f2⟩
    exact go pm L rfl
  have lz : vs.length ≤ sizeLine := by rw [e1, List.length_map, p1.length_eq, ← lR, sizeLine_eq]; have := X.few; omega
  refine wpAny_bind (wpAny_newList ?_ lz)
  have hoL : (s1.heap.push (seqObj "list" vs.toArray 0)).get? s1.heap.objs.size = some (seqObj "list" vs.toArray 0) := Heap.get?_push_size _ rfl
  have tk : ∀ p ∈ L, ∃ as, Reads (s1.heap.push (seqObj "list" vs.toArray 0)) (.ref p.1) (encP p) as ∧ s1.heap.objs.size ∉ as := fun p hp => by
    have q : (p.1, [p.2.1, p.2.2]) ∈ R.map ak := by rw [hL]; exact List.mem_map.mpr ⟨p, hp, rfl⟩
    obtain ⟨r, hr, e⟩ := List.mem_map.mp q
    have ea : r.a = p.1 := congrArg Prod.fst e
    have ek : r.k = [p.2.1, p.2.2] := congrArg Prod.snd e
    obtain ⟨ob, its, n, go, gc, gd, gi⟩ := X.tup r hr
    rw [ek] at gi
    rw [ea] at go
    have rd : ReadsAll (s1.heap.push (seqObj "list" vs.toArray 0)) its.toList [.int p.2.1, .int p.2.2] [] := by
      generalize its.toList = l at gi
      cases gi with
      | cons i1 g2 =>
        cases g2 with
        | cons i2 g3 =>
          cases g3
          obtain ⟨t1, rfl⟩ := Value.isInt_shape i1
          obtain ⟨t2, rfl⟩ := Value.isInt_shape i2
          exact .cons (.int _ _) (.cons (.int _ _) .nil)
    exact ⟨[], .tuple (Heap.get?_push_of_some _ (k1 _ _ go)) gc gd rd, fun h => nomatch h⟩
  have each : ∀ l : List Pr, EachIs (fun (v : Value) (p : Pr) => v = .ref p.1) (l.map fun q => Value.ref q.1) l := by
    intro l
    induction l with
    | nil => exact .nil
    | cons p l ih => exact .cons rfl ih
  have each2 : ∀ l : List Pr, (∀ p ∈ l, p ∈ L) → EachIs (fun (v : Value) (p : Pr) => ∃ as, Reads (s1.heap.push (seqObj "list" vs.toArray 0)) v (encP p) as ∧ s1.heap.objs.size ∉ as) (l.map fun q => Value.ref q.1) l := by
    intro l
    induction l with
    | nil => intro _; exact .nil
    | cons p l ih => intro h; exact .cons (tk p (h p (by simp))) (ih fun q hq => h q (by simp [hq]))
  have un : ∀ {out : List Value} {l : List Pr}, EachIs (fun (v : Value) (p : Pr) => v = .ref p.1) out l → out = l.map fun q => Value.ref q.1 := by
    intro out l h
    induction h with
    | nil => rfl
    | cons e _ ih => rw [e, ih]; rfl
  refine wpAny_bind (wpAny_holding (list_sort_data (s := { s1 with heap := s1.heap.push (seqObj "list" vs.toArray 0) }) (R := fun (v : Value) (p : Pr) => v = .ref p.1) (enc := encP) (bs := L1) hoL (by rw [e1]; exact each L1) (by
      have := each2 L1 fun p hp => p1.mem_iff.mp hp
      rw [← e1] at this
      exact this) (AllAlike.of fun b b' => rfl) (Sortable.tuples fun b => ⟨_, _, rfl⟩) (by rw [e1, List.length_map] at lz; exact lz) (fun b _ => by
        show A.units + 1 + 1 + 1 < cLine
        omega) fun out lo eo => ?_))
  have eo := un eo
  obtain ⟨c, hc⟩ := sortedHeap_at (vs := vs) (out := out.toArray) hoL
  have le : dataLe false encP = fun p q => ple p.2 q.2 := dataLe_ii (fun b : Pr => b.2.1) (fun b => b.2.2)
  have tr : ∀ a b c : Pr, ple a.2 b.2 = true → ple b.2 c.2 = true → ple a.2 c.2 = true := fun a b c h k => by
    unfold ple at *
    rw [decide_eq_true_eq] at *
    omega
  have tt : ∀ a b : Pr, (ple a.2 b.2 || ple b.2 a.2) = true := fun a b => by
    unfold ple
    rw [Bool.or_eq_true, decide_eq_true_eq, decide_eq_true_eq]
    omega
  rw [le] at eo
  refine wpAny_pure ⟨_, rfl, hQ _ s1.heap.objs.size out.toArray c (L1.mergeSort fun p q => ple p.2 q.2) (fun b u e => ?_) g1 o1 hz hc (by simpa using eo) ((List.mergeSort_perm _ _).trans p1) (List.pairwise_mergeSort tr tt L1)⟩
  have lt : b < s1.heap.objs.size := Heap.lt_size (k1 b u e)
  show (sortedHeap (s1.heap.push (seqObj "list" vs.toArray 0)) s1.heap.objs.size vs out.toArray).get? b = some u
  rw [sortedHeap_old (Nat.ne_of_lt lt) (by rw [size_push']; exact Nat.lt_succ_of_lt lt)]
  exact Heap.get?_push_of_some _ (k1 b u e)
end
end MiS
/-! MiX: sorted(set(a list of pairs of ints)) among the mirror's words. -/
namespace Mi
open PySem L2 PySem.Spec PyProof.Rows MiS
/-- the set at a, its tuples left aside -/
def SetH (P : Program) (w : World) (a : Addr) (L : List (Addr × List Int)) : HO := .ext fun h => ∃ R es ep t, (∃ o, h.get? a = some o ∧ o.ExactSet ∧ o.data = .set es ep t) ∧ R.map ak = L ∧ es.toList = R.map (ent P w) ∧ Tb P w t R ∧ (R.map Rw.k).Nodup ∧ t.plain = true ∧
  (w.params.followText "set-order" = true ∨ t.led = true) ∧ R.length * 5 < t.mask * 3 ∧ R.length < 300
theorem setH_ok {P : Program} {w : World} {H : Hp} {h : Heap} {a : Addr} {R : List Rw} {es : Array (Int × Value)} {ep : Nat} {t : SetTable} (X : SX P w h a R es ep t) : ObjOk P w H h a (SetH P w a (R.map ak)) := by
  have ⟨o, ho, r⟩ := X.ob
  refine ⟨⟨R, es, ep, t, ⟨o, ho, r⟩, rfl, X.es, X.tb, X.nd, X.plain, X.led, X.room, X.few⟩, ⟨o, ho⟩, ?_⟩
  rintro h1 h2 ⟨R', es', ep', t', ⟨o', ho', r'⟩, q⟩ k
  exact ⟨R', es', ep', t', ⟨o', k o' ho', r'⟩, q⟩
def rSetP (K : PySem.W.Frag) (P : Program) (w : World) : List V → Hp → VK → Prop := fun xs H Q => ∃ (l : Addr) (ks : List Pr), xs = [V.ref l] ∧ SqL K H l (ks.map fun p => V.ref p.1) ∧ (∀ p ∈ ks, SqT K H p.1 [V.int p.2.1, V.int p.2.2]) ∧ ks.length < 300 ∧
  ∀ a (L : List Pr), H a = none → (∀ p ∈ L, p ∈ ks) → (∀ p ∈ ks, p.2 ∈ L.map (·.2)) → (L.map (·.2)).Nodup → L.length < 300 → Q (.ref a) (upd H a (SetH P w a (L.map fun p => (p.1, [p.2.1, p.2.2]))))
section
variable {X : Cx}
theorem cr_setP (hc : X.calm = true) (hu : X.A.units + 64 < cLine) : CallR X (.type "set") (rSetP X.K X.prog X.w) := by
  intro pins s σ H xs us Q I r h
  obtain ⟨l, ks, rfl, hl, hk, few, q⟩ := h
  rw [Vals.ref1 r]
  obtain ⟨its, rv, pl, hz⟩ := I.list hl
  have hn : H s.heap.objs.size = none := I.hok.fresh (Nat.le_refl _)
  have refs : ∀ {ks : List Pr} {us : List Value}, Vals (ks.map fun p => V.ref p.1) us → us = (ks.map fun p => (p.1, [p.2.1, p.2.2])).map fun p => Value.ref p.1 := by
    intro ks
    induction ks with
    | nil => intro us v; cases v; rfl
    | cons p ks ih => intro us v; cases v with | cons e t => cases e; rw [ih t]; rfl
  refine mkset (P := X.prog) (w := X.w) (ks := ks.map fun p => (p.1, [p.2.1, p.2.2])) (I.ok.hd hc) pl.isList (by simpa using refs rv) (fun p hp => ?_) (by simpa using few) (by omega) fun h' tk R es ep t X1 c k => ?_
  · obtain ⟨p0, h0, rfl⟩ := List.mem_map.mp hp
    exact I.isT (hk p0 h0)
  · obtain ⟨c0, c1, c2⟩ := c
    rw [show (ks.map fun p : Pr => (p.1, [p.2.1, p.2.2])).take (ks.map fun p : Pr => (p.1, [p.2.1, p.2.2])).length = ks.map fun p : Pr => (p.1, [p.2.1, p.2.2]) from List.take_length] at c1 c2
    have go : ∀ R : List Rw, (∀ r ∈ R, ak r ∈ ks.map fun p : Pr => (p.1, [p.2.1, p.2.2])) → ∃ L : List Pr, R.map ak = L.map (fun p => (p.1, [p.2.1, p.2.2])) ∧ ∀ p ∈ L, p ∈ ks := by
      intro R
      induction R with
      | nil => intro _; exact ⟨[], rfl, fun _ h => nomatch h⟩
      | cons r R ih =>
        intro h
        obtain ⟨L, e, m⟩ := ih fun x hx => h x (by simp [hx])
        obtain ⟨p, hp, ep⟩ := List.mem_map.mp (h r (by simp))
        refine ⟨p :: L, by rw [List.map_cons, List.map_cons, e, ← ep], fun x hx => ?_⟩
        rcases List.mem_cons.mp hx with rfl | hx
        · exact hp
        · exact m x hx
    obtain ⟨L, e, m⟩ := go R c1
    have kk : R.map Rw.k = (L.map (·.2)).map fun p => [p.1, p.2] := by
      have := congrArg (List.map Prod.snd) e
      rw [List.map_map, List.map_map] at this
      rw [List.map_map]
      exact this
    refine ⟨.ref s.heap.objs.size, upd H s.heap.objs.size (SetH X.prog X.w s.heap.objs.size (R.map ak)), I.laid (t' := tk) k (Nat.le_refl _) (setH_ok X1), rfl, ?_⟩
    rw [e]
    refine q _ L hn m (fun p hp => ?_) ?_ ?_
    · have := c2 (p.1, [p.2.1, p.2.2]) (List.mem_map.mpr ⟨p, hp, rfl⟩)
      rw [kk] at this
      obtain ⟨z, hz, ez⟩ := List.mem_map.mp this
      have e1 : z.1 = p.2.1 := by injection ez
      have e2 : z.2 = p.2.2 := by injection ez with _ b; injection b
      rw [← Prod.ext (x := z) (y := p.2) e1 e2]
      exact hz
    · exact nodup_of_map (f := fun p : Int × Int => [p.1, p.2]) (by rw [← kk]; exact X1.nd)
    · have := congrArg List.length e
      simp at this
      have := X1.few
      omega
def rSortP (K : PySem.W.Frag) (P : Program) (w : World) : List V → Hp → VK → Prop := fun vs H Q => ∃ (a : Addr) (L : List Pr), vs = [V.ref a] ∧ H a = some (SetH P w a (L.map fun p => (p.1, [p.2.1, p.2.2]))) ∧ (∀ p ∈ L, SqT K H p.1 [V.int p.2.1, V.int p.2.2]) ∧
  ∀ (L' : List Pr) (p : Addr), L'.Perm L → L'.Pairwise (fun q r => ple q.2 r.2 = true) → H p = none → Q (.ref p) (upd H p (.lst (L'.map fun q => V.ref q.1)))
theorem cr_sortP (hc : X.calm = true) (hu : X.A.units + 64 < cLine) : CallR X (.builtin "sorted") (rSortP X.K X.prog X.w) := by
  intro pins s σ H vs us Q I r h
  obtain ⟨a, L, rfl, ha, hk, q⟩ := h
  obtain ⟨R, es, ep, t, ob, e, h1, h2, h3, h4, h5, h6, h7⟩ := (I.hok a _ ha).1
  have X1 : SX X.prog X.w s.heap a R es ep t := ⟨ob, h1, h2, h3, fun r hr => by
    have : ak r ∈ R.map ak := List.mem_map.mpr ⟨r, hr, rfl⟩
    rw [e] at this
    obtain ⟨p, hp, ep⟩ := List.mem_map.mp this
    have e1 : p.1 = r.a := congrArg Prod.fst ep
    have e2 : [p.2.1, p.2.2] = r.k := congrArg Prod.snd ep
    rw [← e1, ← e2]
    exact I.isT (hk p hp), h4, h5, h6, h7⟩
  rw [Vals.ref1 r]
  refine sort_set X1 (I.ok.hd hc) hu e fun s' p out c L' k g o hp hg hout pm pw => ?_
  have lz : (L'.map fun q => V.ref q.1).length ≤ sizeLine := by
    have := congrArg List.length e
    simp at this
    rw [List.length_map, pm.length_eq, sizeLine_eq]
    omega
  have hn : H p = none := I.hok.fresh hp
  have hv : Vals (L'.map fun q => V.ref q.1) out.toList := by
    rw [hout]
    clear hout pm pw lz
    induction L' with
    | nil => exact .nil
    | cons p l ih => exact .cons rfl ih
  have J : Inv X pins σ (upd H p (.lst (L'.map fun q => V.ref q.1))) { s with heap := s'.heap, gens := s'.gens, drawn := s'.drawn, toks := s'.toks } :=
    I.call (ch := []) (Un.laid k hp hn) (I.hok.laid k hp ⟨lz, out.toList, c, hv, hg⟩) (by rw [g]; exact I.bare) (fun _ z => nomatch z)
  have es' : s' = { s with heap := s'.heap, gens := s'.gens, drawn := s'.drawn, toks := s'.toks } := by
    cases s'; cases s; cases o; rfl
  rw [es']
  exact ⟨.ref p, _, J, rfl, q L' p pm pw hn⟩
end
theorem sqT_grow {K : PySem.W.Frag} {H H' : Hp} {a : Addr} {xs : List V} (h : SqT K H a xs) (g : Grow H H') : SqT K H' a xs := by
  rcases h with (h | ⟨o, h⟩) | h
  · exact .inl (.inl (g _ _ h))
  · exact .inl (.inr ⟨o, g _ _ h⟩)
  · exact .inr h
/-! ### at the mirror -/
def pairsOf : List D → Option (List (Int × Int))
  | [] => some []
  | .tup [.int i, .int j] :: ds => bindM (pairsOf ds) fun ps => some ((i, j) :: ps)
  | _ :: _ => none
def pairD (p : Int × Int) : D := .tup [.int p.1, .int p.2]
def sortedSetD : D → Option D
  | .lst ds => bindM (pairsOf ds) fun ps => if ps.length < 300 then some (.lst ((pset ps).map pairD)) else none
  | _ => none
def mSortedSet (m : M Slot) : M D := fun env st => bindM (m env st) fun r => bindM (deref r.1 r.2) fun d => bindM (sortedSetD d) fun z => some (z, r.2)
theorem reps_pairs {K : PySem.W.Frag} {S : Trk} {H : Hp} : ∀ {vs : List V} {ds : List D} {ps : List (Int × Int)}, Reps K S H vs ds → pairsOf ds = some ps →
    ∃ ks : List Pr, vs = ks.map (fun p => V.ref p.1) ∧ ps = ks.map (·.2) ∧ ∀ p ∈ ks, Rep K S H (.ref p.1) (pairD p.2) ∧ SqT K H p.1 [V.int p.2.1, V.int p.2.2]
  | [], [], ps, _, e => by cases e; exact ⟨[], rfl, rfl, fun _ h => nomatch h⟩
  | v :: vs, d :: ds, ps, .cons r t, e => by
    unfold pairsOf at e
    split at e
    · rename_i h; cases h
    · rename_i i j ds' h
      cases h
      obtain ⟨qs, e1, e⟩ := bindM_some e
      cases e
      obtain ⟨ks, h1, h2, h3⟩ := reps_pairs t e1
      obtain ⟨a, xs, rfl, sq, rx⟩ := Shp.tup (.inl r)
      have ex : xs = [V.int i, V.int j] := by
        exact (reps_intsOf (ns := [i, j]) rx rfl).1
      subst ex
      refine ⟨(a, i, j) :: ks, by rw [h1]; rfl, by rw [h2]; rfl, fun p hp => ?_⟩
      rcases List.mem_cons.mp hp with rfl | hp
      · exact ⟨r, sq⟩
      · exact h3 p hp
    · cases e
theorem reps_of_pairs {K : PySem.W.Frag} {S : Trk} {H : Hp} : ∀ {ks : List Pr}, (∀ p ∈ ks, Rep K S H (.ref p.1) (pairD p.2)) → Reps K S H (ks.map fun p => V.ref p.1) ((ks.map (·.2)).map pairD)
  | [], _ => .nil
  | p :: ks, h => .cons (h p (by simp)) (reps_of_pairs fun q hq => h q (by simp [hq]))
section
variable {X : Cx} {e : Expr} {m : M Slot} {p p2 pos pos2 : Pos} {k : Nat}
theorem f_sortedSet (hc : X.calm = true) (hm : X.mg "sorted" = none) (hc2 : X.calm = true) (hm2 : X.mg "set" = none) (hu : X.A.units + 65 < cLine) (h : PE X e (tE md X.K m)) (hg : Gl X "sorted" := by rfl) (hg2 : Gl X "set" := by rfl)
    (e1 : starEach [e] X.env = (false, eval e X.env) :: starEach [] X.env := by rfl) (e2 : (backTo pos2 (starEach [] X.env)).any (·.1) = false := by rfl)
    (e3 : starEach [.Call (.Name "set" p2) [e] [] pos2] X.env = (false, eval (.Call (.Name "set" p2) [e] [] pos2) X.env) :: starEach [] X.env := by rfl) (e4 : (backTo pos (starEach [] X.env)).any (·.1) = false := by rfl) :
    PE X (.Call (.Name "sorted" p) [.Call (.Name "set" p2) [e] [] pos2] [] pos) (tF md X.K (mSortedSet m)) := by
  have in1 := pe_callTy (p := p2) (pos := pos2) (cr_setP hc (by omega)) hg2 hm2 (by decide +kernel) (pa_cons h pa_nil e1) (by decide) (by decide) e1 e2
  refine pe_weak (pe_callB (p := p) (pos := pos) (cr_sortP hc (by omega)) hg hm (by decide +kernel) (pa_cons in1 pa_nil e3) (by decide) (by decide) e3 e4) ?_
  rintro σ H Q ⟨S, L, env, st, d, st', sm, sl, e, kk⟩
  obtain ⟨⟨s1, st1⟩, f1, e⟩ := bindM_some e
  obtain ⟨d1, f2, e⟩ := bindM_some e
  obtain ⟨z, f3, e⟩ := bindM_some e
  cases e
  refine ⟨S, L, env, st, s1, st1, sm, sl, f1, fun v S1 L1 H1 x1 sm1 r1 => ?_⟩
  have sh := r1.shp sm1 f2
  match d1, f3 with
  | .lst ds, f3 =>
    obtain ⟨ps, g1, f3⟩ := bindM_some (show bindM (pairsOf ds) _ = some d from f3)
    split at f3
    · rename_i few
      cases f3
      obtain ⟨l, xs, rfl, hl, rx⟩ := sh.lst
      obtain ⟨ks, rfl, rfl, hk⟩ := reps_pairs rx g1
      refine ⟨l, ks, rfl, .of hl, fun p hp => (hk p hp).2, by simpa using few, fun a L2 ha m1 m2 nd _ => ?_⟩
      have gr : Grow H1 (upd H1 a (SetH X.prog X.w a (L2.map fun p => (p.1, [p.2.1, p.2.2])))) := Grow.new ha
      refine ⟨a, L2, rfl, upd_same, fun p hp => sqT_grow (hk p (m1 p hp)).2 gr, fun L' b pm pw hb => ?_⟩
      have hb1 : H1 b = none := by
        cases q : H1 b with
        | none => rfl
        | some o => rw [gr b o q] at hb; cases hb
      have gr2 : Grow H1 (upd (upd H1 a (SetH X.prog X.w a (L2.map fun p => (p.1, [p.2.1, p.2.2])))) b (.lst (L'.map fun q => V.ref q.1))) := fun x o q => Grow.new hb x o (gr x o q)
      have eq : L'.map (·.2) = pset (ks.map (·.2)) := by
        refine pset_of ((pm.map (·.2)).nodup_iff.mpr nd) (List.pairwise_map.mpr pw) fun x => ?_
        rw [(pm.map (·.2)).mem_iff]
        constructor
        · intro hx
          obtain ⟨p, hp, rfl⟩ := List.mem_map.mp hx
          exact List.mem_map.mpr ⟨p, m1 p hp, rfl⟩
        · intro hx
          obtain ⟨p, hp, rfl⟩ := List.mem_map.mp hx
          exact m2 p hp
      have at_ : At X.K (addS S1 b) (upd (upd H1 a (SetH X.prog X.w a (L2.map fun p => (p.1, [p.2.1, p.2.2])))) b (.lst (L'.map fun q => V.ref q.1))) b (.lst ((pset (ks.map (·.2))).map pairD)) := by
        refine .lst upd_same ?_
        rw [← eq]
        exact reps_of_pairs fun p hp => ((hk p (m1 p (pm.mem_iff.mp hp))).1).carry ((Carry.add hb1).trans (.grow gr2))
      have l2 := sm1.laid hb1 gr2 at_
      exact kk b _ L1 _ (x1.trans sm.sub l2.ext) l2.sim (fun z => l2.out (x1.up _ z)) l2.mem l2.cell l2.at_
    · cases f3
  | .tup _, f3 | .non, f3 | .bl _, f3 | .int _, f3 | .str _, f3 | .dic _, f3 | .dit _, f3 | .scr _, f3 | .ty _, f3 => cases f3
end
end Mi
/-! MiY: x[::-1] of a list or a tuple; min, max of a tuple or a list of ints; sorted of ints and of tuples of ints. -/
namespace Mi
open PySem L2 PySem.Spec PyProof.Rows
section
variable {prog : Program} {w : World} {A : Around} {E : Value → Shared → Prop} {s : Shared}
theorem back_all (n : Nat) : Builtin.Slice.sliceAdjust none none (-1) (n : Int) = ((n : Int) - 1, -1) := rfl
theorem back_many (n : Nat) : Builtin.Slice.slicePlaces ((n : Int) - 1) (-1) (-1) = n := by
  unfold Builtin.Slice.slicePlaces
  rw [if_neg (by decide)]
  rcases n with - | n
  · rfl
  · rw [if_pos (by omega), show (-(-1 : Int)) = 1 from rfl, Int.ediv_one]
    omega
theorem back_pick (xs : Array Value) : (List.range xs.size).filterMap (fun (k : Nat) => xs[(((xs.size : Int) - 1) + (k : Int) * (-1)).toNat]?) = xs.toList.reverse := by
  apply List.ext_getElem?
  intro i
  have e : (List.range xs.size).filterMap (fun (k : Nat) => xs[(((xs.size : Int) - 1) + (k : Int) * (-1)).toNat]?) = (List.range xs.size).map fun k => xs.getD (xs.size - 1 - k) .none := by
    have go : ∀ l : List Nat, (∀ k ∈ l, k < xs.size) → l.filterMap (fun (k : Nat) => xs[(((xs.size : Int) - 1) + (k : Int) * (-1)).toNat]?) = l.map fun k => xs.getD (xs.size - 1 - k) .none := by
      intro l
      induction l with
      | nil => intro _; rfl
      | cons k l ih =>
        intro hl
        have hk := hl k (by simp)
        have lt : xs.size - 1 - k < xs.size := by omega
        have e : xs[(((xs.size : Int) - 1) + (k : Int) * (-1)).toNat]? = some (xs.getD (xs.size - 1 - k) .none) := by
          rw [show (((xs.size : Int) - 1) + (k : Int) * (-1)).toNat = xs.size - 1 - k by omega]
          simp [Array.getD, lt]
        rw [List.filterMap_cons_some (f := fun (k : Nat) => xs[(((xs.size : Int) - 1) + (k : Int) * (-1)).toNat]?) e, ih fun x hx => hl x (by simp [hx])]
        rfl
    exact go _ fun k hk => List.mem_range.mp hk
  rw [e, List.getElem?_map]
  rcases Nat.lt_or_ge i xs.size with h | h
  · rw [List.getElem?_range h, List.getElem?_reverse (by simpa using h)]
    have : xs.size - 1 - i < xs.size := by omega
    simp [Array.getD, this]
  · rw [List.getElem?_eq_none (by simpa using h), List.getElem?_eq_none (by simpa using h)]; rfl
theorem getItem_back {t sl : Addr} {its : Array Value} {vs : Value} {Q : Value → Shared → Prop} (ht : IsTup s.heap t its) (hs : s.heap.IsSliceOf sl .none .none vs) (ps : IsPart vs (some (-1)))
    (h : Q (.ref s.heap.objs.size) { s with heap := s.heap.push { cls := .type "tuple", data := .seq its.toList.reverse.toArray } }) (hz : its.size ≤ sizeLine) : wpAny (model prog w) A (getItem (.ref t) (.ref sl)) Q E s := by
  obtain ⟨os, hos, hcs, hds⟩ := id hs
  have hT : s.TypeIs (.ref sl) "slice" := ⟨os, hos, hcs⟩
  have ok : sizeOk (.seq its.toList.reverse.toArray) := by
    show its.toList.reverse.toArray.size ≤ sizeLine
    simpa using hz
  unfold getItem
  try with_reducible refine wpAny_holding ?_
  first | refine wpAny_bind (wpAny_pure ?_) | skip
  refine wpAny_bind (wpAny_sequenceKey ht.typeIs (by decide) ?_)
  refine wpAny_bind (wpAny_callSpecial?_slot (name := Str.ofString "__getitem__") ht.typeIs PyProof.Rows.slot_tuple_getitem
    (wpAny_call_entry PyProof.Rows.slot_tuple_getitem ht.typeIs entry_tuple_getitem ?_ (args_tuple_getitem _ _)))
  show wpAny _ _ (Builtin.Tuple.tupleItemsOf (.ref t) >>= _) _ _ s
  refine wpAny_bind (tupleItemsOf_ ht (wpAny_bind (wpAny_typeOf hT ?_)))
  rw [if_pos (by decide)]
  unfold Builtin.Slice.sliceApplied Builtin.Slice.sliceFields
  refine wpAny_bind (wpAny_bind (wpAny_bind (wpAny_field hos hds (x := .none) rfl (wpAny_bind (wpAny_field hos hds (x := .none) rfl (wpAny_bind (wpAny_field hos hds (x := vs) rfl (wpAny_pure ?_))))))))
  refine wpAny_bind (HT.slicePart_ ps ?_)
  show wpAny _ _ (if ((-1 : Int) == 0) = true then _ else _) _ _ s
  rw [if_neg (by decide)]
  refine wpAny_bind (slicePart_none (wpAny_bind (slicePart_none (wpAny_bind (wpAny_pure ?_)))))
  show wpAny _ _ (match Builtin.Slice.sliceAdjust none none (-1) (its.size : Int) with | (lo, hi) => pure (lo, (-1 : Int), Builtin.Slice.slicePlaces lo hi (-1))) _ _ s
  rw [back_all]
  show wpAny _ _ (pure ((its.size : Int) - 1, (-1 : Int), Builtin.Slice.slicePlaces ((its.size : Int) - 1) (-1) (-1))) _ _ s
  rw [back_many]
  refine wpAny_pure ?_
  show wpAny _ _ (if ((its.size : Int) - 1 == 0 && (-1 : Int) == 1 && its.size == its.size) = true then _ else _) _ _ s
  rw [if_neg (by simp), back_pick]
  first
    | exact wpAny_bind (m := Builtin.Tuple.tupleExact _) (wpAny_newObj_type (wpAny_pure ⟨_, rfl, wpAny_pure h⟩) ok)
    | exact wpAny_bind (m := Builtin.Tuple.tupleExact _) (wpAny_newObj_type (wpAny_bind (wpAny_pure (wpAny_pure ⟨_, rfl, wpAny_pure h⟩))) ok)
    | exact wpAny_bind (wpAny_bind (m := Builtin.Tuple.tupleExact _) (wpAny_newObj_type (wpAny_pure (wpAny_pure ⟨_, rfl, wpAny_pure h⟩)) ok))
    | exact wpAny_bind (wpAny_bind (m := Builtin.Tuple.tupleExact _) (wpAny_newObj_type (wpAny_pure ⟨_, rfl, wpAny_pure h⟩) ok))
theorem min_tup {l : Addr} {its : List Value} {ns : List Int} {Q : Value → Shared → Prop} (hh : A.handled = none) (hl : s.heap.IsTuple l its.toArray) (hi : IntsAre its ns) (hne : 0 < ns.length)
    (h : ∀ h' tk M t', (∀ b o, s.heap.get? b = some o → h'.get? b = some o) → M ∈ ns → (∀ a, a ∈ ns → M ≤ a) → Q (.int M t') { s with heap := h', toks := tk }) : wpAny (model prog w) A (call (.builtin "min") [.ref l]) Q E s := by
  obtain ⟨xs, e⟩ := hi.allInts.items
  have hn : numsOf (intItems xs).toList = ns := by rw [← e]; exact hi.numsOf
  rw [nums_intItems] at hn
  subst hn
  rw [e] at hl
  have hz : 0 < xs.size := by simpa using hne
  have lt : l < s.heap.objs.size := let ⟨_, q, _⟩ := hl; Heap.lt_size q
  refine call_min_walk (wpAny_pyIter_tuple hl ⟨s.heap.objs.size, _, _, _, _, _, _, rfl, Walks.tuple (A := A.in1) hh _ l (Nat.ne_of_lt lt) (intItems xs), ⟨⟨_, Heap.get?_push_size _ rfl, rfl, rfl⟩, ?_⟩, fun b hb => ?_, by simpa [intItems] using hz, CmpOf.ints_lt (numAt xs) (fun _ _ => intItems_at), fun v h' tk hP hk => ?_⟩)
  · obtain ⟨o, q, r⟩ := hl
    exact ⟨o, Heap.get?_push_of_some _ q, r⟩
  · show b < (s.heap.push _).objs.size
    rw [Heap.size_push]
    simp only [List.mem_cons, List.not_mem_nil, or_false] at hb
    rcases hb with rfl | rfl
    · exact Nat.lt_succ_self _
    · exact Nat.lt_succ_of_lt lt
  · have hv : (intItems xs)[argBest (fun i j => decide (numAt xs i < numAt xs j)) (xs.size - 1)]? = some v := by simpa [intItems] using hP
    obtain ⟨t, rfl⟩ := intItems_at hv
    obtain ⟨h1, h2⟩ := argBest_lt (numAt xs) (xs.size - 1)
    refine h h' tk _ t (fun b o q => hk b o (fun hm => ?_) (Heap.get?_push_of_some _ q)) ?_ fun a ha => ?_
    · rw [List.mem_singleton.mp hm] at q
      exact Nat.lt_irrefl _ (Heap.lt_size q)
    · rw [numAt_eq]; exact PySem.getD_mem (by rw [List.length_map, Array.length_toList]; omega)
    · obtain ⟨j, hj, rfl⟩ := mem_getD ha
      rw [List.length_map, Array.length_toList] at hj
      rw [← numAt_eq]; exact h2 j (by omega)
theorem max_tup {l : Addr} {its : List Value} {ns : List Int} {Q : Value → Shared → Prop} (hh : A.handled = none) (hl : s.heap.IsTuple l its.toArray) (hi : IntsAre its ns) (hne : 0 < ns.length)
    (h : ∀ h' tk M t', (∀ b o, s.heap.get? b = some o → h'.get? b = some o) → M ∈ ns → (∀ a, a ∈ ns → a ≤ M) → Q (.int M t') { s with heap := h', toks := tk }) : wpAny (model prog w) A (call (.builtin "max") [.ref l]) Q E s := by
  obtain ⟨xs, e⟩ := hi.allInts.items
  have hn : numsOf (intItems xs).toList = ns := by rw [← e]; exact hi.numsOf
  rw [nums_intItems] at hn
  subst hn
  rw [e] at hl
  have hz : 0 < xs.size := by simpa using hne
  have lt : l < s.heap.objs.size := let ⟨_, q, _⟩ := hl; Heap.lt_size q
  refine call_max_walk (wpAny_pyIter_tuple hl ⟨s.heap.objs.size, _, _, _, _, _, _, rfl, Walks.tuple (A := A.in1) hh _ l (Nat.ne_of_lt lt) (intItems xs), ⟨⟨_, Heap.get?_push_size _ rfl, rfl, rfl⟩, ?_⟩, fun b hb => ?_, by simpa [intItems] using hz, CmpOf.ints_gt (numAt xs) (fun _ _ => intItems_at), fun v h' tk hP hk => ?_⟩)
  · obtain ⟨o, q, r⟩ := hl
    exact ⟨o, Heap.get?_push_of_some _ q, r⟩
  · show b < (s.heap.push _).objs.size
    rw [Heap.size_push]
    simp only [List.mem_cons, List.not_mem_nil, or_false] at hb
    rcases hb with rfl | rfl
    · exact Nat.lt_succ_self _
    · exact Nat.lt_succ_of_lt lt
  · have hv : (intItems xs)[argBest (fun i j => decide (numAt xs i > numAt xs j)) (xs.size - 1)]? = some v := by simpa [intItems] using hP
    obtain ⟨t, rfl⟩ := intItems_at hv
    obtain ⟨h1, h2⟩ := argBest_gt (numAt xs) (xs.size - 1)
    refine h h' tk _ t (fun b o q => hk b o (fun hm => ?_) (Heap.get?_push_of_some _ q)) ?_ fun a ha => ?_
    · rw [List.mem_singleton.mp hm] at q
      exact Nat.lt_irrefl _ (Heap.lt_size q)
    · rw [numAt_eq]; exact PySem.getD_mem (by rw [List.length_map, Array.length_toList]; omega)
    · obtain ⟨j, hj, rfl⟩ := mem_getD ha
      rw [List.length_map, Array.length_toList] at hj
      rw [← numAt_eq]; exact h2 j (by omega)
end
/-! ### among the words -/
def tBack (K : PySem.W.Frag) (te : TE) : TE := fun σ H Q => te σ H fun x H1 => ∃ a xs, x = .ref a ∧ ((SqL K H1 a xs ∧ ∀ p, H1 p = none → Q (.ref p) (upd H1 p (.lst xs.reverse))) ∨ (SqT K H1 a xs ∧ ∀ p, H1 p = none → Q (.ref p) (upd H1 p (.tup xs.reverse))))
section
variable {X : Cx} {e : Expr} {te : TE} {m : M Slot} {k : Nat} {p1 p2 p3 pos : Pos}
theorem pe_back (he : PE X e te) : PE X (.Subscript e (.Slice none none (some (.UnaryOp .USub (.Constant (.int 1) k p1) p2)) p3) pos) (tBack X.K te) := by
  refine ⟨fun pins s σ H Q I h => ?_⟩
  refine Subscript_ (thn (he.run pins s σ H _ I h) fun v s1 ⟨x, H1, I1, r1, q1⟩ => ?_)
  obtain ⟨a, xs, ex, hx⟩ := q1
  subst ex
  cases r1
  have hst : PO X (some (.UnaryOp .USub (.Constant (.int 1) k p1) p2)) (tPart (tUn (rU fun i => .int (-i)) (tC (.int 1)))) := po_some (pe_un un_neg pe_int)
  refine wpAny_Slice (thn (po_none.run pins s1 σ H1 (fun o H2 => o = none ∧ H2 = H1) I1 ⟨rfl, rfl⟩) fun vl s2 ⟨l, H2, I2, pl, el, e2⟩ => ?_)
  subst el e2
  refine thn (po_none.run pins s2 σ H2 (fun o H3 => o = none ∧ H3 = H2) I2 ⟨rfl, rfl⟩) fun vu s3 ⟨u, H3, I3, pu, eu, e3⟩ => ?_
  subst eu e3
  refine thn (hst.run pins s3 σ H3 (fun o H4 => o = some (-1) ∧ H4 = H3) I3 ⟨1, rfl, -1, rfl, rfl, rfl⟩) fun vs s4 ⟨o, H4, I4, ps, eo, e4⟩ => ?_
  subst eo e4
  have I5 : Inv X pins σ H4 { s4 with heap := s4.heap.push { cls := .type "slice", data := .fields #[vl, vu, vs] } } := I4.kept (t' := s4.toks) fun b ob q => Heap.get?_push_of_some _ q
  rcases hx with ⟨hx, q⟩ | ⟨hx, q⟩
  · obtain ⟨its, r, ht, hz⟩ := I5.list hx
    have hlen := r.length
    show wpAny (model X.prog X.w) X.A (subscriptTail e (.Slice none none (some (.UnaryOp .USub (.Constant (.int 1) k p1) p2)) p3) (.ref a) (.ref s4.heap.objs.size)) (EP X pins σ Q) X.xe { s4 with heap := s4.heap.push { cls := .type "slice", data := .fields #[vl, vu, vs] } }
    refine tail_any (ops := [.ref a, .ref s4.heap.objs.size]) ht.isList.typeIs (PySem.slot_list_getitem.lookup) ?_ (by with_unfolding_all rfl)
    refine wpAny_getItem_list_slice ht.isList (Heap.IsSliceOf.new _ vl vu vs) pl pu ps (by decide) ?_ (by rw [List.size_toArray]; omega)
    rw [PySem.W.krv_pick]
    refine ⟨.ref _, _, I5.laid (t' := s4.toks) (o := .lst xs.reverse) (fun b ob q => Heap.get?_push_of_some _ q) (Nat.le_refl _) ?_, rfl, q _ (I5.hok.fresh (Nat.le_refl _))⟩
    exact ⟨by rw [List.length_reverse]; exact hz, _, 0, r.reverse, Heap.get?_push_size _ rfl⟩
  · obtain ⟨its, r, ht, hz⟩ := I5.tuple hx
    have hlen := r.length
    cases pl
    cases pu
    show wpAny (model X.prog X.w) X.A (subscriptTail e (.Slice none none (some (.UnaryOp .USub (.Constant (.int 1) k p1) p2)) p3) (.ref a) (.ref s4.heap.objs.size)) (EP X pins σ Q) X.xe { s4 with heap := s4.heap.push { cls := .type "slice", data := .fields #[.none, .none, vs] } }
    refine tail_any (ops := [.ref a, .ref s4.heap.objs.size]) ht.typeIs (PyProof.Rows.slot_tuple_getitem.lookup) ?_ (by with_unfolding_all rfl)
    refine getItem_back ht (Heap.IsSliceOf.new _ .none .none vs) ps ?_ (by rw [List.size_toArray]; omega)
    refine ⟨.ref _, _, I5.laid (t' := s4.toks) (o := .tup xs.reverse) (fun b ob q => Heap.get?_push_of_some _ q) (Nat.le_refl _) ?_, rfl, q _ (I5.hok.fresh (Nat.le_refl _))⟩
    exact ⟨by rw [List.length_reverse]; exact hz, its.reverse, r.reverse, ⟨_, Heap.get?_push_size _ rfl, rfl, 0, rfl⟩⟩
def backD : D → Option D
  | .lst ds => some (.lst ds.reverse)
  | .tup ds => some (.tup ds.reverse)
  | _ => none
def mRevS (m : M Slot) : M Slot := fun env st => bindM (m env st) fun r => bindM (deref r.1 r.2) fun d => bindM (backD d) fun z => some (.im z, r.2)
theorem j_rev (h : PE X e (tE md X.K m)) : PE X (.Subscript e (.Slice none none (some (.UnaryOp .USub (.Constant (.int 1) k p1) p2)) p3) pos) (tE md X.K (mRevS m)) := by
  refine pe_weak (pe_back h) ?_
  rintro σ H Q ⟨S, L, env, st, d, st', sm, sl, e, kk⟩
  obtain ⟨⟨s1, st1⟩, f1, e⟩ := bindM_some e
  obtain ⟨d1, f2, e⟩ := bindM_some e
  obtain ⟨z, f3, e⟩ := bindM_some e
  cases e
  refine ⟨S, L, env, st, s1, st1, sm, sl, f1, fun v S1 L1 H1 x1 sm1 r1 => ?_⟩
  have sh := r1.shp sm1 f2
  match d1, f3 with
  | .lst ds, f3 =>
    cases f3
    obtain ⟨l, xs, rfl, hl, rx⟩ := sh.lst
    refine ⟨l, xs, rfl, .inl ⟨.of hl, fun p hp => ?_⟩⟩
    have l2 := sm1.laid hp (Grow.new hp) (at_new_lst hp rx.reverse)
    obtain ⟨x2, sm2, r⟩ := plain_of l2.ext l2.sim l2.out l2.cell l2.at_
    exact kk _ _ L1 _ (x1.trans sm.sub x2) sm2 (.im r)
  | .tup ds, f3 =>
    cases f3
    obtain ⟨l, xs, rfl, hl, rx⟩ := sh.tup
    refine ⟨l, xs, rfl, .inr ⟨hl, fun p hp => ?_⟩⟩
    have l2 := sm1.laid hp (Grow.new hp) (at_new_tup hp rx.reverse)
    obtain ⟨x2, sm2, r⟩ := plain_of l2.ext l2.sim l2.out l2.cell l2.at_
    exact kk _ _ L1 _ (x1.trans sm.sub x2) sm2 (.im r)
  | .non, f3 | .bl _, f3 | .int _, f3 | .str _, f3 | .dic _, f3 | .dit _, f3 | .scr _, f3 | .ty _, f3 => cases f3
/-- min, max of a list or a tuple of ints -/
def rMinS (K : PySem.W.Frag) : List V → Hp → VK → Prop := fun vs H Q => ∃ (a : Addr) (ns : List Int), vs = [V.ref a] ∧ (SqL K H a (ns.map V.int) ∨ SqT K H a (ns.map V.int)) ∧ 0 < ns.length ∧ ∀ m, m ∈ ns → (∀ y, y ∈ ns → m ≤ y) → Q (.int m) H
def rMaxS (K : PySem.W.Frag) : List V → Hp → VK → Prop := fun vs H Q => ∃ (a : Addr) (ns : List Int), vs = [V.ref a] ∧ (SqL K H a (ns.map V.int) ∨ SqT K H a (ns.map V.int)) ∧ 0 < ns.length ∧ ∀ m, m ∈ ns → (∀ y, y ∈ ns → y ≤ m) → Q (.int m) H
theorem tup_isT {s : Shared} {a : Addr} {its : Array Value} (h : IsTup s.heap a its) : s.heap.IsTuple a its := h
theorem cr_minT (hc : X.calm = true) : CallR X (.builtin "min") (rMinS X.K) := by
  intro pins s σ H vs us Q I r h
  obtain ⟨a, ns, rfl, hs | hs, hne, q⟩ := h
  · exact cr_min hc pins s σ H _ us Q I r ⟨a, ns, rfl, hs, hne, q⟩
  · obtain ⟨its, rv, hl, _⟩ := I.tuple hs
    rw [Vals.ref1 r]
    exact min_tup (I.ok.hd hc) (tup_isT hl) rv.ints hne fun h' tk m t' hk h1 h2 => ⟨.int _, H, I.kept hk, ⟨_, rfl⟩, q m h1 h2⟩
theorem cr_maxT (hc : X.calm = true) : CallR X (.builtin "max") (rMaxS X.K) := by
  intro pins s σ H vs us Q I r h
  obtain ⟨a, ns, rfl, hs | hs, hne, q⟩ := h
  · exact cr_max hc pins s σ H _ us Q I r ⟨a, ns, rfl, hs, hne, q⟩
  · obtain ⟨its, rv, hl, _⟩ := I.tuple hs
    rw [Vals.ref1 r]
    exact max_tup (I.ok.hd hc) (tup_isT hl) rv.ints hne fun h' tk m t' hk h1 h2 => ⟨.int _, H, I.kept hk, ⟨_, rfl⟩, q m h1 h2⟩
def minTD : List D → Option D
  | [.lst ds] => minLD [.lst ds]
  | [.tup ds] => minLD [.lst ds]
  | _ => none
def maxTD : List D → Option D
  | [.lst ds] => maxLD [.lst ds]
  | [.tup ds] => maxLD [.lst ds]
  | _ => none
theorem least_of {n : Int} {r : List Int} {m : Int} (hm : m ∈ n :: r) (hle : ∀ y, y ∈ n :: r → m ≤ y) : m = leastI n r := by
  obtain ⟨h1, h2, h3⟩ := leastI_le r n
  have a1 : leastI n r ∈ n :: r := by
    rcases h3 with h3 | h3
    · rw [h3]; exact List.mem_cons_self
    · exact List.mem_cons_of_mem _ h3
  have a2 := hle _ a1
  rcases List.mem_cons.mp hm with e | e
  · omega
  · have := h2 m e
    omega
theorem great_of {n : Int} {r : List Int} {m : Int} (hm : m ∈ n :: r) (hle : ∀ y, y ∈ n :: r → y ≤ m) : m = greatI n r := by
  obtain ⟨h1, h2, h3⟩ := greatI_ge r n
  have a1 : greatI n r ∈ n :: r := by
    rcases h3 with h3 | h3
    · rw [h3]; exact List.mem_cons_self
    · exact List.mem_cons_of_mem _ h3
  have a2 := hle _ a1
  rcases List.mem_cons.mp hm with e | e
  · omega
  · have := h2 m e
    omega
theorem seq_ints {K : PySem.W.Frag} {S : Trk} {H : Hp} {xs : List V} {d : D} {es : List D} {ns : List Int} (hd : d = .lst es ∨ d = .tup es) (hx : Paired (Shp K S H) xs [d]) (e1 : intsOf es = some ns) :
    ∃ a, xs = [V.ref a] ∧ (SqL K H a (ns.map V.int) ∨ SqT K H a (ns.map V.int)) := by
  obtain ⟨v, rfl, h⟩ := shp1 hx
  rcases hd with rfl | rfl
  · obtain ⟨p, ys, rfl, hp, rr⟩ := h.lst
    obtain ⟨e2, _⟩ := reps_intsOf rr e1
    subst e2
    exact ⟨p, rfl, .inl (.of hp)⟩
  · obtain ⟨p, ys, rfl, hp, rr⟩ := h.tup
    obtain ⟨e2, _⟩ := reps_intsOf rr e1
    subst e2
    exact ⟨p, rfl, .inr hp⟩
theorem minTD_ok {K : PySem.W.Frag} : CallD K (rMinS K) minTD := by
  intro S H xs ds z Q hS hx hg k
  have go : ∀ (d : D) (es : List D), (d = .lst es ∨ d = .tup es) → Paired (Shp K S H) xs [d] → minLD [.lst es] = some z → rMinS K xs H Q := by
    intro d es hd hx hg
    obtain ⟨ns, e1, hg⟩ := bindM_some (show bindM (intsOf es) _ = some z from hg)
    obtain ⟨p, rfl, sq⟩ := seq_ints hd hx e1
    cases ns with
    | nil => cases hg
    | cons n r =>
      cases hg
      refine ⟨p, n :: r, rfl, sq, by simp, fun m hm hle => ?_⟩
      rw [least_of hm hle]
      exact k _ _ (fun _ _ h => h) (.int _)
  match ds, hg with
  | [.lst es], hg => exact go _ es (.inl rfl) hx hg
  | [.tup es], hg => exact go _ es (.inr rfl) hx hg
theorem maxTD_ok {K : PySem.W.Frag} : CallD K (rMaxS K) maxTD := by
  intro S H xs ds z Q hS hx hg k
  have go : ∀ (d : D) (es : List D), (d = .lst es ∨ d = .tup es) → Paired (Shp K S H) xs [d] → maxLD [.lst es] = some z → rMaxS K xs H Q := by
    intro d es hd hx hg
    obtain ⟨ns, e1, hg⟩ := bindM_some (show bindM (intsOf es) _ = some z from hg)
    obtain ⟨p, rfl, sq⟩ := seq_ints hd hx e1
    cases ns with
    | nil => cases hg
    | cons n r =>
      cases hg
      refine ⟨p, n :: r, rfl, sq, by simp, fun m hm hle => ?_⟩
      rw [great_of hm hle]
      exact k _ _ (fun _ _ h => h) (.int _)
  match ds, hg with
  | [.lst es], hg => exact go _ es (.inl rfl) hx hg
  | [.tup es], hg => exact go _ es (.inr rfl) hx hg
theorem cr_sortedX : CallR X (.builtin "sorted") (rSortedI X.K) := cr_sortedI
end
end Mi
/-! MiN: a list whose items are cells; a call that tells a truth and is told everything as it stands. -/
namespace Mi
open PySem L2 PySem.Spec PyProof.Rows
section
variable {X : Cx} {k n : Nat} {g : Fn} {m : M (List Slot)} {e : Expr} {es : List Expr} {x : Str} {p pos : Pos} {E : XK}
/-! lists of cells -/
def mNw (m : M D) : M Slot := fun env st => bindM (m env st) fun r => some (.pt r.2.length, r.2 ++ [r.1])
theorem j_nw {m : M D} (h : PE X e (tF md X.K m)) : PE X e (tE md X.K (mNw m)) := by
  refine pe_weak h ?_
  rintro σ H Q ⟨S, L, env, st, s, st', sm, sl, e, k⟩
  obtain ⟨⟨d, st1⟩, e1, e⟩ := bindM_some e
  cases e
  refine ⟨S, L, env, st, d, st1, sm, sl, e1, fun p S1 L1 H1 x1 sm1 n i c at_ => ?_⟩
  obtain ⟨x2, sm2, r⟩ := cell_new x1 sm1 n i c at_
  exact k _ S1 _ H1 x2 sm2 r
def mLstN (ma : M (List Slot)) : M Slot := fun env st => bindM (ma env st) fun r => if r.1.length ≤ 100000 then some (.ns r.1, r.2) else none
theorem Paired.len {α β : Type} {R : α → β → Prop} {l : List α} {m : List β} (h : Paired R l m) : l.length = m.length := h.length
theorem j_lstN (h : PA X es (tA md X.K m)) : PE X (.List es pos) (tE md X.K (mLstN m)) := by
  refine pe_weak (pe_lst h) ?_
  rintro σ H Q ⟨S, L, env, st, s, st', sm, sl, e, k⟩
  obtain ⟨⟨s1, st1⟩, e1, e⟩ := bindM_some e
  split at e
  · rename_i hl
    cases e
    refine ⟨S, L, env, st, s1, st1, sm, sl, e1, fun vs S1 L1 H1 x1 sm1 r1 => ?_⟩
    refine ⟨by rw [r1.length]; exact sz hl, fun p hp => ?_⟩
    have gr := Grow.new (o := .lst vs) hp
    have ex : Ext S1 L1 H1 (addS S1 p) L1 (upd H1 p (.lst vs)) := ⟨⟨[], by simp⟩, fun _ z => .inl z, fun a z n => z.elim (fun z => (n z).elim) fun q => (by rw [q]; exact hp), fun a o e _ => gr a o e, fun _ z n => (n z).elim, fun _ _ z => z, fun _ => rfl, rfl⟩
    have sm2 : Sim md X.K (addS S1 p) L1 (upd H1 p (.lst vs)) st1 := ⟨sm1.nd, fun a z => .inl (sm1.sub a z), fun a z => z.elim (fun z => let ⟨o, e⟩ := sm1.trk a z; ⟨o, gr a o e⟩) fun z => by subst z; exact ⟨_, upd_same⟩,
      Paired.mapP sm1.cells fun a d r => by
        obtain ⟨o, e⟩ := r.some
        exact r.carry ((Carry.add hp).trans (.grow gr)) ((gr a o e).trans e.symm), sm1.fz, sm1.lk⟩
    have np : p ∉ L1 := fun z => sm1.free hp (sm1.sub p z)
    exact k _ _ L1 _ (x1.trans sm.sub ex) sm2 (.ns (.inr rfl) np upd_same ((SlotVs.of r1).ext sm1.sub ex))
  · cases e
/-- told[c], told a list of cells -/
def isNs : Slot → Option (List Slot)
  | .ns ks => some ks
  | _ => none
def mNsIx (m : M Slot) (c : Nat) : M Slot := fun env st => bindM (m env st) fun r => bindM (isNs r.1) fun ks => bindM ks[c]? fun k => some (k, r.2)
theorem paired_get {α β : Type} {R : α → β → Prop} : ∀ {l : List α} {m : List β}, Paired R l m → ∀ {i : Nat} {b : β}, m[i]? = some b → ∃ a, l[i]? = some a ∧ R a b
  | _, _, .nil, i, b, e => by simp at e
  | _, _, .cons r t, 0, b, e => by simp at e; subst e; exact ⟨_, rfl, r⟩
  | _, _, .cons r t, i + 1, b, e => by
    obtain ⟨a, h1, h2⟩ := paired_get t (i := i) (by simpa using e)
    exact ⟨a, by simpa using h1, h2⟩
theorem j_nsIx {a : Expr} {ma : M Slot} {c : Nat} {j : Nat} {p2 : Pos} {Rr : R2} (hr : IxR X Rr) (ok : ∀ (a : Addr) (xs : List V) (v : V) (H : Hp) (Q : VK), H a = some (.lst xs) → xs[c]? = some v → Q v H → Rr (.ref a) (.int (c : Int)) H Q) (ha : PE X a (tE md X.K ma)) (hs : PlainIx (.Constant (.int (c : Int)) j p2)) :
    PE X (.Subscript a (.Constant (.int (c : Int)) j p2) pos) (tE md X.K (mNsIx ma c)) := by
  refine pe_weak (pe_ix hr ha pe_int hs) ?_
  rintro σ H Q ⟨S, L, env, st, s, st', sm, sl, e, k⟩
  obtain ⟨⟨s1, st1⟩, e1, e⟩ := bindM_some e
  obtain ⟨ks, f1, e⟩ := bindM_some e
  obtain ⟨k1, f2, e⟩ := bindM_some e
  cases e
  refine ⟨S, L, env, st, s1, st1, sm, sl, e1, fun v S1 L1 H1 x1 sm1 r1 => ?_⟩
  cases r1 with
  | ns h1 h2 h3 h4 =>
    cases f1
    obtain ⟨pa, g1, g2⟩ := paired_get h4.to f2
    exact ok _ _ _ _ _ h3 g1 (k _ S1 L1 H1 x1 sm1 g2)
  | im => cases f1
  | pt => cases f1
theorem atI_at {α : Type} {l : List α} {i : Nat} {x : α} (h : l[i]? = some x) : L2.atI l (i : Int) = some x := by
  have hi := (List.getElem?_eq_some_iff.mp h).1
  unfold L2.atI L2.ixN
  rw [if_pos (by omega), if_pos (by omega)]
  simpa using h
theorem j_ns {a : Expr} {ma : M Slot} (c : Nat) {j : Nat} {p2 : Pos} (ha : PE X a (tE md X.K ma)) (hs : PlainIx (.Constant (.int (c : Int)) j p2)) : PE X (.Subscript a (.Constant (.int (c : Int)) j p2) pos) (tE md X.K (mNsIx ma c)) :=
  j_nsIx ix_seq (fun a xs v H Q h1 h2 q => .inl ⟨a, xs, c, v, rfl, rfl, .of h1, atI_at h2, q⟩) ha hs
end
end Mi
/-! MiI: set(xs) of a list of ints. -/
namespace MiS
open PySem L2 PySem.Spec PyProof.Rows
theorem ints_get : ∀ {vs : List Value} {ns : List Int}, IntsAre vs ns → ∀ {i : Nat} {v : Value}, vs[i]? = some v → ∃ k t, ns[i]? = some k ∧ v = .int k t
  | _, _, .nil, i, v, e => by simp at e
  | _, _, .cons k t r, 0, v, e => by simp at e; exact ⟨k, t, rfl, e.symm⟩
  | _, _, .cons k t r, i + 1, v, e => by
    obtain ⟨k', t', h1, h2⟩ := ints_get r (i := i) (by simpa using e)
    exact ⟨k', t', by simpa using h1, h2⟩
section
variable {P : Program} {w : World} {A : Around} {E : Value → Shared → Prop} {s : Shared}
/-- set(xs) -/
theorem mksetI {l : Addr} {its : Array Value} {ns : List Int} {Q : Value → Shared → Prop} (hh : A.handled = none) (hl : s.heap.IsList l its) (hi : IntsAre its.toList ns)
    (few : ns.length + 1 < scanBound) (hQ : ∀ (h' : Heap) (tk : Nat) (c : Nat), SetR w h' s.heap.objs.size (fun j => decide (j ∈ ns)) c → c ≤ ns.length → (∀ b o, s.heap.get? b = some o → h'.get? b = some o) → Q (.ref s.heap.objs.size) { s with heap := h', toks := tk }) :
    wpAny (model P w) A (call (.type "set") [.ref l]) Q E s := by
  have iz : its.size = ns.length := by rw [← Array.length_toList]; exact hi.length
  obtain ⟨cC, cT, cM⟩ := F.called_set.mro
  have cMade := F.called_set.made
  have cSub := F.called_set.sub
  refine wpAny_call (codeAny_of_tree ?_)
  show wpAny _ _ (callAny (.type "set") _) _ _ _
  refine wpAny_pure ⟨Code.quiet_builtin _ (by decide +kernel), codeAny_builtin F.entry_type_call ?_⟩
  rw [Around.under_plain (weight_type_call_type "set" [.ref l] []) rfl]
  have cNot := F.called_set.notType
  have cCan := F.called_set.canCreate
  have cTc := F.typeCall_set_1 (.ref l)
  repeat any_goals first | assumption | wp_step
  refine codeAny_mono (code_set_led1 (.ref l) (E := E) (Q₁ := fun v s₁ => v = .ref s.heap.objs.size ∧ s₁ = { s with heap := s.heap.push (new0 w) }) ⟨rfl, rfl⟩) fun r s₁ hr => ?_
  rcases r with e | fl
  · exact hr
  cases fl with
  | ret v =>
    obtain ⟨rfl, rfl⟩ := hr
    have gS : (s.heap.push (new0 w)).get? s.heap.objs.size = some (new0 w) := Heap.get?_push_size _ rfl
    have tS : Shared.TypeIs { s with heap := s.heap.push (new0 w) } (.ref s.heap.objs.size) "set" := ⟨_, gS, rfl⟩
    have cLook := F.called_set.init.lookup
    have cBind := F.called_set.init.bind (.ref s.heap.objs.size)
    repeat any_goals first | assumption | wp_step
    refine codeAny_mono (codeAny_call_builtin (R := wants (fun r s₂ => r = .none ∧ ∃ h' tk c, s₂ = { s with heap := h', toks := tk } ∧ SetR w h' s.heap.objs.size (fun j => decide (j ∈ ns)) c ∧ c ≤ ns.length ∧ (∀ b o, s.heap.get? b = some o → h'.get? b = some o)) E)
      F.called_set.init.plain F.entry_set_init (check_set_init_1 tS ?_)) fun r₂ s₂ hr₂ => ?_
    · obtain ⟨⟨oc, od, oda, osl⟩, oh, ohc, on, ohd⟩ := hl
      cases ohc
      cases ohd
      have oh1 : (s.heap.push (new0 w)).get? l = some { cls := .type "list", dict := od, data := .seq its on, slots := osl } := Heap.get?_push_of_some _ oh
      have notF := F.sub_list_frozenset
      have notS := F.sub_list_set
      have notD : (Value.type "list" == Value.type "dict") = false := by decide
      have il : (s.heap.push (new0 w)).IsList l its := ⟨_, oh1, rfl, on, rfl⟩
      have lt : l < s.heap.objs.size := Heap.lt_size oh
      have hh3 : A.in1.in1.in1.handled = none := by simp [hh]
      unfold Builtin.«set.__init__» noKeywords Builtin.Frozenset.updateFrom
      generalize hPI : pyIter = PI
      wp_walk
      subst hPI
      refine wpAny_pyIter_list il (wpAny_bind (wpAny_runValue ?_))
      have pz : (s.heap.push (new0 w)).objs.size = s.heap.objs.size + 1 := Heap.size_push ..
      have nn : ∀ b, s.heap.objs.size ≤ b → s.heap.get? b = none := fun b hb => by
        cases q : s.heap.get? b with
        | none => rfl
        | some o => exact absurd (Heap.lt_size q) (Nat.not_lt.mpr hb)
      have hSf : s.heap.objs.size ∉ [(s.heap.push (new0 w)).objs.size, l] := by
        rw [pz]; simp only [List.mem_cons, List.not_mem_nil, or_false, not_or]; exact ⟨Nat.ne_of_lt (Nat.lt_succ_self _), Nat.ne_of_gt lt⟩
      refine set_update_ints ((Walks.list hh3 _ l (by rw [pz]; exact Nat.ne_of_lt (Nat.lt_succ_of_lt lt)) its).toS) s.heap.objs.size hSf ns iz few (fun i v hv => ?_) (its.size - 0) 0 _ rfl (Nat.zero_le _)
        ⟨⟨_, Heap.get?_push_size _ rfl, rfl, rfl⟩, il.push _⟩ ⟨0, Nat.le_refl _, setR_new_at (Heap.get?_push_of_some _ gS)⟩ fun s3 c mv hc R => ?_
      · have q : its.toList[i]? = some v := by rw [Array.getElem?_toList]; exact hv
        obtain ⟨k, t, h1, h2⟩ := ints_get hi q
        exact ⟨k, t, h1, h2⟩
      · have kp : ∀ b o, s.heap.get? b = some o → s3.heap.get? b = some o := fun b o e => by
          refine mv.heap b o (fun z => ?_) (Heap.get?_push_of_some _ (Heap.get?_push_of_some _ e))
          have hb : b < s.heap.objs.size := Heap.lt_size e
          rcases List.mem_cons.mp z with z | z
          · exact absurd hb (by rw [z]; exact Nat.lt_irrefl _)
          · exact absurd hb (by rw [List.mem_singleton.mp z, pz]; exact Nat.not_lt.mpr (Nat.le_succ _))
        obtain ⟨h3, g3, d3, k3, o3⟩ := s3
        have e1 : g3 = s.gens := mv.gens
        have e2 : d3 = s.drawn := mv.drawn
        have e3 : o3 = s.os := mv.os
        subst e1 e2 e3
        show wpAny _ _ _ _ _ _
        refine wpAny_pure ?_
        show wpAny _ _ (ret Value.none) _ _ _
        rw [iz] at hc
        exact wpAny_pure ⟨rfl, h3, k3, c, rfl, R, hc, kp⟩
    · rcases r₂ with e | fl₂
      · exact hr₂
      cases fl₂ with
      | ret v =>
        obtain ⟨rfl, h', tk, c, rfl, X, hc, kp⟩ := hr₂
        repeat any_goals first | assumption | wp_step
        exact hQ _ _ _ X hc kp
      | _ => exact hr₂.elim
  | _ => exact hr.elim
end
end MiS
/-! MiJ: sorted(set(xs)) of ints or of pairs of ints. -/
namespace Mi
open PySem L2 PySem.Spec PyProof.Rows MiS
/-- ints in their order, each once -/
def iin (p : Int) : List Int → List Int
  | [] => [p]
  | q :: l => if p = q then q :: l else if p < q then p :: q :: l else q :: iin p l
def iset : List Int → List Int
  | [] => []
  | p :: l => iin p (iset l)
theorem mem_iin {p x : Int} : ∀ {l}, x ∈ iin p l ↔ x = p ∨ x ∈ l
  | [] => by simp [iin]
  | q :: l => by
    unfold iin
    split
    · rename_i e; subst e; simp
    · split
      · simp
      · simp only [List.mem_cons, mem_iin (l := l)]
        constructor <;> (intro h; rcases h with h | h | h <;> simp [h])
theorem mem_iset {x : Int} : ∀ {l}, x ∈ iset l ↔ x ∈ l
  | [] => by simp [iset]
  | p :: l => by simp [iset, mem_iin, mem_iset (l := l)]
theorem iin_lt {p : Int} : ∀ {l : List Int}, l.Pairwise (· < ·) → (iin p l).Pairwise (· < ·)
  | [], _ => List.pairwise_singleton _ _
  | q :: l, h => by
    have h0 := List.pairwise_cons.mp h
    unfold iin
    split
    · exact h
    · rename_i ne
      split
      · rename_i le
        refine List.pairwise_cons.mpr ⟨fun x hx => ?_, h⟩
        rcases List.mem_cons.mp hx with rfl | hx
        · exact le
        · exact Int.lt_trans le (h0.1 x hx)
      · rename_i le
        refine List.pairwise_cons.mpr ⟨fun x hx => ?_, iin_lt h0.2⟩
        rcases mem_iin.mp hx with rfl | hx
        · omega
        · exact h0.1 x hx
theorem iset_lt : ∀ l, (iset l).Pairwise (· < ·)
  | [] => List.Pairwise.nil
  | _ :: l => iin_lt (iset_lt l)
theorem ilt_unique : ∀ {l m : List Int}, l.Pairwise (· < ·) → m.Pairwise (· < ·) → (∀ x, x ∈ l ↔ x ∈ m) → l = m
  | [], [], _, _, _ => rfl
  | [], b :: m, _, _, h => by have := (h b).2 (by simp); cases this
  | a :: l, [], _, _, h => by have := (h a).1 (by simp); cases this
  | a :: l, b :: m, h1, h2, h => by
    have p1 := List.pairwise_cons.mp h1
    have p2 := List.pairwise_cons.mp h2
    have e : a = b := by
      rcases List.mem_cons.mp ((h a).1 (by simp)) with e | e
      · exact e
      · rcases List.mem_cons.mp ((h b).2 (by simp)) with f | f
        · exact f.symm
        · have := p1.1 b f; have := p2.1 a e; omega
    subst e
    rw [ilt_unique p1.2 p2.2 fun x => ?_]
    have := h x
    simp only [List.mem_cons] at this
    constructor
    · intro hx
      rcases this.1 (.inr hx) with rfl | q
      · have := p1.1 x hx; omega
      · exact q
    · intro hx
      rcases this.2 (.inr hx) with rfl | q
      · have := p2.1 x hx; omega
      · exact q
def rSetI (K : PySem.W.Frag) (w : World) : List V → Hp → VK → Prop := fun xs H Q => ∃ (l : Addr) (ns : List Int), xs = [V.ref l] ∧ SqL K H l (ns.map V.int) ∧ ns.length + 1 < scanBound ∧
  ∀ a, H a = none → Q (.ref a) (upd H a (SetO w a (fun j => decide (j ∈ ns)) (iset ns).length))
section
variable {X : Cx}
theorem cr_setI (hc : X.calm = true) : CallR X (.type "set") (rSetI X.K X.w) := by
  intro pins s σ H xs us Q I r h
  obtain ⟨l, ns, rfl, hl, few, q⟩ := h
  rw [Vals.ref1 r]
  obtain ⟨its, rv, pl, hz⟩ := I.list hl
  have hn : H s.heap.objs.size = none := I.hok.fresh (Nat.le_refl _)
  refine mksetI (P := X.prog) (w := X.w) (ns := ns) (I.ok.hd hc) pl.isList (by simpa using rv.ints) few fun h' tk c R hc k => ?_
  have ec : c = (iset ns).length := by
    obtain ⟨o, es, ep, t, h1, h2, h3, g, nd, hm, h4, h5, hn, _⟩ := R
    have pm : (es.toList.map L2.keyOf).Perm (iset ns) := (List.perm_ext_iff_of_nodup nd ((iset_lt ns).imp fun h => by omega)).mpr fun x => by
      rw [← hm x, mem_iset]; simp
    have := pm.length_eq
    simp at this
    omega
  subst ec
  exact ⟨.ref s.heap.objs.size, upd H s.heap.objs.size (SetO X.w s.heap.objs.size (fun j => decide (j ∈ ns)) (iset ns).length), I.laid (t' := tk) k (Nat.le_refl _) (setO_new R), rfl, q _ hn⟩
end
/-! ### at the mirror: ints -/
def sortedSetI : D → Option D
  | .lst ds => bindM (intsOf ds) fun ns => if ns.length ≤ 1000 ∧ (iset ns).length < 64 then some (.lst ((iset ns).map D.int)) else none
  | _ => none
def mSortedSetI (m : M Slot) : M D := fun env st => bindM (m env st) fun r => bindM (deref r.1 r.2) fun d => bindM (sortedSetI d) fun z => some (z, r.2)
section
variable {X : Cx} {e : Expr} {m : M Slot} {p p2 pos pos2 : Pos}
theorem f_sortedSetI (hc : X.calm = true) (hm : X.mg "sorted" = none) (hc2 : X.calm = true) (hm2 : X.mg "set" = none) (hu : X.A.units + 65 < cLine) (h : PE X e (tE md X.K m)) (hg : Gl X "sorted" := by rfl) (hg2 : Gl X "set" := by rfl)
    (e1 : starEach [e] X.env = (false, eval e X.env) :: starEach [] X.env := by rfl) (e2 : (backTo pos2 (starEach [] X.env)).any (·.1) = false := by rfl)
    (e3 : starEach [.Call (.Name "set" p2) [e] [] pos2] X.env = (false, eval (.Call (.Name "set" p2) [e] [] pos2) X.env) :: starEach [] X.env := by rfl) (e4 : (backTo pos (starEach [] X.env)).any (·.1) = false := by rfl) :
    PE X (.Call (.Name "sorted" p) [.Call (.Name "set" p2) [e] [] pos2] [] pos) (tF md X.K (mSortedSetI m)) := by
  have in1 := pe_callTy (p := p2) (pos := pos2) (cr_setI hc) hg2 hm2 (by decide +kernel) (pa_cons h pa_nil e1) (by decide) (by decide) e1 e2
  refine pe_weak (pe_callB (p := p) (pos := pos) (cr_sortedSet hc) hg hm (by decide +kernel) (pa_cons in1 pa_nil e3) (by decide) (by decide) e3 e4) ?_
  rintro σ H Q ⟨S, L, env, st, d, st', sm, sl, e, kk⟩
  obtain ⟨⟨s1, st1⟩, f1, e⟩ := bindM_some e
  obtain ⟨d1, f2, e⟩ := bindM_some e
  obtain ⟨z, f3, e⟩ := bindM_some e
  cases e
  refine ⟨S, L, env, st, s1, st1, sm, sl, f1, fun v S1 L1 H1 x1 sm1 r1 => ?_⟩
  have sh := r1.shp sm1 f2
  match d1, f3 with
  | .lst ds, f3 =>
    obtain ⟨ns, g1, f3⟩ := bindM_some (show bindM (intsOf ds) _ = some d from f3)
    split at f3
    · rename_i few
      cases f3
      obtain ⟨l, xs, rfl, hl, rx⟩ := sh.lst
      obtain ⟨rfl, _⟩ := reps_intsOf rx g1
      refine ⟨l, ns, rfl, .of hl, by have := few.1; unfold scanBound; omega, fun a ha => ?_⟩
      have gr : Grow H1 (upd H1 a (SetO X.w a (fun j => decide (j ∈ ns)) (iset ns).length)) := Grow.new ha
      refine ⟨a, _, _, rfl, upd_same, few.2, fun ns' b lt mem _ hb => ?_⟩
      have hb1 : H1 b = none := by
        cases q : H1 b with
        | none => rfl
        | some o => rw [gr b o q] at hb; cases hb
      have en : ns' = iset ns := ilt_unique lt (iset_lt ns) fun x => by rw [mem x, mem_iset]; simp
      subst en
      have gr2 : Grow H1 (upd (upd H1 a (SetO X.w a (fun j => decide (j ∈ ns)) (iset ns).length)) b (.lst ((iset ns).map V.int))) := fun x o q => Grow.new hb x o (gr x o q)
      have at_ : At X.K (addS S1 b) (upd (upd H1 a (SetO X.w a (fun j => decide (j ∈ ns)) (iset ns).length)) b (.lst ((iset ns).map V.int))) b (.lst ((iset ns).map D.int)) := .lst upd_same (reps_ints _)
      have l2 := sm1.laid hb1 gr2 at_
      exact kk b _ L1 _ (x1.trans sm.sub l2.ext) l2.sim (fun z => l2.out (x1.up _ z)) l2.mem l2.cell l2.at_
    · cases f3
  | .tup _, f3 | .non, f3 | .bl _, f3 | .int _, f3 | .str _, f3 | .dic _, f3 | .dit _, f3 | .scr _, f3 | .ty _, f3 => cases f3
end
end Mi
/-! MiK: comprehensions within comprehensions; comprehensions with two fors; chained comparisons. -/
namespace Mi
open PySem L2 PySem.Spec PyProof.Rows
section
variable {X : Cx} {pos spos : Pos} {e tg iter elt : Expr} {src : M Src} {t : Tgt} {mc : M Bool} {me : M Slot}
theorem look_rel (f : Str × NameKind → Str × NameKind) (hf : ∀ p, f p = p ∨ (p.2 = .free ∧ f p = (p.1, .cell))) : ∀ {names : List (Str × NameKind)} {x : Str}, (names.lookup x = some .cell ∨ names.lookup x = some .free) → ((names.map f).lookup x = some .cell ∨ (names.map f).lookup x = some .free)
  | [], _, h => by simp at h
  | (n, k) :: r, x, h => by
    rw [List.map_cons]
    cases hx : x == n with
    | true =>
      simp only [List.lookup_cons, hx] at h
      rcases hf (n, k) with e | ⟨e1, e2⟩
      · rw [e]; simp only [List.lookup_cons, hx]; exact h
      · rw [e2]; simp only [List.lookup_cons, hx]; exact .inl trivial
    | false =>
      simp only [List.lookup_cons, hx] at h
      have ih := look_rel f hf h
      rcases hf (n, k) with e | ⟨e1, e2⟩
      · rw [e]; simp only [List.lookup_cons, hx]; exact ih
      · rw [e2]; simp only [List.lookup_cons, hx]; exact ih
theorem blk_rel {N : List Str} {scope0 scope : Scope} {own : List (Str × Nat)} {env : Env} (ok : BlkOk N scope0 scope own) : BlkOk N (relabel scope0 env) scope own :=
  ⟨ok.kind, ok.uniq, ok.ix, fun y hy e => look_rel _ (fun p => by
    obtain ⟨n, k⟩ := p
    by_cases h : (k == NameKind.free && env.scope.kind == .function && env.kindOf n == some .cell) = true
    · right
      refine ⟨?_, if_pos h⟩
      simp only [Bool.and_eq_true, beq_iff_eq] at h
      exact h.1.1
    · exact .inl (if_neg h)) (ok.free y hy e), ok.own⟩
theorem f_lcI {scope0 scope : Scope} {s0 : Shared} {H0 : Hp} {C0 : Addr} {cl0 : List (Str × Addr)} {fp0 : List Addr} {ifs : List Expr} {own : List (Str × Nat)} (hc : X.calm = true) (hN : X.N.Nodup)
    (hi : PI (X.blk s0 H0 scope0 (compEnvC scope0 cl0 C0 X.env) fp0) tg iter (tI md X.K src)) (ok : BlkOk X.N scope0 scope own) (hv : ∀ i ∈ t.idx, i ∈ own.map (·.2))
    (hg : InBlk (X.blk s0 H0 scope0 (compEnvC scope0 cl0 C0 X.env) fp0) scope fun X => PG X tg (gT X.K t)) (ht : InBlk (X.blk s0 H0 scope0 (compEnvC scope0 cl0 C0 X.env) fp0) scope fun X => JTs md X ifs mc)
    (he : InBlk (X.blk s0 H0 scope0 (compEnvC scope0 cl0 C0 X.env) fp0) scope fun X => PE X elt (tE md X.K me)) (hs : ∀ env x, foldedSetIterable iter env x = pure x := by intro _ _; rfl) :
    PE (X.blk s0 H0 scope0 (compEnvC scope0 cl0 C0 X.env) fp0) (.ListComp elt [⟨tg, iter, ifs, 0⟩] scope pos) (tF md X.K (mLc t src mc me (own.map (·.2)))) :=
  f_lc (X := X.blk s0 H0 scope0 (compEnvC scope0 cl0 C0 X.env) fp0) hc hN hi (blk_rel ok) hv hg ht he (fun x => hs _ x)
end
/-! ### two fors -/
def noNs : Slot → Bool
  | .ns _ => false
  | _ => true
section
open Classical
noncomputable def lc2Go (t : Tgt) (q : Src) (mt : M Bool) (t1 : Tgt) (src1 : M Src) (mt1 : M Bool) (me : M Slot) (envw : En) (vs1 : List Nat) : List D → Store → Option (List D × Store)
  | [], st => if chk q st then some ([], st) else none
  | d :: ds, st => if chk q st then bindM (asg t d envw) fun env1 => bindM (mt env1 st) fun r => if r.1 = true then
        if env1.all noNs = true then bindM (src1 env1 r.2) fun r1 => bindM (lcGo t1 r1.1 mt1 me (wipeE env1 vs1) r1.1.items r1.2) fun r2 => bindM (lc2Go t q mt t1 src1 mt1 me envw vs1 ds r2.2) fun r3 => some (r2.1 ++ r3.1, r3.2) else none
      else lc2Go t q mt t1 src1 mt1 me envw vs1 ds r.2
    else none
noncomputable def mLc2 (t : Tgt) (src : M Src) (mt : M Bool) (t1 : Tgt) (src1 : M Src) (mt1 : M Bool) (me : M Slot) (vs vs1 : List Nat) : M D := fun env st => bindM (src env st) fun r =>
  bindM (lc2Go t r.1 mt t1 src1 mt1 me (wipeE env vs) vs1 r.1.items r.2) fun r2 => if r2.1.length ≤ 100000 then some (.lst r2.1, r2.2) else none
end
section
variable {K : PySem.W.Frag} {S S' : Trk} {L L' : List Addr} {H H' : Hp} {st : Store}
theorem SlotV.car (c : Carry S H S' H') (p : ∃ t, L' = L ++ t) {v : V} {s : Slot} (h : SlotV K S L H v s) (n : noNs s = true) : SlotV K S' L' H' v s := by
  cases h with
  | im r => exact .im (r.carry c)
  | pt e =>
    obtain ⟨t, rfl⟩ := p
    exact .pt (by rw [List.getElem?_append_left (List.getElem?_eq_some_iff.mp e).1]; exact e)
  | ns _ _ _ _ => cases n
theorem Slots.car (c : Carry S H S' H') (p : ∃ t, L' = L ++ t) {σ : L2.St} {env : En} (h : Slots K S L H σ env) (n : env.all noNs = true) : Slots K S' L' H' σ env := by
  induction h with
  | nil => exact .nil
  | cons r _ ih =>
    rw [List.all_cons, Bool.and_eq_true] at n
    refine .cons ?_ (ih n.2)
    cases r with
    | no => exact .no
    | of r => exact .of (r.car c p n.1)
theorem noNs_set : ∀ {env : En} {i : Nat}, env.all noNs = true → (env.set i .no).all noNs = true
  | [], _, h => h
  | s :: env, 0, h => by
    rw [List.all_cons, Bool.and_eq_true] at h
    rw [List.set_cons_zero, List.all_cons, h.2]; rfl
  | s :: env, i + 1, h => by
    rw [List.all_cons, Bool.and_eq_true] at h
    rw [List.set_cons_succ, List.all_cons, h.1, noNs_set h.2]; rfl
theorem noNs_wipe {env : En} (h : env.all noNs = true) : ∀ vs : List Nat, (wipeE env vs).all noNs = true
  | [] => h
  | _ :: vs => noNs_set (noNs_wipe h vs)
theorem noNs_deref {s : Slot} {st : Store} {d : D} (h : deref s st = some d) : noNs s = true := by
  cases s <;> first | rfl | cases h
theorem lc2_read {src src1 : M Src} {t t1 : Tgt} {mt mt1 : M Bool} {me : M Slot} {vs vs1 : List Nat} (hv : ∀ i ∈ t.idx, i ∈ vs) (hv1 : ∀ i ∈ t1.idx, i ∈ vs1) {σ : L2.St} {H : Hp} {Q : VK} (h : tF md K (mLc2 t src mt t1 src1 mt1 me vs vs1) σ H Q) :
    tLc2 (tI md K src) (gT K t) (tT md K mt) (tI md K src1) (gT K t1) (tT md K mt1) (tE md K me) vs vs1 σ H Q := by
  obtain ⟨S, L, env, st, o, st', sm, sl, e, k⟩ := h
  obtain ⟨⟨q, st1⟩, e1, e⟩ := bindM_some e
  obtain ⟨⟨out, st2'⟩, e2, e⟩ := bindM_some e
  split at e
  · rename_i hlen
    have hlen : out.length ≤ 100000 := hlen
    cases e
    refine ⟨S, L, env, st, q, st1, sm, sl, e1, fun J v S1 L1 H1 x1 sm1 r1 f1 srv => fun Dl hD => ?_⟩
    have l0 := sm1.laid hD (Grow.new (o := .lst []) hD) (at_new_lst hD .nil)
    have slw := (sl.ext sm.sub x1).wipe vs
    let W : Nat → Hp → Prop := fun i H2 => ∃ S2 L2 st2 acc accD rest, Ext S1 L1 H1 S2 L2 H2 ∧ Sim md K S2 L2 H2 st2 ∧ S2 Dl ∧ Dl ∉ L2 ∧ H2 Dl = some (.lst acc) ∧ Reps K S2 H2 acc accD ∧
      lc2Go t q mt t1 src1 mt1 me (wipeE env vs) vs1 (q.items.drop i) st2 = some (rest, st2') ∧ accD ++ rest = out
    refine ⟨fun i m H2 => m = q.items.length - i ∧ i ≤ q.items.length ∧ W i H2, ⟨q.items.length, by simp, Nat.zero_le _, _, L1, st1, [], [], out, l0.ext, l0.sim, l0.mem, l0.cell, upd_same, .nil, e2, rfl⟩, ?_⟩
    rintro i m H2 ⟨rfl, hi, S2, L2, st2, acc, accD, rest, x2, sm2, hS2, nl, hacc, racc, e3, eo⟩
    have x02 : Ext S L H S2 L2 H2 := x1.trans sm.sub x2
    by_cases hlt : i < q.items.length
    · obtain ⟨d, hd⟩ : ∃ d, q.items[i]? = some d := ⟨q.items[i], List.getElem?_eq_getElem hlt⟩
      rw [drop_cons hd] at e3
      unfold lc2Go at e3
      split at e3
      · rename_i hk
        obtain ⟨g1, g2, g3⟩ := srv S2 L2 H2 st2 (x2.carry sm1.sub) sm2 (r1.ext sm1.sub x2) hk
        refine .inr ⟨g1 i hlt, W (i + 1), fun H' w => ⟨q.items.length - (i + 1), by omega, rfl, hlt, w⟩, fun x H3 y => ?_⟩
        obtain ⟨gr, d', hd', rx⟩ := g3 i hlt x H3 y
        rw [hd] at hd'
        cases hd'
        obtain ⟨env3, f3, e3⟩ := bindM_some e3
        obtain ⟨⟨b, st4⟩, f4, e3⟩ := bindM_some e3
        have x3 : Ext S1 L1 H1 S2 L2 H3 := x2.trans sm1.sub (.grow gr)
        refine ⟨S2, L2, wipeE env vs, d, env3, (slw.ext sm1.sub x3), rx, f3, fun σ3 sl3 hout hle => ⟨wipe_of hv hout hle, ?_⟩⟩
        refine ⟨S2, L2, env3, st2, b, st4, sm2.grow gr, sl3, f4, fun S4 L4 H4 x4 sm4 => ?_⟩
        have x04 : Ext S1 L1 H1 S4 L4 H4 := x3.trans sm1.sub x4
        have c4 : Carry S2 H3 S4 H4 := x4.carry sm2.sub
        have nl4 : Dl ∉ L4 := fun z => by
          have := x4.cel Dl z nl
          rw [gr Dl _ hacc] at this; cases this
        have hacc4 : H4 Dl = some (.lst acc) := x4.keep Dl _ (gr Dl _ hacc) nl
        have racc4 : Reps K S4 H4 acc accD := (racc.carry (.grow gr)).carry c4
        cases b with
        | false =>
          exact ⟨S4, L4, st4, acc, accD, rest, x04, sm4, x4.up _ hS2, nl4, hacc4, racc4, e3, eo⟩
        | true =>
          have e3 := e3
          rw [if_pos rfl] at e3
          split at e3
          · rename_i hns
            obtain ⟨⟨q1, st5⟩, f5, e3⟩ := bindM_some e3
            obtain ⟨⟨out1, st6'⟩, f6, e3⟩ := bindM_some e3
            obtain ⟨⟨rest', st7'⟩, f7, e3⟩ := bindM_some e3
            cases e3
            refine ⟨S4, L4, env3, st4, q1, st5, sm4, sl3.ext sm2.sub x4, f5, fun J1 v1 S5 L5 H5 x5 sm5 r5 f51 srv1 => ?_⟩
            have x05 := x04.trans sm1.sub x5
            have c5 : Carry S4 H4 S5 H5 := x5.carry sm4.sub
            have nl5 : Dl ∉ L5 := fun w => by
              have := x5.cel Dl w nl4
              rw [hacc4] at this; cases this
            have hacc5 : H5 Dl = some (.lst acc) := x5.keep Dl _ hacc4 nl4
            have hS5 : S5 Dl := x5.up _ (x4.up _ hS2)
            have racc5 : Reps K S5 H5 acc accD := racc4.carry c5
            have sl5 : Slots K S5 L5 H5 (wipe σ3 vs1) (wipeE env3 vs1) := ((sl3.ext sm2.sub x4).ext sm4.sub x5).wipe vs1
            have ns5 := noNs_wipe hns vs1
            have nq := noNs_deref f51
            let W1 : Nat → Hp → Prop := fun j H6 => ∃ S6 L6 st6 acc accD rest1, Ext S1 L1 H1 S6 L6 H6 ∧ Carry S5 H5 S6 H6 ∧ (∃ t, L6 = L5 ++ t) ∧ Sim md K S6 L6 H6 st6 ∧ S6 Dl ∧ Dl ∉ L6 ∧ H6 Dl = some (.lst acc) ∧ Reps K S6 H6 acc accD ∧
              lcGo t1 q1 mt1 me (wipeE env3 vs1) (q1.items.drop j) st6 = some (rest1, st6') ∧ accD ++ (rest1 ++ rest') = out
            refine ⟨fun j k H6 => k = q1.items.length - j ∧ j ≤ q1.items.length ∧ W1 j H6, ⟨q1.items.length, by simp, Nat.zero_le _, S5, L5, st5, acc, accD, out1, x05, ⟨fun _ _ _ n => n, fun _ _ e _ => e, fun _ _ z => z⟩, ⟨[], by simp⟩, sm5, hS5, nl5, hacc5, racc5, f6, eo⟩, ?_⟩
            rintro j k6 H6 ⟨rfl, hj, S6, L6, st6, acc, accD, rest1, x6, c6, p6, sm6, hS6, nl6, hacc6, racc6, e6, eo6⟩
            have r6 : SlotV K S6 L6 H6 v1 q1.s := r5.car c6 p6 nq
            have sl6 : Slots K S6 L6 H6 (wipe σ3 vs1) (wipeE env3 vs1) := sl5.car c6 p6 ns5
            by_cases hlt1 : j < q1.items.length
            · obtain ⟨d1, hd1⟩ : ∃ d, q1.items[j]? = some d := ⟨q1.items[j], List.getElem?_eq_getElem hlt1⟩
              rw [drop_cons hd1] at e6
              unfold lcGo at e6
              split at e6
              · rename_i hk1
                obtain ⟨h1, h2, h3⟩ := srv1 S6 L6 H6 st6 c6 sm6 r6 hk1
                refine .inr ⟨h1 j hlt1, W1 (j + 1), fun H' w => ⟨q1.items.length - (j + 1), by omega, rfl, hlt1, w⟩, fun x7 H7 y7 => ?_⟩
                obtain ⟨gr7, d7, hd7, rx7⟩ := h3 j hlt1 x7 H7 y7
                rw [hd1] at hd7
                cases hd7
                obtain ⟨env7, g3', e6⟩ := bindM_some e6
                obtain ⟨⟨b7, st8⟩, g4', e6⟩ := bindM_some e6
                have x7' : Ext S1 L1 H1 S6 L6 H7 := x6.trans sm1.sub (.grow gr7)
                refine ⟨S6, L6, wipeE env3 vs1, d1, env7, (sl6.ext sm6.sub (.grow gr7)), rx7, g3', fun σ7 sl7 hout7 hle7 => ⟨wipe_of hv1 hout7 hle7, ?_⟩⟩
                refine ⟨S6, L6, env7, st6, b7, st8, sm6.grow gr7, sl7, g4', fun S8 L8 H8 x8 sm8 => ?_⟩
                have x08 : Ext S1 L1 H1 S8 L8 H8 := x7'.trans sm1.sub x8
                have c8 : Carry S6 H7 S8 H8 := x8.carry sm6.sub
                have c58 : Carry S5 H5 S8 H8 := (c6.trans (.grow gr7)).trans c8
                have p8 : ∃ t, L8 = L5 ++ t := by
                  obtain ⟨u, rfl⟩ := p6
                  obtain ⟨w, rfl⟩ := x8.pre
                  exact ⟨u ++ w, by rw [List.append_assoc]⟩
                have nl8 : Dl ∉ L8 := fun z => by
                  have := x8.cel Dl z nl6
                  rw [gr7 Dl _ hacc6] at this; cases this
                have hacc8 : H8 Dl = some (.lst acc) := x8.keep Dl _ (gr7 Dl _ hacc6) nl6
                have racc8 : Reps K S8 H8 acc accD := (racc6.carry (.grow gr7)).carry c8
                cases b7 with
                | false => exact ⟨S8, L8, st8, acc, accD, rest1, x08, c58, p8, sm8, x8.up _ hS6, nl8, hacc8, racc8, e6, eo6⟩
                | true =>
                  have e6 := e6
                  rw [if_pos rfl] at e6
                  obtain ⟨⟨s9, st9⟩, f9, e6⟩ := bindM_some e6
                  obtain ⟨z, f10, e6⟩ := bindM_some e6
                  obtain ⟨⟨rest2, st11⟩, f11, e6⟩ := bindM_some e6
                  cases e6
                  refine ⟨S8, L8, env7, st8, s9, st9, sm8, sl7.ext sm6.sub x8, f9, fun y S9 L9 H9 x9 sm9 r9 => ?_⟩
                  have x09 := x08.trans sm1.sub x9
                  have c9 : Carry S8 H8 S9 H9 := x9.carry sm8.sub
                  have nl9 : Dl ∉ L9 := fun w => by
                    have := x9.cel Dl w nl8
                    rw [hacc8] at this; cases this
                  have hacc9 : H9 Dl = some (.lst acc) := x9.keep Dl _ hacc8 nl8
                  have hS9 : S9 Dl := x9.up _ (x8.up _ hS6)
                  have racc9 : Reps K S9 H9 acc accD := racc8.carry c9
                  have ry : Rep K S9 H9 y z := r9.rep f10
                  have hal' : acc.length ≤ 100000 := by
                    rw [racc9.length]
                    have : (accD ++ (z :: rest2 ++ rest')).length ≤ 100000 := by rw [eo6]; exact hlen
                    rw [List.length_append] at this
                    omega
                  obtain ⟨smA, crA⟩ := app_sim (o := .lst (acc ++ [y])) sm9 hS9 nl9 hacc9
                  have cr : Carry S9 H9 S9 (upd H9 Dl (.lst (acc ++ [y]))) := ⟨fun _ _ _ n => n, fun a u e n => by rw [upd_ne (fun w => n (by rw [w]; exact hS9))]; exact e, fun _ _ z => z⟩
                  refine ⟨acc, hacc9, Nat.lt_of_le_of_lt hal' (by decide), S9, L9, st9, acc ++ [y], accD ++ [z], rest2, ?_, (c58.trans c9).trans cr, ?_, smA, hS9, nl9, upd_same, (racc9.carry cr).append (.cons (crA ry) .nil), f11, by rw [← eo6, List.append_assoc]; rfl⟩
                  · exact ⟨x09.pre, x09.up, x09.new, fun a u e n => by
                      rw [upd_ne (ne_of_none e hD)]
                      exact x09.keep a u e n, x09.cel, x09.nm, x09.fx, x09.ff⟩
                  · obtain ⟨u, rfl⟩ := p8
                    obtain ⟨w, rfl⟩ := x9.pre
                    exact ⟨u ++ w, by rw [List.append_assoc]⟩
              · cases e6
            · rw [drop_nil (Nat.le_of_not_lt hlt1)] at e6
              unfold lcGo at e6
              split at e6
              · rename_i hk1
                obtain ⟨h1, h2, h3⟩ := srv1 S6 L6 H6 st6 c6 sm6 r6 hk1
                cases e6
                exact .inl ⟨h2 j (Nat.le_of_not_lt hlt1), S6, L6, _, acc, accD, rest', x6, sm6, hS6, nl6, hacc6, racc6, f7, by rw [← eo6]; rfl⟩
              · cases e6
          · cases e3
      · cases e3
    · rw [drop_nil (Nat.le_of_not_lt hlt)] at e3
      unfold lc2Go at e3
      split at e3
      · rename_i hk
        obtain ⟨g1, g2, g3⟩ := srv S2 L2 H2 st2 (x2.carry sm1.sub) sm2 (r1.ext sm1.sub x2) hk
        cases e3
        rw [List.append_nil] at eo
        subst eo
        exact .inl ⟨g2 i (Nat.le_of_not_lt hlt), k Dl S2 L2 H2 x02 sm2 (fun z => l0.out (x1.up _ z)) hS2 nl (.lst hacc racc)⟩
      · cases e3
  · cases e
end
section
variable {X : Cx} {pos spos : Pos} {e tg iter elt tg1 iter1 : Expr} {src src1 : M Src} {t t1 : Tgt} {mc mc1 : M Bool} {me : M Slot}
theorem f_lc2 {scope : Scope} {ifs ifs1 : List Expr} {own : List (Str × Nat)} {vs1 : List Nat} (hc : X.calm = true) (hN : X.N.Nodup) (hi : PI X tg iter (tI md X.K src)) (ok : BlkOk X.N X.env.scope scope own) (hv : ∀ i ∈ t.idx, i ∈ own.map (·.2)) (hv1 : ∀ i ∈ t1.idx, i ∈ vs1) (hw : ∀ i ∈ vs1, i ∈ own.map (·.2))
    (hg : InBlk X scope fun X => PG X tg (gT X.K t)) (ht : InBlk X scope fun X => JTs md X ifs mc)
    (hi1 : InBlk X scope fun X => PI X tg1 iter1 (tI md X.K src1)) (hg1 : InBlk X scope fun X => PG X tg1 (gT X.K t1)) (ht1 : InBlk X scope fun X => JTs md X ifs1 mc1)
    (he : InBlk X scope fun X => PE X elt (tE md X.K me)) (hs : ∀ x, foldedSetIterable iter X.env x = pure x := by intro _; rfl) (hs1 : ∀ env x, foldedSetIterable iter1 env x = pure x := by intro _ _; rfl) :
    PE X (.ListComp elt [⟨tg, iter, ifs, 0⟩, ⟨tg1, iter1, ifs1, 0⟩] scope pos) (tF md X.K (mLc2 t src mc t1 src1 mc1 me (own.map (·.2)) vs1)) :=
  pe_weak (pe_lc2 (g := gT X.K t) (tt := tT md X.K mc) (wi1 := tI md X.K src1) (g1 := gT X.K t1) (tt1 := tT md X.K mc1) (te := tE md X.K me) hc hN hi ok hw hg ht hi1 hg1 ht1 he hs hs1) fun _ _ _ h => lc2_read hv hv1 h
end
/-! ### chained comparisons -/
def asB : D → Option Bool
  | .bl b => some b
  | _ => none
theorem asB_some {d : D} {b : Bool} (h : asB d = some b) : d = .bl b := by
  cases d <;> first | (cases h; rfl) | cases h
def mChain (g g' : D → D → Option D) (ma mb mc : M Slot) : M Bool := fun env st => bindM (ma env st) fun r1 => bindM (mb env r1.2) fun r2 => bindM (deref r1.1 r2.2) fun d1 => bindM (deref r2.1 r2.2) fun d2 => bindM (g d1 d2) fun z => bindM (asB z) fun k =>
  if k = true then bindM (mc env r2.2) fun r3 => bindM (deref r2.1 r3.2) fun d3 => bindM (deref r3.1 r3.2) fun d4 => bindM (g' d3 d4) fun z2 => bindM (asB z2) fun k2 => some (k2, r3.2) else some (false, r2.2)
section
variable {X : Cx} {pos : Pos} {a b c : Expr} {ma mb mc : M Slot}
theorem chain_read {K : PySem.W.Frag} {R R' : R2} {g g' : D → D → Option D} (hg : OpD K R g) (hg' : OpD K R' g') {σ : L2.St} {H : Hp} {Q : Bool → Hp → Prop} {Q' : VK} (hq : ∀ k H', Q k H' → Q' (.bl k) H') (h : tT md K (mChain g g' ma mb mc) σ H Q) :
    tChain R R' (tE md K ma) (tE md K mb) (tE md K mc) σ H Q' := by
  obtain ⟨S, L, env, st, s, st', sm, sl, e, k⟩ := h
  obtain ⟨⟨s1, st1⟩, e1, e⟩ := bindM_some e
  obtain ⟨⟨s2, st2⟩, e2, e⟩ := bindM_some e
  obtain ⟨d1, f1, e⟩ := bindM_some e
  obtain ⟨d2, f2, e⟩ := bindM_some e
  obtain ⟨z, f3, e⟩ := bindM_some e
  obtain ⟨kb, f4, e⟩ := bindM_some e
  obtain rfl := asB_some f4
  refine ⟨S, L, env, st, s1, st1, sm, sl, e1, fun v S1 L1 H1 x1 sm1 r1 => ?_⟩
  refine ⟨S1, L1, env, st1, s2, st2, sm1, sl.ext sm.sub x1, e2, fun w S2 L2 H2 x2 sm2 r2 => ?_⟩
  refine hg S2 H2 v w d1 d2 _ _ (fun _ z => sm2.free z) ((r1.ext sm1.sub x2).shp sm2 f1) (r2.shp sm2 f2) f3 fun u H' gr ru => ⟨_, (show Shp K S2 H' u (.bl _) from .inl ru).bl, ?_⟩
  have x02 := (x1.trans sm.sub x2).trans sm.sub (.grow gr)
  cases kb with
  | false =>
    cases e
    exact hq _ _ (k S2 L2 H' x02 (sm2.grow gr))
  | true =>
    simp only [asB, bindM_eq, if_true] at e
    obtain ⟨⟨s3, st3⟩, e3, e⟩ := bindM_some e
    obtain ⟨d3, f5, e⟩ := bindM_some e
    obtain ⟨d4, f6, e⟩ := bindM_some e
    obtain ⟨z2, f7, e⟩ := bindM_some e
    obtain ⟨k2, f8, e⟩ := bindM_some e
    cases e
    obtain rfl := asB_some f8
    rw [if_pos rfl]
    refine ⟨S2, L2, env, st2, s3, st3, sm2.grow gr, sl.ext sm.sub x02, e3, fun y S3 L3 H3 x3 sm3 r3 => ?_⟩
    refine hg' S3 H3 w y d3 d4 _ _ (fun _ z => sm3.free z) (((r2.ext sm2.sub (.grow gr)).ext sm2.sub x3).shp sm3 f5) (r3.shp sm3 f6) f7 fun u2 H4 gr2 ru2 => ?_
    rw [(show Shp K S3 H4 u2 (.bl _) from .inl ru2).bl]
    exact hq _ _ (k S3 L3 H4 ((x02.trans sm.sub x3).trans sm.sub (.grow gr2)) (sm3.grow gr2))
theorem v_chain {op op' : CmpOp} {R R' : R2} {g g' : D → D → Option D} (ho : OpR X (compareOp op) R) (hg : OpD X.K R g) (ho' : OpR X (compareOp op') R') (hg' : OpD X.K R' g') (ha : PE X a (tE md X.K ma)) (hb : PE X b (tE md X.K mb)) (hc : PE X c (tE md X.K mc))
    (hm : lastMarks [op, op'] [b, c] = false := by with_unfolding_all rfl) : EB md X (.Compare a [op, op'] [b, c] pos) (mChain g g' ma mb mc) := by
  refine pe_weak (pe_chain ho ho' ha hb hc hm) fun σ H Q h => ?_
  obtain ⟨S, L, env, st, s, st', sm, sl, e, k⟩ := h
  obtain ⟨b, rfl, f⟩ := mVal_bool e
  exact chain_read (Q := fun b2 H' => Q (.bl b2) H') hg hg' (fun _ _ h => h) ⟨S, L, env, st, b, st', sm, sl, f, fun S' L' H' x sm' => k _ S' L' H' x sm' (.im (.bl b))⟩
theorem t_chain {op op' : CmpOp} {R R' : R2} {g g' : D → D → Option D} (ho : OpR X (compareOp op) R) (hg : OpD X.K R g) (ho' : OpR X (compareOp op') R') (hg' : OpD X.K R' g') (ha : PE X a (tE md X.K ma)) (hb : PE X b (tE md X.K mb)) (hc : PE X c (tE md X.K mc))
    (hm : lastMarks [op, op'] [b, c] = false := by with_unfolding_all rfl) : PT X (.Compare a [op, op'] [b, c] pos) (tT md X.K (mChain g g' ma mb mc)) :=
  pt_weak (pt_chain ho ho' ha hb hc hm) fun _ _ _ h => chain_read hg hg' (fun k _ q => ⟨k, rfl, q⟩) h
end
end Mi
/-! MiL: sorted(a list of tuples of ints). -/
namespace Mi
open PySem L2 PySem.Spec PyProof.Rows PySem.W
abbrev PrT := Addr × List Int
def encT (p : PrT) : PyData := .tuple (p.2.map .int)
def tle (a b : List Int) : Bool := !decide (b < a)
def sortT (l : List (List Int)) : List (List Int) := l.mergeSort tle
theorem dataLe_T : dataLe false encT = fun p q => tle p.2 q.2 := by
  funext p q
  show (!dataLt (encT q) (encT p)) = _
  unfold encT tle
  rw [dataLt_tuple]
  congr 1
  exact dataLt_ints q.2 p.2
theorem depth_ints : ∀ l : List Int, PyData.depthAll (l.map .int) = 0
  | [] => by simp [PyData.depthAll]
  | a :: l => by simp [PyData.depthAll, PyData.depth, depth_ints l]
theorem reads_ints {h : Heap} : ∀ {ns : List Int} {its : List Value}, Vals (ns.map V.int) its → ReadsAll h its (ns.map PyData.int) []
  | [], _, .nil => .nil
  | n :: ns, _, .cons e r => by
    obtain ⟨t, rfl⟩ := e
    exact .cons (.int _ _) (reads_ints r)
theorem alike_ints : ∀ a b : List Int, alikeAll (a.map .int) (b.map .int) = true
  | [], _ => by simp [alikeAll]
  | _ :: _, [] => by simp [alikeAll]
  | x :: a, y :: b => by simp [alikeAll, alike, alike_ints a b]
def rSortT (K : PySem.W.Frag) : List V → Hp → VK → Prop := fun vs H Q => ∃ (l : Addr) (ks : List PrT), vs = [V.ref l] ∧ SqL K H l (ks.map fun p => V.ref p.1) ∧ (∀ p ∈ ks, SqT K H p.1 (p.2.map V.int) ∧ p.2 ≠ []) ∧
  ∀ p, H p = none → Q (.ref p) (upd H p (.lst ((ks.mergeSort fun a b => tle a.2 b.2).map fun q => V.ref q.1)))
section
variable {X : Cx}
theorem cr_sortT (hu : X.A.units + 65 < cLine) : CallR X (.builtin "sorted") (rSortT X.K) := by
  intro pins s σ H vs us Q I r h
  obtain ⟨l, ks, rfl, hl, hk, q⟩ := h
  rw [Vals.ref1 r]
  obtain ⟨its, rv, pl, hz⟩ := I.list hl
  have hv : its = ks.map fun p => Value.ref p.1 := by
    clear hk q hl pl hz
    induction ks generalizing its with
    | nil => cases rv; rfl
    | cons p ks ih => cases rv with | cons e t => cases e; rw [ih _ t]; rfl
  subst hv
  have each : ∀ l : List PrT, EachIs (fun (v : Value) (p : PrT) => v = .ref p.1) (l.map fun q => Value.ref q.1) l := by
    intro l
    induction l with
    | nil => exact .nil
    | cons p l ih => exact .cons rfl ih
  have tk : ∀ p ∈ ks, ∃ as, Reads s.heap (.ref p.1) (encT p) as := fun p hp => by
    obtain ⟨its, r, ⟨o, ho, hc, n, hd⟩, _⟩ := I.tuple (hk p hp).1
    exact ⟨[], .tuple ho hc hd (by simpa using reads_ints r)⟩
  have each2 : ∀ l : List PrT, (∀ p ∈ l, p ∈ ks) → EachIs (fun (v : Value) (p : PrT) => ∃ as, Reads s.heap v (encT p) as) (l.map fun q => Value.ref q.1) l := by
    intro l
    induction l with
    | nil => intro _; exact .nil
    | cons p l ih => intro h; exact .cons (tk p (h p (by simp))) (ih fun q hq => h q (by simp [hq]))
  have un : ∀ {out : List Value} {l : List PrT}, EachIs (fun (v : Value) (p : PrT) => v = .ref p.1) out l → out = l.map fun q => Value.ref q.1 := by
    intro out l h
    induction h with
    | nil => rfl
    | cons e _ ih => rw [e, ih]; rfl
  refine sorted_data (R := fun (v : Value) (p : PrT) => v = .ref p.1) (enc := encT) (bs := ks) pl.isList (each ks) (each2 ks fun _ h => h) ?_ ?_ (by simpa using hz) (fun b _ => ?_) fun out lo eo => ?_
  · intro d hd d' hd'
    obtain ⟨p, _, rfl⟩ := List.mem_map.mp hd
    obtain ⟨p', _, rfl⟩ := List.mem_map.mp hd'
    show alike (.tuple _) (.tuple _) = true
    simp only [alike, alike_ints]
  · refine .inl fun d hd => ?_
    obtain ⟨p, hp, rfl⟩ := List.mem_map.mp hd
    obtain ⟨a, t, e⟩ : ∃ a t, p.2 = a :: t := by
      cases e : p.2 with
      | nil => exact absurd e (hk p hp).2
      | cons a t => exact ⟨a, t, rfl⟩
    exact ⟨.int a, t.map .int, by unfold encT; rw [e]; rfl⟩
  · have : (encT b).depth = 1 := by
      unfold encT
      simp only [PyData.depth, depth_ints]
    rw [this]
    omega
  · rw [dataLe_T] at eo
    have eo := un eo
    subst eo
    obtain ⟨c, hc⟩ := sortedAll_at s.heap (ks.map fun p => Value.ref p.1) ((ks.mergeSort fun a b => tle a.2 b.2).map fun q => Value.ref q.1).toArray
    have hn : H (s.heap.objs.size + 1) = none := I.hok.fresh (Nat.le_succ _)
    have pv : ∀ l : List PrT, Vals (l.map fun q => V.ref q.1) (l.map fun q => Value.ref q.1) := by
      intro l
      induction l with
      | nil => exact .nil
      | cons p l ih => exact .cons rfl ih
    refine ⟨.ref (s.heap.objs.size + 1), upd H (s.heap.objs.size + 1) (.lst ((ks.mergeSort fun a b => tle a.2 b.2).map fun q => V.ref q.1)), I.laid (t' := s.toks) (fun _ _ => sortedAll_old) (Nat.le_succ _) ⟨by rw [List.length_map, List.length_mergeSort]; simpa using hz, _, c, pv _, hc⟩, rfl, q _ hn⟩
end
/-! ### at the mirror -/
def tupsOf : List D → Option (List (List Int))
  | [] => some []
  | .tup ds :: es => bindM (intsOf ds) fun ns => if ns.isEmpty = true then none else bindM (tupsOf es) fun ts => some (ns :: ts)
  | _ :: _ => none
def tupD (p : List Int) : D := .tup (p.map D.int)
def sortedTD : List D → Option D
  | [.lst ds] => bindM (tupsOf ds) fun ts => some (.lst ((sortT ts).map tupD))
  | _ => none
theorem reps_tups {K : PySem.W.Frag} {S : Trk} {H : Hp} : ∀ {vs : List V} {ds : List D} {ts : List (List Int)}, Reps K S H vs ds → tupsOf ds = some ts →
    ∃ ks : List PrT, vs = ks.map (fun p => V.ref p.1) ∧ ts = ks.map (·.2) ∧ ∀ p ∈ ks, Rep K S H (.ref p.1) (tupD p.2) ∧ SqT K H p.1 (p.2.map V.int) ∧ p.2 ≠ []
  | [], [], ts, _, e => by cases e; exact ⟨[], rfl, rfl, fun _ h => nomatch h⟩
  | v :: vs, d :: ds, ts, .cons r t, e => by
    unfold tupsOf at e
    split at e
    · rename_i h; cases h
    · rename_i es ds' h
      cases h
      obtain ⟨ns, e0, e⟩ := bindM_some e
      split at e
      · cases e
      · rename_i hne
        obtain ⟨qs, e1, e⟩ := bindM_some e
        cases e
        obtain ⟨ks, h1, h2, h3⟩ := reps_tups t e1
        obtain ⟨a, xs, rfl, sq, rx⟩ := Shp.tup (.inl r)
        obtain ⟨ex, ed⟩ := reps_intsOf rx e0
        subst ex
        refine ⟨(a, ns) :: ks, by rw [h1]; rfl, by rw [h2]; rfl, fun p hp => ?_⟩
        rcases List.mem_cons.mp hp with rfl | hp
        · refine ⟨?_, sq, fun z => hne (by simp only at z; rw [z]; rfl)⟩
          unfold tupD
          rw [← ed]
          exact r
        · exact h3 p hp
    · cases e
theorem reps_of_tups {K : PySem.W.Frag} {S : Trk} {H : Hp} : ∀ {ks : List PrT}, (∀ p ∈ ks, Rep K S H (.ref p.1) (tupD p.2)) → Reps K S H (ks.map fun p => V.ref p.1) ((ks.map (·.2)).map tupD)
  | [], _ => .nil
  | p :: ks, h => .cons (h p (by simp)) (reps_of_tups fun q hq => h q (by simp [hq]))
theorem sortT_map (ks : List PrT) : (ks.mergeSort fun a b => tle a.2 b.2).map (·.2) = sortT (ks.map (·.2)) := List.map_mergeSort fun _ _ _ _ => rfl
theorem sortedTF_ok {K : PySem.W.Frag} : CallF K (rSortT K) sortedTD := by
  intro S H xs ds z Q hx hg k
  match ds, hg with
  | [.lst es], hg =>
    obtain ⟨ts, e1, hg⟩ := bindM_some (show bindM (tupsOf es) _ = some z from hg)
    cases hg
    obtain ⟨v, rfl, h⟩ := shp1 hx
    obtain ⟨p, ys, rfl, hp, r⟩ := h.lst
    obtain ⟨ks, rfl, rfl, hk⟩ := reps_tups r e1
    refine ⟨p, ks, rfl, .of hp, fun p hp => (hk p hp).2, fun l hl => k l _ hl (Grow.new hl) (.lst upd_same ?_)⟩
    rw [← sortT_map]
    exact reps_of_tups fun p hp => ((hk p ((List.mergeSort_perm _ _).mem_iff.mp hp)).1).carry ((Carry.add hl).trans (.grow (Grow.new hl)))
theorem sortT_perm (l : List (List Int)) : (sortT l).Perm l := List.mergeSort_perm _ _
theorem tle_total : TotalLe (fun p q : PrT => tle p.2 q.2) := by
  rw [← dataLe_T]
  exact sortLe_total _ _ _
theorem sortT_pairwise (l : List (List Int)) : (sortT l).Pairwise (fun a b => tle a b = true) :=
  List.pairwise_mergeSort (fun a b c h k => tle_total.trans (0, a) (0, b) (0, c) h k) (fun a b => by
    rcases tle_total.total (0, a) (0, b) with h | h
    · rw [show tle a b = true from h]; rfl
    · rw [show tle b a = true from h, Bool.or_true]) l
theorem tle_cons {x y : Int} {s t : List Int} (h : tle (x :: s) (y :: t) = true) : x ≤ y := by
  unfold tle at h
  rw [Bool.not_eq_true', decide_eq_false_iff_not, List.cons_lt_cons_iff] at h
  omega
theorem tupsOf_map : ∀ {l : List (List Int)}, (∀ p ∈ l, p ≠ []) → tupsOf (l.map tupD) = some l
  | [], _ => rfl
  | p :: l, h => by
    show bindM (intsOf (p.map D.int)) _ = _
    have e : ∀ q : List Int, intsOf (q.map D.int) = some q := by
      intro q
      induction q with
      | nil => rfl
      | cons a q ih =>
        show bindM (intsOf (q.map D.int)) _ = _
        rw [ih]; rfl
    rw [e p, bindM_eq, if_neg (by
      have := h p (by simp)
      cases p with
      | nil => exact absurd rfl this
      | cons a t => simp), tupsOf_map fun q hq => h q (by simp [hq])]
    rfl
end Mi
/-! MiO: [x for x in xs if x is not None], xs a list of one's own. -/
namespace Mi
open PySem L2 PySem.Spec PyProof.Rows
def notNon : Slot → Bool
  | .im .non => false
  | _ => true
def mNsPick (i : Nat) (m : M Slot) : M Slot := fun env st => bindM (m env st) fun r => bindM (isNs r.1) fun ss => if i < env.length ∧ ss.length ≤ 100000 then some (.ns (ss.filter notNon), r.2) else none
abbrev rNN : R2 := fun x y H Q => y = .non ∧ Q (.bl (!decide (x = .non))) H
section
variable {K : PySem.W.Frag} {S : Trk} {L : List Addr} {H : Hp}
theorem notNon_v {v : V} {s : Slot} (h : SlotV K S L H v s) : notNon s = !decide (v = .non) := by
  cases h with
  | im r =>
    rename_i d
    cases r with
    | non => rfl
    | obj n a => cases a <;> rfl
    | _ => rfl
  | pt e => rfl
  | ns _ _ _ _ => rfl
theorem SlotVs.pick : ∀ {vs : List V} {ss : List Slot}, SlotVs K S L H vs ss → SlotVs K S L H (vs.filter fun v => !decide (v = .non)) (ss.filter notNon)
  | _, _, .nil => .nil
  | v :: _, s :: _, .cons r t => by
    have e := notNon_v r
    by_cases h : notNon s = true
    · rw [List.filter_cons_of_pos h, List.filter_cons_of_pos (by rw [← e]; exact h)]
      exact .cons r t.pick
    · rw [List.filter_cons_of_neg h, List.filter_cons_of_neg (by rw [← e]; exact h)]
      exact t.pick
end
theorem upd_upd {H : Hp} {a : Addr} {o u : HO} : upd (upd H a o) a u = upd H a u := by
  funext b
  by_cases h : b = a
  · subst h; rw [upd_same, upd_same]
  · rw [upd_ne h, upd_ne h, upd_ne h]
theorem slots_len {K : PySem.W.Frag} {S : Trk} {L : List Addr} {H : Hp} {σ : L2.St} {env : En} (h : Slots K S L H σ env) : σ.length = env.length := by
  induction h with
  | nil => rfl
  | cons _ _ ih => rw [List.length_cons, List.length_cons, ih]
section
variable {X : Cx} {pos p2 : Pos} {iter elt tg cmp : Expr} {m : M Slot} {i : Nat}
theorem pick_read {K : PySem.W.Frag} {vsl : List Nat} (hi : i ∈ vsl) {σ : L2.St} {H : Hp} {Q : VK} (h : tE md K (mNsPick i m) σ H Q) : tLc (iSeq K (tE md K m)) (gName i) (tTest (tOp rNN (tVar i) (tC .non))) (tVar i) vsl σ H Q := by
  obtain ⟨S, L, env, st, s, st', sm, sl, e, k⟩ := h
  obtain ⟨⟨s1, st1⟩, e1, e⟩ := bindM_some e
  obtain ⟨ss, f1, e⟩ := bindM_some e
  split at e
  · rename_i hl
    obtain ⟨hl1, hl2⟩ := hl
    cases e
    refine ⟨S, L, env, st, s1, st1, sm, sl, e1, fun v S1 L1 H1 x1 sm1 r1 => ?_⟩
    cases r1 with
    | im => cases f1
    | pt => cases f1
    | @ns a ss' vs h1 h2 h3 h4 =>
      cases f1
      have hlen := h4.length
      refine ⟨a, rfl, .inl ⟨⟨vs, .of h3⟩, fun D hD => ?_⟩⟩
      have hne : a ≠ D := ne_of_none h3 hD
      have sq : ∀ acc, SqL K (upd H1 D (.lst acc)) a vs := fun acc => .of (by rw [upd_ne hne]; exact h3)
      have wl : i < (wipe σ vsl).length := by rw [wipe_length, slots_len sl]; exact hl1
      refine ⟨fun j m H2 => m = vs.length - j ∧ j ≤ vs.length ∧ H2 = upd H1 D (.lst ((vs.take j).filter fun v => !decide (v = .non))), ⟨vs.length, by simp, Nat.zero_le _, by simp⟩, ?_⟩
      rintro j m H2 ⟨rfl, hj, rfl⟩
      by_cases hlt : j < vs.length
      · refine .inr ⟨⟨vs, vs[j], sq _, List.getElem?_eq_getElem hlt⟩, fun H' => H' = upd H1 D (.lst ((vs.take (j + 1)).filter fun v => !decide (v = .non))), fun H' e => ⟨vs.length - (j + 1), by omega, rfl, hlt, e⟩, ?_⟩
        rintro x H3 ⟨rfl, hx⟩
        have hx := hx vs (sq _)
        have ex : vs[j] = x := by
          rw [List.getElem?_eq_getElem hlt] at hx
          exact Option.some.inj hx
        have tk : vs.take (j + 1) = vs.take j ++ [x] := by
          rw [List.take_succ, hx]; rfl
        show wipe ((wipe σ vsl).set i (some x)) vsl = wipe σ vsl ∧ _
        refine ⟨wipe_of (is := [i]) (fun z hz => by rw [List.mem_singleton.mp hz]; exact hi) (fun z hz => by rw [List.getElem?_set_ne]; exact fun q => hz (by simp [q])) (by rw [List.length_set]), ?_⟩
        refine ⟨x, by rw [List.getElem?_set_self wl], rfl, _, rfl, ?_⟩
        by_cases hn : x = .non
        · dsimp only
          rw [if_neg (by simp [hn])]
          show _ = _
          rw [tk, List.filter_append]
          simp [hn]
        · dsimp only
          rw [if_pos (by simp [hn])]
          refine ⟨x, by rw [List.getElem?_set_self wl], _, upd_same, ?_, ?_⟩
          · refine Nat.lt_of_le_of_lt (List.length_filter_le _ _) ?_
            rw [List.length_take]
            have : vs.length ≤ 100000 := by omega
            exact Nat.lt_of_le_of_lt (Nat.min_le_right _ _) (Nat.lt_of_le_of_lt this (by decide))
          · show upd (upd _ _ _) _ _ = _
            rw [upd_upd, tk, List.filter_append]
            simp [hn]
      · have ej : j = vs.length := by omega
        subst ej
        rw [List.take_length]
        refine .inl ⟨⟨vs, sq _, Nat.le_refl _⟩, ?_⟩
        have gr := Grow.new (o := .lst (vs.filter fun v => !decide (v = .non))) hD
        have ex : Ext S1 L1 H1 (addS S1 D) L1 (upd H1 D (.lst (vs.filter fun v => !decide (v = .non)))) := ⟨⟨[], by simp⟩, fun _ z => .inl z, fun a z n => z.elim (fun z => (n z).elim) fun q => (by rw [q]; exact hD), fun a o e _ => gr a o e, fun _ z n => (n z).elim, fun _ _ z => z, fun _ => rfl, rfl⟩
        have sm2 : Sim md K (addS S1 D) L1 (upd H1 D (.lst (vs.filter fun v => !decide (v = .non)))) st1 := ⟨sm1.nd, fun a z => .inl (sm1.sub a z), fun a z => z.elim (fun z => let ⟨o, e⟩ := sm1.trk a z; ⟨o, gr a o e⟩) fun z => by subst z; exact ⟨_, upd_same⟩,
          Paired.mapP sm1.cells fun a d r => by
            obtain ⟨o, e⟩ := r.some
            exact r.carry ((Carry.add hD).trans (.grow gr)) ((gr a o e).trans e.symm), sm1.fz, sm1.lk⟩
        have np : D ∉ L1 := fun z => sm1.free hD (sm1.sub D z)
        exact k _ _ L1 _ (x1.trans sm.sub ex) sm2 (.ns (.inr rfl) np upd_same (h4.pick.ext sm1.sub ex))
  · cases e
theorem j_nsPick {scope : Scope} {own : List (Str × Nat)} (hi : PE X iter (tE md X.K m)) (hc : X.calm = true) (hN : X.N.Nodup) (ok : BlkOk X.N X.env.scope scope own) (hv : i ∈ own.map (·.2))
    (hg : InBlk X scope fun X => PG X tg (gName i)) (ht : InBlk X scope fun X => PTs X [cmp] (tTest (tOp rNN (tVar i) (tC .non)))) (he : InBlk X scope fun X => PE X elt (tVar i)) (hs : ∀ x, foldedSetIterable iter X.env x = pure x := by intro _; rfl) :
    PE X (.ListComp elt [⟨tg, iter, [cmp], 0⟩] scope pos) (tE md X.K (mNsPick i m)) :=
  pe_weak (pe_lc (wi := iSeq X.K (tE md X.K m)) (g := gName i) (tt := tTest (tOp rNN (tVar i) (tC .non))) (te := tVar i) hc hN (pi_seq hi) ok hg ht he hs) fun _ _ _ h => pick_read hv h
end
end Mi
/-! MiP: dicts whose keys are tuples: a new one, setdefault, the list of its values. -/
namespace Mi
open PySem L2 PySem.Spec PyProof.Rows PySem.W
def rSetdT : V → List V → Hp → VK → Prop := fun x vs H Q => ∃ a b z kvs k, x = .ref a ∧ vs = [.ref b, z] ∧ H a = some (.dT kvs) ∧ H b = some (.tup (k.map kV)) ∧ kvs.length < sizeLine ∧
  (∀ v, valV kvs k = some v → Q v H) ∧ (valV kvs k = none → Q z (upd H a (.dT (putK kvs k z))))
def rDVals : V → List V → Hp → VK → Prop := fun x vs H Q => ∃ a kvs, x = .ref a ∧ vs = [] ∧ H a = some (.dT kvs) ∧ ∀ p, H p = none → Q (.ref p) (upd H p (viewO "dict_values" p a))
def rListVals : List V → Hp → VK → Prop := fun xs H Q => ∃ p a kvs, xs = [.ref p] ∧ H p = some (viewO "dict_values" p a) ∧ H a = some (.dT kvs) ∧ ∀ l, H l = none → Q (.ref l) (upd H l (.lst (kvs.map (·.2))))
theorem meets_values (prog : Program) (w : World) (d : Addr) (hd : (d == sysModules) = false) :
    MeetsIn prog w (Builtin.«dict.values» ⟨[.ref d], []⟩) (fun _ R s => s.TypeIs (.ref d) "dict" ∧ R (.ok (.ret (.ref s.heap.objs.size))) { s with heap := s.heap.push { cls := .type "dict_values", data := .fields #[.ref d] } }) :=
  .of_wp fun A R s ⟨hm, h⟩ => by
    refine wpAny_bind ?_
    unfold Builtin.Dict.noArgs
    refine wpAny_bind (wpAny_notOrdered_dict hm ?_)
    show wpAny _ _ (pure d) _ _ s
    refine wpAny_pure ?_
    show wpAny _ _ (Builtin.Dict.showsAll d >>= _) _ _ s
    unfold Builtin.Dict.showsAll
    rw [if_neg (by rw [hd]; exact Bool.false_ne_true)]
    refine wpAny_bind (wpAny_pure ?_)
    exact wpAny_bind (wpAny_newObj_type (wpAny_pure ⟨_, rfl, h⟩))
theorem vals_of : ∀ {xs : List V} {us : List Value}, xs.length = us.length → (∀ (i : Nat) (x : V) (u : Value), xs[i]? = some x → us[i]? = some u → RelV x u) → Vals xs us
  | [], [], _, _ => .nil
  | [], _ :: _, h, _ => nomatch h
  | _ :: _, [], h, _ => nomatch h
  | x :: xs, u :: us, h, k => .cons (k 0 x u rfl rfl) (vals_of (by simpa using h) fun i y w hy hw => k (i + 1) y w (by simpa using hy) (by simpa using hw))
section
variable {X : Cx}
theorem mt_setdT (hu : X.A.units + 1 < cLine) : MtR X "dict.setdefault" rSetdT := by
  intro pins s σ H x vs v us Q I rx rv h
  obtain ⟨a, b, z, kvs, k, rfl, rfl, e, eb, l, q1, q2⟩ := h
  cases rx
  obtain ⟨u, r, rfl, ru, rr⟩ : ∃ u r, us = [u, r] ∧ RelV (.ref b) u ∧ RelV z r := by
    cases rv with
    | cons r1 t => cases t with
      | cons r2 t => cases t; exact ⟨_, _, rfl, r1, r2⟩
  cases (show u = Value.ref b from ru)
  obtain ⟨z0, hd, xs, rel, dd⟩ := dt_of I.hok e
  have hz : xs.length ≤ sizeLine := by rw [← Paired.length rel]; exact z0
  refine call_setdefault_heap (hsz := hz) (tupleKind_room_in1 hu) (key_of I.hok eb) hd dd (fun p hp => ?_) fun hn h' dd' hs => ?_
  · have q := rel.val k
    rw [hp] at q
    cases q0 : valV kvs k with
    | none =>
      rw [q0] at q
      exact (show False from q).elim
    | some v0 =>
      rw [q0] at q
      exact ⟨v0, H, I.tok _, q, q1 v0 q0⟩
  · have q := rel.val k
    rw [hn] at q
    cases q0 : valV kvs k with
    | some v0 =>
      rw [q0] at q
      exact (show False from q).elim
    | none =>
      have hl : (putK kvs k z).length ≤ sizeLine := by have := length_putK kvs k z; omega
      obtain ⟨q, es, ep, hq, h2, h3, h4, _, h5⟩ := dd'
      refine ⟨z, upd H a (.dT (putK kvs k z)), d_write I (by rw [e]; exact True.intro) hs ⟨q, hq⟩ ⟨hl, hd, _, (rel.put k eb rr).keeps fun c ys ec => ?_, q, es, ep, hq, h2, h3, h4, h5⟩, rr, q2 q0⟩
      rw [upd_ne (ne_of ec e (fun z => nomatch z))]
      exact ec
theorem mt_dvals : MtR X "dict.values" rDVals := by
  intro pins s σ H x vs v us Q I rx rv h
  obtain ⟨a, kvs, rfl, rfl, e, q⟩ := h
  cases rx
  cases rv
  obtain ⟨z0, hd, xs, rel, dd⟩ := dt_of I.hok e
  have hn : H s.heap.objs.size = none := I.hok.fresh (Nat.le_refl _)
  refine call_meetsIn PySem.F.slot_dict_values dd.typeIs PySem.F.entry_dict_values (PySem.F.args_dict_values_1 _) (meets_values X.prog X.w a hd) ⟨dd.typeIs, ?_⟩
  refine ⟨.ref s.heap.objs.size, _, I.laid (a := s.heap.objs.size) (t' := s.toks) (fun _ _ q => Heap.get?_push_of_some _ q) (Nat.le_refl _) (viewO_ok (Heap.get?_push_size _ rfl)), rfl, q _ hn⟩
theorem cr_listVals (hc : X.calm = true) : CallR X (.type "list") rListVals := by
  intro pins s σ H xs us Q I r h
  obtain ⟨p, a, kvs, rfl, hp, ha, q⟩ := h
  rw [Vals.ref1 r]
  obtain ⟨z0, hd, ys, rel, dd⟩ := dt_of I.hok ha
  have hv : s.heap.get? p = some (DSub.viewOb "dict_values" a) := (I.hok p _ hp).1
  obtain ⟨es, ep, raw, hsz, hes⟩ := dd.raw
  have hn : H s.heap.objs.size = none := I.hok.fresh (Nat.le_refl _)
  have lk : ys.length = kvs.length := (Paired.length rel).symm
  refine kdl_call (KdlSrc.rawValues (r := p) (d := a) (es := es) (ep := ep)) (I.ok.hd hc) ⟨⟨_, hv, rfl, rfl⟩, raw⟩ (by rw [hsz, lk]; exact z0) fun h' tk acc' c' keep hget items => ?_
  have vv : Vals (kvs.map (·.2)) acc'.toList := by
    obtain ⟨it1, it2⟩ := items
    refine vals_of (by rw [List.length_map]; have : acc'.toList.length = acc'.size := by simp
                       omega) fun i x u hx hu => ?_
    rw [List.getElem?_map, Option.map_eq_some_iff] at hx
    obtain ⟨kv, hk, rfl⟩ := hx
    obtain ⟨hi, rfl⟩ := it2 i u (by simpa using hu)
    obtain ⟨y, hy, _, ev, _⟩ := hes i hi
    obtain ⟨kv', hk', _, _, r3⟩ := paired_get rel hy
    rw [hk] at hk'
    cases hk'
    rw [ev]
    exact r3
  refine ⟨.ref s.heap.objs.size, upd H s.heap.objs.size (.lst (kvs.map (·.2))), I.laid (t' := tk) keep (Nat.le_refl _) ⟨by rw [List.length_map]; exact z0, acc'.toList, c', vv, by simpa using hget⟩, rfl, q _ hn⟩
end
/-! ### at the mirror -/
section
variable {K : PySem.W.Frag} {S : Trk} {H : Hp}
theorem RepT.val : ∀ {kvs : List (List Key × V)} {kds : List (List Key × D)}, RepT K S H kvs kds → ∀ (k : List Key), (∀ d, valE kds k = some d → ∃ v, valV kvs k = some v ∧ Rep K S H v d) ∧ (valE kds k = none → valV kvs k = none)
  | _, _, .nil, k => ⟨fun d e => (by cases e), fun _ => rfl⟩
  | _, _, .cons (k := k0) (v := v0) (d := d0) (vs := vs) (ds := ds) r t, k => by
    obtain ⟨h1, h2⟩ := RepT.val t k
    by_cases c : k0 = k
    · subst c
      have e1 : valE ((k0, d0) :: ds) k0 = some d0 := by simp [valE, List.find?_cons]
      have e2 : valV ((k0, v0) :: vs) k0 = some v0 := by simp [valV, List.find?_cons]
      rw [e1, e2]
      exact ⟨fun d e => by cases e; exact ⟨_, rfl, r⟩, fun e => by cases e⟩
    · have e1 : valE ((k0, d0) :: ds) k = valE ds k := by simp [valE, List.find?_cons, c]
      have e2 : valV ((k0, v0) :: vs) k = valV vs k := by simp [valV, List.find?_cons, c]
      rw [e1, e2]
      exact ⟨h1, h2⟩
theorem RepT.snoc {v : V} {d : D} (rv : Rep K S H v d) (k : List Key) : ∀ {kvs : List (List Key × V)} {kds : List (List Key × D)}, RepT K S H kvs kds → RepT K S H (kvs ++ [(k, v)]) (kds ++ [(k, d)])
  | _, _, .nil => .cons rv .nil
  | _, _, .cons r t => .cons r (RepT.snoc rv k t)
theorem RepT.length : ∀ {kvs : List (List Key × V)} {kds : List (List Key × D)}, RepT K S H kvs kds → kvs.length = kds.length
  | _, _, .nil => rfl
  | _, _, .cons _ t => by rw [List.length_cons, List.length_cons, t.length]
theorem RepT.vals : ∀ {kvs : List (List Key × V)} {kds : List (List Key × D)}, RepT K S H kvs kds → Reps K S H (kvs.map (·.2)) (kds.map (·.2))
  | _, _, .nil => .nil
  | _, _, .cons r t => .cons r t.vals
theorem putK_new {kvs : List (List Key × V)} {k : List Key} {v : V} (h : valV kvs k = none) : putK kvs k v = kvs ++ [(k, v)] := by
  unfold putK
  rw [if_neg]
  intro e
  obtain ⟨x, hx, e⟩ := List.any_eq_true.mp e
  unfold valV at h
  rw [Option.map_eq_none_iff, List.find?_eq_none] at h
  exact h x hx e
end
def keysOf : List D → Option (List Key)
  | [] => some []
  | .int i :: ds => bindM (keysOf ds) fun ks => some (Sum.inl i :: ks)
  | .str x :: ds => bindM (keysOf ds) fun ks => some (Sum.inr x :: ks)
  | _ :: _ => none
theorem keysOf_kv {K : PySem.W.Frag} {S : Trk} {H : Hp} : ∀ {vs : List V} {ds : List D} {ks : List Key}, Reps K S H vs ds → keysOf ds = some ks → vs = ks.map kV
  | _, _, ks, .nil, e => by cases e; rfl
  | _, d :: ds, ks, .cons r t, e => by
    cases d with
    | int i =>
      obtain ⟨ks', e1, e⟩ := bindM_some (show bindM (keysOf ds) _ = _ from e)
      cases e
      rw [keysOf_kv t e1, Shp.int (.inl r)]
      rfl
    | str x =>
      obtain ⟨ks', e1, e⟩ := bindM_some (show bindM (keysOf ds) _ = _ from e)
      cases e
      rw [keysOf_kv t e1, Shp.str (.inl r)]
      rfl
    | _ => cases e
def isDt : D → Bool
  | .dit _ => true
  | _ => false
def setdE (k : Nat) (key : List Key) (v : D) (st : Store) : D → Option (Slot × Store)
  | .dit kds => if kds.length < 100000 then (match valE kds key with
    | some w => some (.im w, st)
    | none => some (.im v, st.set k (.dit (kds ++ [(key, v)])))) else none
  | _ => none
def mSetdT (mo : M Slot) (mk : M (List Slot)) (mv : M Slot) : M Slot := fun env st => bindM (mo env st) fun r => bindM (match r.1 with | .pt k => some k | _ => none) fun k => bindM r.2[k]? fun d0 => if isDt d0 = true then
    bindM (mk env r.2) fun r1 => bindM (imsOf r1.1) fun ds => if ds.length ≤ 100000 then bindM (keysOf ds) fun key => bindM (mv env r1.2) fun r2 => bindM (imOf r2.1) fun v => bindM r2.2[k]? fun d => setdE k key v r2.2 d else none
  else none
def mListVals (mo : M Slot) : M D := fun env st => bindM (mo env st) fun r => bindM (deref r.1 r.2) fun d => match d with
  | .dit kds => some (.lst (kds.map (·.2)), r.2)
  | _ => none
theorem tyV_dit {K : PySem.W.Frag} {S : Trk} {H : Hp} {a : Addr} {d : D} (h : At K S H a d) (e : isDt d = true) : tyV K "dict" (.ref a) H := by
  cases h with
  | dit q r => exact .inr (.inr (.inl ⟨rfl, .inr ⟨_, q⟩⟩))
  | _ => cases e
section
variable {X : Cx} {e o ev : Expr} {kes : List Expr} {mo mv : M Slot} {mk : M (List Slot)} {p pos apos cpos tpos p2 : Pos} {x1 : ExprCtx}
theorem f_dnewT {p : Pos} : PE X (.Dict [] [] p) (tF md X.K fun _ st => some (.dit [], st)) := by
  refine pe_weak pe_dnewT ?_
  rintro σ H Q ⟨S, L, env, st, s, st', sm, sl, e, k⟩
  cases e
  intro q hq
  have l := sm.laid hq (Grow.new hq) (.dit (K := X.K) upd_same .nil)
  exact k q _ L _ l.ext l.sim l.out l.mem l.cell l.at_
theorem j_setdT (hp : PE X e (tBM X.K "dict" rSetdT (tE md X.K mo) (tCons (tTup (tA md X.K mk)) (tCons (tE md X.K mv) tNil)))) : PE X e (tE md X.K (mSetdT mo mk mv)) := by
  refine pe_weak hp ?_
  rintro σ H Q ⟨S, L, env, st, s, st', sm, sl, e, k⟩
  obtain ⟨⟨s1, st1⟩, e1, e⟩ := bindM_some e
  obtain ⟨kk, e0, e⟩ := bindM_some e
  obtain ⟨d0, f0, e⟩ := bindM_some e
  split at e
  · rename_i hd0
    obtain ⟨⟨ss, st2⟩, e2, e⟩ := bindM_some e
    obtain ⟨ds, f1, e⟩ := bindM_some e
    split at e
    · rename_i hlen
      obtain ⟨key, f2, e⟩ := bindM_some e
      obtain ⟨⟨s3, st3⟩, e3, e⟩ := bindM_some e
      obtain ⟨vd, f3, e⟩ := bindM_some e
      obtain ⟨d, f4, e⟩ := bindM_some e
      refine ⟨S, L, env, st, _, st1, sm, sl, e1, fun v S1 L1 H1 x1 sm1 r1 => ?_⟩
      cases r1 with
      | im => cases e0
      | ns => cases e0
      | @pt a kk' ha =>
        cases e0
        obtain ⟨d0', g0, hat0⟩ := sm1.cell ha
        rw [f0] at g0
        cases g0
        refine ⟨tyV_dit hat0 hd0, ?_⟩
        refine ⟨S1, L1, env, st1, ss, st2, sm1, sl.ext sm.sub x1, e2, fun vs S2 L2 H2 x2 sm2 r2 => ?_⟩
        have hr := ims_rep r2 f1
        have hkv := keysOf_kv hr f2
        refine ⟨by rw [hr.length]; exact sz hlen, fun p hp => ?_⟩
        have l := sm2.laid hp (Grow.new hp) (at_new_tup hp hr)
        obtain ⟨x3, sm3, _⟩ := plain_of l.ext l.sim l.out l.cell l.at_
        have x03 := (x1.trans sm.sub x2).trans sm.sub x3
        refine ⟨_, L2, env, st2, s3, st3, sm3, sl.ext sm.sub x03, e3, fun z S4 L4 H4 x4 sm4 r4 => ?_⟩
        have ha4 : L4[kk]? = some a := x4.get (x2.get ha)
        obtain ⟨d', g1, hat⟩ := sm4.cell ha4
        rw [f4] at g1
        cases g1
        have hp4 : H4 p = some (.tup (key.map kV)) := by
          rw [← hkv]
          exact x4.keep p _ upd_same l.cell
        have rz : Rep X.K S4 H4 z vd := r4.rep f3
        have x04 := x03.trans sm.sub x4
        cases hat with
        | dit hd rt =>
          rename_i kvs kds
          have e : (if kds.length < 100000 then (match valE kds key with | some w => some (Slot.im w, st3) | none => some (Slot.im vd, st3.set kk (.dit (kds ++ [(key, vd)])))) else none) = some (s, st') := e
          split at e
          · rename_i hl
            refine ⟨a, p, z, kvs, key, rfl, rfl, hd, hp4, by rw [rt.length]; exact Nat.lt_of_lt_of_le hl (by decide), ?_⟩
            obtain ⟨v1, v2⟩ := rt.val key
            cases hv : valE kds key with
            | some w =>
              rw [hv] at e
              cases e
              obtain ⟨v0, g, rw0⟩ := v1 w hv
              refine ⟨fun v hv' => ?_, fun hn => by rw [g] at hn; cases hn⟩
              rw [g] at hv'
              cases hv'
              exact k v0 S4 L4 H4 x04 sm4 (.im rw0)
            | none =>
              rw [hv] at e
              cases e
              have hn := v2 hv
              refine ⟨fun v hv' => (by rw [hn] at hv'; cases hv'), fun _ => ?_⟩
              have hS4 := sm4.sub a (List.mem_of_getElem? ha4)
              obtain ⟨sm5, x5⟩ := sm4.put (o := .dT (putK kvs key z)) (d := .dit (kds ++ [(key, vd)])) ha4 (.dit upd_same (by
                rw [putK_new hn]
                exact (rt.snoc rz key).carry (carry_upd (K := X.K) hS4)))
              exact k z S4 L4 _ (x04.trans sm.sub x5) sm5 (.im (rz.carry (carry_upd (K := X.K) hS4)))
          · cases e
        | _ => cases e
    · cases e
  · cases e
theorem f_listVals (hp : PE X e (tCB rListVals (tCons (tBM0 X.K "dict" rDVals (tE md X.K mo)) tNil))) : PE X e (tF md X.K (mListVals mo)) := by
  refine pe_weak hp ?_
  rintro σ H Q ⟨S, L, env, st, s, st', sm, sl, e, k⟩
  obtain ⟨⟨s1, st1⟩, e1, e⟩ := bindM_some e
  obtain ⟨d, f1, e⟩ := bindM_some e
  refine ⟨S, L, env, st, s1, st1, sm, sl, e1, fun v S1 L1 H1 x1 sm1 r1 => ?_⟩
  have sh := r1.shp sm1 f1
  match d, e with
  | .dit kds, e =>
    cases e
    obtain ⟨a, kvs, rfl, ha, rt⟩ := sh.dit
    refine ⟨.inr (.inr (.inl ⟨rfl, .inr ⟨_, ha⟩⟩)), a, kvs, rfl, rfl, ha, fun p hp => ?_⟩
    have ne : a ≠ p := ne_of_none ha hp
    refine ⟨p, a, kvs, rfl, upd_same, by rw [upd_ne ne]; exact ha, fun l hl => ?_⟩
    have gr : Grow H1 (upd H1 p (viewO "dict_values" p a)) := Grow.new hp
    have hl1 : H1 l = none := by
      cases q : H1 l with
      | none => rfl
      | some o => rw [gr l o q] at hl; cases hl
    have gr2 : Grow H1 (upd (upd H1 p (viewO "dict_values" p a)) l (.lst (kvs.map (·.2)))) := fun x o q => Grow.new hl x o (gr x o q)
    have at_ : At X.K (addS S1 l) (upd (upd H1 p (viewO "dict_values" p a)) l (.lst (kvs.map (·.2)))) l (.lst (kds.map (·.2))) := .lst upd_same (rt.vals.carry ((Carry.add hl1).trans (.grow gr2)))
    have l2 := sm1.laid hl1 gr2 at_
    exact k l _ L1 _ (x1.trans sm.sub l2.ext) l2.sim (fun z => l2.out (x1.up _ z)) l2.mem l2.cell l2.at_
  | .lst _, e | .tup _, e | .non, e | .bl _, e | .int _, e | .str _, e | .dic _, e | .scr _, e | .ty _, e => cases e
end
end Mi
/-! MiQ: enumerate over a list or a tuple. -/
namespace Mi
open PySem L2 PySem.Spec PyProof.Rows PySem.W
theorem meets_enumerate_new1 {v : Value} {o : Obj} {H : Heap → Prop} (B : Begins v o H) :
    Meets (Builtin.«enumerate.__new__» ⟨[.type "enumerate", v], []⟩) (fun _ R s => H s.heap ∧
      R (.ok (.ret (.ref (s.heap.push o).objs.size))) { s with heap := (s.heap.push o).push { cls := .type "enumerate", data := .fields #[.none, .bool false, .ref s.heap.objs.size, rawInt 0, .none, .none] } }) :=
  .of_wp fun prog w A R s h => by
    obtain ⟨hp, g, d, tk, os⟩ := s; obtain ⟨h1, h⟩ := h
    have hsub := sub_enumerate
    have q1 : ∀ {A' : Around} {E : Value → Shared → Prop} {Q : Value → Shared → Prop}, Q (.ref hp.objs.size) ⟨hp.push o, g, d, tk, os⟩ → wpAny (model prog w) A' (pyIter v) Q E ⟨hp, g, d, tk, os⟩ :=
      fun q => B.iter prog w _ _ ⟨hp, g, d, tk, os⟩ _ h1 q
    wp_walk using q1
    refine wpAny_stack_any fun st => wpAny_pure ?_
    split
    · rename_i c _ _ _ _ _
      cases (c == Value.type "enumerate")
      · wp_walk using q1
        exact ⟨_, rfl, h⟩
      · wp_walk using q1
        exact ⟨_, rfl, h⟩
    · wp_walk using q1
      exact ⟨_, rfl, h⟩
section
variable {prog : Program} {w : World} {A : Around} {E : Value → Shared → Prop} {s : Shared}
theorem call_enumerate_begins {v : Value} {o : Obj} {H : Heap → Prop} {Q : Value → Shared → Prop} (B : Begins v o H) (h1 : H s.heap)
    (h : ∀ h', IsEnum h' (s.heap.objs.size + 1) s.heap.objs.size 0 .none → h'.get? s.heap.objs.size = some o → h'.objs.size = s.heap.objs.size + 2 →
      (∀ b o, s.heap.get? b = some o → h'.get? b = some o) → Q (.ref (s.heap.objs.size + 1)) { s with heap := h' }) :
    wpAny (model prog w) A (call (.type "enumerate") [v]) Q E s := by
  refine callType_new F.called_enumerate (by decide) (F.typeCall_enumerate_1 _) (F.newCall_enumerate_1 _) (fun obj => F.args_object_init_2 obj _) F.entry_enumerate_new
    (meets_enumerate_new1 B) ⟨h1, ?_⟩
  have hz : (s.heap.push o).objs.size = s.heap.objs.size + 1 := Heap.size_push ..
  show _ ∧ _
  rw [hz]
  have he : IsEnum ((s.heap.push o).push { cls := .type "enumerate", data := .fields #[.none, .bool false, .ref s.heap.objs.size, rawInt 0, .none, .none] }) (s.heap.objs.size + 1) s.heap.objs.size 0 .none := by
    have := Heap.get?_push_size (s.heap.push o) (o := { cls := .type "enumerate", data := .fields #[.none, .bool false, .ref s.heap.objs.size, rawInt 0, .none, .none] }) rfl
    rw [hz] at this; exact this
  refine ⟨⟨_, he, rfl⟩, h _ he (Heap.get?_push_of_some _ (Heap.get?_push_size _ B.free)) (by rw [Heap.size_push, hz]) fun b o x => Heap.get?_push_of_some _ (Heap.get?_push_of_some _ x)⟩
end
theorem wpAny_pyNext_enum_endT {prog : Program} {w : World} {A : Around} {E : Value → Shared → Prop} {s : Shared} {e it t : Addr} {j : Nat} {items : Array Value} {i : Int} {old : Value} {Q : Option Value → Shared → Prop}
    (hh : A.in1.handled = none) (he : IsEnum s.heap e it i old) (hit : s.heap.IsTupleIter it t j) (ht : s.heap.IsTuple t items) (hx : items[j]? = none)
    (hQ : ∀ h', Heap.ExtBut it s.heap h' → Q none { s with heap := h' }) : wpAny (model prog w) A (pyNext (.ref e)) Q E s := by
  have hT : s.TypeIs (.ref e) "enumerate" := ⟨_, he, rfl⟩
  unfold pyNext
  refine wpAny_bind (wpAny_attempt (wpAny_callSpecial?_slot (name := Str.ofString "__next__") hT F.slot_enumerate_next
    (wpAny_call_entry F.slot_enumerate_next hT F.entry_enumerate_next ?_ (F.args_enumerate_next_1 _))))
  show wpAny _ _ (field (.ref e) 2 >>= _) _ _ _
  refine wpAny_bind (wpAny_field he rfl (x := .ref it) rfl ?_)
  refine wpAny_bind (wpAny_nextOf_tuple_end hh hit ht hx fun h' x he' hx' => ?_)
  obtain ⟨o, ho, hc⟩ := hx'
  refine wpAny_bind (wpAny_isInstance (T := "StopIteration") (b := true) ⟨o, ho, hc⟩ isSubtype_stop ?_)
  exact wpAny_pure (hQ _ he')
/-- the tuple at a, each item in a new pair -/
def Itet (K : PySem.W.Frag) (a : Addr) : It :=
  ⟨fun i H => ∃ (xs : List V) (x : V), SqT K H a xs ∧ xs[i]? = some x, fun i H v H' => ∃ T x, v = .ref T ∧ H T = none ∧ H' = upd H T (.tup [.int (i : Nat), x]) ∧ ∀ xs, SqT K H a xs → xs[i]? = some x, fun i H => ∃ xs : List V, SqT K H a xs ∧ xs.length ≤ i⟩
theorem turn_enumT {P : Program} {w : World} {K : PySem.W.Frag} {elts : List Expr} {kk : Nat} {tpos : Pos} (a e it : Addr) :
    Turn P w K (.Tuple elts kk tpos) (Itet K a) [e, it] e (fun i h => (∃ old, IsEnum h e it ((i : Nat) : Int) old) ∧ h.IsTupleIter it a i ∧ e ≠ it) where
  mem := by simp
  obj := fun i h st b hb => by
    obtain ⟨⟨old, he⟩, ⟨o, ho, hc, hd⟩, _⟩ := st
    have e' : b = e ∨ b = it := by simpa using hb
    rcases e' with z | z
    · rw [z]; exact ⟨_, he, fun v q => nomatch q⟩
    · rw [z]; exact ⟨o, ho, fun v q => by rw [hd] at q; cases q⟩
  keep := fun i h h' st k => let ⟨⟨old, he⟩, hi, hne⟩ := st; ⟨⟨old, k e (by simp) _ he⟩, hi.at fun o q => k it (by simp) o q, hne⟩
  item := by
    intro X hP hw hK hc i pins s σ H E I hf st hg
    subst hP hw hK
    obtain ⟨⟨old, he⟩, hit, hne⟩ := st
    obtain ⟨xs, x, hq, hx⟩ := hg
    obtain ⟨its, rv, p, hz⟩ := I.tuple hq
    have p : s.heap.IsTuple a its.toArray := p
    obtain ⟨u, hu, ru⟩ := rv.get hx
    have hel : e < s.heap.objs.size := Heap.lt_size he
    have hil : it < s.heap.objs.size := by obtain ⟨_, q, _⟩ := hit; exact Heap.lt_size q
    have hai : a ≠ it := fun z => by
      obtain ⟨o1, g1, c1, _⟩ := hit
      obtain ⟨o2, g2, c2, _⟩ := id p
      rw [z, g1] at g2
      cases g2
      rw [c1] at c2
      exact absurd c2 (by decide)
    have hae : e ≠ a := fun z => by
      obtain ⟨o2, g2, c2, _⟩ := id p
      rw [← z, show s.heap.get? e = _ from he] at g2
      cases g2
      have c2 : Value.type "enumerate" = Value.type "tuple" := c2
      exact absurd c2 (by decide)
    have D := Draws.tuple (prog := X.prog) (w := X.w) (A := X.A.in1) (I.ok.hd hc) it a hai its.toArray
    have hlt : i < its.toArray.size := by
      have := (List.getElem?_eq_some_iff.mp hu).1
      simpa using this
    refine wpAny_pyNext_enum_itemD D he ⟨hit, p⟩ hlt hne (by simp [hne, hae]) fun y h' tk hP ho hst hT hsz hk => ?_
    have ey : y = u := by
      have hP : its.toArray[i]? = some y := hP
      have : its.toArray[i]? = some u := by simpa using hu
      rw [this] at hP
      exact (Option.some.inj hP).symm
    subst ey
    refine ⟨_, rfl, wpAny_letOwnedTupleGo_enum (s := { s with heap := h', toks := tk + 1 }) ho fun h'' he' sb => ?_⟩
    have hT2 : h''.get? s.heap.objs.size = some { cls := .type "tuple", data := .seq #[.int i tk, y] } := (sb.2 _ (Nat.ne_of_gt hel)).trans hT
    have new : ObjOk X.prog X.w (upd H s.heap.objs.size (.tup [.int (i : Nat), x])) h'' s.heap.objs.size (.tup [.int (i : Nat), x]) :=
      ⟨by show 2 ≤ sizeLine; decide, [.int i tk, y], .cons ⟨_, rfl⟩ (.cons ru .nil), ⟨_, hT2, rfl, _, rfl⟩⟩
    have I1 : Inv X pins σ (upd H s.heap.objs.size (.tup [.int (i : Nat), x])) { s with heap := h'', toks := tk + 1 } :=
      I.turnedNew (ch := [e, it]) (fun b ob hb q => (sb.2 b (fun z => hb (by simp [z]))).trans (hk b ob (fun z => hb (by simp [z])) (fun z => hb (by simp [z])) q)) hf (Nat.le_refl _) new
    refine ⟨.ref s.heap.objs.size, _, I1, rfl, ⟨_, x, rfl, I.hok.fresh (Nat.le_refl _), rfl, fun ys hy => by rw [I.tuple_inj hy hq]; exact hx⟩, ⟨⟨y, ?_⟩, hst.1.at fun o q => (sb.2 it (Ne.symm hne)).trans q, hne⟩, fun b hb => ?_⟩
    · have e1 : ((i + 1 : Nat) : Int) = (i : Int) + 1 := by omega
      rw [e1]; exact he'
    · have hb' : b < s.heap.objs.size := by
        have e' : b = e ∨ b = it := by simpa using hb
        rcases e' with z | z
        · rw [z]; exact hel
        · rw [z]; exact hil
      rw [upd_ne (Nat.ne_of_lt hb')]
      exact (hf b hb).1
  done := by
    intro X hP hw hK hc i pins s σ H E I hf st hg
    subst hP hw hK
    obtain ⟨⟨old, he⟩, hit, hne⟩ := st
    obtain ⟨xs, hq, hx⟩ := hg
    obtain ⟨its, rv, p, hz⟩ := I.tuple hq
    have p : s.heap.IsTuple a its.toArray := p
    obtain ⟨f0, f1, f2, f3, f4, f5⟩ := hf it (by simp)
    have hl := rv.length
    exact wpAny_pyNext_enum_endT (I.ok.hd hc) he hit p (by simp; omega) fun h' eb => ⟨rfl, I.turned (t' := s.toks) (fun b o hb q => eb b o hb q) f0 f1 f3 f4 f5⟩
  self := fun A i s Q E st h => let ⟨⟨_, he⟩, _⟩ := st; wpAny_pyIter_enum he h
def iEnumT (K : PySem.W.Frag) (ta : TA) : TI := fun σ H R => ta σ H fun vs H1 => ∃ a xs, vs = [.ref a] ∧ ((SqL K H1 a xs ∧ R (Ite K a) H1) ∨ (SqT K H1 a xs ∧ R (Itet K a) H1))
theorem pi_enumT {X : Cx} {e : Expr} {ta : TA} {p pos tpos : Pos} {elts : List Expr} {kk : Nat} (hg : Gl X "enumerate") (hm : X.mg "enumerate" = none) (ha : PA X [e] ta) (hs : starEach [e] X.env = [(false, eval e X.env)] := by rfl) :
    PI X (.Tuple elts kk tpos) (.Call (.Name "enumerate" p) [e] [] pos) (iEnumT X.K ta) := by
  refine ⟨fun pins s σ H R I h => ?_⟩
  refine Call_ (ld_blt I hg hm boot_enumerate (PyProof.Rows.callWith_type1 (thn (ha.run pos pins s σ H _ I h) fun us s1 ⟨vs, H1, I1, r1, q1⟩ => ?_) hs rfl))
  obtain ⟨a, xs, ex, hq⟩ := q1
  subst ex
  cases r1 with
  | cons r rr =>
    cases rr
    cases r
    have fp : ∀ b ∈ [s1.heap.objs.size + 1, s1.heap.objs.size], FpOk X pins H1 b := fun b hb => by
      have e' : b = s1.heap.objs.size + 1 ∨ b = s1.heap.objs.size := by simpa using hb
      have hle : s1.heap.objs.size ≤ b := by
        rcases e' with z | z
        · rw [z]; exact Nat.le_add_right _ _
        · rw [z]; exact Nat.le_refl _
      exact I1.fpOk hle (I1.hok.fresh hle)
    rcases hq with ⟨hq, q⟩ | ⟨hq, q⟩
    · obtain ⟨its, rv, p', hz⟩ := I1.list hq
      refine call_enumerate_list p'.isList fun h' he hit hsz hk => wpAny_pyIter_enum he ?_
      have I2 : Inv X pins σ H1 { s1 with heap := h' } := I1.kept (t' := s1.toks) hk
      exact ⟨s1.heap.objs.size + 1, [s1.heap.objs.size + 1, s1.heap.objs.size], _, _, H1, rfl, I2, turn_enum a (s1.heap.objs.size + 1) s1.heap.objs.size, ⟨⟨.none, he⟩, hit, Nat.succ_ne_self _⟩, fp, q⟩
    · obtain ⟨its, rv, p', hz⟩ := I1.tuple hq
      refine call_enumerate_begins (begins_tuple a its.toArray) (show s1.heap.IsTuple a its.toArray from p') fun h' he hit hsz hk => wpAny_pyIter_enum he ?_
      have I2 : Inv X pins σ H1 { s1 with heap := h' } := I1.kept (t' := s1.toks) hk
      exact ⟨s1.heap.objs.size + 1, [s1.heap.objs.size + 1, s1.heap.objs.size], _, _, H1, rfl, I2, turn_enumT a (s1.heap.objs.size + 1) s1.heap.objs.size, ⟨⟨.none, he⟩, ⟨_, hit, rfl, rfl⟩, Nat.succ_ne_self _⟩, fp, q⟩
/-! ### at the mirror -/
def enumI : Nat → List D → List D
  | _, [] => []
  | i, d :: ds => .tup [.int (i : Int), d] :: enumI (i + 1) ds
theorem enumI_get : ∀ {ds : List D} {k i : Nat} {d : D}, ds[i]? = some d → (enumI k ds)[i]? = some (.tup [.int ((k + i : Nat) : Int), d])
  | [], k, i, d, e => by simp at e
  | x :: ds, k, 0, d, e => by simp at e; subst e; simp [enumI]
  | x :: ds, k, i + 1, d, e => by
    have := enumI_get (k := k + 1) (i := i) (show ds[i]? = some d by simpa using e)
    simp only [enumI, List.getElem?_cons_succ]
    rw [this, show k + 1 + i = k + (i + 1) by omega]
theorem enumI_len : ∀ {ds : List D} {k : Nat}, (enumI k ds).length = ds.length
  | [], _ => rfl
  | _ :: ds, k => by simp [enumI, enumI_len (ds := ds)]
def mEnum (m : M (List Slot)) : M Src := fun env st => bindM (m env st) fun r => match r.1 with
  | [s] => bindM (deref s r.2) fun d => bindM (seqItems d) fun ds => some (⟨s, d, enumI 0 ds⟩, r.2)
  | _ => none
section
variable {X : Cx} {K : PySem.W.Frag}
theorem srv_enumL {a : Addr} {s : Slot} {d : D} {ds : List D} (e : d = .lst ds ∨ ∃ ns, d = .scr ns ∧ ds = ns.map D.int) : SrvV md K (Ite K a) (.ref a) ⟨s, d, enumI 0 ds⟩ := by
  intro S L H st sm r f
  obtain ⟨xs, h1, h2⟩ := sqL_of_SqL (r.shp sm f) e rfl
  refine ⟨fun i hi => ?_, fun i hi => ⟨xs, h1, by rw [h2.length]; simpa [enumI_len] using hi⟩, fun i hi x H' y => ?_⟩
  · have : i < xs.length := by rw [h2.length]; simpa [enumI_len] using hi
    exact ⟨xs, xs[i], h1, List.getElem?_eq_getElem this⟩
  · obtain ⟨T, x', rfl, hT, rfl, hx⟩ := y
    obtain ⟨d', e3, r'⟩ := h2.getV (hx xs h1)
    refine ⟨Grow.new hT, _, by rw [enumI_get e3, Nat.zero_add], ?_⟩
    exact .obj (sm.free hT) (.tup upd_same (.cons (.int _) (.cons (r'.carry (.grow (Grow.new hT))) .nil)))
theorem srv_enumT {a : Addr} {s : Slot} {ds : List D} : SrvV md K (Itet K a) (.ref a) ⟨s, .tup ds, enumI 0 ds⟩ := by
  intro S L H st sm r f
  obtain ⟨b, xs, e, h1, h2⟩ := (r.shp sm f).tup
  cases e
  refine ⟨fun i hi => ?_, fun i hi => ⟨xs, h1, by rw [h2.length]; simpa [enumI_len] using hi⟩, fun i hi x H' y => ?_⟩
  · have : i < xs.length := by rw [h2.length]; simpa [enumI_len] using hi
    exact ⟨xs, xs[i], h1, List.getElem?_eq_getElem this⟩
  · obtain ⟨T, x', rfl, hT, rfl, hx⟩ := y
    obtain ⟨d', e3, r'⟩ := h2.getV (hx xs h1)
    refine ⟨Grow.new hT, _, by rw [enumI_get e3, Nat.zero_add], ?_⟩
    exact .obj (sm.free hT) (.tup upd_same (.cons (.int _) (.cons (r'.carry (.grow (Grow.new hT))) .nil)))
theorem i_enum {e : Expr} {p pos tpos : Pos} {elts : List Expr} {kk : Nat} {m : M (List Slot)} (hg : Gl X "enumerate") (hm : X.mg "enumerate" = none) (ha : PA X [e] (tA md X.K m)) (hs : starEach [e] X.env = [(false, eval e X.env)] := by rfl) :
    PI X (.Tuple elts kk tpos) (.Call (.Name "enumerate" p) [e] [] pos) (tI md X.K (mEnum m)) := by
  refine pi_weak (pi_enumT hg hm ha hs) ?_
  rintro σ H R ⟨S, L, env, st, q, st', sm, sl, e, k⟩
  obtain ⟨⟨ss, st1⟩, e1, e⟩ := bindM_some e
  dsimp only at e
  split at e
  · rename_i s
    obtain ⟨d, e2, e⟩ := bindM_some e
    obtain ⟨ds, e3, e⟩ := bindM_some e
    cases e
    refine ⟨S, L, env, st, _, _, sm, sl, e1, fun vs S1 L1 H1 x1 sm1 r1 => ?_⟩
    cases r1 with
    | cons r rr =>
      cases rr
      have sh := r.shp sm1 e2
      cases d with
      | lst es =>
        cases e3
        obtain ⟨a, xs, ev, h1, h2⟩ := shp_sql sh (.inl rfl)
        subst ev
        exact ⟨a, xs, rfl, .inl ⟨h1, k _ _ S1 L1 H1 x1 sm1 r e2 (srv_enumL (.inl rfl)).x⟩⟩
      | scr es =>
        cases e3
        obtain ⟨a, xs, ev, h1, h2⟩ := shp_sql sh (.inr ⟨_, rfl, rfl⟩)
        subst ev
        exact ⟨a, xs, rfl, .inl ⟨h1, k _ _ S1 L1 H1 x1 sm1 r e2 (srv_enumL (.inr ⟨_, rfl, rfl⟩)).x⟩⟩
      | tup es =>
        cases e3
        obtain ⟨a, xs, ev, h1, h2⟩ := sh.tup
        subst ev
        exact ⟨a, xs, rfl, .inr ⟨h1, k _ _ S1 L1 H1 x1 sm1 r e2 srv_enumT.x⟩⟩
      | _ => cases e3
  · cases e
end
end Mi
/-! MiR: min of a list of tuples of ints. -/
namespace Mi
open PySem L2 PySem.Spec PyProof.Rows PySem.W
def minL (x : List Int) (xs : List (List Int)) : List Int := xs.foldl (fun a y => if y < a then y else a) x
theorem minD_T (x : List Int) : ∀ xs : List (List Int), minD (.tuple (x.map .int)) (xs.map fun y => PyData.tuple (y.map .int)) = .tuple ((minL x xs).map .int) := by
  intro xs
  unfold minD minL
  induction xs generalizing x with
  | nil => rfl
  | cons k r ih =>
    rw [List.map_cons, List.foldl_cons, List.foldl_cons, ← ih]
    have e : dataLt (.tuple (k.map .int)) (.tuple (x.map .int)) = decide (k < x) := by
      rw [dataLt_tuple]
      exact dataLt_ints k x
    try dsimp only
    rw [e]
    by_cases hk : k < x
    · rw [if_pos (decide_eq_true hk), if_pos hk]
    · rw [if_neg (by simpa using hk), if_neg hk]
theorem ints_uniq {h : Heap} : ∀ {ns : List Int} {its : List Value} {ds : List PyData} {as : List Addr}, Vals (ns.map V.int) its → ReadsAll h its ds as → ds = ns.map .int
  | [], _, _, _, .nil, r => by cases r; rfl
  | n :: ns, _, _, _, .cons e t, r => by
    obtain ⟨tk, rfl⟩ := e
    cases r with
    | cons r1 r2 =>
      cases r1
      rw [ints_uniq t r2]
      rfl
theorem tup_uniq {h : Heap} {a : Addr} {ns : List Int} {its : List Value} {d : PyData} {as : List Addr} (hv : Vals (ns.map V.int) its) (ht : h.IsTuple a its.toArray) (r : Reads h (.ref a) d as) : d = .tuple (ns.map .int) := by
  obtain ⟨o, ho, hc, n, hd⟩ := ht
  cases r with
  | tuple ho' hc' hd' rd =>
    rw [ho] at ho'
    cases ho'
    rw [hd] at hd'
    cases hd'
    have rd := rd
    simp only [List.toList_toArray] at rd
    rw [ints_uniq hv rd]
  | list ho' hc' hd' rd =>
    rw [ho] at ho'
    cases ho'
    rw [hc] at hc'
    exact absurd hc' (by decide)
  | dict ho' hc' hd' rd =>
    rw [ho] at ho'
    cases ho'
    rw [hc] at hc'
    exact absurd hc' (by decide)
def rMinTT (K : PySem.W.Frag) : List V → Hp → VK → Prop := fun vs H Q => ∃ (l : Addr) (k0 : PrT) (ks : List PrT), vs = [V.ref l] ∧ SqL K H l ((k0 :: ks).map fun p => V.ref p.1) ∧ (∀ p ∈ k0 :: ks, SqT K H p.1 (p.2.map V.int)) ∧
  ∀ p ∈ k0 :: ks, p.2 = minL k0.2 (ks.map (·.2)) → Q (.ref p.1) H
section
variable {X : Cx}
theorem cr_minTT (hc : X.calm = true) (hu : X.A.units + 65 < cLine) : CallR X (.builtin "min") (rMinTT X.K) := by
  intro pins s σ H vs us Q I r h
  obtain ⟨l, k0, ks, rfl, hl, hk, q⟩ := h
  rw [Vals.ref1 r]
  obtain ⟨its, rv, pl, hz⟩ := I.list hl
  have hv : its = (k0 :: ks).map fun p => Value.ref p.1 := by
    clear hk q hl pl hz
    generalize k0 :: ks = ls at rv
    induction ls generalizing its with
    | nil => cases rv; rfl
    | cons p ks ih => cases rv with | cons e t => cases e; rw [ih _ t]; rfl
  subst hv
  have rd : ∀ ls : List PrT, (∀ p ∈ ls, p ∈ k0 :: ks) → ReadsAll s.heap (ls.map fun p => Value.ref p.1) (ls.map fun p => PyData.tuple (p.2.map .int)) (ls.map fun _ => ([] : List Addr)).flatten := by
    intro ls
    induction ls with
    | nil => intro _; exact .nil
    | cons p ls ih =>
      intro h
      obtain ⟨its, r, ⟨o, ho, hc, n, hd⟩, _⟩ := I.tuple (hk p (h p (by simp)))
      refine .cons (.tuple ho hc hd (by simpa using reads_ints r)) (ih fun q hq => h q (by simp [hq]))
  have rd0 := rd (k0 :: ks) fun _ h => h
  have e0 : (k0 :: ks).map (fun p => PyData.tuple (p.2.map .int)) = PyData.tuple (k0.2.map .int) :: (ks.map (·.2)).map fun y => PyData.tuple (y.map .int) := by simp [Function.comp_def]
  rw [e0] at rd0
  refine min_list_data (I.ok.hd hc) pl.isList (by rw [List.toList_toArray]; exact rd0) ?_ ?_ fun i v h' tk bs hi hr keep => ?_
  · rw [← e0]
    refine ⟨fun x hx y hy => ?_, fun x hx => ?_⟩
    · obtain ⟨p, _, rfl⟩ := List.mem_map.mp hx
      obtain ⟨p', _, rfl⟩ := List.mem_map.mp hy
      simp only [alike, alike_ints]
    · obtain ⟨p, _, rfl⟩ := List.mem_map.mp hx
      exact fun z => nomatch z
  · have : PyData.depthAll ((k0 :: ks).map fun p => PyData.tuple (p.2.map .int)) ≤ 1 := by
      generalize k0 :: ks = ls
      induction ls with
      | nil => simp [PyData.depthAll]
      | cons p ls ih =>
        simp only [List.map_cons, PyData.depthAll, PyData.depth, depth_ints]
        exact Nat.max_le.2 ⟨Nat.le_refl _, ih⟩
    rw [← e0]
    omega
  · obtain ⟨p, hp, e⟩ : ∃ p, (k0 :: ks)[i]? = some p ∧ v = .ref p.1 := by
      have : ((k0 :: ks).map fun p => Value.ref p.1)[i]? = some v := by simpa using hi
      rw [List.getElem?_map, Option.map_eq_some_iff] at this
      obtain ⟨p, h1, h2⟩ := this
      exact ⟨p, h1, h2.symm⟩
    subst e
    have hm := List.mem_of_getElem? hp
    obtain ⟨its, r, ⟨o, ho, hc, n, hd⟩, _⟩ := I.tuple (hk p hm)
    rw [minD_T] at hr
    have := tup_uniq (a := p.1) r ⟨o, keep _ _ ho, hc, n, hd⟩ hr
    have e2 : p.2 = minL k0.2 (ks.map (·.2)) := by
      injection this with this
      exact (List.map_inj_right (fun a b h => by injection h)).mp this.symm
    exact ⟨.ref p.1, H, I.kept (t' := tk) keep, rfl, q p hm e2⟩
end
def minTupD : List D → Option D
  | [.lst ds] => bindM (tupsOf ds) fun ts => match ts with
    | [] => none
    | x :: xs => some (tupD (minL x xs))
  | _ => none
theorem minTupD_ok {K : PySem.W.Frag} : CallD K (rMinTT K) minTupD := by
  intro S H xs ds z Q hS hx hg k
  match ds, hg with
  | [.lst es], hg =>
    obtain ⟨ts, e1, hg⟩ := bindM_some (show bindM (tupsOf es) _ = some z from hg)
    obtain ⟨v, rfl, h⟩ := shp1 hx
    obtain ⟨p, ys, rfl, hp, r⟩ := h.lst
    obtain ⟨ks, rfl, rfl, hk⟩ := reps_tups r e1
    cases ks with
    | nil => cases hg
    | cons k0 ks =>
      cases hg
      refine ⟨p, k0, ks, rfl, .of hp, fun p hp => (hk p hp).2.1, fun p hp e => k _ H (fun _ _ h => h) ?_⟩
      rw [← e]
      exact (hk p hp).1
end Mi
/-! MiRp: repr of lists and tuples of data without dicts. -/
namespace Mi
open PySem L2 PySem.Spec PyProof.Rows PySem.W
def rRepr (K : PySem.W.Frag) : List V → Hp → VK → Prop := fun vs H Q => ∃ (a : Addr) (d : PyData), vs = [V.ref a] ∧ Dp K H (.ref a) d ∧ d.showable = true ∧ d.hasDict = false ∧ d.depth ≤ 50 ∧ d.shown.length ≤ sizeLine ∧ Q (.str d.shown) H
section
variable {X : Cx}
theorem cr_repr (hu : X.A.units + 65 < cLine) (hg : X.A.guards = some []) : CallR X (.builtin "repr") (rRepr X.K) := by
  intro pins s σ H vs us Q I r h
  obtain ⟨a, d, rfl, hd, h1, h2, h3, h4, q⟩ := h
  rw [Vals.ref1 r]
  obtain ⟨as, rd⟩ := Dp.reads I d (.ref a) (.ref a) hd rfl
  refine repr_of_reads' rd h1 (fun z => by rw [h2] at z; cases z) hg (by omega) (fun _ _ e => e) (fun h' u tk k => ?_) h4
  exact ⟨.str d.shown, H, I.kept k, ⟨_, rfl⟩, q⟩
end
/-! ### at the mirror -/
def reprOf (p : PyData) : Option D := if p.showable = true ∧ p.hasDict = false ∧ p.depth ≤ 50 ∧ p.shown.length ≤ sizeLine then some (.str p.shown) else none
def reprD : List D → Option D
  | [.lst ds] => bindM (toPy (.lst ds)) reprOf
  | [.tup ds] => bindM (toPy (.tup ds)) reprOf
  | _ => none
theorem reprD_ok {K : PySem.W.Frag} : CallD K (rRepr K) reprD := by
  intro S H xs ds z Q free hx hg k
  have key : ∀ (d : D) (v : V) (a : Addr), Shp K S H v d → v = .ref a → bindM (toPy d) reprOf = some z → rRepr K [v] H Q := by
    intro d v a h e hz
    subst e
    obtain ⟨p, e1, e2⟩ := bindM_some hz
    unfold reprOf at e2
    split at e2
    · rename_i c
      cases e2
      exact ⟨a, p, rfl, h.dp e1, c.1, c.2.1, c.2.2.1, c.2.2.2, k _ _ (fun _ _ h => h) (.str _)⟩
    · cases e2
  match ds, hg, hx with
  | [.lst es], hg, hx =>
    cases hx with
    | cons r t =>
      cases t
      obtain ⟨a, _, e, _, _⟩ := Shp.lst r
      exact key _ _ a r e hg
  | [.tup es], hg, hx =>
    cases hx with
    | cons r t =>
      cases t
      obtain ⟨a, _, e, _, _⟩ := Shp.tup r
      exact key _ _ a r e hg
end Mi
/-! MiG: a def run at one known surrounding (not at all of them): what is under way is known there, so repr may be told. -/
namespace Mi
open PySem L2 PySem.Spec PyProof.Rows
section
variable {P : Program} {w : World} {K : PySem.W.Frag} {mg : Str → Option Value} {base : Heap} {x qual : Str} {params : Arguments} {body : List Stmt} {scope : Scope} {dvs : List V} {kws : List (Str × V)} {f : Addr} {fd : FuncData} {N ps : List Str} {A : Around} {outer : List Env} {s : Shared} {H : Hp} {args : Args} {us : List Value} {vs : List V} {Q : VK} {E : XK}
theorem fn_at (F : FunD K x qual params body scope dvs kws f fd) (S : FnScope N ps scope) (hd : A.handled = none) (dp : A.depth < recursionLimit) (e0 : Env0 P w K mg base A outer s H) (hl : vs.length = ps.length) (r : Vals vs us) (hb : BindsTo s fd args (ps.zip us))
    (go : ∀ cdv, ∃ t, PSs (cxOf CX0 P w K mg base N qual scope f cdv A outer s H E).nox body t ∧ t { nx := fun _ H' => Q .non H', rt := Q } (start N vs) H) :
    codeAny (model P w) A (.call (.ref f) args) (fun r s' => ∃ u, r = .ok (.ret u) ∧ CE outer P w H s Q u s') s := by
  obtain ⟨oc, od, dV, kV, doc, pm, an, cdv, ct, osl, rfl, lk, hcd, _, _⟩ := F.ex
  obtain ⟨t, T, q⟩ := go cdv
  have inH : K.In s.heap := e0.mod.kin.keeps fun b o e => (e0.bs b o e).1
  have noL : s.heap.NoLimit := e0.mod.nolimit.keeps fun b o e => (e0.bs b o e).1
  refine Att.call_fn inH noL lk hcd dp hb ?_ (fun s1 hx => ?_) S.co S.gen S.kind
  · rw [List.all_eq_true]
    rintro ⟨y, v⟩ hy
    rcases S.par y (List.of_mem_zip hy).1 with z | z <;> simp [z]
  · have J := inv_start (CX := CX0) (E := E) S hd e0 hl r hx
    refine wpAny_mono (T.run [] s1 (start N vs) H _ (J.wish _) q) (fun fl s2 hs => ?_) (fun e s2 hs => ?_)
    · have close : ∀ {σ2 : L2.St} {H2 : Hp} {v : V} {u : Value}, Inv (cxOf CX0 P w K mg base N qual scope f cdv A outer s H E) [] σ2 H2 s2 → RelV v u → Q v H2 → CE outer P w H s Q u s2 :=
        fun {σ2 H2 v u} I2 rv qv => ⟨v, H2, I2.os, I2.bare, I2.base, I2.hok, rv, qv⟩
      cases fl with
      | ret u =>
        obtain ⟨v, σ2, H2, I2, rv, qv⟩ := hs
        exact ⟨u, rfl, close I2.unwish rv qv⟩
      | next =>
        obtain ⟨σ2, H2, I2, qv⟩ := hs
        exact ⟨.none, rfl, close (v := V.non) I2.unwish rfl qv⟩
      | brk =>
        obtain ⟨_, _, _, z⟩ := hs
        cases z
      | cont =>
        obtain ⟨_, _, _, z⟩ := hs
        cases z
    · exact (show False from hs).elim
end
/-- a whole law, run where it is called: its script is the one object that is followed -/
theorem law_at {P : Program} {w : World} {K : PySem.W.Frag} {mg mb : Str → Option Value} {fa a : Addr} {st : Shared} {vs : List Value} {ns : List Int}
    (inH : K.In st.heap) (nm : st.heap.Ns mainGlobals mg) (nb : st.heap.Ns builtinsNs mb) (boot : ∀ x : Str, x ≠ "__name__" → mb x = bootBuiltins x) (noL : st.heap.NoLimit) (gens : st.gens = #[])
    (scr : st.heap.get? a = some { cls := .type "list", data := .seq vs.toArray }) (hin : IntsAre vs ns) (short : ns.length ≤ sizeLine)
    (run : ∀ (base : Heap) (H : Hp), K.In base → base.Ns mainGlobals mg → Only H → SqL K H a (ns.map V.int) → Env0 P w K mg base callerA [] st H →
      codeAny (model P w) callerA (.call (.ref fa) ⟨[.ref a], []⟩) (fun r s' => ∃ u, r = .ok (.ret u) ∧ CE [] P w H st (fun v _ => v = .bl true) u s') st) :
    codeAny (model P w) callerA (.call (.ref fa) ⟨[.ref a], []⟩) (fun r s' => r = .ok (.ret (.bool true)) ∧ OldK st.heap s'.heap ∧ s'.os = st.os ∧ AllBare s'.gens) st := by
  have rv := vals_ints hin
  have lenV := hin.length
  -- H follows the script alone, or nothing (where the program holds it)
  have pick : ∃ H : Hp, Only H ∧ SqL K H a (ns.map V.int) ∧ HOk P w H st.heap ∧ ∀ b, H b ≠ none → b = a ∧ K.lookup a = none := by
    cases hk : K.lookup a with
    | some o =>
      have e := inH a o hk
      rw [scr] at e
      cases e
      exact ⟨fun _ => none, fun _ => .inl rfl, .inr ⟨_, vs.toArray, _, hk, rfl, rfl, rfl, by rw [List.size_toArray, lenV]; exact short, by simpa using rv⟩, fun b u z => (by cases (show (none : Option HO) = some u from z)), fun b z => absurd rfl z⟩
    | none =>
      refine ⟨fun b => if b = a then some (.frz { cls := .type "list", data := .seq vs.toArray } (.lst (ns.map V.int))) else none, fun b => ?_, .inl (.inr ⟨_, if_pos rfl⟩), fun b u z => ?_, fun b z => ⟨?_, rfl⟩⟩
      · by_cases e : b = a
        · exact .inr ⟨_, _, if_pos e⟩
        · exact .inl (if_neg e)
      · by_cases e : b = a
        · cases (if_pos e).symm.trans z
          subst e
          exact ⟨scr, by rw [List.length_map]; exact short, vs, _, rv, scr⟩
        · cases (if_neg e).symm.trans z
      · by_cases e : b = a
        · exact e
        · exact absurd (if_neg e) z
  obtain ⟨H, only, sq, hok, own⟩ := pick
  have plain : ∀ {b : Addr} {o : Obj}, st.heap.get? b = some o → o ≠ { cls := .type "list", data := .seq vs.toArray } ∨ K.lookup b = some o → H b = none := fun {b o} e h => by
    cases q : H b with
    | none => rfl
    | some u =>
      obtain ⟨z, y⟩ := own b (by rw [q]; simp)
      subst z
      rcases h with h | h
      · rw [scr] at e; cases e; exact absurd rfl h
      · rw [y] at h; cases h
  have under : ∀ {b : Addr} {m : Str → Option Value}, st.heap.Ns b m → (hidT st.heap H).Ns b m := fun {b m} ⟨o, es, ep, e, d, r⟩ => ⟨o, es, ep, hidT_get e (plain e (.inl fun z => by rw [z] at d; cases d)), d, r⟩
  have kb : K.In (hidT st.heap H) := fun b o e => hidT_get (inH b o e) (plain (inH b o e) (.inr e))
  have md : Mod K mg (hidT st.heap H) := ⟨kb, under nm, ⟨mb, under nb, boot⟩, let ⟨mc, h1, h2⟩ := noL; ⟨mc, under h1, h2⟩⟩
  have e0 : Env0 P w K mg (hidT st.heap H) callerA [] st H := ⟨rfl, md, fun _ _ e => of_hidT e, Nat.le_of_eq (hidT_size _ _), trivial, fun _ hb => (by cases hb), hok, .of_eq gens⟩
  refine codeAny_mono (run _ H kb (under nm) only sq e0) fun r s' ⟨u, er, v, H', os, bare, un, hok', rel, qv⟩ => ?_
  subst qv
  obtain rfl : u = Value.bool true := rel
  refine ⟨er, OldK.of_keep fun b o e => ?_, os, bare⟩
  cases q : H b with
  | none => exact un.keep b o e q (fun z => by cases z) (by simp)
  | some y =>
    rcases only b with z | ⟨ob, xs, z⟩
    · rw [q] at z; cases z
    · obtain ⟨c1, _⟩ := hok b _ z
      obtain ⟨c2, _⟩ := hok' b _ (un.frzs b ob _ z)
      rw [e] at c1; cases c1
      exact c2
/-- a def's promise where what is under way is known: nothing -/
def FnG (P : Program) (w : World) (K : PySem.W.Frag) (mg : Str → Option Value) (base : Heap) (k : Nat) (f : Addr) (fd : FuncData) (ps : List Str) (sp : Sp) : Prop :=
  ∀ (A : Around) (outer : List Env) (s : Shared) (H : Hp) (args : Args) (us : List Value) (vs : List V) (Q : VK) (E : XK), Room k A → A.guards = some [] → Env0 P w K mg base A outer s H → BindsTo s fd args (ps.zip us) → Vals vs us → vs.length = ps.length → sp vs H Q E →
    codeAny (model P w) A (.call (.ref f) args) (fun r s' => ∃ u, r = .ok (.ret u) ∧ CE outer P w H s Q u s') s
theorem f_law {P : Program} {w : World} {K : PySem.W.Frag} {mg : Str → Option Value} {base : Heap} {x qual : Str} {params : Arguments} {body : List Stmt} {scope : Scope} {dvs : List V} {kws : List (Str × V)} {f : Addr} {fd : FuncData} {N ps : List Str} {k n : Nat} {m : StM} (F : FunD K x qual params body scope dvs kws f fd) (Sc : FnScope N ps scope) (hn : ps.length = n)
    (hb : ∀ (cdv : Value) (A : Around) (outer : List Env) (s : Shared) (H : Hp) (E : XK), Room k (A.deeper (envOfC qual scope s.heap.objs.size f cdv)) → (A.deeper (envOfC qual scope s.heap.objs.size f cdv)).guards = some [] →
      PSs (cxOf CX0 P w K mg base N qual scope f cdv A outer s H E).nox body (tS true K m)) : FnG P w K mg base (k + 1) f fd ps (spM K n (mkFn N.length m)) := by
  intro A outer s H args us vs Q E hr hg e0 hbi r hl hsp
  exact fn_at F Sc hr.hd hr.depth e0 hl r hbi fun cdv => ⟨_, hb cdv A outer s H E (hr.deeper _) hg, sp_start hsp⟩
/-- the law's end, its def run where nothing is under way -/
theorem walk_at {l : PySem.W.OpenLaw} {n k : Nat} {q : Program} {loose : List Str} {XP : (Str → Option Value) → Heap → Prop} {YP : World → Heap → Prop} {d : DefRec} {x : Str} (hn : l.most = some n) (hn2 : n ≤ sizeLine) (hdf : d.params.defaults = []) (hr : Room k callerA)
    (F : ∀ (w : World) (mg : Str → Option Value) (fa : Addr) (h : Heap), YP w h → h.Ns mainGlobals mg → mg d.name = some (.ref fa) →
      ∃ (K : PySem.W.Frag) (fd : FuncData) (sp : Sp), K.In h ∧ (∀ (s : Shared) (u : Value), BindsTo s fd ⟨[u], []⟩ [(x, u)]) ∧
        (∀ (H : Hp) (a : Addr) (ns : List Int), ns.length ≤ n → Only H → SqL K H a (ns.map V.int) → sp [.ref a] H (fun v _ => v = .bl true) fun _ _ _ => False) ∧
        ∀ base : Heap, K.In base → base.Ns mainGlobals mg → FnG l.prog w K mg base k fa fd [x] sp) :
    PySem.W.WalkO q loose XP YP l.row.toRowW d [] (fun f vs => PySem.call f vs) := by
  refine Att.attach_call hn hdf fun w s0 st mg mb fa o pm cd doc a vs ns G Y ho hd hcd hmg hobj hints hlen hgens => ?_
  obtain ⟨K, fd, sp, inH, hb, hsp, hF⟩ := F w mg fa _ Y G.T.g hmg
  refine law_at inH G.T.g G.T.b G.T.builtins G.T.nolimit hgens hobj hints (Nat.le_trans hlen hn2) fun base H kb nm only sq e0 => ?_
  exact hF base kb nm callerA [] st H _ [.ref a] [.ref a] _ _ hr rfl e0 (hb st (.ref a)) (.cons rfl .nil) rfl (hsp H a ns hlen only sq)
end Mi
/-! MiEq: == and != where both may be texts (of whatever signs). -/
namespace Mi
open PySem L2
def eqXD : D → D → Option D
  | .str a, .str b => some (.bl (decide (a = b)))
  | d, e => eqD d e
def neXD : D → D → Option D
  | .str a, .str b => some (.bl (!decide (a = b)))
  | d, e => neD d e
def rEqX (K : PySem.W.Frag) : R2 := fun x y H Q => rEq x y H Q ∨ rEqD K x y H Q
def rNeX (K : PySem.W.Frag) : R2 := fun x y H Q => rNe x y H Q ∨ rNeD K x y H Q
section
variable {X : Cx}
theorem op_eqX (hu : X.A.units + 64 < cLine) : OpR X (compareOp .Eq) (rEqX X.K) := op_eq.or (op_eqD hu)
theorem op_neX (hu : X.A.units + 64 < cLine) : OpR X (compareOp .NotEq) (rNeX X.K) := op_ne.or (op_neD hu)
end
theorem Shp.strV {K : PySem.W.Frag} {S : Trk} {H : Hp} {v : V} {s : Str} (h : Shp K S H v (.str s)) : v = .str s := by
  rcases h with h | ⟨a, _, h, nt⟩
  · cases h with
    | str => rfl
    | obj _ q => cases q
  · cases h
theorem eqXD_ok {K : PySem.W.Frag} : OpD K (rEqX K) eqXD := by
  intro S H x y d e z Q hS hx hy hg k
  unfold eqXD at hg
  split at hg
  · cases hg
    rename_i a b
    obtain rfl := hx.strV
    obtain rfl := hy.strV
    refine .inl ⟨rfl, ?_⟩
    rw [show decide (V.str a = V.str b) = decide (a = b) by simp]
    exact k _ _ (fun _ _ h => h) (.bl _)
  · exact .inr (eqD_ok S H x y _ _ z Q hS hx hy hg k)
theorem neXD_ok {K : PySem.W.Frag} : OpD K (rNeX K) neXD := by
  intro S H x y d e z Q hS hx hy hg k
  unfold neXD at hg
  split at hg
  · cases hg
    rename_i a b
    obtain rfl := hx.strV
    obtain rfl := hy.strV
    refine .inl ⟨rfl, ?_⟩
    rw [show decide (V.str a = V.str b) = decide (a = b) by simp]
    exact k _ _ (fun _ _ h => h) (.bl _)
  · exact .inr (neD_ok S H x y _ _ z Q hS hx hy hg k)
end Mi
/-! MiTx: texts: their methods, str of an int, int of a text, f-strings, a text's signs one by one. -/
namespace Mi
open PySem L2 PySem.Spec PyProof.Rows
def mM1 (g : D → D → Option D) (ma mb : M Slot) : M Slot := fun env st => bindM (ma env st) fun r1 => match r1.1 with
  | .im (.str a) => bindM (mb env r1.2) fun r2 => bindM (deref r2.1 r2.2) fun d => bindM (g (.str a) d) fun z => some (.im z, r2.2)
  | _ => none
def mM1F (g : D → D → Option D) (ma mb : M Slot) : M D := fun env st => bindM (ma env st) fun r1 => match r1.1 with
  | .im (.str a) => bindM (mb env r1.2) fun r2 => bindM (deref r2.1 r2.2) fun d => bindM (g (.str a) d) fun z => some (z, r2.2)
  | _ => none
section
variable {X : Cx} {e : Expr} {ma mb : M Slot}
theorem j_m1 {r : V → List V → Hp → VK → Prop} {g : D → D → Option D} (hp : PE X e (tM1 r (tE md X.K ma) (tE md X.K mb))) (hg : OpD X.K (fun x y H Q => r x [y] H Q) g) : PE X e (tE md X.K (mM1 g ma mb)) := by
  refine pe_weak hp ?_
  rintro σ H Q ⟨S, L, env, st, s, st', sm, sl, e, k⟩
  obtain ⟨⟨s1, st1⟩, e1, e⟩ := bindM_some e
  dsimp only at e
  split at e
  · rename_i a
    obtain ⟨⟨s2, st2⟩, e2, e⟩ := bindM_some e
    obtain ⟨d2, f2, e⟩ := bindM_some e
    obtain ⟨z, f3, e⟩ := bindM_some e
    cases e
    refine ⟨S, L, env, st, _, st1, sm, sl, e1, fun v S1 L1 H1 x1 sm1 r1 => ?_⟩
    have hv : v = .str a := (show Shp X.K S1 H1 v (.str a) from r1.shp sm1 rfl).strV
    refine ⟨⟨a, hv⟩, S1, L1, env, st1, s2, st2, sm1, sl.ext sm.sub x1, e2, fun w S2 L2 H2 x2 sm2 r2 => ?_⟩
    exact hg S2 H2 v w _ d2 _ Q (fun _ z => sm2.free z) (.inl (by rw [hv]; exact .str a)) (r2.shp sm2 f2) f3 fun u H' gr ru =>
      k u S2 L2 H' ((x1.trans sm.sub x2).trans sm.sub (.grow gr)) (sm2.grow gr) (.im ru)
  · cases e
theorem f_m1 {r : V → List V → Hp → VK → Prop} {g : D → D → Option D} (hp : PE X e (tM1 r (tE md X.K ma) (tE md X.K mb))) (hg : OpF X.K (fun x y H Q => r x [y] H Q) g) : PE X e (tF md X.K (mM1F g ma mb)) := by
  refine pe_weak hp ?_
  rintro σ H Q ⟨S, L, env, st, s, st', sm, sl, e, k⟩
  obtain ⟨⟨s1, st1⟩, e1, e⟩ := bindM_some e
  dsimp only at e
  split at e
  · rename_i a
    obtain ⟨⟨s2, st2⟩, e2, e⟩ := bindM_some e
    obtain ⟨d2, f2, e⟩ := bindM_some e
    obtain ⟨z, f3, e⟩ := bindM_some e
    cases e
    refine ⟨S, L, env, st, _, st1, sm, sl, e1, fun v S1 L1 H1 x1 sm1 r1 => ?_⟩
    have hv : v = .str a := (show Shp X.K S1 H1 v (.str a) from r1.shp sm1 rfl).strV
    refine ⟨⟨a, hv⟩, S1, L1, env, st1, s2, st2, sm1, sl.ext sm.sub x1, e2, fun w S2 L2 H2 x2 sm2 r2 => ?_⟩
    exact hg S2 H2 v w _ d2 _ Q (.inl (by rw [hv]; exact .str a)) (r2.shp sm2 f2) f3 fun p H' hp gr at_ =>
      let l := sm2.laid hp gr at_
      k p _ L2 H' ((x1.trans sm.sub x2).trans sm.sub l.ext) l.sim (fun z => l.out (x2.up _ (x1.up _ z))) l.mem l.cell l.at_
  · cases e
end
/-! ### lists of texts -/
def strsOf : List D → Option (List Str)
  | [] => some []
  | .str s :: ds => bindM (strsOf ds) fun ss => some (s :: ss)
  | _ :: _ => none
theorem reps_strsOf {K : PySem.W.Frag} {S : Trk} {H : Hp} : ∀ {vs : List V} {ds : List D} {ss : List Str}, Reps K S H vs ds → strsOf ds = some ss → vs = ss.map V.str
  | [], [], ss, _, e => by cases e; rfl
  | v :: vs, d :: ds, ss, .cons r t, e => by
    unfold strsOf at e
    split at e
    · rename_i h; cases h
    · rename_i s ds' h
      cases h
      obtain ⟨qs, e1, e⟩ := bindM_some e
      cases e
      rw [reps_strsOf t e1, (show Shp K S H v (.str s) from .inl r).strV]
      rfl
    · cases e
theorem reps_strs {K : PySem.W.Frag} {S : Trk} {H : Hp} : ∀ ss : List Str, Reps K S H (ss.map V.str) (ss.map D.str)
  | [] => .nil
  | s :: ss => .cons (.str s) (reps_strs ss)
/-! ### split, join, partition -/
def splitD : D → D → Option D
  | .str a, .str b => if (b.length == 0) = false ∧ a.length ≤ 100000 then some (.lst ((Txt.split a b).map .str)) else none
  | _, _ => none
def rSplit1 : V → List V → Hp → VK → Prop := fun x xs H Q => ∃ a b, x = .str a ∧ xs = [.str b] ∧ (b.length == 0) = false ∧ a.length + 2 ≤ sizeLine ∧ rNewStrs (Txt.split a b) H Q
theorem splitD_ok {K : PySem.W.Frag} : OpF K (fun x y H Q => rSplit1 x [y] H Q) splitD := by
  intro S H x y d e z Q hx hy hg k
  unfold splitD at hg
  split at hg
  · rename_i a b
    split at hg
    · rename_i c
      cases hg
      obtain rfl := hx.strV
      obtain rfl := hy.strV
      refine ⟨a, b, rfl, rfl, c.1, Nat.le_trans (Nat.add_le_add_right c.2 2) (by decide), fun p hp => ?_⟩
      exact k p _ hp (Grow.new hp) (at_new_lst hp (reps_strs _))
    · cases hg
  · cases hg
def joinD : D → D → Option D
  | .str a, .lst ds => bindM (strsOf ds) fun ys => if (ys.map (·.length)).sum + ys.length * a.length ≤ 16777216 then some (.str (Txt.join a ys)) else none
  | .str a, .tup ds => bindM (strsOf ds) fun ys => if (ys.map (·.length)).sum + ys.length * a.length ≤ 16777216 then some (.str (Txt.join a ys)) else none
  | _, _ => none
def rJoin1 (K : PySem.W.Frag) : V → List V → Hp → VK → Prop := fun x xs H Q => ∃ a p, ∃ ys : List Str, x = .str a ∧ xs = [.ref p] ∧ (SqL K H p (ys.map V.str) ∨ SqT K H p (ys.map V.str)) ∧
    (ys.map (·.length)).sum + ys.length * a.length ≤ 16777216 ∧ Q (.str (Txt.join a ys)) H
theorem joinD_ok {K : PySem.W.Frag} : OpD K (fun x y H Q => rJoin1 K x [y] H Q) joinD := by
  intro S H x y d e z Q hS hx hy hg k
  unfold joinD at hg
  split at hg
  · rename_i a ds
    obtain ⟨ys, e1, hg⟩ := bindM_some hg
    split at hg
    · rename_i c
      cases hg
      obtain rfl := hx.strV
      obtain ⟨p, xs, rfl, hp, r⟩ := hy.lst
      have := reps_strsOf r e1
      subst this
      exact ⟨a, p, ys, rfl, rfl, .inl (.of hp), c, k _ _ (fun _ _ h => h) (.str _)⟩
    · cases hg
  · rename_i a ds
    obtain ⟨ys, e1, hg⟩ := bindM_some hg
    split at hg
    · rename_i c
      cases hg
      obtain rfl := hx.strV
      obtain ⟨p, xs, rfl, hp, r⟩ := hy.tup
      have := reps_strsOf r e1
      subst this
      exact ⟨a, p, ys, rfl, rfl, .inr hp, c, k _ _ (fun _ _ h => h) (.str _)⟩
    · cases hg
  · cases hg
def partD : D → D → Option D
  | .str a, .str b => if (b.length == 0) = false ∧ a.length ≤ 100000 then some (.tup [.str (Txt.partition a b).1, .str (Txt.partition a b).2.1, .str (Txt.partition a b).2.2]) else none
  | _, _ => none
def rPart1 : V → List V → Hp → VK → Prop := fun x xs H Q => ∃ a b, x = .str a ∧ xs = [.str b] ∧ (b.length == 0) = false ∧ a.length ≤ sizeLine ∧
      ∀ p, H p = none → Q (.ref p) (upd H p (.tup [.str (Txt.partition a b).1, .str (Txt.partition a b).2.1, .str (Txt.partition a b).2.2]))
theorem partD_ok {K : PySem.W.Frag} : OpD K (fun x y H Q => rPart1 x [y] H Q) partD := by
  intro S H x y d e z Q hS hx hy hg k
  unfold partD at hg
  split at hg
  · rename_i a b
    split at hg
    · rename_i c
      cases hg
      obtain rfl := hx.strV
      obtain rfl := hy.strV
      refine ⟨a, b, rfl, rfl, c.1, sz c.2, fun p hp => ?_⟩
      exact k _ _ (Grow.new hp) (.obj (hS p hp) (.tup upd_same (.cons (.str _) (.cons (.str _) (.cons (.str _) .nil)))))
    · cases hg
  · cases hg
/-! ### str of an int, int of a text -/
def strD : List D → Option D
  | [.int i] => if i.natAbs.log2 < 1920 then some (.str (toString i)) else none
  | _ => none
theorem strD_ok {K : PySem.W.Frag} : CallD K (fun xs H Q => ∃ i, xs = [.int i] ∧ i.natAbs.log2 < 1920 ∧ Q (.str (toString i)) H) strD := by
  intro S H xs ds z Q hS hx hg k
  match ds, hg with
  | [.int i], hg =>
    have hg : (if i.natAbs.log2 < 1920 then some (D.str (toString i)) else none) = some z := hg
    split at hg
    · rename_i c
      cases hg
      obtain ⟨v, rfl, h⟩ := shp1 hx
      obtain rfl := h.int
      exact ⟨i, rfl, c, k _ _ (fun _ _ h => h) (.str _)⟩
    · cases hg
def intSD : List D → Option D
  | [.str a] => if a.length ≤ 640 then bindM (PySem.intText? a) fun n => some (.int n) else none
  | _ => none
theorem intSD_ok {K : PySem.W.Frag} : CallD K (fun xs H Q => ∃ a n, xs = [.str a] ∧ PySem.intText? a = some n ∧ a.length ≤ 640 ∧ Q (.int n) H) intSD := by
  intro S H xs ds z Q hS hx hg k
  match ds, hg with
  | [.str a], hg =>
    have hg : (if a.length ≤ 640 then bindM (PySem.intText? a) fun n => some (D.int n) else none) = some z := hg
    split at hg
    · rename_i c
      obtain ⟨n, e1, hg⟩ := bindM_some hg
      cases hg
      obtain ⟨v, rfl, h⟩ := shp1 hx
      obtain rfl := h.strV
      exact ⟨a, n, rfl, e1, c, k _ _ (fun _ _ h => h) (.int _)⟩
    · cases hg
/-! ### comparisons of texts -/
def leSD : D → D → Option D
  | .str a, .str b => some (.bl (!decide (b.cps.toList < a.cps.toList)))
  | _, _ => none
def rLeS : R2 := fun x y H Q => ∃ i j, x = .str i ∧ y = .str j ∧ Q (.bl (!decide (j.cps.toList < i.cps.toList))) H
theorem op_leS {X : Cx} : OpR X (compareOp .LtE) rLeS := op_le_str
theorem leSD_ok {K : PySem.W.Frag} : OpD K rLeS leSD := by
  intro S H x y d e z Q hS hx hy hg k
  unfold leSD at hg
  split at hg
  · cases hg
    exact ⟨_, _, hx.strV, hy.strV, k _ _ (fun _ _ h => h) (.bl _)⟩
  · cases hg
/-- a sign in a text -/
def oneC (s : Str) : Option Nat := match s.cps.toList with
  | [c] => some c
  | _ => none
theorem oneC_eq {s : Str} {c : Nat} (h : oneC s = some c) : s = ⟨#[c]⟩ := by
  unfold oneC at h
  split at h
  · rename_i d e
    cases h
    obtain ⟨⟨l⟩⟩ := s
    rw [show l = [c] from e]
  · cases h
def inSD : D → D → Option D
  | .str a, .str b => bindM (oneC a) fun c => some (.bl (decide (c ∈ b.cps.toList)))
  | _, _ => none
def ninSD : D → D → Option D
  | .str a, .str b => bindM (oneC a) fun c => some (.bl (!decide (c ∈ b.cps.toList)))
  | _, _ => none
def rInS : R2 := fun x y H Q => ∃ (c : Nat) (z : Str), x = .str ⟨#[c]⟩ ∧ y = .str z ∧ Q (.bl (decide (c ∈ z.cps.toList))) H
def rNinS : R2 := fun x y H Q => ∃ (c : Nat) (z : Str), x = .str ⟨#[c]⟩ ∧ y = .str z ∧ Q (.bl (!decide (c ∈ z.cps.toList))) H
theorem op_inS {X : Cx} : OpR X (compareOp .In) rInS := op_in_sign
theorem op_ninS {X : Cx} : OpR X (compareOp .NotIn) rNinS := op_notIn_sign
theorem inSD_ok {K : PySem.W.Frag} : OpD K rInS inSD := by
  intro S H x y d e z Q hS hx hy hg k
  unfold inSD at hg
  split at hg
  · rename_i a b
    obtain ⟨c, e1, hg⟩ := bindM_some hg
    cases hg
    obtain rfl := oneC_eq e1
    exact ⟨_, _, hx.strV, hy.strV, k _ _ (fun _ _ h => h) (.bl _)⟩
  · cases hg
theorem ninSD_ok {K : PySem.W.Frag} : OpD K rNinS ninSD := by
  intro S H x y d e z Q hS hx hy hg k
  unfold ninSD at hg
  split at hg
  · rename_i a b
    obtain ⟨c, e1, hg⟩ := bindM_some hg
    cases hg
    obtain rfl := oneC_eq e1
    exact ⟨_, _, hx.strV, hy.strV, k _ _ (fun _ _ h => h) (.bl _)⟩
  · cases hg
/-! ### f-strings -/
def fmtD : D → Option D
  | .str s => if s.length ≤ 100000 then some (.str s) else none
  | .int i => if i.natAbs.log2 < 1920 then some (.str (toString i)) else none
  | _ => none
def mFmt (m : M Slot) : M Slot := fun env st => bindM (m env st) fun r => bindM (deref r.1 r.2) fun d => bindM (fmtD d) fun z => some (.im z, r.2)
theorem j_fmt {X : Cx} {e : Expr} {m : M Slot} {pos : Pos} (h : PE X e (tE md X.K m)) : PE X (.FormattedValue e (-1) none pos) (tE md X.K (mFmt m)) := by
  refine pe_weak (pe_fmt h) ?_
  rintro σ H Q ⟨S, L, env, st, s, st', sm, sl, e, k⟩
  obtain ⟨⟨s1, st1⟩, e1, e⟩ := bindM_some e
  obtain ⟨d, e2, e⟩ := bindM_some e
  obtain ⟨z, e3, e⟩ := bindM_some e
  cases e
  refine ⟨S, L, env, st, _, st1, sm, sl, e1, fun v S1 L1 H1 x1 sm1 r1 => ?_⟩
  have sh := r1.shp sm1 e2
  unfold fmtD at e3
  split at e3
  · rename_i a
    split at e3
    · rename_i c
      cases e3
      exact .inl ⟨a, sh.strV, sz c, k _ S1 L1 H1 x1 sm1 (.im (.str _))⟩
    · cases e3
  · rename_i i
    split at e3
    · rename_i c
      cases e3
      exact .inr ⟨i, sh.int, c, k _ S1 L1 H1 x1 sm1 (.im (.str _))⟩
    · cases e3
  · cases e3
/-- the parts one behind the other -/
def mJs : List (M Slot) → Str → M Str
  | [], acc => fun _ st => some (acc, st)
  | m :: ms, acc => fun env st => bindM (m env st) fun r => match r.1 with
    | .im (.str y) => if (acc ++ y).length ≤ 100000 then mJs ms (acc ++ y) env r.2 else none
    | _ => none
def mJoined (ms : List (M Slot)) : M Slot := fun env st => bindM (mJs ms Str.empty env st) fun r => some (.im (.str r.1), r.2)
theorem tjs_run {K : PySem.W.Frag} : ∀ (ms : List (M Slot)) (acc : Str) {σ : L2.St} {H : Hp} {Q : VK} {S : Trk} {L : List Addr} {env : En} {st : Store} {out : Str} {st' : Store}, Sim md K S L H st → Slots K S L H σ env → mJs ms acc env st = some (out, st') →
    (∀ v S' L' H', Ext S L H S' L' H' → Sim md K S' L' H' st' → v = .str out → Q v H') → tJs (ms.map (tE md K)) acc σ H fun out H1 => Q (.str out) H1
  | [], acc, σ, H, Q, S, L, env, st, out, st', sm, sl, e, k => by
    cases e
    exact k _ S L H .refl sm rfl
  | m :: ms, acc, σ, H, Q, S, L, env, st, out, st', sm, sl, e, k => by
    obtain ⟨⟨s1, st1⟩, e1, e⟩ := bindM_some e
    dsimp only at e
    split at e
    · rename_i y
      split at e
      · rename_i c
        refine ⟨S, L, env, st, _, st1, sm, sl, e1, fun v S1 L1 H1 x1 sm1 r1 => ?_⟩
        refine ⟨y, (show Shp K S1 H1 v (.str y) from r1.shp sm1 rfl).strV, sz c, ?_⟩
        exact tjs_run ms (acc ++ y) sm1 (sl.ext sm.sub x1) e fun v S' L' H' x2 sm2 ev => k v S' L' H' (x1.trans sm.sub x2) sm2 ev
      · cases e
    · cases e
theorem pj_nil {X : Cx} : PJ X [] (([] : List (M Slot)).map (tE md X.K)) := .nil
theorem pj_cons {X : Cx} {e : Expr} {es : List Expr} {m : M Slot} {ms : List (M Slot)} (h : PE X e (tE md X.K m)) (r : PJ X es (ms.map (tE md X.K))) : PJ X (e :: es) ((m :: ms).map (tE md X.K)) := .cons h r
theorem j_joined {X : Cx} {v1 v2 : Expr} {rest : List Expr} {ms : List (M Slot)} {pos : Pos} (h : PJ X (v1 :: v2 :: rest) (ms.map (tE md X.K))) : PE X (.JoinedStr (v1 :: v2 :: rest) pos) (tE md X.K (mJoined ms)) := by
  refine pe_weak (pe_joined h) ?_
  rintro σ H Q ⟨S, L, env, st, s, st', sm, sl, e, k⟩
  obtain ⟨⟨out, st1⟩, e1, e⟩ := bindM_some e
  cases e
  exact tjs_run ms Str.empty sm sl e1 fun v S' L' H' x sm' ev => k v S' L' H' x sm' (by rw [ev]; exact .im (.str _))
/-! ### list.insert -/
def insertG : D → List D → Option (D × D)
  | .lst xs, [.int i, d] => if xs.length < 100000 ∧ 0 ≤ i ∧ i < 2 ^ 62 then some (.lst (xs.take i.toNat ++ [d] ++ xs.drop i.toNat), .non) else none
  | _, _ => none
def rInsert : V → List V → Hp → VK → Prop := fun x vs H Q => ∃ (l : Addr) (xs : List V) (i : Int) (y : V), x = .ref l ∧ vs = [.int i, y] ∧ H l = some (.lst xs) ∧ xs.length < sizeLine ∧ 0 ≤ i ∧ i < 2 ^ 63 ∧
    Q .non (upd H l (.lst (xs.take i.toNat ++ [y] ++ xs.drop i.toNat)))
theorem insertG_ok {K : PySem.W.Frag} : MethD K rInsert insertG := by
  intro S H a vs ds d d' z Q hat hS hr hg k
  cases hat with
  | lst hp rx =>
    rename_i xs es
    match ds, hr, hg with
    | [.int i, y], .cons ri (.cons ry .nil), hg =>
      have hg : (if es.length < 100000 ∧ 0 ≤ i ∧ i < 2 ^ 62 then some (D.lst (es.take i.toNat ++ [y] ++ es.drop i.toNat), D.non) else none) = some (d', z) := hg
      split at hg
      · rename_i hl
        cases hg
        obtain rfl := (show Shp K S H _ (.int i) from .inl ri).int
        refine ⟨a, _, i, _, rfl, rfl, hp, by rw [rx.length]; exact Nat.lt_of_lt_of_le hl.1 (by decide), hl.2.1, by omega, k .non _ (.lst upd_same ((((rx.take _).append (.cons ry .nil)).append (rx.drop _)).carry (carry_upd (K := K) hS))) .non⟩
      · cases hg
  | _ => cases hg
theorem mt_insertM {X : Cx} : MtM X "list.insert" rInsert := mt_insert
/-! ### a text's signs -/
def mStrS (m : M Slot) : M Src := fun env st => bindM (m env st) fun r => match r.1 with
  | .im (.str x) => some (⟨r.1, .str x, x.cps.toList.map fun c => D.str ⟨#[c]⟩⟩, r.2)
  | _ => none
theorem srv_str {K : PySem.W.Frag} {v : V} {x : Str} : SrvV md K (Its x) v ⟨.im (.str x), .str x, x.cps.toList.map fun c => D.str ⟨#[c]⟩⟩ := by
  intro S L H st sm r f
  have hl : (x.cps.toList.map fun c => D.str ⟨#[c]⟩).length = x.cps.size := by simp
  refine ⟨fun i hi => by rw [hl] at hi; exact hi, fun i hi => by rw [hl] at hi; exact hi, fun i hi y H' z => ?_⟩
  obtain ⟨rfl, c, hc, rfl⟩ := z
  refine ⟨fun _ _ h => h, .str ⟨#[c]⟩, ?_, .str _⟩
  rw [List.getElem?_map, Array.getElem?_toList, hc]; rfl
theorem i_str {X : Cx} {tg l : Expr} {ml : M Slot} (hl : PE X l (tE md X.K ml)) : PI X tg l (tI md X.K (mStrS ml)) := by
  refine pi_weak (pi_str hl) ?_
  rintro σ H R ⟨S, L, env, st, q, st', sm, sl, e, k⟩
  obtain ⟨⟨s, st1⟩, e1, e⟩ := bindM_some e
  dsimp only at e
  split at e
  · rename_i x
    cases e
    refine ⟨S, L, env, st, _, _, sm, sl, e1, fun v S1 L1 H1 x1 sm1 r1 => ?_⟩
    exact ⟨x, (r1.shp sm1 rfl).strV, k _ _ S1 L1 H1 x1 sm1 r1 rfl srv_str.x⟩
  · cases e
end Mi
/-! MiOb: instances of the module's classes: made, their fields read and stored; the module's own tables. -/
namespace Mi
open PySem L2 PySem.Spec PyProof.Rows
def putFD (f : Str) (v : D) : List (Str × D) → List (Str × D)
  | [] => [(f, v)]
  | (g, x) :: r => if g = f then (g, v) :: r else (g, x) :: putFD f v r
section
variable {K : PySem.W.Frag} {S : Trk} {H : Hp}
theorem RepF.put {f : Str} {v : V} {d : D} (h : Rep K S H v d) : ∀ {vs : List (Str × V)} {ds : List (Str × D)}, RepF K S H vs ds → RepF K S H (putF f v vs) (putFD f d ds)
  | _, _, .nil => .cons h .nil
  | _, _, .cons (k := k) r t => by
    unfold putF putFD
    split
    · exact .cons h t
    · exact .cons r (RepF.put h t)
theorem RepF.look {f : Str} {d : D} : ∀ {vs : List (Str × V)} {ds : List (Str × D)}, RepF K S H vs ds → ds.lookup f = some d → ∃ v, vs.lookup f = some v ∧ Rep K S H v d
  | _, _, .nil, e => by cases e
  | _, _, .cons (k := k) (v := v) (d := d') r t, e => by
    rw [List.lookup_cons] at e ⊢
    cases hk : (f == k) with
    | true =>
      rw [hk] at e
      cases e
      exact ⟨v, by simp, r⟩
    | false =>
      rw [hk] at e
      obtain ⟨v', e', r'⟩ := RepF.look t e
      exact ⟨v', by simpa using e', r'⟩
theorem RepF.len : ∀ {vs : List (Str × V)} {ds : List (Str × D)}, RepF K S H vs ds → vs.length = ds.length
  | _, _, .nil => rfl
  | _, _, .cons _ t => by rw [List.length_cons, List.length_cons, t.len]
/-- an instance, read -/
theorem Shp.ins {v : V} {c : Str} {ds : List (Str × D)} (h : Shp K S H v (.ins c ds)) : ∃ a dx vs, v = .ref a ∧ H a = some (.ins (He.ga K c) dx vs) ∧ RepF K S H vs ds := by
  rcases h with h | ⟨a, ev, h, _⟩
  · cases h with
    | obj _ h => cases h with | ins e r => exact ⟨_, _, _, rfl, e, r⟩
  · subst ev
    cases h with | ins e r => exact ⟨_, _, _, rfl, e, r⟩
end
/-- the class c of the module has no attribute called f of its own, and stores plainly -/
structure Fld (K : PySem.W.Frag) (c f : Str) : Prop where
  cls : Cls K (He.ga K c)
  no : NoAttr K (He.ga K c) f
/-! ### o.f -/
def fldD (c f : Str) : D → Option D
  | .ins c' fs => if c' = c then fs.lookup f else none
  | _ => none
def mFld (c f : Str) (m : M Slot) : M Slot := fun env st => bindM (m env st) fun r => bindM (deref r.1 r.2) fun d => bindM (fldD c f d) fun z => some (.im z, r.2)
section
variable {X : Cx} {e o : Expr} {f c : Str} {m mv mo : M Slot} {pos pos' : Pos}
theorem j_fld (hF : Fld X.K c f) (h : PE X e (tE md X.K m)) (hb : attributeBase e f X.env (eval e X.env) = eval e X.env := by rfl) : PE X (.Attribute e f pos) (tE md X.K (mFld c f m)) := by
  refine pe_weak (pe_fld h hb) ?_
  rintro σ H Q ⟨S, L, env, st, s, st', sm, sl, e, k⟩
  obtain ⟨⟨s1, st1⟩, e1, e⟩ := bindM_some e
  obtain ⟨d, e2, e⟩ := bindM_some e
  obtain ⟨z, e3, e⟩ := bindM_some e
  cases e
  refine ⟨S, L, env, st, _, st1, sm, sl, e1, fun v S1 L1 H1 x1 sm1 r1 => ?_⟩
  have sh := r1.shp sm1 e2
  cases d with
  | ins c' fs =>
    have e4 : (if c' = c then fs.lookup f else none) = some z := e3
    split at e4
    · rename_i hc
      subst hc
      obtain ⟨a, dx, vs, rfl, ha, rf⟩ := sh.ins
      obtain ⟨w, hw, rw'⟩ := rf.look e4
      exact ⟨a, _, dx, vs, w, rfl, ha, hF.cls, hF.no, hw, k w S1 L1 H1 x1 sm1 (.im rw')⟩
    · cases e4
  | _ => cases e3
/-- o.f = e -/
def setFD (c f : Str) (v : D) : D → Option D
  | .ins c' fs => if c' = c ∧ fs.length < 900 then some (.ins c' (putFD f v fs)) else none
  | _ => none
def mSetFld (c f : Str) (mv mo : M Slot) : StM := fun env st => bindM (mv env st) fun r0 => bindM (mo env r0.2) fun r1 => match r1.1 with
  | .pt k => bindM r1.2[k]? fun d => bindM (imOf r0.1) fun v => bindM (setFD c f v d) fun d' => some (.nx, env, r1.2.set k d')
  | _ => none
theorem s_setFld {value : Expr} (hF : Fld X.K c f) (hv : PE X value (tE md X.K mv)) (ho : PE X o (tE md X.K mo)) (hs : swapsWith value (some (.Attribute o f pos')) pos.line X.env = pure false := by rfl) : PS X (.Assign [.Attribute o f pos'] value pos) (tS md X.K (mSetFld c f mv mo)) := by
  refine ps_weak (ps_fld ho hv hs) ?_
  rintro D' σ H ⟨S, L, env, st, o', env', st', sm, sl, e, k⟩
  obtain ⟨⟨s0, st0⟩, e0, e⟩ := bindM_some e
  obtain ⟨⟨s1, st1⟩, e1, e⟩ := bindM_some e
  dsimp only at e
  split at e
  · rename_i kk
    obtain ⟨d, f1, e⟩ := bindM_some e
    obtain ⟨v, f2, e⟩ := bindM_some e
    obtain ⟨d', f4, e⟩ := bindM_some e
    cases e
    refine ⟨S, L, env, st, s0, st0, sm, sl, e0, fun w S0 L0 H0 x0 sm0 r0 => ?_⟩
    refine ⟨S0, L0, env, st0, _, st1, sm0, sl.ext sm.sub x0, e1, fun u S1 L1 H1 x1 sm1 r1 => ?_⟩
    cases r1 with
    | pt ha =>
      rename_i a
      obtain ⟨d'', g1, hat⟩ := sm1.cell ha
      rw [f1] at g1
      cases g1
      have hSa := sm1.sub a (List.mem_of_getElem? ha)
      cases hat with
      | @ins _ dx c' fs fds hp rf =>
        have f5 : (if c' = c ∧ fds.length < 900 then some (D.ins c' (putFD f v fds)) else none) = some d' := f4
        split at f5
        · rename_i hc
          obtain ⟨rfl, hl⟩ := hc
          cases f5
          have rw0 : Rep X.K S1 H1 w v := (r0.ext sm0.sub x1).rep f2
          refine ⟨a, _, dx, fs, rfl, hp, hF.cls, hF.no, by rw [rf.len]; omega, ?_⟩
          have hat' : At X.K S1 (upd H1 a (.ins (He.ga X.K c') dx (putF f w fs))) a (.ins c' (putFD f v fds)) := .ins upd_same ((RepF.put rw0 rf).carry (carry_upd (K := X.K) hSa))
          obtain ⟨sm3, x3⟩ := sm1.put ha hat'
          exact k S1 L1 _ ((x0.trans sm.sub x1).trans sm.sub x3) sm3 σ ((sl.ext sm.sub (x0.trans sm.sub x1)).ext sm1.sub x3)
        · cases f5
      | _ => cases f4
  · cases e
/-! ### C(..) -/
def mMake (c : Str) (g : Fn) (ma : M (List Slot)) : M D := fun env st => bindM (ma env st) fun r => bindM (g (.pt r.2.length :: r.1) (r.2 ++ [.ins c []])) fun q => match q.1 with
  | .val .non => bindM q.2[r.2.length]? fun d => some (d, q.2.take r.2.length)
  | _ => none
/-- a class of the module whose __init__ is told -/
def PromI (P : Program) (w : World) (K : PySem.W.Frag) (mg : Str → Option Value) (base : Heap) (c : Str) (k n : Nat) (g : Fn) : Prop :=
  ∃ f fd ps, Mk K (He.ga K c) f ∧ FnOk P w K mg base CX0 k f fd ps (spM K n g) ∧ mg c = some (.ref (He.ga K c)) ∧ Binds K fd ps []
theorem f_make {k n : Nat} {g : Fn} {ma : M (List Slot)} {es : List Expr} {p : Pos} (h : PromI X.prog X.w X.K X.mg X.base c k (n + 1) g) (hr : Room (k + 1) X.A) (ha : PA X (e :: es) (tA md X.K ma)) (hn : ∀ env st r, ma env st = some r → r.1.length = n) (hg : Gl X c := by rfl) (hdb : (c == ("__debug__" : Str)) = false := by decide)
    (he : starEach (e :: es) X.env = (false, eval e X.env) :: starEach es X.env := by rfl) (hpl : (backTo pos (starEach es X.env)).any (·.1) = false := by rfl) : PE X (.Call (.Name c p) (e :: es) [] pos) (tF md X.K (mMake c g ma)) := by
  obtain ⟨f, fd, ps, M, F, hm, hb⟩ := h
  refine pe_weak (pe_make M F hr hg hm hb .nil pass0 ha hdb he hpl) ?_
  rintro σ H Q ⟨S, L, env, st, d, st', sm, sl, e, kk⟩
  obtain ⟨⟨ss, st1⟩, e1, e⟩ := bindM_some e
  obtain ⟨⟨r, st2⟩, e2, e⟩ := bindM_some e
  dsimp only at e
  split at e
  · obtain ⟨d', e3, e⟩ := bindM_some e
    cases e
    refine ⟨S, L, env, st, _, st1, sm, sl, e1, fun vs S1 L1 H1 x1 sm1 r1 x dx nx ndx nxd => ?_⟩
    have gr : Grow H1 (upd (upd H1 dx (.own x)) x (.ins (He.ga X.K c) dx [])) := fun b o eb => by
      rw [upd_ne (ne_of_none eb nx), upd_ne (ne_of_none eb ndx)]
      exact eb
    have l := sm1.laid nx gr (.ins (c := c) upd_same .nil)
    obtain ⟨x2, sm2, r2⟩ := cell_new l.ext l.sim l.out l.mem l.cell l.at_
    have hl1 : L1.length = st1.length := sm1.cells.length
    refine ⟨md, _, _, _, _, _, st2, sm2, .cons r2 ?_, by rw [List.length_cons, hn _ _ _ e1], e2, ?_⟩
    · rw [List.append_nil]
      exact slotvs_ext sm1.sub x2 r1
    · show ∀ v S' H', _
      intro v S' H' x3 hn3 sm3 rv
      obtain rfl := (show Shp X.K S' H' v .non from .inl rv).non
      refine ⟨rfl, ?_⟩
      obtain ⟨x4, sm4⟩ := leave (x2.trans sm1.sub x3) sm3 hl1 hn3 sm1.lk
      have hx : (L1 ++ [x])[st1.length]? = some x := by rw [← hl1]; simp
      obtain ⟨d2, g2, at2⟩ := sm3.cell hx
      rw [e3] at g2
      cases g2
      have inL : x ∈ L1 ++ [x] := by simp
      exact kk x S' L1 H' (x1.trans sm.sub x4) sm4 (fun z => l.out (x1.up _ z)) (sm3.sub x inL) l.cell at2
  · cases e
end
/-! ### the module's own things -/
theorem j_gref {X : Cx} {x : Str} {pos : Pos} (hm : X.mg x = some (.ref (He.ga X.K x))) (hg : Gl X x := by rfl) (hd : (x == ("__debug__" : Str)) = false := by decide) : PE X (.Name x pos) (tE md X.K (mC (.fn x))) :=
  j_const (pe_glob (v := .ref (He.ga X.K x)) hg hm rfl hd) fun _ _ => .fn x
end Mi
/-! MiDi: written dicts, dict comprehensions, the module's tables, calls of a def that a name holds, max and min with default. -/
namespace Mi
open PySem L2 PySem.Spec PyProof.Rows
theorem app_simG {K : PySem.W.Frag} {S : Trk} {L : List Addr} {H : Hp} {st : Store} {p : Addr} {o : HO} (sm : Sim md K S L H st) (hp : S p) (hc : p ∉ L) :
    Sim md K S L (upd H p o) st ∧ (∀ {v d}, Rep K S H v d → Rep K S (upd H p o) v d) := by
  have cr : Carry S H S (upd H p o) := ⟨fun _ _ _ n => n, fun a u e n => by rw [upd_ne (fun z => n (by rw [z]; exact hp))]; exact e, fun _ _ z => z⟩
  refine ⟨⟨sm.nd, sm.sub, fun a z => ?_, ?_, sm.fz, sm.lk⟩, fun r => r.carry cr⟩
  · by_cases c : a = p
    · subst c; exact ⟨o, upd_same⟩
    · obtain ⟨u, e⟩ := sm.trk a z
      exact ⟨u, by rw [upd_ne c]; exact e⟩
  · have go : ∀ {l : List Addr} {t : Store}, (∀ a ∈ l, a ≠ p) → Paired (At K S H) l t → Paired (At K S (upd H p o)) l t := by
      intro l t hn q
      induction q with
      | nil => exact .nil
      | cons r _ ih =>
        refine .cons (r.carry cr ?_) (ih fun a ha => hn a (List.mem_cons_of_mem _ ha))
        rw [upd_ne (hn _ List.mem_cons_self)]
    exact go (fun a ha z => hc (z ▸ ha)) sm.cells
theorem putE_len (kvs : List (Key × D)) (k : Key) (v : D) : (putE kvs k v).length ≤ kvs.length + 1 := by
  unfold putE
  split <;> simp
/-! ### {k: e for t in src if c} -/
section
open Classical
noncomputable def dcGo (t : Tgt) (q : Src) (mt : M Bool) (mk me : M Slot) (envw : En) : List D → List (Key × D) → Store → Option (List (Key × D) × Store)
  | [], acc, st => if chk q st then some (acc, st) else none
  | d :: ds, acc, st => if chk q st then bindM (asg t d envw) fun env1 => bindM (mt env1 st) fun r => if r.1 = true then
        bindM (mk env1 r.2) fun r1 => bindM (me env1 r1.2) fun r2 => bindM (imOf r1.1) fun k => bindM (keyOf k) fun key => bindM (imOf r2.1) fun z => dcGo t q mt mk me envw ds (putE acc key z) r2.2
      else dcGo t q mt mk me envw ds acc r.2
    else none
noncomputable def mDc (t : Tgt) (src : M Src) (mt : M Bool) (mk me : M Slot) (vs : List Nat) : M D := fun env st => bindM (src env st) fun r =>
  if r.1.items.length ≤ 100000 then bindM (dcGo t r.1 mt mk me (wipeE env vs) r.1.items [] r.2) fun r2 => some (.dic r2.1, r2.2) else none
end
section
theorem dc_read {K : PySem.W.Frag} {t : Tgt} {src : M Src} {mt : M Bool} {mk me : M Slot} {vs : List Nat} (hv : ∀ i ∈ t.idx, i ∈ vs) {σ : L2.St} {H : Hp} {Q : VK} (h : tF md K (mDc t src mt mk me vs) σ H Q) : tDc (tI md K src) (gT K t) (tT md K mt) (tE md K mk) (tE md K me) vs σ H Q := by
  obtain ⟨S, L, env, st, o, st', sm, sl, e, k⟩ := h
  obtain ⟨⟨q, st1⟩, e1, e⟩ := bindM_some e
  split at e
  · rename_i hlen
    have hlen : q.items.length ≤ 100000 := hlen
    obtain ⟨⟨out, st2'⟩, e2, e⟩ := bindM_some e
    cases e
    refine ⟨S, L, env, st, q, st1, sm, sl, e1, fun J v S1 L1 H1 x1 sm1 r1 f1 srv => fun Dl hD => ?_⟩
    -- the list's place is kept apart from here on
    have l0 := sm1.laid hD (Grow.new (o := .dK []) hD) (.dic (K := K) upd_same .nil)
    have slw := (sl.ext sm.sub x1).wipe vs
    let W : Nat → Hp → Prop := fun i H2 => ∃ S2 L2 st2 acc accD, Ext S1 L1 H1 S2 L2 H2 ∧ Sim md K S2 L2 H2 st2 ∧ S2 Dl ∧ Dl ∉ L2 ∧ H2 Dl = some (.dK acc) ∧ RepK K S2 H2 acc accD ∧
      accD.length ≤ i ∧ dcGo t q mt mk me (wipeE env vs) (q.items.drop i) accD st2 = some (out, st2')
    refine ⟨fun i m H2 => m = q.items.length - i ∧ i ≤ q.items.length ∧ W i H2, ⟨q.items.length, by simp, Nat.zero_le _, _, L1, st1, [], [], l0.ext, l0.sim, l0.mem, l0.cell, upd_same, .nil, Nat.le_refl _, e2⟩, ?_⟩
    rintro i m H2 ⟨rfl, hi, S2, L2, st2, acc, accD, x2, sm2, hS2, nl, hacc, racc, hal, e3⟩
    have x02 : Ext S L H S2 L2 H2 := x1.trans sm.sub x2
    by_cases hlt : i < q.items.length
    · obtain ⟨d, hd⟩ : ∃ d, q.items[i]? = some d := ⟨q.items[i], List.getElem?_eq_getElem hlt⟩
      rw [drop_cons hd] at e3
      unfold dcGo at e3
      split at e3
      · rename_i hk
        obtain ⟨g1, g2, g3⟩ := srv S2 L2 H2 st2 (x2.carry sm1.sub) sm2 (r1.ext sm1.sub x2) hk
        refine .inr ⟨g1 i hlt, W (i + 1), fun H' w => ⟨q.items.length - (i + 1), by omega, rfl, hlt, w⟩, fun x H3 y => ?_⟩
        obtain ⟨gr, d', hd', rx⟩ := g3 i hlt x H3 y
        rw [hd] at hd'
        cases hd'
        obtain ⟨env3, f3, e3⟩ := bindM_some e3
        obtain ⟨⟨b, st4⟩, f4, e3⟩ := bindM_some e3
        have x3 : Ext S1 L1 H1 S2 L2 H3 := x2.trans sm1.sub (.grow gr)
        refine ⟨S2, L2, wipeE env vs, d, env3, (slw.ext sm1.sub x3), rx, f3, fun σ3 sl3 hout hle => ⟨wipe_of hv hout hle, ?_⟩⟩
        refine ⟨S2, L2, env3, st2, b, st4, sm2.grow gr, sl3, f4, fun S4 L4 H4 x4 sm4 => ?_⟩
        have x04 : Ext S1 L1 H1 S4 L4 H4 := x3.trans sm1.sub x4
        have c4 : Carry S2 H3 S4 H4 := x4.carry sm2.sub
        have nl4 : Dl ∉ L4 := fun z => by
          have := x4.cel Dl z nl
          rw [gr Dl _ hacc] at this; cases this
        have hacc4 : H4 Dl = some (.dK acc) := x4.keep Dl _ (gr Dl _ hacc) nl
        have racc4 : RepK K S4 H4 acc accD := (racc.carry (.grow gr)).carry c4
        cases b with
        | false =>
          exact ⟨S4, L4, st4, acc, accD, x04, sm4, x4.up _ hS2, nl4, hacc4, racc4, by omega, e3⟩
        | true =>
          have e3 := e3
          rw [if_pos rfl] at e3
          obtain ⟨⟨s5, st5⟩, f5, e3⟩ := bindM_some e3
          obtain ⟨⟨s6, st6⟩, f6, e3⟩ := bindM_some e3
          obtain ⟨dk, f7, e3⟩ := bindM_some e3
          obtain ⟨key, f8, e3⟩ := bindM_some e3
          obtain ⟨z, f9, e3⟩ := bindM_some e3
          refine ⟨S4, L4, env3, st4, s5, st5, sm4, sl3.ext sm2.sub x4, f5, fun y S5 L5 H5 x5 sm5 r5 => ?_⟩
          refine ⟨S5, L5, env3, st5, s6, st6, sm5, (sl3.ext sm2.sub x4).ext sm4.sub x5, f6, fun y2 S6 L6 H6 x6 sm6 r6 => ?_⟩
          have x05 := (x04.trans sm1.sub x5).trans sm1.sub x6
          have c5 : Carry S4 H4 S5 H5 := x5.carry sm4.sub
          have c6 : Carry S5 H5 S6 H6 := x6.carry sm5.sub
          have nl5 : Dl ∉ L5 := fun w => by
            have := x5.cel Dl w nl4
            rw [hacc4] at this; cases this
          have hacc5 : H5 Dl = some (.dK acc) := x5.keep Dl _ hacc4 nl4
          have nl6 : Dl ∉ L6 := fun w => by
            have := x6.cel Dl w nl5
            rw [hacc5] at this; cases this
          have hacc6 : H6 Dl = some (.dK acc) := x6.keep Dl _ hacc5 nl5
          have hS6 : S6 Dl := x6.up _ (x5.up _ (x4.up _ hS2))
          have racc6 : RepK K S6 H6 acc accD := (racc4.carry c5).carry c6
          have rk : Rep K S6 H6 y dk := (r5.ext sm5.sub x6).rep f7
          have ry : Rep K S6 H6 y2 z := r6.rep f9
          have ek := keyOf_ok (.inl rk) f8
          have hal' : acc.length ≤ 100000 := by rw [racc.length]; omega
          obtain ⟨sm7, cr7⟩ := app_simG (o := .dK (putK acc key y2)) sm6 hS6 nl6
          have cr : Carry S6 H6 S6 (upd H6 Dl (.dK (putK acc key y2))) := ⟨fun _ _ _ n => n, fun a u e n => by rw [upd_ne (fun w => n (by rw [w]; exact hS6))]; exact e, fun _ _ z => z⟩
          refine ⟨acc, key, ek, hacc6, Nat.lt_of_le_of_lt hal' (by decide), S6, L6, st6, putK acc key y2, putE accD key z, ?_, sm7, hS6, nl6, upd_same, (RepK.put ry key racc6).carry cr, Nat.le_trans (putE_len _ _ _) (by omega), e3⟩
          exact ⟨x05.pre, x05.up, x05.new, fun a u e n => by
            rw [upd_ne (ne_of_none e hD)]
            exact x05.keep a u e n, x05.cel, x05.nm, x05.fx, x05.ff⟩
      · cases e3
    · rw [drop_nil (Nat.le_of_not_lt hlt)] at e3
      unfold dcGo at e3
      split at e3
      · rename_i hk
        obtain ⟨g1, g2, g3⟩ := srv S2 L2 H2 st2 (x2.carry sm1.sub) sm2 (r1.ext sm1.sub x2) hk
        cases e3
        exact .inl ⟨g2 i (Nat.le_of_not_lt hlt), k Dl S2 L2 H2 x02 sm2 (fun z => l0.out (x1.up _ z)) hS2 nl (.dic hacc racc)⟩
      · cases e3
  · cases e
end
section
variable {X : Cx} {kx vx tg iter : Expr} {t : Tgt} {src : M Src} {mc : M Bool} {mk me : M Slot} {pos : Pos}
theorem f_dc {scope : Scope} {ifs : List Expr} {own : List (Str × Nat)} (hc : X.calm = true) (hN : X.N.Nodup) (hi : PI X tg iter (tI md X.K src)) (ok : BlkOk X.N X.env.scope scope own) (hv : ∀ i ∈ t.idx, i ∈ own.map (·.2))
    (hg : InBlk X scope fun X => PG X tg (gT X.K t)) (ht : InBlk X scope fun X => JTs md X ifs mc) (hk : InBlk X scope fun X => PE X kx (tE md X.K mk)) (he : InBlk X scope fun X => PE X vx (tE md X.K me)) (hs : ∀ x, foldedSetIterable iter X.env x = pure x := by intro _; rfl) :
    PE X (.DictComp kx vx [⟨tg, iter, ifs, 0⟩] scope pos) (tF md X.K (mDc t src mc mk me (own.map (·.2)))) :=
  pe_weak (pe_dc (g := gT X.K t) (tt := tT md X.K mc) (tk := tE md X.K mk) (tv := tE md X.K me) hc hN hi ok hg ht hk he hs) fun _ _ _ h => dc_read hv h
end
/-! ### {"a": e, ..} -/
def mVals : List (Str × M Slot) → M (List (Key × D))
  | [] => fun _ st => some ([], st)
  | (k, m) :: r => fun env st => bindM (m env st) fun q => bindM (imOf q.1) fun d => bindM (mVals r env q.2) fun s => some ((Sum.inr k, d) :: s.1, s.2)
/-- each text once -/
def mDispS (l : List (Str × M Slot)) : M D := fun env st => bindM (mVals l env st) fun r => if (l.map (·.1)).Nodup ∧ l.length ≤ 15 then some (.dic r.1, r.2) else none
theorem ppd_nil {X : Cx} {pos : Pos} : PPs X pos [] [] (([] : List (Str × M Slot)).map fun q => ((tC (.str q.1) : TE), tE md X.K q.2)) := pps_nil
theorem ppd_cons {X : Cx} {pos p2 : Pos} {k : Str} {j} {v : Expr} {ks : List (Option Expr)} {vs : List Expr} {m : M Slot} {l : List (Str × M Slot)} (hv : PE X v (tE md X.K m)) (hr : PPs X pos ks vs (l.map fun q => ((tC (.str q.1) : TE), tE md X.K q.2))) :
    PPs X pos (some (.Constant (.str k) j p2) :: ks) (v :: vs) (((k, m) :: l).map fun q => ((tC (.str q.1) : TE), tE md X.K q.2)) := pps_cons pe_str hv hr
theorem mergeK_new : ∀ (more acc : List (Key × V)), (more.map (·.1)).Nodup → (∀ k ∈ more.map (·.1), k ∉ acc.map (·.1)) → mergeK acc more = acc ++ more
  | [], acc, _, _ => by simp [mergeK]
  | (k, v) :: more, acc, nd, h => by
    rw [List.map_cons, List.nodup_cons] at nd
    have hk : putK acc k v = acc ++ [(k, v)] := by
      unfold putK
      rw [if_neg]
      intro z
      obtain ⟨p, hp, e⟩ := List.any_eq_true.1 z
      exact h k (by simp) (List.mem_map.2 ⟨p, hp, of_decide_eq_true e⟩)
    show mergeK (putK acc k v) more = _
    rw [hk, mergeK_new more (acc ++ [(k, v)]) nd.2 fun k' hk' z => ?_]
    · simp
    · rw [List.map_append, List.mem_append] at z
      rcases z with z | z
      · exact h k' (by simp [hk']) z
      · simp at z
        exact nd.1 (z ▸ hk')
theorem disp_run {K : PySem.W.Frag} {p : Addr} : ∀ (l : List (Str × M Slot)) {σ : L2.St} {H : Hp} {S : Trk} {L : List Addr} {env : En} {st : Store} {out : List (Key × D)} {st' : Store} {Qk : List (V × V) → Hp → Prop}, Sim md K S L H st → Slots K S L H σ env → mVals l env st = some (out, st') → S p → p ∉ L → H p = some (.dK []) →
    (∀ kvs S' L' H', Ext S L H S' L' H' → Sim md K S' L' H' st' → p ∉ L' → S' p → H' p = some (.dK []) → RepK K S' H' kvs out → kvs.map (·.1) = l.map (fun q => (Sum.inr q.1 : Key)) → Qk (kvs.map fun kv => (kV kv.1, kv.2)) H') → tPairs (l.map fun q => ((tC (.str q.1) : TE), tE md K q.2)) σ H Qk
  | [], σ, H, S, L, env, st, out, st', Qk, sm, sl, e, hS, hc, hp, k => by
    cases e
    exact k [] S L H .refl sm hc hS hp .nil rfl
  | (key, m) :: l, σ, H, S, L, env, st, out, st', Qk, sm, sl, e, hS, hc, hp, k => by
    obtain ⟨⟨s1, st1⟩, e1, e⟩ := bindM_some (show bindM (m env st) _ = some (out, st') from e)
    obtain ⟨d, e2, e⟩ := bindM_some e
    obtain ⟨⟨r, st2⟩, e3, e⟩ := bindM_some e
    cases e
    refine ⟨S, L, env, st, s1, st1, sm, sl, e1, fun v S1 L1 H1 x1 sm1 r1 => ?_⟩
    have c1 : p ∉ L1 := fun z => by
      have := x1.cel p z hc
      rw [hp] at this; cases this
    have h1 : H1 p = some (.dK []) := x1.keep p _ hp hc
    refine disp_run l sm1 (sl.ext sm.sub x1) e3 (x1.up _ hS) c1 h1 fun kvs S2 L2 H2 x2 sm2 c2 s2 h2 rk ek => ?_
    have rv : Rep K S2 H2 v d := (r1.ext sm1.sub x2).rep e2
    exact k ((Sum.inr key, v) :: kvs) S2 L2 H2 (x1.trans sm.sub x2) sm2 c2 s2 h2 (.cons rv rk) (by rw [List.map_cons, List.map_cons, ek])
theorem f_disp {X : Cx} {pos : Pos} {keys : List (Option Expr)} {values : List Expr} {l : List (Str × M Slot)} (h : PPs X pos keys values (l.map fun q => ((tC (.str q.1) : TE), tE md X.K q.2))) (hall : keys.all (·.isSome) = true) (hl : keys.length = values.length) (h0 : keys ≠ []) (h15 : keys.length ≤ 15) :
    PE X (.Dict keys values pos) (tF md X.K (mDispS l)) := by
  refine pe_weak (pe_disp h hall hl h0 h15) ?_
  rintro σ H Q ⟨S, L, env, st, d, st', sm, sl, e, kk⟩
  obtain ⟨⟨out, st1⟩, e1, e⟩ := bindM_some e
  split at e
  · rename_i c
    cases e
    intro p hp
    have lc := sm.laid hp (Grow.new hp) (.dic (K := X.K) upd_same .nil)
    refine disp_run l lc.sim (sl.ext sm.sub lc.ext) e1 lc.mem lc.cell upd_same fun kvs S2 L2 H2 x2 sm2 c2 s2 h2 rk ek => ?_
    have nd : (kvs.map (·.1)).Nodup := by
      rw [ek]
      have := c.1
      rw [show (l.map fun q => (Sum.inr q.1 : Key)) = (l.map (·.1)).map Sum.inr by simp]
      exact List.Pairwise.map Sum.inr (fun a b h z => h (by injection z)) this
    have ll : kvs.length ≤ 15 := by
      have := congrArg List.length ek
      rw [List.length_map, List.length_map] at this
      omega
    refine ⟨h2, kvs, rfl, ll, ?_⟩
    rw [mergeK_new kvs [] nd (fun _ _ => by simp), List.nil_append]
    have cr : Carry S2 H2 S2 (upd H2 p (.dK kvs)) := carry_upd (K := X.K) s2
    obtain ⟨sm3, _⟩ := app_simG (o := .dK kvs) sm2 s2 c2
    have x02 : Ext S L H S2 L2 H2 := lc.ext.trans sm.sub x2
    exact kk p S2 L2 _ ⟨x02.pre, x02.up, x02.new, fun a u e n => by rw [upd_ne (ne_of_none e hp)]; exact x02.keep a u e n, x02.cel, x02.nm, x02.fx, x02.ff⟩ sm3 lc.out s2 c2 (.dic upd_same (rk.carry cr))
  · cases e
end Mi
/-! MiTb: the module's tables (dicts with text keys, tuples), calls of a def that a name holds. -/
namespace Mi
open PySem L2 PySem.Spec PyProof.Rows
/-- a table of the module: x stands for a dict of just these -/
structure KTab (K : PySem.W.Frag) (w : World) (x : Str) (tab : List (Str × D)) : Prop where
  dict : ∃ es n, KDict K w (He.ga K x) es n
  all : ∀ z d, tab.lookup z = some d → ∃ u v, PySem.W.nsIn K (He.ga K x) z = some (some u) ∧ RelV v u ∧ ∀ S H, Rep K S H v d
  out : ∀ z, tab.lookup z = none → PySem.W.nsIn K (He.ga K x) z = some none
/-- word in TABLE, word not in TABLE -/
def kinD (x : Str) (tab : List (Str × D)) (neg : Bool) : D → D → Option D
  | .str z, .fn y => if y = x then some (.bl (if neg then !(tab.lookup z).isSome else (tab.lookup z).isSome)) else none
  | _, _ => none
/-- TABLE[word] -/
def kgetD (x : Str) (tab : List (Str × D)) : D → D → Option D
  | .fn y, .str z => if y = x then tab.lookup z else none
  | _, _ => none
theorem Shp.fnV {K : PySem.W.Frag} {S : Trk} {H : Hp} {v : V} {x : Str} (h : Shp K S H v (.fn x)) : v = .ref (He.ga K x) := by
  rcases h with h | ⟨a, _, h, _⟩
  · cases h with
    | fn => rfl
    | obj _ q => cases q
  · cases h
def rKin (K : PySem.W.Frag) (d : Addr) : R2 := fun x y H Q => ∃ (z : Str) (r : Option Value), x = .str z ∧ y = .ref d ∧ PySem.W.nsIn K d z = some r ∧ Q (.bl r.isSome) H
def rKnin (K : PySem.W.Frag) (d : Addr) : R2 := fun x y H Q => ∃ (z : Str) (r : Option Value), x = .str z ∧ y = .ref d ∧ PySem.W.nsIn K d z = some r ∧ Q (.bl (!r.isSome)) H
def rKget (K : PySem.W.Frag) (d : Addr) : R2 := fun x y H Q => ∃ (z : Str) (u0 : Value) (v0 : V), x = .ref d ∧ y = .str z ∧ PySem.W.nsIn K d z = some (some u0) ∧ RelV v0 u0 ∧ Q v0 H
theorem KTab.some {K : PySem.W.Frag} {w : World} {x : Str} {tab : List (Str × D)} (T : KTab K w x tab) (z : Str) : ∃ r, PySem.W.nsIn K (He.ga K x) z = some r ∧ r.isSome = (tab.lookup z).isSome := by
  cases e : tab.lookup z with
  | none => exact ⟨none, T.out z e, rfl⟩
  | some d =>
    obtain ⟨u, v, h, _⟩ := T.all z d e
    exact ⟨_, h, rfl⟩
theorem kin_ok {K : PySem.W.Frag} {w : World} {x : Str} {tab : List (Str × D)} (T : KTab K w x tab) : OpD K (rKin K (He.ga K x)) (kinD x tab false) := by
  intro S H a b d e z Q hS hx hy hg k
  unfold kinD at hg
  split at hg
  · split at hg
    · rename_i s y hxy
      subst hxy
      cases hg
      obtain ⟨r, h1, h2⟩ := T.some s
      refine ⟨s, r, hx.strV, hy.fnV, h1, ?_⟩
      rw [h2]
      exact k _ _ (fun _ _ h => h) (.bl _)
    · cases hg
  · cases hg
theorem knin_ok {K : PySem.W.Frag} {w : World} {x : Str} {tab : List (Str × D)} (T : KTab K w x tab) : OpD K (rKnin K (He.ga K x)) (kinD x tab true) := by
  intro S H a b d e z Q hS hx hy hg k
  unfold kinD at hg
  split at hg
  · split at hg
    · rename_i s y hxy
      subst hxy
      cases hg
      obtain ⟨r, h1, h2⟩ := T.some s
      refine ⟨s, r, hx.strV, hy.fnV, h1, ?_⟩
      rw [h2]
      exact k _ _ (fun _ _ h => h) (.bl _)
    · cases hg
  · cases hg
theorem kget_ok {K : PySem.W.Frag} {w : World} {x : Str} {tab : List (Str × D)} (T : KTab K w x tab) : OpD K (rKget K (He.ga K x)) (kgetD x tab) := by
  intro S H a b d e z Q hS hx hy hg k
  unfold kgetD at hg
  split at hg
  · split at hg
    · rename_i y s hxy
      subst hxy
      obtain ⟨u, v, h1, h2, h3⟩ := T.all s z hg
      exact ⟨s, u, v, hx.fnV, hy.strV, h1, h2, k _ _ (fun _ _ h => h) (h3 S H)⟩
    · cases hg
  · cases hg
section
variable {X : Cx} {x : Str} {tab : List (Str × D)} {a b : Expr} {ma mb : M Slot} {pos : Pos}
theorem j_kin (T : KTab X.K X.w x tab) (ha : PE X a (tE md X.K ma)) (hb : PE X b (tE md X.K mb)) (hm : behindInMarks .In b = false := by rfl) : PE X (.Compare a [.In] [b] pos) (tE md X.K (mOp (kinD x tab false) ma mb)) := by
  obtain ⟨es, n, D⟩ := T.dict
  exact j_cmp (R := rKin X.K (He.ga X.K x)) (op_in_kd D) (kin_ok T) ha hb hm
theorem t_kin (T : KTab X.K X.w x tab) (ha : PE X a (tE md X.K ma)) (hb : PE X b (tE md X.K mb)) (hm : behindInMarks .In b = false := by rfl) : PT X (.Compare a [.In] [b] pos) (tT md X.K (mBool (mOp (kinD x tab false) ma mb))) := by
  obtain ⟨es, n, D⟩ := T.dict
  exact j_cmpT (R := rKin X.K (He.ga X.K x)) (op_in_kd D) (kin_ok T) ha hb hm
theorem j_knin (T : KTab X.K X.w x tab) (ha : PE X a (tE md X.K ma)) (hb : PE X b (tE md X.K mb)) (hm : behindInMarks .NotIn b = false := by rfl) : PE X (.Compare a [.NotIn] [b] pos) (tE md X.K (mOp (kinD x tab true) ma mb)) := by
  obtain ⟨es, n, D⟩ := T.dict
  exact j_cmp (R := rKnin X.K (He.ga X.K x)) (op_notIn_kd D) (knin_ok T) ha hb hm
theorem t_knin (T : KTab X.K X.w x tab) (ha : PE X a (tE md X.K ma)) (hb : PE X b (tE md X.K mb)) (hm : behindInMarks .NotIn b = false := by rfl) : PT X (.Compare a [.NotIn] [b] pos) (tT md X.K (mBool (mOp (kinD x tab true) ma mb))) := by
  obtain ⟨es, n, D⟩ := T.dict
  exact j_cmpT (R := rKnin X.K (He.ga X.K x)) (op_notIn_kd D) (knin_ok T) ha hb hm
end
/-! ### a table's facts from the head's -/
def dvD : He.Dv → D
  | .int i => .int i
  | .glo x => .fn x
  | .str x => .str x
  | .bl b => .bl b
  | _ => .non
def dvOk : He.Dv → Bool
  | .int _ => true
  | .glo _ => true
  | .str _ => true
  | .bl _ => true
  | .non => true
  | _ => false
theorem dv_rep {K : PySem.W.Frag} {S : Trk} {H : Hp} : ∀ {v : He.Dv}, dvOk v = true → Rep K S H (v.v K) (dvD v)
  | .int i, _ => .int i
  | .glo x, _ => .fn x
  | .str x, _ => .str x
  | .bl b, _ => .bl b
  | .non, _ => .non
theorem lookup_mem {α β : Type} [BEq α] [LawfulBEq α] {z : α} {d : β} : ∀ {l : List (α × β)}, l.lookup z = some d → (z, d) ∈ l
  | [], h => by cases h
  | (k, v) :: r, h => by
    rw [List.lookup_cons] at h
    cases hk : (z == k) with
    | true =>
      rw [hk] at h
      cases h
      rw [eq_of_beq hk]
      exact List.mem_cons_self
    | false =>
      rw [hk] at h
      exact List.mem_cons_of_mem _ (lookup_mem h)
theorem lookup_out {α β : Type} [BEq α] [LawfulBEq α] {z : α} : ∀ {l : List (α × β)}, l.lookup z = none → z ∉ l.map (·.1)
  | [], _ => by simp
  | (k, v) :: r, h => by
    rw [List.lookup_cons] at h
    cases hk : (z == k) with
    | true =>
      rw [hk] at h
      cases h
    | false =>
      rw [hk] at h
      rw [List.map_cons, List.mem_cons]
      rintro (e | e)
      · rw [e] at hk
        simp at hk
      · exact lookup_out h e
theorem keysIn_none {P : Params} {z : Str} : ∀ {l : List DictEntry} {ks : List Str}, l.map He.keyOf = He.keysIn P ks → z ∉ ks → l.find? (·.key.isStr z) = none ∧ l.any (·.refKey) = false
  | [], _, _, _ => ⟨rfl, rfl⟩
  | e :: r, [], h, _ => by cases h
  | e :: r, k :: ks, h, n => by
    have h1 : He.keyOf e :: r.map He.keyOf = some (k, PyData.keyHash P k) :: He.keysIn P ks := h
    injection h1 with h2 h3
    obtain ⟨a, b⟩ := keysIn_none h3 fun w => n (List.mem_cons_of_mem _ w)
    have hk : ∃ t, e.key = .str k t := by
      unfold He.keyOf at h2
      split at h2
      · rename_i x t q
        have h4 := Option.some.inj h2
        exact ⟨t, by rw [q, (Prod.mk.inj h4).1]⟩
      · cases h2
    obtain ⟨t, hk⟩ := hk
    have ne : e.key.isStr z = false := by
      rw [hk]
      cases q : (Value.str k t).isStr z with
      | false => rfl
      | true =>
        exfalso
        apply n
        have : k = z := by
          rw [PySem.W.isStr_of] at q
          simpa [Value.isStrOf] using q
        rw [this]
        exact List.mem_cons_self
    refine ⟨by rw [List.find?_cons, ne]; exact a, ?_⟩
    rw [List.any_cons, b, Bool.or_false]
    unfold DictEntry.refKey
    rw [hk]
theorem ktab_of {K : PySem.W.Frag} {w : World} {x : Str} {tab : List (Str × He.Dv)} (h : He.dicW K (He.ga K x) = some (He.keysIn w.params (tab.map (·.1)))) (hv : He.valsB K (He.ga K x) tab = true) (ho : tab.all (fun q => dvOk q.2) = true) :
    KTab K w x (tab.map fun q => (q.1, dvD q.2)) := by
  obtain ⟨es, n, D⟩ := He.dicW_ok h
  refine ⟨⟨es, n, D⟩, fun z d e => ?_, fun z e => ?_⟩
  · obtain ⟨q, hq, eq⟩ := List.mem_map.1 (lookup_mem e)
    injection eq with e1 e2
    obtain ⟨u, h1, h2⟩ := He.valsB_ok hv hq
    exact ⟨u, q.2.v K, by rw [← e1]; exact h1, h2, fun S H => by rw [← e2]; exact dv_rep (List.all_eq_true.1 ho q hq)⟩
  · have nz : z ∉ tab.map (·.1) := by
      have := lookup_out e
      simpa using this
    have hk : es.toList.map He.keyOf = He.keysIn w.params (tab.map (·.1)) := by
      unfold He.dicW at h
      rw [D.at_] at h
      have h1 : (match decide (("dict" : String) = "dict") && ((#[] : Array (Option Value)).isEmpty && !(He.ga K x == sysModules)) with
            | true => some (es.toList.map He.keyOf)
            | false => none) = some (He.keysIn w.params (tab.map (·.1))) := h
      rw [D.low] at h1
      exact Option.some.inj h1
    obtain ⟨a, b⟩ := keysIn_none hk nz
    unfold PySem.W.nsIn
    rw [D.at_]
    show (match es.toList.find? (·.key.isStr z) with
      | some e => some (some e.val)
      | none => if es.toList.any (·.refKey) then none else some none) = some none
    rw [a]
    show (if es.toList.any (·.refKey) = true then none else some none) = some none
    rw [b]
    rfl
theorem saysT_dic {fa : List He.Fa} {fn : List He.DefD} {ts : List He.Tab} {w : World} {K : PySem.W.Frag} (c : He.SaysT fa fn ts w K) (i : Nat) {t : He.Tab} (h : ts[i]? = some t) : He.dicW K (t.1 K) = some (He.keysIn w.params t.2) := by
  have e : ts.map (fun t => He.dicW K (t.1 K)) = ts.map fun t => some (He.keysIn w.params t.2) := congrArg (fun z : He.AlT => z.2) c
  have e2 : (ts.map fun t => He.dicW K (t.1 K))[i]? = (ts.map fun t => some (He.keysIn w.params t.2))[i]? := by rw [e]
  rw [List.getElem?_map, List.getElem?_map, h] at e2
  exact Option.some.inj e2
/-- a module's tuple of texts -/
structure KTup (K : PySem.W.Frag) (x : Str) (ds : List D) : Prop where
  ex : ∃ o its n xs, K.lookup (He.ga K x) = some o ∧ o.cls = .type "tuple" ∧ o.data = .seq its n ∧ its.size ≤ sizeLine ∧ Vals xs its.toList ∧ ∀ S H, Reps K S H xs ds
theorem dv_reps {K : PySem.W.Frag} {S : Trk} {H : Hp} : ∀ {vs : List He.Dv}, vs.all dvOk = true → Reps K S H (vs.map (He.Dv.v K)) (vs.map dvD)
  | [], _ => .nil
  | v :: vs, h => by
    rw [List.all_cons, Bool.and_eq_true] at h
    exact .cons (dv_rep h.1) (dv_reps h.2)
theorem ktup_of {K : PySem.W.Frag} {x : Str} {vs : List He.Dv} (h : He.tupB K x vs = true) (ho : vs.all dvOk = true) : KTup K x (vs.map dvD) := by
  unfold He.tupB at h
  cases q : K.lookup (He.ga K x) with
  | none =>
    rw [q] at h
    cases h
  | some o =>
    obtain ⟨oc, od, dt, osl⟩ := o
    rw [q] at h
    cases oc with
    | type c =>
      cases dt with
      | seq its n =>
        obtain ⟨h1, h2⟩ := He.ba (show (decide (c = "tuple") && (decide (its.size ≤ sizeLine) && He.relAll (vs.map (He.Dv.v K)) its.toList)) = true from h)
        obtain ⟨h3, h4⟩ := He.ba h2
        exact ⟨⟨.type c, od, .seq its n, osl⟩, its, n, vs.map (He.Dv.v K), q, congrArg Value.type (of_decide_eq_true h1), rfl, of_decide_eq_true h3, He.relAll_ok h4, fun _ _ => dv_reps ho⟩
      | _ => cases h
    | _ => cases dt <;> cases h
section
variable {X : Cx} {x : Str} {pos : Pos}
theorem j_gtup {ds : List D} (T : KTup X.K x ds) (hm : X.mg x = some (.ref (He.ga X.K x))) (hg : Gl X x := by rfl) (hd : (x == ("__debug__" : Str)) = false := by decide) : PE X (.Name x pos) (tE md X.K (mC (.tup ds))) := by
  obtain ⟨o, its, n, xs, h1, h2, h3, h4, h5, h6⟩ := T.ex
  exact j_const (pe_glob (v := .ref (He.ga X.K x)) hg hm rfl hd) fun S H => .tupK h1 h2 h3 h4 h5 (h6 S H)
end
/-! ### TABLE[word] -/
theorem kgetI_ok {K : PySem.W.Frag} {w : World} {x : Str} {tab : List (Str × D)} (T : KTab K w x tab) : OpD K (rIxD K w) (kgetD x tab) := by
  intro S H a b d e z Q hS hx hy hg k
  unfold kgetD at hg
  split at hg
  · split at hg
    · rename_i y s hxy
      subst hxy
      obtain ⟨u, v, h1, h2, h3⟩ := T.all s z hg
      obtain ⟨es, n, D⟩ := T.dict
      exact ⟨_, s, v, hx.fnV, hy.strV, ⟨es, n, u, D.at_, D.lit, h1, h2⟩, k _ _ (fun _ _ h => h) (h3 S H)⟩
    · cases hg
  · cases hg
theorem j_kget {X : Cx} {x : Str} {tab : List (Str × D)} {a b : Expr} {ma mb : M Slot} {pos : Pos} (T : KTab X.K X.w x tab) (ha : PE X a (tE md X.K ma)) (hb : PE X b (tE md X.K mb)) (hs : PlainIx b) : PE X (.Subscript a b pos) (tE md X.K (mOp (kgetD x tab) ma mb)) :=
  j_ix ix_kdict (kgetI_ok T) ha hb hs
/-! ### a, b = a list -/
def asgL (is : List Nat) : D → En → Option En
  | .lst ds, env => asgs is ds env
  | _, _ => none
def mSetTL (is : List Nat) (m : M Slot) : StM := fun env st => bindM (m env st) fun r => bindM (imOf r.1) fun d => bindM (asgL is d env) fun env' => some (.nx, env', r.2)
theorem s_asgTL {X : Cx} {is : List Nat} {es : List Expr} {k : Nat} {tp pos : Pos} {n : Nat} {e : Expr} {ma : M Slot} (he : PE X e (tE md X.K ma)) (h : PGs X es (gNs is)) (hc : X.calm = true) (hl : is.length = n := by rfl) (hn : (assignEach es X.env).length = n := by rfl) (hst : (assignEach es X.env).findIdx? (·.1) = none := by rfl)
    (hs : swapsWithSole [.Tuple es k tp] e pos.line X.env = pure false := by rfl) (hw : swappedStores [.Tuple es k tp] e X.env = pure none := by rfl) (h1 : (assignEach [.Tuple es k tp] X.env).map (·.2) = [assign (.Tuple es k tp) X.env] := by rfl) : PS X (.Assign [.Tuple es k tp] e pos) (tS md X.K (mSetTL is ma)) := by
  refine ps_weak (ps_asg he (pg_lst hc h hn hst) hs hw h1) ?_
  rintro D' σ H ⟨S, L, env, st, o, env', st', sm, sl, e, k⟩
  obtain ⟨⟨s1, st1⟩, e1, e⟩ := bindM_some e
  obtain ⟨d, f1, e⟩ := bindM_some e
  obtain ⟨env2, f2, e⟩ := bindM_some e
  cases e
  refine ⟨S, L, env, st, s1, st1, sm, sl, e1, fun v S1 L1 H1 x1 sm1 r1 => ?_⟩
  cases d with
  | lst ds =>
    have f2 : asgs is ds env = some _ := f2
    obtain ⟨a, xs, rfl, sq, rs⟩ := (show Shp X.K S1 H1 v (.lst ds) from .inl (r1.rep f1)).lst
    exact ⟨a, xs, rfl, .inl (.inl sq), by rw [rs.length, asgs_len f2, hl], gNs_ok (sl.ext sm.sub x1) rs f2 fun σ' sl' _ _ => k S1 L1 H1 x1 sm1 σ' sl'⟩
  | _ => cases f2
end Mi
/-! MiRl: a block in two parts; between them the cells that the first part made become plain data. -/
namespace Mi
open PySem L2 PySem.Spec PyProof.Rows
theorem execs_app_wp {M : Model} {Γ : PySem.Ctx} {env : Env} {rest : List Stmt} {Q : Flow → Pos → Shared → Prop} {E : Value → Pos → Shared → Prop} : ∀ (l : List Stmt) (p : Pos) (s : Shared),
    Sem.wp M Γ (execs l env) (fun f p' s' => match f with | .next => Sem.wp M Γ (execs rest env) Q E p' s' | f => Q f p' s') E p s → Sem.wp M Γ (execs (l ++ rest) env) Q E p s
  | [], p, s, h => h
  | st :: l, p, s, h => by
    rw [List.cons_append, PySem.execs_cons, Sem.wp_bind']
    rw [PySem.execs_cons, Sem.wp_bind'] at h
    refine Sem.wp_mono M Γ _ (fun f p' s' h' => ?_) (fun _ _ _ h' => h') _ _ h
    cases f with
    | next => exact execs_app_wp l p' s' h'
    | _ => exact h'
theorem pss_app {X : Cx} {l rest : List Stmt} {t u : TS} (h1 : PSs X l t) (h2 : PSs X rest u) : PSs X (l ++ rest) (tSeq t u) := by
  refine ⟨fun pins s σ H D I h => ?_⟩
  have h3 := h1.run pins s σ H { D with nx := u D } I h
  intro Γ p hΓ
  refine execs_app_wp l p s (Sem.wp_mono _ Γ _ (fun f p' s' q => ?_) (fun _ _ _ q => q) _ _ (h3 Γ p hΓ))
  cases f with
  | next =>
    obtain ⟨σ', H', I', q⟩ := q
    exact h2.run pins s' σ' H' D I' q Γ p' hΓ
  | ret v => exact q
  | brk => exact q
  | cont => exact q
/-- a slot, its cell let go -/
def relS (n : Nat) (st : Store) : Slot → Slot
  | .pt k => if k < n then .pt k else match st[k]? with
    | some d => .im d
    | none => .no
  | .ns _ => .no
  | s => s
def mSeqR (a b : StM) : StM := fun env st => bindM (a env st) fun r => match r with
  | (.nx, env', st') => b (env'.map (relS st.length st')) (st'.take st.length)
  | (.bk, env', st') => some (.bk, env', st')
  | (.ct, env', st') => some (.ct, env', st')
  | (.rt s, env', st') => some (.rt s, env', st')
  | (.rtF d, env', st') => some (.rtF d, env', st')
  | (.rtN d, env', st') => some (.rtN d, env', st')
section
variable {K : PySem.W.Frag} {S S1 : Trk} {L L1 : List Addr} {H H1 : Hp} {st st1 : Store}
theorem release (sm : Sim true K S L H st) (x : Ext S L H S1 L1 H1) (sm1 : Sim true K S1 L1 H1 st1) : Ext S L H S L H1 ∧ Sim true K S L H1 (st1.take st.length) := by
  obtain ⟨x2, sm2⟩ := leave x sm1 sm.cells.length (x.fx sm.fz) sm.lk
  refine ⟨⟨⟨[], by simp⟩, fun _ z => z, fun _ z n => (n z).elim, x2.keep, fun _ h n => (n h).elim, fun _ _ z => z, fun _ => rfl, rfl⟩, ⟨sm2.nd, sm.sub, fun a z => sm2.trk a (x.up a z), ?_, sm.fz, sm.lk⟩⟩
  exact Paired.mapP sm2.cells fun a d r => r.carry (.less (fun b z => x.up b z) (fun k a z => by rw [x.fx sm.fz] at z; exact z)) rfl
theorem rel_slot (sm : Sim true K S L H st) (x : Ext S L H S1 L1 H1) (sm1 : Sim true K S1 L1 H1 st1) {v : Option V} {s : Slot} (h : SlotO K S1 L1 H1 v s) : SlotO K S L H1 v (relS st.length st1 s) := by
  have cr : Carry S1 H1 S H1 := .less (fun b z => x.up b z) (fun k a z => by rw [x.fx sm.fz] at z; exact z)
  cases h with
  | no => exact .no
  | of r =>
    cases r with
    | im r => exact .of (.im (r.carry cr))
    | ns => exact .no
    | @pt a k q =>
      show SlotO K S L H1 (some (V.ref a)) (if k < st.length then .pt k else match st1[k]? with
        | some d => .im d
        | none => .no)
      obtain ⟨u, et⟩ := x.pre
      have hL : L.length = st.length := sm.cells.length
      split
      · rename_i hk
        refine .of (.pt ?_)
        rw [et, List.getElem?_append_left (by omega)] at q
        exact q
      · rename_i hk
        obtain ⟨d, e, at_⟩ := sm1.cell q
        rw [e]
        have hnl : a ∉ L := fun z => by
          obtain ⟨i, hi, hie⟩ := List.getElem_of_mem z
          have h1 : L1[i]? = some a := by rw [et, List.getElem?_append_left hi, List.getElem?_eq_getElem hi, hie]
          have := nd_ix sm1.nd h1 q
          omega
        exact .of (.im (.obj (sm.free (x.cel a (List.mem_of_getElem? q) hnl)) (at_.carry cr rfl)))
end
theorem s_app {X : Cx} {l rest : List Stmt} {a b : StM} (h1 : PSs X l (tS true X.K a)) (h2 : PSs X rest (tS true X.K b)) : PSs X (l ++ rest) (tS true X.K (mSeqR a b)) := by
  refine pss_weak (pss_app h1 h2) ?_
  rintro D' σ H ⟨S, L, env, st, o, env', st', sm, sl, e, k⟩
  obtain ⟨⟨o1, env1, st1⟩, e1, e⟩ := bindM_some e
  refine ⟨S, L, env, st, o1, env1, st1, sm, sl, e1, fun S1 L1 H1 x1 sm1 => ?_⟩
  cases o1 with
  | nx =>
    intro σ1 sl1
    obtain ⟨x2, sm2⟩ := release sm x1 sm1
    have sl2 : Slots X.K S L H1 σ1 (env1.map (relS st.length st1)) := by
      have go : ∀ {vs : L2.St} {en : En}, Paired (SlotO X.K S1 L1 H1) vs en → Paired (SlotO X.K S L H1) vs (en.map (relS st.length st1)) := by
        intro vs en q
        induction q with
        | nil => exact .nil
        | cons r _ ih => exact .cons (rel_slot sm x1 sm1 r) ih
      exact go sl1
    exact ⟨S, L, _, _, o, env', st', sm2, sl2, e, fun S2 L2 H2 x3 sm3 => (k S2 L2 H2 (x2.trans sm.sub x3) sm3)⟩
  | bk => cases e; exact (k S1 L1 H1 x1 sm1).seqX (fun z => nomatch z)
  | ct => cases e; exact (k S1 L1 H1 x1 sm1).seqX (fun z => nomatch z)
  | rt s => cases e; exact (k S1 L1 H1 x1 sm1).seqX (fun z => nomatch z)
  | rtF d => cases e; exact (k S1 L1 H1 x1 sm1).seqX (fun z => nomatch z)
  | rtN d => cases e; exact (k S1 L1 H1 x1 sm1).seqX (fun z => nomatch z)
end Mi
namespace Mi
open PySem L2 PySem.Spec PyProof.Rows
theorem s_appN {X : Cx} {l : List Stmt} (k : Nat) {a b : StM} (h1 : PSs X (l.take k) (tS true X.K a)) (h2 : PSs X (l.drop k) (tS true X.K b)) : PSs X l (tS true X.K (mSeqR a b)) := by
  have := s_app h1 h2
  rwa [List.take_append_drop] at this
end Mi
/-! MiHk0: the head's facts with the interpreter's own table of modules. -/
namespace Mi
open PySem L2 PySem.Spec PyProof.Rows PySem.W
def frS (g : Addr → Option Obj) (n : Nat) : PySem.W.Frag := He.frT g (He.asD g n ++ [sysModules])
def obsS (n : Nat) (fa : List He.Fa) (fn : List He.DefD) (ts : List He.Tab) (ex : PySem.W.Frag → Bool) (g : Addr → Option Obj) : He.AlX := (He.obsT fa fn ts (frS g n), ex (frS g n) && He.dictB (frS g n) sysModules)
structure SaysS (fa : List He.Fa) (fn : List He.DefD) (ts : List He.Tab) (ex : PySem.W.Frag → Bool) (w : World) (K : PySem.W.Frag) : Prop where
  t : He.SaysT fa fn ts w K
  more : ex K = true
  sys : He.dictB K sysModules = true
theorem saysS_of {n : Nat} {fa : List He.Fa} {fn : List He.DefD} {ts : List He.Tab} {ex : PySem.W.Frag → Bool} {w : World} {g : Addr → Option Obj} (e : obsS n fa fn ts ex g = He.valX fn ts w) : SaysS fa fn ts ex w (frS g n) := by
  have h1 := congrArg Prod.fst e
  have h2 := congrArg Prod.snd e
  obtain ⟨h3, h4⟩ := He.ba (show (ex (frS g n) && He.dictB (frS g n) sysModules) = true from h2)
  exact ⟨h1, h3, h4⟩
def hookS (n : Nat) (fa : List He.Fa) (fn : List He.DefD) (ts : List He.Tab) (ex : PySem.W.Frag → Bool) : PySem.W.Hook where
  α := He.AlX
  obs := fun z => obsS n fa fn ts ex z.heap.get?
  val := fun v => He.valX fn ts v
  says := fun v hh => ∃ K : PySem.W.Frag, K.In hh ∧ SaysS fa fn ts ex v K
  of := fun _ _ q => ⟨_, He.frT_in, saysS_of q⟩
  keeps := fun _ _ _ ⟨K, i, c⟩ q => ⟨K, i.keeps q, c⟩
theorem obsS_eq {n : Nat} {fa : List He.Fa} {fn : List He.DefD} {ts : List He.Tab} {ex : PySem.W.Frag → Bool} {g : Addr → Option Obj} {s : Shared} (h : ∀ a, g a = s.heap.get? a) : obsS n fa fn ts ex g = (hookS n fa fn ts ex).obs s := by
  have e : g = s.heap.get? := funext h
  subst e
  rfl
end Mi
/-! MxA: an exception of the module's own, made: a class whose __init__ says super().__init__(text), then perhaps self.f = its argument. -/
namespace Mi
open PySem L2 PySem.Spec PyProof.Rows PySem.W PySem.Calls
/-- the class at C, its __init__ at f by the statement st -/
structure XCls (K : Frag) (P : Program) (C f : Addr) (qual : Str) (st : Stmt) : Prop where
  ox : OexC K C
  ini : findIn K (.ref C) "__init__" = some (some (.ref f))
  isf : typeIn K (.ref f) = some (.type "function")
  fn : ∃ oc od osl kV doc pm an cda ct cc, K.lookup f = some ⟨oc, od, .func (ksFn "__init__" qual (defArgs st) (defBody st) (defScope st) .none kV doc pm an (.ref cda) ct cc), osl⟩ ∧ codeIn K (.ref cda) qual = true ∧
    (∃ ccl cdd vs ccs file tf, K.lookup cda = some ⟨ccl, cdd, .fields vs, ccs⟩ ∧ vs[2]? = some (.str file tf) ∧ ((P.main.file : Str) == file) = true) ∧
    (∃ cl cld csl, K.lookup cc = some ⟨cl, cld, .cell (some (.ref C)), csl⟩)
  clsD : ∃ cdD, clsIn K C = some cdD
  self : mroIn K C (.ref C) = some true
  sup : nsIn K mainGlobals "super" = some none
  opq : nsIn K cStatics "thirdparty.any" = some none
  sin : ks_superIn K C C "__init__" = some (some (.builtin "ValueError.__init__"))
  isV : subIn K (.ref C) (.type "ValueError") = some true
  xi : excInitIn K C [.type "ValueError", .type "Exception", .type "BaseException", .type "object"] "ValueError.__new__" = true
/-- the statement super().__init__(text) -/
abbrev sSuper (p0 p1 p2 p3 p4 p5 : Pos) (t : Str) (j : Nat) : Stmt := .Expr (.Call (.Attribute (.Call (.Name "super" p0) [] [] p1) "__init__" p2) [.Constant (.str t) j p3] [] p4) p5
section
variable {prog : Program} {w : World} {A : Around} {E : Value → Shared → Prop} {s : Shared} {h₀ : Heap} {L : Addr} {m mg : Str → Option Value} {news : List (Addr × Obj)} {K : Frag} {x C f cc cda : Addr}
/-- super().__init__(text) in the body of the class's __init__ -/
theorem wp_super {body : List Stmt} {qual : Str} {st : Stmt} {t0 : Addr} {p0 p1 p2 p3 p4 p5 : Pos} {t : Str} {j : Nat} {Q : Flow → Shared → Prop} {oc : Value} {od : Option Addr} {osl : Array (Option Value)} {dV kV doc pm ct : Value} {an : Option Addr}
    (M : Mod K mg h₀) (X : XCls K prog C f qual st) (hf : K.lookup f = some ⟨oc, od, .func (ksFn "__init__" qual (defArgs st) (defBody st) (defScope st) dV kV doc pm an (.ref cda) ct cc), osl⟩)
    (hcd : ∃ ccl cdd vs ccs file tf, K.lookup cda = some ⟨ccl, cdd, .fields vs, ccs⟩ ∧ vs[2]? = some (.str file tf) ∧ ((prog.main.file : Str) == file) = true)
    (hcc : ∃ cl cld csl, K.lookup cc = some ⟨cl, cld, .cell (some (.ref C)), csl⟩)
    (F : Fr h₀ L s.heap m) (N : News h₀ L s.heap [(x, excObj C t0 none .none)]) (hv : m "self" = some (.ref x))
    (hp : ∃ ar : Arg, ((defArgs st).posonlyargs ++ (defArgs st).args).head? = some ar ∧ ar.arg = ("self" : Str))
    (hks : (defScope st).names.lookup ("super" : Str) = some .globalImplicit) (hkc : (defScope st).names.lookup ("__class__" : Str) = some .free) (hka : (defScope st).names.lookup ("self" : Str) = some .local) (hk : (defScope st).kind = .function)
    (hint : interactive (ksEnv qual (defScope st) L f (.ref cda) cc) = false)
    {pl : Sem Bool} (he : eval (.Call (.Attribute (.Call (.Name "super" p0) [] [] p1) "__init__" p2) [.Constant (.str t) j p3] [] p4) (ksEnv qual (defScope st) L f (.ref cda) cc) = (do
      let ov ← attributeBase (.Call (.Name "super" p0) [] [] p1) "__init__" (ksEnv qual (defScope st) L f (.ref cda) cc) (eval (.Call (.Name "super" p0) [] [] p1) (ksEnv qual (defScope st) L f (.ref cda) cc))
      standAt p2.atName
      let (fx, first) ← holding [ov] (getMethod ov "__init__" pl)
      callWith p4 fx first (backTo p4 (starEach [.Constant (.str t) j p3] (ksEnv qual (defScope st) L f (.ref cda) cc))) []))
    (htop : (prog.main.scope.names.lookup ("super" : Str)).isSome = false)
    (hq : ∀ h' t1 tk, Fr h₀ L h' m → h'.get? x = some (excObj C t1 none .none) → (∀ p ∈ [x], h₀.get? p = none) → Q .next { s with heap := h', toks := tk }) :
    _root_.PySem.wpAt (model prog w) A (.func body (ksEnv qual (defScope st) L f (.ref cda) cc)) (exec (sSuper p0 p1 p2 p3 p4 p5 t j) (ksEnv qual (defScope st) L f (.ref cda) cc)) Q E s := by
  obtain ⟨ar, hp1, hp2⟩ := hp
  obtain ⟨ccl, cdd, vs, ccs, file, tf, hcode, hvs, hfile⟩ := hcd
  obtain ⟨cl, cld, csl, hcell⟩ := hcc
  obtain ⟨cdD, hD⟩ := X.clsD
  have XK : K.In s.heap := M.kin.keeps F.keep
  obtain ⟨mb, hb1, hb2⟩ := M.blt
  refine ks_wpAt_Expr_any ?_ hint (by rfl)
  refine ks_wpAt_MethodCall (he := he) ?_
  · obtain ⟨oD, hD1, hD2⟩ : ∃ oD, s.heap.get? C = some oD ∧ oD.data = .cls cdD := by
      unfold clsIn at hD
      split at hD
      · rename_i c d cd' sl ho
        cases hD
        exact ⟨_, XK _ _ ho, rfl⟩
      · cases hD
    have hx := (N _ List.mem_cons_self).1
    have I : InstAt s.heap x (excObj C t0 none .none) C none := ⟨hx, rfl, rfl, trivial⟩
    refine ks_wpAt_super_base (env := ksEnv qual (defScope st) L f (.ref cda) cc) hks hkc (by decide) rfl (XK _ _ hf) rfl hp1 rfl (XK _ _ hcode) rfl hvs hfile htop ?_
    refine ks_loadName_global hk hks (loadGlobal_builtin (env := ksEnv qual (defScope st) L f (.ref cda) cc) (M.glob.keeps F.keep) (mg_none_of M.kin M.glob X.sup) (hb1.keeps F.keep) ((hb2 _ (by decide)).trans (show bootBuiltins "super" = some (.type "super") by decide +kernel)) ⟨rfl, ?_⟩)
    refine wpAny_loadName_free hk hkc rfl ⟨_, XK _ _ hcell, rfl⟩ ?_
    rw [hp2]
    refine wpAny_loadName_local hk hka F.ns hv ?_
    refine ks_wpAny_isType_cls hD1 hD2 ⟨rfl, ?_⟩
    obtain ⟨hh, g, d, tk, os⟩ := s
    refine ks_wpAny_call_super hD1 hD2 hx rfl (fun c e => by cases e) (looks_mroIn XK X.self) (fun h' e k => ?_)
    obtain ⟨F', N', l'⟩ := ks_newsPush (s := ⟨hh, g, d, tk, os⟩) (o := ks_superObj C x C) F N rfl e k
    have I' : InstAt h' x (excObj C t0 none .none) C none := ⟨(N' _ (.tail _ (List.mem_cons_self))).1, rfl, rfl, trivial⟩
    refine kxs_method (s := ⟨h', g, d, tk, os⟩) kxs_ValueError F' M.kin N' List.mem_cons_self I' X.opq X.sin X.isV (by decide) (fun q h2 F2 N2 l2 => ?_)
    refine kxs_callWith1 (i := "ValueError.__init__") (x := x) N2 List.mem_cons_self ?_ (by rfl) (by rfl)
    show wpAny _ _ (spliced ((false, eval (.Constant (.str t) j p3) _) :: [])) _ _ _
    refine Calls.spliced_cons (wpAny_Constant_str ?_)
    refine Calls.spliced_nil ⟨kxs_at N2 List.mem_cons_self, ?_⟩
    have nx : x ≠ hh.objs.size := Nat.ne_of_lt (l' _ List.mem_cons_self)
    have nq : q ≠ x := Nat.ne_of_gt (l2 _ (.tail _ List.mem_cons_self))
    refine kxs_call (t := t0) (dv := none) (c2 := .none) F2 M.kin N2 PySem.F.excBase_ValueError X.xi List.mem_cons_self (.tail nq (.tail (Ne.symm nx) (.head (fun _ z => nomatch z)))) (by show 1 ≤ sizeLine; rw [sizeLine_eq]; omega) (fun t' h3 F3 N3 l3 => ?_)
    exact hq h3 t' _ F3 (N3 _ (.tail _ (.tail _ (.tail _ List.mem_cons_self)))).1 fun p hp => by
      rw [List.mem_singleton] at hp
      subst hp
      exact (N _ List.mem_cons_self).2.2
end
/-- the shape of such an __init__ -/
structure IniS (qual : Str) (st : Stmt) (ps : List Str) (rest : List Stmt) : Prop where
  body : ∃ p0 p1 p2 p3 p4 p5 t j, defBody st = sSuper p0 p1 p2 p3 p4 p5 t j :: rest ∧ ∃ pl : Sem Bool, ∀ L f cda cc, eval (.Call (.Attribute (.Call (.Name "super" p0) [] [] p1) "__init__" p2) [.Constant (.str t) j p3] [] p4) (ksEnv qual (defScope st) L f (.ref cda) cc) = (do
      let ov ← attributeBase (.Call (.Name "super" p0) [] [] p1) "__init__" (ksEnv qual (defScope st) L f (.ref cda) cc) (eval (.Call (.Name "super" p0) [] [] p1) (ksEnv qual (defScope st) L f (.ref cda) cc))
      standAt p2.atName
      let (fx, first) ← holding [ov] (getMethod ov "__init__" pl)
      callWith p4 fx first (backTo p4 (starEach [.Constant (.str t) j p3] (ksEnv qual (defScope st) L f (.ref cda) cc))) [])
  hp : ∃ ar : Arg, ((defArgs st).posonlyargs ++ (defArgs st).args).head? = some ar ∧ ar.arg = ("self" : Str)
  hks : (defScope st).names.lookup ("super" : Str) = some .globalImplicit
  hkc : (defScope st).names.lookup ("__class__" : Str) = some .free
  hka : (defScope st).names.lookup ("self" : Str) = some .local
  hk : (defScope st).kind = .function
  hcell : ∀ x ∈ (defScope st).names, x.2 ≠ .cell
  hloc : ∀ x ∈ ps, (defScope st).names.lookup x = some .local
  co : (defScope st).isCoroutine = false
  gen : (defScope st).isGenerator = false
  hint : ∀ L f cda cc, interactive (ksEnv qual (defScope st) L f (.ref cda) cc) = false
  bind : ∀ (kV doc pm ct : Value) (an : Option Addr) (cda cc : Addr) (us : List Value), us.length = ps.length → bindArgs (ksFn "__init__" qual (defArgs st) (defBody st) (defScope st) .none kV doc pm an (.ref cda) ct cc) ⟨us, []⟩ = pure (ps.zip us)
section
variable {X : Cx} {pins : List (Addr × Obj)} {σ : L2.St} {H : Hp} {s : Shared} {E : Value → Shared → Prop} {c f : Addr} {qual : Str} {st : Stmt} {k : Nat}
/-- what stands behind C(..): fo the field's name -/
def Made (h0 : Heap) (c x : Addr) (us : List Value) (h' : Heap) : Option Str → Prop
  | none => ∃ t2, h'.get? x = some (excObj c t2 none .none)
  | some fn => ∃ t2 dx u, us = [u] ∧ h'.get? x = some (excObj c t2 (some dx) .none) ∧ dx ≠ x ∧ h0.get? dx = none ∧ h'.Ns1 dx (fun y => if y = fn then some u else none)
/-- the statements behind super().__init__(text) -/
inductive IniR (st : Stmt) : List Str → List Stmt → Option Str → Prop
  | none : IniR st [] [] none
  | fld {a y : Str} {q0 q1 q2 q3 : Pos} : (defScope st).names.lookup y = some .local → (y == ("self" : Str)) = false → (y == ("__debug__" : Str)) = false → IniR st [y] [.Assign [.Attribute (.Name "self" q0) a q1] (.Name y q2) q3] (some a)
abbrev nsM (ps : List Str) (x : Addr) (us : List Value) : Str → Option Value := fun y => (((("self" : Str) :: ps).zip (Value.ref x :: us)).reverse).lookup y
theorem nsM_self {ps : List Str} {x : Addr} {us : List Value} {st : Stmt} {rest : List Stmt} {fo : Option Str} (R : IniR st ps rest fo) (hl : us.length = ps.length) : nsM ps x us "self" = some (.ref x) := by
  cases R with
  | none => match us, hl with | [], _ => rfl
  | @fld a y _ _ _ _ _ hs _ =>
    match us, hl with
    | [u], _ =>
      show ([(y, u), (("self" : Str), Value.ref x)]).lookup ("self" : Str) = _
      have : (("self" : Str) == y) = false := by rw [Bool.eq_false_iff] at hs ⊢; exact fun z => hs (by rw [beq_iff_eq] at z ⊢; exact z.symm)
      simp [List.lookup, this]
theorem exc_rest {st : Stmt} {ps : List Str} {rest : List Stmt} {fo : Option Str} {us : List Value} {A : Around} {L cda cc x t1 : Addr} {h0 h : Heap} {g : Array GenState} {d : Drawn} {tk : Nat} {os : OsState} {prog : Program} {w : World} {K : Frag} {E : Value → Shared → Prop} {Q : Flow → Shared → Prop}
    (R : IniR st ps rest fo) (hl : us.length = ps.length) (hk : (defScope st).kind = .function) (hka : (defScope st).names.lookup ("self" : Str) = some .local) (C : XCls K prog c f qual st) (KX : K.In h0)
    (hfo : ∀ a, fo = some a → findIn K (.ref c) a = some none) (F : Fr h0 L h (nsM ps x us)) (hx : h.get? x = some (excObj c t1 none .none)) (hx0 : h0.get? x = none)
    (hq : ∀ h' tk', (∀ b o, h0.get? b = some o → h'.get? b = some o) → Made h0 c x us h' fo → Q .next ⟨h', g, d, tk', os⟩) : wpAny (model prog w) A (execs rest (ksEnv qual (defScope st) L f (.ref cda) cc)) Q E ⟨h, g, d, tk, os⟩ := by
  cases R with
  | none => exact wpAny_execs_nil (hq h tk F.keep ⟨t1, hx⟩)
  | @fld a y q0 q1 q2 q3 hy hs hdb =>
    match us, hl with
    | [u], _ =>
      have n1 : nsM [y] x [u] y = some u := by
        show ([(y, u), (("self" : Str), Value.ref x)]).lookup y = _
        simp [List.lookup]
      have n2 : nsM [y] x [u] "self" = some (.ref x) := nsM_self (R := IniR.fld (a := a) (q0 := q0) (q1 := q1) (q2 := q2) (q3 := q3) hy hs hdb) rfl
      obtain ⟨nm, q, N, bs, bm, sn, sub, ab, col, dd, k0, k1, k2, k3, k5, hC, hbm⟩ := C.ox.cls
      have hcl : PySem.W.clsIn K c = some { name := nm, bases := bs, mro := .ref c :: bm, ns := N, qualname := q, hasDict := true, slotNames := sn, subclasses := sub, abstract := ab, collection := col, hasDel := false } := by unfold PySem.W.clsIn; rw [hC] <;> rfl
      have KX' : K.In h := KX.keeps F.keep
      refine wpAny_execs_cons ?_
      refine plainObj_wpAny_Assign_Attribute ?_ (by rfl)
      refine wpAny_Name (wpAny_loadName_local hk hy F.ns n1 ?_) hdb
      refine wpAny_Name (wpAny_loadName_local hk hka F.ns n2 ?_) (by decide)
      refine PySem.W.set_plain KX' (ox := excObj c t1 none .none) (od := none) ⟨hx, rfl, rfl, trivial⟩ C.ox.sa ?_
      refine PySem.HandSPX.exc_osa KX' hx hcl (show PySem.HandSPX.refsVE (.ref c :: bm) = true from hbm) rfl (hfo a rfl) (fun h' tk' dx k dn dne hx' hn => ?_)
      have F0 : ∀ b o, h0.get? b = some o → h'.get? b = some o := fun b o e => k b o (fun z => by rw [z, hx0] at e; cases e) (F.keep b o e)
      have d0 : h0.get? dx = none := by
        cases z : h0.get? dx with
        | none => rfl
        | some o => exact absurd (Heap.lt_size (F.keep _ _ z)) (Nat.not_lt.mpr dn)
      exact wpAny_execs_nil (hq h' _ F0 ⟨t1, dx, u, rfl, hx', dne, d0, hn⟩)
/-- C(..): the new exception, all that stood stands -/
theorem exc_call {ps : List Str} {rest : List Stmt} {fo : Option Str} {us : List Value} {Q : Value → Shared → Prop} (I : Inv X pins σ H s) (C : XCls X.K X.prog c f qual st) (S : IniS qual st (("self" : Str) :: ps) rest) (R : IniR st ps rest fo) (hfo : ∀ a, fo = some a → findIn X.K (.ref c) a = some none) (hl : us.length = ps.length) (hr : Room (k + 1) X.A)
    (htop : (X.prog.main.scope.names.lookup ("super" : Str)).isSome = false)
    (hQ : ∀ x h' tk', (∀ b o, s.heap.get? b = some o → h'.get? b = some o) → s.heap.get? x = none → Made s.heap c x us h' fo → Q (.ref x) { s with heap := h', toks := tk' }) :
    wpAny (model X.prog X.w) X.A (call (.ref c) us) Q E s := by
  obtain ⟨nm, q, N, bs, bm, sn, sub, ab, col, dd, k0, k1, k2, k3, k5, hC, hbm⟩ := C.ox.cls
  obtain ⟨oc, od, osl, kV, doc, pm, an, cda, ct, cc, hf, hcd, hco, hcc⟩ := C.fn
  obtain ⟨p0, p1, p2, p3, p4, p5, t, j, hbody, pl, he⟩ := S.body
  have IK := I.kIn
  have lim : s.heap.NoLimit := I.ok.mod.nolimit.keeps fun b o e => (I.bs b o e).1
  have M : Mod X.K X.mg s.heap := by
    obtain ⟨m1, m2, ⟨mb, m3, m4⟩, m5⟩ := I.ok.mod
    have kk : ∀ b o, X.base.get? b = some o → s.heap.get? b = some o := fun b o e => (I.bs b o e).1
    exact ⟨m1.keeps kk, m2.keeps kk, ⟨mb, m3.keeps kk, m4⟩, lim⟩
  obtain ⟨hp, g, dr, tk, os⟩ := s
  have kk : ∀ b o, hp.get? b = some o → ((hp.push (PySem.W.kdv_tup us)).push (PySem.HandSPX.excO c hp.objs.size)).get? b = some o := fun b o e => Heap.get?_push_of_some _ (Heap.get?_push_of_some _ e)
  have hget : ((hp.push (PySem.W.kdv_tup us)).push (PySem.HandSPX.excO c hp.objs.size)).get? (hp.objs.size + 1) = some (PySem.HandSPX.excO c hp.objs.size) := by heap_get
  have hx0 : hp.get? (hp.objs.size + 1) = none := by
    cases z : hp.get? (hp.objs.size + 1) with
    | none => rfl
    | some o => exact absurd (Heap.lt_size z) (Nat.not_lt.mpr (Nat.le_succ _))
  have hps : ps.length ≤ 1 := by cases R <;> simp
  have hus : us.length ≤ sizeLine := by rw [hl]; exact Nat.le_trans hps (by decide)
  refine wpAny_call (PySem.HandSPX.call_own PySem.F.excBase_ValueError (fun Y => PySem.HandSPX.refsVE_contains Y bm hbm) (IK _ _ hC) (PySem.W.looks_findIn IK C.ini) (fun self => PySem.W.bind_fn IK self C.isf) hus ?_)
  refine ks_codeAny_call_defAt (fd := ksFn "__init__" qual (defArgs st) (defBody st) (defScope st) .none kV doc pm an (.ref cda) ct cc) (body := defBody st) (binds := (("self" : Str) :: ps).zip (Value.ref (hp.objs.size + 1) :: us)) (hr.make c us []).depth (kk _ _ (IK _ _ hf)) rfl (lim.keeps kk) (PySem.W.codeRec_of (IK.keeps kk) hcd) rfl
    (BindsTo.of_eq (S.bind kV doc pm ct an cda cc (Value.ref (hp.objs.size + 1) :: us) (by rw [List.length_cons, List.length_cons, hl]))) S.hcell (fun y hy => S.hloc _ (List.of_mem_zip (show (y.1, y.2) ∈ _ from hy)).1) (fun h₁ hns hk₁ => ?_) S.co S.gen S.hk
  have F1 : Fr hp ((hp.push (PySem.W.kdv_tup us)).push (PySem.HandSPX.excO c hp.objs.size)).objs.size h₁ (nsM ps (hp.objs.size + 1) us) := ⟨hns, fun b o e => hk₁ b o (kk b o e), by rw [Heap.size_push, Heap.size_push]; omega⟩
  have N1 : News hp ((hp.push (PySem.W.kdv_tup us)).push (PySem.HandSPX.excO c hp.objs.size)).objs.size h₁ [(hp.objs.size + 1, excObj c hp.objs.size none .none)] := fun p hp' => by
    rw [List.mem_singleton] at hp'
    subst hp'
    exact ⟨hk₁ _ _ hget, by rw [Heap.size_push, Heap.size_push]; show hp.objs.size + 1 ≠ hp.objs.size + 1 + 1; omega, hx0⟩
  show _root_.PySem.wpAt _ _ _ (execs (defBody st) (ksEnv qual (defScope st) _ f (.ref cda) cc)) _ _ _
  generalize hB : defBody st = B
  rw [hB] at hbody
  subst hbody
  refine ks_wpAt_execs_cons ?_
  refine wp_super (X := C) (body := _) M (by rw [hB] at hf ⊢; exact hf) hco hcc F1 N1 (nsM_self R hl) S.hp S.hks S.hkc S.hka S.hk (S.hint _ _ _ _) (he _ _ _ _) htop (fun h2 t1 tk2 F2 hx2 _ => ?_)
  refine wpAt_of_wpAny ?_
  refine exc_rest R hl S.hk S.hka C IK hfo F2 hx2 hx0 fun h3 tk3 k3 md => ?_
  exact ⟨rfl, hQ _ h3 tk3 k3 hx0 md⟩
end
end Mi
/-! MxB: exceptions as things that are tracked: made, raised, caught, asked. -/
namespace Mi
open PySem L2 PySem.Spec PyProof.Rows PySem.W
section
variable {X : Cx} {pins : List (Addr × Obj)} {σ : L2.St} {H : Hp} {s : Shared} {a : Addr}
/-- a was not there -/
structure Outer (X : Cx) (pins : List (Addr × Obj)) (a : Addr) : Prop where
  n0 : X.s_0.heap.get? a = none
  nL : a ≠ X.env.locals
  nC : ∀ x c, X.env.cells.lookup x = some c → c ≠ a
  nP : ∀ p ∈ X.pn ++ pins, p.1 ≠ a
theorem outer_of (I : Inv X pins σ H s) (hp : s.heap.get? a = none) (hx : X.ex = []) : Outer X pins a := by
  refine ⟨?_, fun z => ?_, fun x c e z => ?_, fun p h z => ?_⟩
  · cases e : X.s_0.heap.get? a with
    | none => rfl
    | some o =>
      obtain ⟨o', q⟩ := I.base.there a o e (by rw [hx]; exact fun z => nomatch z)
      rw [hp] at q; cases q
  · obtain ⟨m, ⟨o, es, ep, ho, r⟩, _⟩ := I.loc
    rw [← z, hp] at ho; cases ho
  · obtain ⟨v, o, ho, _⟩ := I.cell x c e
    rw [z, hp] at ho; cases ho
  · obtain ⟨e, _⟩ := I.pin p h
    rw [z, hp] at e; cases e
theorem Inv.track {o : HO} (J : Inv X pins σ H s) (O : Outer X pins a) (na : H a = none) (new : ObjOk X.prog X.w (upd H a o) s.heap a o) : Inv X pins σ (upd H a o) s := by
  refine ⟨J.ok, J.os, J.bare, ⟨J.base.keep, J.base.slot, fun b u e n h => ?_, J.base.there, fun b xs e => ?_, fun b u xs e => ?_, fun b ps e => ?_⟩, J.loc, J.cell, ?_, fun x c e => ?_, fun p hp => ?_, fun b u e => ?_, J.len⟩
  · rw [upd_ne (fun z => by rw [z, O.n0] at e; cases e)]
    exact J.base.free b u e n h
  · have q := J.base.tups b xs e
    rw [upd_ne (ne_of_none q na)]; exact q
  · have q := J.base.frzs b u xs e
    rw [upd_ne (ne_of_none q na)]; exact q
  · obtain ⟨m, q⟩ := J.base.tbls b ps e
    exact ⟨m, by rw [upd_ne (ne_of_none q na)]; exact q⟩
  · rw [upd_ne (Ne.symm O.nL)]; exact J.free
  · rw [upd_ne (O.nC x c e)]; exact J.freeC x c e
  · obtain ⟨e, n, r⟩ := J.pin p hp
    exact ⟨e, by rw [upd_ne (O.nP p hp)]; exact n, r⟩
  · by_cases hb : b = a
    · subst hb
      rw [upd_same] at e
      cases e
      exact new
    · rw [upd_ne hb] at e
      exact (J.hok b u e).stay (fun c v _ q => q) (fun c q => by rw [upd_ne (ne_of_none q na)]; exact q) fun c xs q => by rw [upd_ne (ne_of_none q na)]; exact q
theorem exv_ok {P : Program} {w : World} {H : Hp} {h : Heap} {a : Addr} {cls : Value} {d : Option Addr} {oe : Obj} {vs : Array Value} (e : h.get? a = some oe) (z : oe.cls = cls) (z2 : oe.dict = d) (dd : oe.data = .fields vs) : ObjOk P w H h a (ExV cls d a) :=
  ⟨⟨oe, vs, e, z, z2, dd⟩, ⟨oe, e⟩, fun _ _ ⟨o, v, q, r⟩ k => ⟨o, v, k o q, r⟩⟩
theorem exv_at {P : Program} {w : World} {H : Hp} {h : Heap} {a : Addr} {cls : Value} {d : Option Addr} (hok : HOk P w H h) (e : H a = some (ExV cls d a)) : ∃ (oe : Obj) (vs : Array Value), h.get? a = some oe ∧ oe.cls = cls ∧ oe.dict = d ∧ oe.data = .fields vs := by
  have x : ObjOk P w H h a (.ext fun h => ∃ (oe : Obj) (vs : Array Value), h.get? a = some oe ∧ oe.cls = cls ∧ oe.dict = d ∧ oe.data = .fields vs) := hok a _ e
  exact x.1
end
/-! ### made -/
/-- all that a class of exceptions must have, by its name -/
structure XC (K : Frag) (P : Program) (mg : Str → Option Value) (c : Str) (ps : List Str) (fo : Option Str) : Prop where
  made : ∃ f qual st rest, XCls K P (He.ga K c) f qual st ∧ IniS qual st (("self" : Str) :: ps) rest ∧ IniR st ps rest fo
  fld : ∀ a, fo = some a → findIn K (.ref (He.ga K c)) a = some none
  mg : mg c = some (.ref (He.ga K c))
  top : (P.main.scope.names.lookup ("super" : Str)).isSome = false
theorem rel1 {vs : List V} {u : Value} {v : V} (h : Vals [v] [u]) : RelV v u := by cases h with | cons r _ => exact r
theorem vals_one {vs : List V} {us : List Value} {u : Value} (h : Vals vs us) (e : us = [u]) : ∃ v, vs = [v] ∧ RelV v u := by
  subst e
  cases h with | cons r t => cases t; exact ⟨_, rfl, r⟩
/-- the heap behind C(..), the exception a value -/
def tMkV (c : Addr) (fo : Option Str) (ta : TA) : TE := fun σ H Q => ta σ H fun vs H1 => ∀ a, H1 a = none → match fo with
  | none => vs = [] ∧ Q (.ref a) (upd H1 a (ExV (.ref c) none a))
  | some fn => ∃ v, vs = [v] ∧ ∀ dx, H1 dx = none → dx ≠ a → Q (.ref a) (upd (upd H1 dx (.xd [(fn, v)])) a (ExV (.ref c) (some dx) a))
/-- .. raised -/
def tMkX (c : Addr) (fo : Option Str) (ta : TA) : L2.St → Hp → XK → Prop := fun σ H Q => ta σ H fun vs H1 => match fo with
  | none => vs = [] ∧ Q (.ref c) none H1
  | some fn => ∃ v, vs = [v] ∧ ∀ dx, H1 dx = none → Q (.ref c) (some dx) (upd H1 dx (.xd [(fn, v)]))
section
variable {X : Cx} {c : Str} {fo : Option Str} {ps : List Str} {ta : TA} {p pos : Pos} {k : Nat} {e : Expr} {es : List Expr}
theorem relO_one {fn : Str} {v : V} {u : Value} (r : RelV v u) : ∀ g, RelO ([(fn, v)].lookup g) (if g = fn then some u else none) := relO_put (fs := []) r fun _ => trivial
theorem run_mkV (C : XC X.K X.prog X.mg c ps fo) (hr : Room (k + 1) X.A) (hx : X.ex = []) {pins : List (Addr × Obj)} {σ : L2.St} {H1 : Hp} {s : Shared} {Q : VK} {us : List Value} {vs : List V} (I : Inv X pins σ H1 s) (r : Vals vs us) (hn : vs.length = ps.length)
    (h : ∀ a, H1 a = none → match fo with
      | none => vs = [] ∧ Q (.ref a) (upd H1 a (ExV (.ref (He.ga X.K c)) none a))
      | some fn => ∃ v, vs = [v] ∧ ∀ dx, H1 dx = none → dx ≠ a → Q (.ref a) (upd (upd H1 dx (.xd [(fn, v)])) a (ExV (.ref (He.ga X.K c)) (some dx) a))) :
    wpAny (model X.prog X.w) X.A (call (.ref (He.ga X.K c)) us) (EP X pins σ Q) X.xe s := by
  obtain ⟨f, qual, st, rest, C1, S, R⟩ := C.made
  refine exc_call I C1 S R C.fld (by rw [← r.length, hn]) hr C.top fun x h' tk' kk hx0 md => ?_
  have J : Inv X pins σ H1 { s with heap := h', toks := tk' } := I.kept kk
  have hq := h x (I.hok.gone hx0)
  cases fo with
  | none =>
    obtain ⟨t2, hx2⟩ := md
    exact ⟨.ref x, _, Inv.track J (outer_of I hx0 hx) (I.hok.gone hx0) (exv_ok hx2 rfl rfl rfl), rfl, hq.2⟩
  | some fn =>
    obtain ⟨t2, dx, u, eu, hx2, ne, hd0, hns⟩ := md
    obtain ⟨v, ev, hq⟩ := hq
    obtain ⟨v', ev', rv⟩ := vals_one r eu
    rw [ev] at ev'
    cases ev'
    have J2 := Inv.track (a := dx) (o := .xd [(fn, v)]) J (outer_of I hd0 hx) (I.hok.gone hd0) ⟨_, hns, relO_one rv⟩
    have na : upd H1 dx (.xd [(fn, v)]) x = none := by rw [upd_ne (Ne.symm ne)]; exact I.hok.gone hx0
    exact ⟨.ref x, _, Inv.track J2 (outer_of I hx0 hx) na (exv_ok hx2 rfl rfl rfl), rfl, hq dx (I.hok.gone hd0) ne⟩
theorem pe_mkV (C : XC X.K X.prog X.mg c ps fo) (hr : Room (k + 1) X.A) (ha : PA X (e :: es) ta) (hx : X.ex = []) (hn : ∀ σ H Q, ta σ H Q → ta σ H fun vs H1 => vs.length = ps.length ∧ Q vs H1) (hg : Gl X c := by rfl) (hdb : (c == ("__debug__" : Str)) = false := by decide)
    (he : starEach (e :: es) X.env = (false, eval e X.env) :: starEach es X.env := by rfl) (hpl : (backTo pos (starEach es X.env)).any (·.1) = false := by rfl) : PE X (.Call (.Name c p) (e :: es) [] pos) (tMkV (He.ga X.K c) fo ta) := by
  refine ⟨fun pins s σ H Q I h => ?_⟩
  obtain ⟨f, qual, st, rest, C1, S, R⟩ := id C.made
  refine wpAny_Call_Name_kw (ld_glob I hg C.mg ?_ hdb)
  refine PySem.W.callWith_K (h₀ := X.base) I.ok.mod.kin C1.ox.kC (thn (ha.run pos pins s σ H _ I (hn _ _ _ h)) fun us s1 ⟨vs, H1, I1, r, hl, q⟩ => ⟨I1.kIn, ?_⟩) he hpl
  exact run_mkV C hr hx I1 r hl q
theorem pe_mkV0 (C : XC X.K X.prog X.mg c ps fo) (hr : Room (k + 1) X.A) (hx : X.ex = []) (hps : ps = []) (hg : Gl X c := by rfl) (hdb : (c == ("__debug__" : Str)) = false := by decide) : PE X (.Call (.Name c p) [] [] pos) (tMkV (He.ga X.K c) fo tNil) := by
  subst hps
  refine ⟨fun pins s σ H Q I h => ?_⟩
  obtain ⟨f, qual, st, rest, C1, S, R⟩ := id C.made
  refine wpAny_Call_Name_kw (ld_glob I hg C.mg ?_ hdb)
  exact PySem.W.callWith_K0 I.kIn C1.ox.kC (run_mkV (us := []) C hr hx I .nil rfl h)
theorem run_mkX (C : XC X.K X.prog X.mg c ps fo) (hr : Room (k + 1) X.A) (hx : X.ex = []) {pins : List (Addr × Obj)} {σ : L2.St} {H1 : Hp} {s : Shared} {Q : XK} {us : List Value} {vs : List V} (I : Inv X pins σ H1 s) (r : Vals vs us) (hn : vs.length = ps.length)
    (h : match fo with
      | none => vs = [] ∧ Q (.ref (He.ga X.K c)) none H1
      | some fn => ∃ v, vs = [v] ∧ ∀ dx, H1 dx = none → Q (.ref (He.ga X.K c)) (some dx) (upd H1 dx (.xd [(fn, v)]))) :
    wpAny (model X.prog X.w) X.A (call (.ref (He.ga X.K c)) us) (MkP X pins σ Q) X.xe s := by
  obtain ⟨f, qual, st, rest, C1, S, R⟩ := C.made
  refine exc_call I C1 S R C.fld (by rw [← r.length, hn]) hr C.top fun x h' tk' kk hx0 md => ?_
  have nx : H1 x = none := I.hok.gone hx0
  cases fo with
  | none =>
    obtain ⟨t2, hx2⟩ := md
    exact ⟨x, _, _, s, H1, _, none, rfl, I, kk, hx0, hx2, ⟨rfl, rfl⟩, rfl, rfl, nx, rfl, I.bare, raises_own C1.ox.exC C1.ox.tyC, h.2⟩
  | some fn =>
    obtain ⟨t2, dx, u, eu, hx2, ne, hd0, hns⟩ := md
    obtain ⟨v, ev, hq⟩ := h
    obtain ⟨v', ev', rv⟩ := vals_one r eu
    rw [ev] at ev'
    cases ev'
    obtain ⟨G, g1, g2⟩ := restrict h' fun b => decide (b ≠ x)
    have gk : ∀ b, b ≠ x → G.get? b = h'.get? b := fun b hb => g1 b (decide_eq_true hb)
    have gx : G.get? x = none := g2 x (by simp)
    have kG : ∀ b o, s.heap.get? b = some o → G.get? b = some o := fun b o q => by
      rw [gk b (fun z => by rw [z, hx0] at q; cases q)]
      exact kk b o q
    have J : Inv X pins σ H1 { s with heap := G, toks := tk' } := I.kept kG
    have hnsG : G.Ns1 dx (fun y => if y = fn then some u else none) := hns.at fun o q => (gk dx ne).trans q
    have J2 := Inv.track (a := dx) (o := .xd [(fn, v)]) J (outer_of I hd0 hx) (I.hok.gone hd0) ⟨_, hnsG, relO_one rv⟩
    exact ⟨x, _, _, _, _, _, some dx, rfl, J2, fun b o q => by
      by_cases hb : b = x
      · have q : G.get? b = some o := q
        rw [hb, gx] at q; cases q
      · exact (gk b hb).symm.trans q, gx, hx2, ⟨rfl, rfl⟩, rfl, rfl, by rw [upd_ne (Ne.symm ne)]; exact nx, rfl, I.bare, raises_own C1.ox.exC C1.ox.tyC, hq dx (I.hok.gone hd0)⟩
theorem pmk_X (C : XC X.K X.prog X.mg c ps fo) (hr : Room (k + 1) X.A) (ha : PA X (e :: es) ta) (hx : X.ex = []) (hn : ∀ σ H Q, ta σ H Q → ta σ H fun vs H1 => vs.length = ps.length ∧ Q vs H1) (hg : Gl X c := by rfl) (hdb : (c == ("__debug__" : Str)) = false := by decide)
    (he : starEach (e :: es) X.env = (false, eval e X.env) :: starEach es X.env := by rfl) (hpl : (backTo pos (starEach es X.env)).any (·.1) = false := by rfl) : PMk X (.Call (.Name c p) (e :: es) [] pos) (tMkX (He.ga X.K c) fo ta) := by
  intro pins s σ H Q I h
  obtain ⟨f, qual, st, rest, C1, S, R⟩ := id C.made
  refine wpAny_Call_Name_kw (ld_glob I hg C.mg ?_ hdb)
  refine PySem.W.callWith_K (h₀ := X.base) I.ok.mod.kin C1.ox.kC (thn (ha.run pos pins s σ H _ I (hn _ _ _ h)) fun us s1 ⟨vs, H1, I1, r, hl, q⟩ => ⟨I1.kIn, ?_⟩) he hpl
  exact run_mkX C hr hx I1 r hl q
theorem pmk_X0 (C : XC X.K X.prog X.mg c ps fo) (hr : Room (k + 1) X.A) (hx : X.ex = []) (hps : ps = []) (hg : Gl X c := by rfl) (hdb : (c == ("__debug__" : Str)) = false := by decide) : PMk X (.Call (.Name c p) [] [] pos) (tMkX (He.ga X.K c) fo tNil) := by
  subst hps
  intro pins s σ H Q I h
  obtain ⟨f, qual, st, rest, C1, S, R⟩ := id C.made
  refine wpAny_Call_Name_kw (ld_glob I hg C.mg ?_ hdb)
  exact PySem.W.callWith_K0 I.kIn C1.ox.kC (run_mkX (us := []) C hr hx I .nil rfl h)
end
end Mi
/-! MxC: try .. except X as e, e a thing that is tracked from then on; isinstance and fields of it. -/
namespace Mi
open PySem L2 PySem.Spec PyProof.Rows PySem.W
section
variable {X : Cx} {pins pn' : List (Addr × Obj)} {σ : L2.St} {H : Hp} {s : Shared} {a : Addr}
theorem Inv.toSuite (I : Inv X pins σ H s) (a : Addr) : Inv (X.suite a (X.pn ++ pins)) [] σ H s :=
  ⟨I.ok.suite _ _, I.os, I.bare, I.base, I.loc, I.cell, I.free, I.freeC, fun p hp => I.pin p (by rw [List.append_nil] at hp; exact hp), I.hok, I.len⟩
theorem Inv.ofSuite (I : Inv (X.suite a (X.pn ++ pins)) pn' σ H s) (ok : X.Ok) : Inv X pins σ H s :=
  ⟨ok, I.os, I.bare, I.base, I.loc, I.cell, I.free, I.freeC, fun p hp => I.pin p (List.mem_append_left _ hp), I.hok, I.len⟩
end
/-- what the clauses wish of an exception of the body, one after the other; i: the slot of the clause's name -/
def wV (K : Frag) (Wout : WX) (D : Ends) : List (Value × Nat × TS) → WX
  | [] => Wout
  | (c, i, ts) :: r => fun cls d σ H => ∃ b, PySem.W.exmOne K cls c = some b ∧
      (b = true → ∀ a, H a = none → ts { nx := fun σ' H' => D.nx (σ'.set i none) H', rt := D.rt, bk := fun σ' H' => D.bk (σ'.set i none) H', ct := fun σ' H' => D.ct (σ'.set i none) H' } (σ.set i (some (.ref a))) (upd H a (ExV cls d a))) ∧ (b = false → wV K Wout D r cls d σ H)
inductive HdsV (X : Cx) : List ExceptHandler → List (Value × Nat × TS) → Prop
  | nil : HdsV X [] []
  | cons {x n : Str} {c : Value} {i : Nat} {ts : TS} {b₀ : Stmt} {suite : List Stmt} {np pos' : Pos} {hds : List ExceptHandler} {l : List (Value × Nat × TS)} (hc : L2.Names X x c) (hi : X.N[i]? = some n) (hln : X.env.kindOf n = some .local)
      (hsu : ∀ (a : Addr) (pn : List (Addr × Obj)), PSs (X.suite a pn) (b₀ :: suite) ts) (r : HdsV X hds l) : HdsV X (.ExceptHandler (some (.Name x np)) (some n) (b₀ :: suite) pos' :: hds) ((c, i, ts) :: l)
section
variable {X : Cx} {body : List Stmt} {h₀ : ExceptHandler} {hds : List ExceptHandler} {l : List (Value × Nat × TS)} {pos : Pos} {tb : WX → TS} {Wout : WX}
theorem ps_tryV (hs : X.stack = X.env :: X.outer) (hf : X.env.frame = some X.env.locals) (hex : X.ex = []) (hN : X.N.Nodup) (tk : Takes X Wout)
    (hb : ∀ (W : WX) (pn : List (Addr × Obj)) (xe : Value → Shared → Prop), Takes (X.tr pn xe) W → PassesOwn (model X.prog X.w) X.A X.env xe → PSs (X.tr pn xe) body (tb W))
    (hh : HdsV X (h₀ :: hds) l) : PS X (.Try body (h₀ :: hds) [] [] pos) (fun D σ H => tb (wV X.K Wout D l) D σ H) := by
  refine ⟨fun pins s σ H D I h => ?_⟩
  have ok := I.ok
  have hfr : X.A.frames = some (X.env :: X.outer) := by rw [ok.frames, hs]
  refine wpAny_Try_except ?_
  refine wpAny_mono ((hb (wV X.K Wout D l) (X.pn ++ pins) (fun e s₁ => wpAny (model X.prog X.w) X.A (noteFrame e X.env) (fun _ s₂ => wpAny (model X.prog X.w) X.A (setFlight e none) (fun _ s₃ =>
    wpAny (model X.prog X.w) X.A (handleBy e X.env (h₀ :: hds)) (SP X pins D) X.xe s₃) X.xe s₂) X.xe s₁) (fun u s' xx => ?_) PassesOwn.looking).run [] s σ H D (I.toTry _) h) (fun f s1 hsp => ?_) (fun e s1 he => he)
  · -- the catch
    obtain ⟨a, B, sI, pins', σ', H', cls, d, rfl, J', nb, up, sky, na, os, ag, w⟩ := xx
    have J : Inv X pins σ' H' sI := J'.ofTry ok
    have sky' : Sky B (X.env :: X.outer) a (Zc cls d) X.env.locals s'.heap := by rw [← hs]; exact sky
    have bn : B.get? a = none := by
      rcases sky' with ⟨_, q, _⟩ | fl | hd
      · exact q
      · exact fl.2.1
      · exact hd.2.1
    show wpAny (model X.prog X.w) X.A (noteFrame (.ref a) X.env) _ _ _
    refine Sky.land Zc.steady hfr hf sky' fun h3 fl3 up3 => ?_
    have J3 : Inv X pins σ' H' { s' with heap := h3 } := J.landed nb fl3.1 (up.trans up3) os ag
    obtain ⟨oe3, vs3, he3, hz3, hd3⟩ := fl3.there
    have notFr : ∀ {h : Heap} {o : Obj} {vs : Array Value}, h.FunFrames B (X.env :: X.outer) → h.get? a = some o → o.data = .fields vs → a ∉ frs (X.env :: X.outer) := fun {h o vs} ff e dd hm => by
      obtain ⟨_, o', e', hnf⟩ := ff.mem hm
      rw [e] at e'; cases e'
      exact hnf _ dd
    have nfr := notFr fl3.2.2.1 he3 hd3
    have sIn : sI.heap.get? a = none := by
      cases e : sI.heap.get? a with
      | none => rfl
      | some o =>
        have q := nb a o e (by rw [hs]; exact nfr)
        rw [bn] at q; cases q
    have O : Outer X pins a := outer_of J sIn hex
    have nL := O.nL
    have nF : a ∉ X.fs := fun hm => by
      obtain ⟨e, he, q⟩ := List.mem_filterMap.mp hm
      exact nfr (List.mem_filterMap.mpr ⟨e, List.mem_cons_of_mem _ he, q⟩)
    have S3 := J3.suite he3 hd3 na nL nF
    have go : ∀ {hds' : List ExceptHandler} {l' : List (Value × Nat × TS)}, HdsV X hds' l' → wV X.K Wout D l' cls d σ' H' →
        wpAny (model X.prog X.w) X.A (handleBy (.ref a) X.env hds') (SP X pins D) X.xe { s' with heap := h3 } := by
      intro hds' l' hk
      induction hk with
      | nil =>
        intro w
        refine wpAny_handleBy_nil ?_
        obtain ⟨k1, k2, k3, oe, vs, T, oT, ts', he, hz, hd, h1, hr⟩ := id fl3
        unfold PySem.passOn
        refine wpAny_bind (wpAny_field he hd h1 ?_)
        rw [if_neg (show ¬ ((Value.ref T == Value.none) = true) from by simp)]
        have fin : wpAny (model X.prog X.w) X.A (setFlight (.ref a) X.env.frame) (fun _ s4 => wpAny (model X.prog X.w) X.A (throw (.ref a) : Sem Flow) (SP X pins D) X.xe s4) X.xe { s' with heap := h3 } := by
          rw [hf]
          refine HandSPX.setFlight_upZ fl3 fun h4 hh4 up4 => wpAny_throw (tk _ _ ?_)
          exact ⟨a, B, sI, pins, σ', H', cls, d, rfl, J, nb, (up.trans up3).trans up4, .inr (.inr (by rw [hs]; exact hh4)), na, os, ag, w⟩
        first
          | exact wpAny_bind (wpAny_pure (wpAny_bind fin))
          | exact wpAny_bind fin
      | @cons x n c i ts b₀ suite np pos' hds2 l2 hc hi hln hsu r ih =>
        intro w
        obtain ⟨b, hb1, hyes, hno⟩ := w
        refine wpAny_handleBy_cons (codeAny_handlers_test ?_) (by intro q; cases q)
        have LT : PySem.W.Looks (model X.prog X.w) h3 (typeOf (.ref a)) cls := fun A Q E s k q => wpAny_typeOf_ref (k _ _ he3) (by rw [hz3.1]; exact q)
        have LM := PySem.W.exm_one (M := model X.prog X.w) (J3.kIn) LT hb1
        have test : ∀ {Q : Value → Shared → Prop} {E : Value → Shared → Prop}, Q c { s' with heap := h3 } → wpAny (model X.prog X.w) (X.A.mark (some (.ref a))) (eval (.Name x np) X.env) Q E { s' with heap := h3 } := fun {Q E} q => by
          obtain ⟨hg, hdbg, hm | ⟨hm, hv, hnn⟩⟩ := hc
          · exact ld_glob (X := X.suite a ((a, oe3) :: (X.pn ++ pins))) S3 hg hm q hdbg
          · exact ld_blt (X := X.suite a ((a, oe3) :: (X.pn ++ pins))) S3 hg hm hv q hnn hdbg
        refine test (LM.here ?_)
        cases b with
        | true =>
          refine codeAny_handlers_suite_as ?_
          refine HandSPX.lands_againZ fl3 fun h4 fl4 up4 => ?_
          have J4 : Inv X pins σ' H' { s' with heap := h4 } := J.landed nb fl4.1 ((up.trans up3).trans up4) os ag
          obtain ⟨oe4, vs4, he4, hz4, hd4⟩ := fl4.there
          have J5 : Inv X pins σ' (upd H' a (ExV cls d a)) { s' with heap := h4 } := Inv.track J4 O na (exv_ok he4 hz4.1 hz4.2 hd4)
          have S4 := Inv.toSuite J5 a
          refine store_ok (X := X.suite a (X.pn ++ pins)) (v := .ref a) S4 hN hi (.inl hln) rfl (fun s5 S5 => ?_) (.inr hln)
          refine wpAny_mono ((hsu a (X.pn ++ pins)).run [] s5 _ _ _ S5 (hyes rfl a na)) (fun f s6 hsp => ?_) (fun _ _ z => False.elim z)
          have end_ : ∀ {σ6 : L2.St} {H6 : Hp} {Q : Shared → Prop}, Inv (X.suite a (X.pn ++ pins)) [] σ6 H6 s6 → (∀ s7, Inv X pins (σ6.set i none) H6 s7 → Q s7) →
              wpAny (model X.prog X.w) X.A (do bindName X.env n .none; unbindBehindTheSuite X.env n pos') (fun _ s7 => Q s7) X.xe s6 := fun {σ6 H6 Q} S6 hq => gone_ok (Inv.ofSuite S6 ok) hN hi hln hq
          cases f with
          | next =>
            obtain ⟨σ6, H6, S6, q6⟩ := hsp
            exact end_ S6 fun s7 J7 => ⟨_, _, J7, q6⟩
          | brk =>
            obtain ⟨σ6, H6, S6, q6⟩ := hsp
            exact end_ S6 fun s7 J7 => ⟨_, _, J7, q6⟩
          | cont =>
            obtain ⟨σ6, H6, S6, q6⟩ := hsp
            exact end_ S6 fun s7 J7 => ⟨_, _, J7, q6⟩
          | ret u =>
            obtain ⟨v6, σ6, H6, S6, r6, q6⟩ := hsp
            exact end_ S6 fun s7 J7 => ⟨_, _, _, J7, r6, q6⟩
        | false =>
          show wpAny _ X.A (handleBy (.ref a) X.env hds2) _ _ _
          exact ih (hno rfl)
    exact go hh w
  · cases f with
    | next =>
      obtain ⟨σ', H', J', q⟩ := hsp
      exact wpAny_execs_nil ⟨σ', H', J'.ofTry ok, q⟩
    | brk =>
      obtain ⟨σ', H', J', q⟩ := hsp
      exact ⟨σ', H', J'.ofTry ok, q⟩
    | cont =>
      obtain ⟨σ', H', J', q⟩ := hsp
      exact ⟨σ', H', J'.ofTry ok, q⟩
    | ret u =>
      obtain ⟨v, σ', H', J', r, q⟩ := hsp
      exact ⟨v, σ', H', J'.ofTry ok, r, q⟩
end
/-! ### isinstance and fields -/
section
variable {K : Frag} {x D : Addr} {ox : Obj}
theorem findObj_data' {C : Addr} {od : Option Obj} {name : Str} {a g : Value} (hc : (clsIn K C).isSome = true) (ha : findIn K (.ref C) name = some (some a)) (hg : specialIn K a "__get__" = some (some g)) (ht : takesIn K a = some true) : findObj K C od name = some (.bind g a) := by
  obtain ⟨cd, hc⟩ := Option.isSome_iff_exists.mp hc
  unfold findObj
  rw [hc, Option.bind_some, ha, Option.bind_some]
  simp [hg, ht]
theorem kitx_excV (C : ExcC K D) (od : Option Obj) : KitX K (.ref x) (.ref D) (fun h => InstAt h x ox D od) where
  ty := fun _ _ _ I => I.type
  it := fun _ _ X _ => by
    obtain ⟨cdD, hcD, _⟩ := any_some C.hd
    unfold clsIn at hcD
    split at hcD
    · rename_i c' d' cd' sl' ho
      intro A' Q' E' s' k q
      unfold isType loadHead
      exact wpAny_bind (wpAny_loadPart (k _ _ (X _ _ ho)) (wpAny_pure q))
    · cases hcD
  ne := fun h tp dd its n sl X htp => by
    obtain ⟨cdD, hcD, _⟩ := any_some C.hd
    refine Bool.eq_false_iff.mpr fun q => ?_
    have e : D = tp := Value.ref.inj (beq_iff_eq.mp q)
    subst e
    unfold clsIn at hcD
    split at hcD
    · rename_i c' d' cd' sl' ho
      have z := (X _ _ ho).symm.trans htp
      cases z
    · cases hcD
  ca := fun {prog w A E Q s} X I h => by
    have hf : findObj K D od "__class__" = some (.bind (.builtin "getset_descriptor.__get__") (.builtin "object.__class__")) := findObj_data' (by obtain ⟨cd, hc, _⟩ := any_some C.hd; rw [hc]; rfl) C.ha C.hn C.ht
    obtain ⟨hp, g, d, t, os⟩ := s
    have L0 := I.type (M := model prog w)
    have L1 := looks_findIn (M := model prog w) X C.hg
    have L2 := looks_findIn (M := model prog w) X C.hk
    have L3 := looks_find (M := model prog w) X I hf
    have sub : Looks (model prog w) hp (isInstance (.ref x) (.type "BaseException")) true := L0.andThen (looks_subIn X C.hs)
    have hx0 : (false && onTheHeap (Value.builtin "BaseException.__getattribute__")) = false := rfl
    have hx2 : (Value.builtin "BaseException.__getattribute__" == Value.builtin "object.__getattribute__") = false := by decide +kernel
    have hx1 : (onTheHeap (Value.ref D) && Value.builtin "BaseException.__getattribute__" == Value.builtin "object.__getattribute__") = false := by rw [hx2]; rfl
    unfold getAttr? getAttrBy? getAttrBy
    refine wpAny_bind (wpAny_mkText (wpAny_bind (wpAny_attempt (wpAny_holding (wpAny_bind (L0.at (wpAny_bind (L1.at ?_))))))))
    show wpAny _ _ (if (onTheHeap (Value.ref D) && Value.builtin "BaseException.__getattribute__" == Value.builtin "object.__getattribute__") = true then _ else _) _ _ _
    rw [hx1, if_neg Bool.false_ne_true]
    unfold getAttrByItsOwn hookBefore
    refine wpAny_bind ?_
    rw [if_pos (show onTheHeap (Value.ref D) = true from rfl)]
    refine L2.at ?_
    refine wpAny_bind (wpAny_attempt (wpAny_holding ?_))
    unfold callGetattribute
    rw [hx0, if_neg Bool.false_ne_true]
    unfold boundAndCalled
    rw [PySem.F.excAttr_ValueError.ga.bind (.ref x)]
    refine wpAny_bind (wpAny_pure ?_)
    show wpAny _ _ (call (.builtin "BaseException.__getattribute__") [.ref x, .str "__class__" t]) _ _ _
    refine wpAny_call (codeAny_call_builtin PySem.F.excAttr_ValueError.ga.plain PySem.F.entry_bexc_ga ?_)
    refine @check_slot (model prog w) _ _ ⟨hp, g, d, t + 1, os⟩ "BaseException.__getattribute__" "BaseException" "__getattribute__" (.ref x) [.str "__class__" t] [] _ (by decide +kernel) (by decide +kernel) sub (PySem.F.args_bexc_ga (.ref x) (.str "__class__" t)) ?_
    unfold Builtin.«object.__getattribute__»
    refine wpAny_bind (wpAny_of_eq (a := ((Value.ref x : Value), [Value.str "__class__" t])) (by first | rfl | (simp only [slotArgs]; rfl)) ?_)
    refine wpAny_bind (wpAny_pure (wpAny_bind (L0.at (wpAny_bind (L3.at ?_)))))
    show wpAny _ _ (holding [Value.builtin "object.__class__"] (call (.builtin "getset_descriptor.__get__") [.builtin "object.__class__", .ref x, .ref D]) >>= ret) _ _ _
    refine wpAny_bind (wpAny_holding (wpAny_call (class_get (s := ⟨hp, g, d, t + 1, os⟩) (ox := ox) (od := od) X I C.hm ?_)))
    refine wpAny_pure ?_
    show wpAny _ _ (handedOut (.ref D)) _ _ _
    rw [handedOut_of (v := .ref D) rfl]
    first
      | exact wpAny_pure (wpAny_pure h)
      | exact wpAny_pure h
      | exact wpAny_pure (wpAny_bind (wpAny_pure (wpAny_pure h)))
end
/-- the exception's object, and its dict's -/
theorem exv_inst {P : Program} {w : World} {H : Hp} {h : Heap} {a D : Addr} {d : Option Addr} (hok : HOk P w H h) (e : H a = some (ExV (.ref D) d a)) (hd : ∀ dx, d = some dx → ∃ fs, H dx = some (.xd fs)) : ∃ oe od, InstAt h a oe D od := by
  obtain ⟨oe, vs, he, hc, hdc, hdt⟩ := exv_at hok e
  cases d with
  | none => exact ⟨oe, none, he, hc, by unfold notCls; rw [hdt] <;> rfl, by rw [hdc]; trivial⟩
  | some dx =>
    obtain ⟨fs, hx⟩ := hd dx rfl
    obtain ⟨mA, hns, hr⟩ := (show ObjOk P w H h dx (.xd fs) from hok dx _ hx)
    obtain ⟨od, ho, hl⟩ := lookIn_ns hns
    exact ⟨oe, some od, he, hc, by unfold notCls; rw [hdt] <;> rfl, by rw [hdc]; exact ho⟩
/-- isinstance(e, c), e an exception -/
def rIsV (K : Frag) : List V → Hp → VK → Prop := fun xs H Q => ∃ (a D : Addr) (d : Option Addr) (c : V) (cv : Value) (b : Bool), xs = [.ref a, c] ∧ H a = some (ExV (.ref D) d a) ∧ (∀ dx, d = some dx → ∃ fs, H dx = some (.xd fs)) ∧ ExcC K D ∧ (∀ u, RelV c u → u = cv) ∧ kitOne K (.ref D) cv = some b ∧ Q (.bl b) H
theorem call_isV {X : Cx} : CallR X (.builtin "isinstance") (rIsV X.K) := by
  intro pins s σ H xs us Q I r h
  obtain ⟨a, D, d, c, cv, b, rfl, ea, hd, C, hcv, e, q⟩ := h
  cases r with
  | cons rx rr =>
    cases rr with
    | cons rt rr =>
      cases rr
      cases rx
      have ec := hcv _ rt
      subst ec
      obtain ⟨oe, od, J⟩ := exv_inst I.hok ea hd
      exact kia_one (kitx_excV C od) I.kIn J e (fun z => nomatch z) fun tk => ⟨.bl b, H, I.kept (t' := tk) fun _ _ z => z, rfl, q⟩
/-- isinstance(e, (c, ..)) -/
def rIsVT (K : Frag) : List V → Hp → VK → Prop := fun xs H Q => ∃ (a D : Addr) (d : Option Addr) (t : Addr) (cs : List V) (b : Bool), xs = [.ref a, .ref t] ∧ H a = some (ExV (.ref D) d a) ∧ (∀ dx, d = some dx → ∃ fs, H dx = some (.xd fs)) ∧ ExcC K D ∧ SqT K H t cs ∧ (∀ us, Vals cs us → kitAny K (.ref D) us = some b) ∧ Q (.bl b) H
theorem call_isVT {X : Cx} : CallR X (.builtin "isinstance") (rIsVT X.K) := by
  intro pins s σ H xs us Q I r h
  obtain ⟨a, D, d, t, cs, b, rfl, ea, hd, C, ht, e, q⟩ := h
  cases r with
  | cons rx rr =>
    cases rr with
    | cons rt rr =>
      cases rr
      cases rx
      cases rt
      obtain ⟨its, rv, ⟨o, ho, hc, n, hdt⟩, _⟩ := I.tuple ht
      obtain ⟨oe, od, J⟩ := exv_inst I.hok ea hd
      obtain ⟨oc, odd, odt, osl⟩ := o
      dsimp only at hc hdt
      subst hc hdt
      exact kia_tup (its := its) (kitx_excV C od) I.kIn J ho (e its rv) (fun z => nomatch z) fun tk => ⟨.bl b, H, I.kept (t' := tk) fun _ _ z => z, rfl, q⟩
/-- e.f, e an exception -/
def tXfV (K : Frag) (f : Str) (te : TE) : TE := fun σ H Q => te σ H fun x H1 => ∃ (a C dd : Addr) (fs : List (Str × V)) (v : V), x = .ref a ∧ XfC K C ∧ PySem.W.findIn K (.ref C) f = some none ∧ H1 a = some (ExV (.ref C) (some dd) a) ∧ H1 dd = some (.xd fs) ∧ fs.lookup f = some v ∧ Q v H1
theorem pe_xfV {X : Cx} {e : Expr} {te : TE} {pos : Pos} {n : Str} (he : PE X e te) (hb : attributeBase e n X.env (eval e X.env) = eval e X.env := by rfl) : PE X (.Attribute e n pos) (tXfV X.K n te) := by
  refine ⟨fun pins s σ H Q I h => ?_⟩
  refine attr_of hb (thn (he.run pins s σ H _ I h) fun u s1 hh => ?_)
  obtain ⟨x, H1, I1, rx, a, C, dd, fs, v, ex, T, hno, ea, ed, l, q⟩ := hh
  subst ex
  obtain rfl : u = Value.ref a := rx
  obtain ⟨oe, vs, hea, hc, hdc, hdt⟩ := exv_at I1.hok ea
  obtain ⟨mA, hns, hr⟩ := (show ObjOk X.prog X.w H1 s1.heap dd (.xd fs) from I1.hok dd _ ed)
  obtain ⟨od, ho, hl⟩ := lookIn_ns hns
  obtain ⟨u, hu, ru⟩ := RelO.some_of (v := v) (o := mA n) (by rw [← l]; exact hr n)
  have J : PySem.W.InstAt s1.heap a oe C (some od) := ⟨hea, hc, by unfold PySem.W.notCls; rw [hdt] <;> rfl, by rw [hdc]; exact ho⟩
  exact HandSPX.exc_get I1.kIn J T.ga T.gg T.exC (PySem.W.findObj_own T.hdC hno rfl (by rw [hl, hu])) (handed_of ru) ⟨v, H1, I1.tok _, ru, q⟩
end Mi
/-! MxD: mirrors that may end in an exception. -/
namespace Mi
open PySem L2 PySem.Spec PyProof.Rows PySem.W
inductive XR (α : Type) where
  | ok (a : α)
  | ex (c : Str) (fs : List (Str × D))
abbrev MX (α : Type) := En → Store → Option (XR α × Store)
abbrev StX := En → Store → Option (XR Out × En × Store)
abbrev FnX := List Slot → Store → Option (XR Res × Store)
/-- the classes of exceptions: which stands under which -/
def exNames : List Str := ["NoNet", "NoHand", "NoParting", "NoNumber", "NoProgram", "NoBeats", "Fallen", "NoLetter", "TooLong", "NoText"]
def exSub (c t : Str) : Option Bool := if c ∈ exNames then if t = "BeatError" then some true else if t ∈ exNames then some (decide (c = t)) else none else none
/-- an exception in the air -/
def XAt (K : Frag) (S : Trk) (H : Hp) (cls : Value) (d : Option Addr) (c : Str) (fs : List (Str × D)) : Prop :=
  cls = .ref (He.ga K c) ∧ ((d = none ∧ fs = []) ∨ ∃ dd vs, d = some dd ∧ ¬ S dd ∧ H dd = some (.xd vs) ∧ RepF K S H vs fs)
theorem XAt.carry {K : Frag} {S S' : Trk} {H H' : Hp} {cls : Value} {d : Option Addr} {c : Str} {fs : List (Str × D)} (h : XAt K S H cls d c fs) (cr : Carry S H S' H') : XAt K S' H' cls d c fs := by
  obtain ⟨h1, h2 | ⟨dd, vs, e, n, hd, r⟩⟩ := h
  · exact ⟨h1, .inl h2⟩
  · exact ⟨h1, .inr ⟨dd, vs, e, cr.out _ _ hd n, cr.keep _ _ hd n, r.carry cr⟩⟩
section
variable (md : Bool) (K : Frag)
def tEX (W : WX) (m : MX Slot) : TE := fun σ H Q => ∃ S L env st r st', Sim md K S L H st ∧ Slots K S L H σ env ∧ m env st = some (r, st') ∧ match r with
  | .ok s => ∀ v S' L' H', Ext S L H S' L' H' → Sim md K S' L' H' st' → SlotV K S' L' H' v s → Q v H'
  | .ex c fs => ∀ cls d S' L' H', Ext S L H S' L' H' → Sim md K S' L' H' st' → XAt K S' H' cls d c fs → W cls d σ H'
def tTX (W : WX) (m : MX Bool) : TT := fun σ H Q => ∃ S L env st r st', Sim md K S L H st ∧ Slots K S L H σ env ∧ m env st = some (r, st') ∧ match r with
  | .ok b => ∀ S' L' H', Ext S L H S' L' H' → Sim md K S' L' H' st' → Q b H'
  | .ex c fs => ∀ cls d S' L' H', Ext S L H S' L' H' → Sim md K S' L' H' st' → XAt K S' H' cls d c fs → W cls d σ H'
def tSX (W : WX) (m : StX) : TS := fun D' σ H => ∃ S L env st r env' st', Sim md K S L H st ∧ Slots K S L H σ env ∧ m env st = some (r, env', st') ∧ match r with
  | .ok o => ∀ S' L' H', Ext S L H S' L' H' → Sim md K S' L' H' st' → Fin K D' S S' L' H' o env'
  | .ex c fs => ∀ cls d σ' S' L' H', Ext S L H S' L' H' → Sim md K S' L' H' st' → Slots K S' L' H' σ' env' → XAt K S' H' cls d c fs → W cls d σ' H'
end
def spX (K : Frag) (n : Nat) (f : FnX) : Sp := fun vs H Q E => ∃ md S L args st r st', Sim md K S L H st ∧ Paired (SlotV K S L H) vs args ∧ args.length = n ∧ f args st = some (r, st') ∧
  match r with
  | .ok (.val d) => ∀ v S' H', Ext S L H S' L H' → S'.nm = S.nm → Sim md K S' L H' st' → Rep K S' H' v d → Q v H'
  | .ok (.fresh d) => ∀ p S' H', Ext S L H S' L H' → S'.nm = S.nm → Sim md K S' L H' st' → ¬ S p → S' p → p ∉ L → At K S' H' p d → Q (.ref p) H'
  | .ex c fs => ∀ cls d S' H', Ext S L H S' L H' → S'.nm = S.nm → Sim md K S' L H' st' → XAt K S' H' cls d c fs → E cls d H'
/-! ### the mirror's words -/
def mOkX {α : Type} (m : M α) : MX α := fun env st => bindM (m env st) fun r => some (.ok r.1, r.2)
def mCallX (g : FnX) (ma : M (List Slot)) : MX Slot := fun env st => bindM (ma env st) fun r => bindM (g r.1 r.2) fun q => match q.1 with
  | .ok r => some (.ok (.im r.d), q.2)
  | .ex c fs => some (.ex c fs, q.2)
def mIfX (c : M Bool) (a b : MX Slot) : MX Slot := fun env st => bindM (c env st) fun r => if r.1 = true then a env r.2 else b env r.2
def mTruX (m : MX Slot) : MX Bool := fun env st => bindM (m env st) fun r => match r.1 with
  | .ok s => bindM (deref s r.2) fun d => bindM (truth d) fun b => some (.ok b, r.2)
  | .ex c fs => some (.ex c fs, r.2)
def mNotX (m : MX Bool) : MX Bool := fun env st => bindM (m env st) fun r => match r.1 with
  | .ok b => some (.ok (!b), r.2)
  | .ex c fs => some (.ex c fs, r.2)
def sOkX (m : StM) : StX := fun env st => bindM (m env st) fun r => some (.ok r.1, r.2.1, r.2.2)
def xSeq (a b : StX) : StX := fun env st => bindM (a env st) fun r => match r with
  | (.ok .nx, env', st') => b env' st'
  | (r, env', st') => some (r, env', st')
def xSet (i : Nat) (m : MX Slot) : StX := fun env st => bindM (m env st) fun r => match r.1 with
  | .ok s => some (.ok .nx, env.set i s, r.2)
  | .ex c fs => some (.ex c fs, env, r.2)
def xDrop (m : MX Slot) : StX := fun env st => bindM (m env st) fun r => match r.1 with
  | .ok s => some (.ok .nx, env, r.2)
  | .ex c fs => some (.ex c fs, env, r.2)
def xRet (m : MX Slot) : StX := fun env st => bindM (m env st) fun r => match r.1 with
  | .ok s => some (.ok (.rt s), env, r.2)
  | .ex c fs => some (.ex c fs, env, r.2)
def xIf (c : MX Bool) (a b : StX) : StX := fun env st => bindM (c env st) fun r => match r.1 with
  | .ok true => a env r.2
  | .ok false => b env r.2
  | .ex c fs => some (.ex c fs, env, r.2)
/-- the fields of C(..) -/
def exFs (fo : Option Str) (ss : List Slot) : Option (List (Str × D)) := match fo, ss with
  | none, [] => some []
  | some fn, [.im d] => some [(fn, d)]
  | _, _ => none
def xRaise (c : Str) (fo : Option Str) (ma : M (List Slot)) : StX := fun env st => bindM (ma env st) fun r => bindM (exFs fo r.1) fun fs => some (.ex c fs, env, r.2)
def mMkV (c : Str) (fo : Option Str) (ma : M (List Slot)) : M Slot := fun env st => bindM (ma env st) fun r => bindM (exFs fo r.1) fun fs => some (.im (.exc c fs), r.2)
/-- the clauses: the class's name, the slot, the suite -/
def mClauses (c : Str) (fs : List (Str × D)) : List (Str × Nat × StM) → StM
  | [] => fun _ _ => none
  | (t, i, m) :: r => fun env st => bindM (exSub c t) fun b => if b = true then bindM (m (env.set i (.im (.exc c fs))) st) fun q => match q.1 with
      | .rtF _ => none
      | .rtN _ => none
      | .rt s => some (.rt s, q.2.1, q.2.2)
      | o => some (o, q.2.1.set i .no, q.2.2)
    else mClauses c fs r env st
def mTry (b : StX) (hs : List (Str × Nat × StM)) : StM := fun env st => bindM (b env st) fun r => match r with
  | (.ok o, env', st') => some (o, env', st')
  | (.ex c fs, env', st') => mClauses c fs hs env' st'
def mkFnX (N : Nat) (body : StX) : FnX := fun args st => bindM (body (args ++ List.replicate (N - args.length) .no) st) fun r => match r with
  | (.ok .nx, _, st') => some (.ok (.val .non), st'.take st.length)
  | (.ok (.rt (.im d)), _, st') => some (.ok (.val d), st'.take st.length)
  | (.ok (.rt (.pt k)), _, st') => if st.length ≤ k then bindM st'[k]? fun d => some (.ok (.fresh d), st'.take st.length) else none
  | (.ok (.rtF d), _, st') => some (.ok (.fresh d), st'.take st.length)
  | (.ok (.rtN ss), _, st') => bindM (frzN st.length ss st') fun ds => some (.ok (.fresh (.lst ds)), st'.take st.length)
  | (.ex c fs, _, st') => some (.ex c fs, st'.take st.length)
  | _ => none
/-! ### expressions -/
section
variable {X : Cx} {W : WX} {e a b c : Expr} {es : List Expr} {pos p : Pos} {m ma mb : MX Slot} {mc : MX Bool} {n k : Nat} {x : Str}
theorem x_lift {m : M Slot} (h : PE X e (tE md X.K m)) : PE X e (tEX md X.K W (mOkX m)) := by
  refine pe_weak h ?_
  rintro σ H Q ⟨S, L, env, st, r, st', sm, sl, e, k⟩
  obtain ⟨⟨s1, st1⟩, e1, e⟩ := bindM_some e
  cases e
  exact ⟨S, L, env, st, s1, _, sm, sl, e1, k⟩
theorem xt_lift {m : M Bool} (h : PT X e (tT md X.K m)) : PT X e (tTX md X.K W (mOkX m)) := by
  refine pt_weak h ?_
  rintro σ H Q ⟨S, L, env, st, r, st', sm, sl, e, k⟩
  obtain ⟨⟨s1, st1⟩, e1, e⟩ := bindM_some e
  cases e
  exact ⟨S, L, env, st, s1, _, sm, sl, e1, k⟩
theorem callX_read {g : FnX} {m : M (List Slot)} {σ : L2.St} {H : Hp} {Q : VK} (h : tEX md X.K W (mCallX g m) σ H Q) (hn : ∀ env st r, m env st = some r → r.1.length = n) : tCallS (spX X.K n g) (WE W) (tA md X.K m) σ H Q := by
  obtain ⟨S, L, env, st, s, st', sm, sl, e, k⟩ := h
  obtain ⟨⟨ss, st1⟩, e1, e⟩ := bindM_some e
  obtain ⟨⟨r, st2⟩, e2, e⟩ := bindM_some e
  refine ⟨S, L, env, st, ss, st1, sm, sl, e1, fun vs S1 L1 H1 x1 sm1 r1 => ?_⟩
  refine ⟨md, S1, L1, ss, st1, r, _, sm1, r1, hn _ _ _ e1, e2, ?_⟩
  cases r with
  | ok r =>
    cases e
    cases r with
    | val d => exact fun v S2 H2 x2 _ sm2 r2 => k v S2 L1 H2 (x1.trans sm.sub x2) sm2 (.im r2)
    | fresh d =>
      intro p S2 H2 x2 _ sm2 n i c hat
      obtain ⟨x3, sm3, r3⟩ := plain_of x2 sm2 n c hat
      exact k _ _ L1 H2 (x1.trans sm.sub x3) sm3 (.im r3)
  | ex c fs =>
    cases e
    exact fun cls d S2 H2 x2 _ sm2 xa => k cls d S2 L1 H2 (x1.trans sm.sub x2) sm2 xa
/-- a promise of a def that may raise, by its name -/
def PromX (P : Program) (w : World) (K : PySem.W.Frag) (mg : Str → Option Value) (base : Heap) (x : Str) (k n : Nat) (g : FnX) : Prop :=
  ∃ (f : Addr) (fd : FuncData) (ps : List Str), FnOk P w K mg base (L2.CX P w) k f fd ps (spX K n g) ∧ mg x = some (.ref f) ∧ PySem.W.keepIn K (.ref f) = true ∧ Binds K fd ps []
theorem x_call {g : FnX} {m : M (List Slot)} (tk : Takes X W) (h : PromX X.prog X.w X.K X.mg X.base x k n g) (hr : Room k X.A) (ha : PA X (e :: es) (tA md X.K m)) (hn : ∀ env st r, m env st = some r → r.1.length = n) (hg : Gl X x := by rfl) (hdb : (x == ("__debug__" : Str)) = false := by decide)
    (he : starEach (e :: es) X.env = (false, eval e X.env) :: starEach es X.env := by rfl) (hpl : (backTo pos (starEach es X.env)).any (·.1) = false := by rfl) : PE X (.Call (.Name x p) (e :: es) [] pos) (tEX md X.K W (mCallX g m)) := by
  obtain ⟨f, fd, ps, F, hm, hk, hb⟩ := h
  exact pe_weak (pe_callS F hr hg hm hk hb (passAt tk) ha hdb he hpl) fun _ _ _ h => callX_read h hn
theorem x_ite {mc : M Bool} (hc : PT X c (tT md X.K mc)) (ha : PE X a (tEX md X.K W ma)) (hb : PE X b (tEX md X.K W mb)) : PE X (.IfExp c a b pos) (tEX md X.K W (mIfX mc ma mb)) := by
  refine pe_weak (pe_ifExp hc ha hb) ?_
  rintro σ H Q ⟨S, L, env, st, r, st', sm, sl, e, k⟩
  obtain ⟨⟨s1, st1⟩, e1, e⟩ := bindM_some e
  refine ⟨S, L, env, st, s1, st1, sm, sl, e1, fun S1 L1 H1 x1 sm1 => ?_⟩
  cases s1 with
  | true =>
    refine ⟨S1, L1, env, st1, r, st', sm1, sl.ext sm.sub x1, e, ?_⟩
    cases r with
    | ok s => exact fun v S2 L2 H2 x2 sm2 r2 => k v S2 L2 H2 (x1.trans sm.sub x2) sm2 r2
    | ex c fs => exact fun cls d S2 L2 H2 x2 sm2 r2 => k cls d S2 L2 H2 (x1.trans sm.sub x2) sm2 r2
  | false =>
    refine ⟨S1, L1, env, st1, r, st', sm1, sl.ext sm.sub x1, e, ?_⟩
    cases r with
    | ok s => exact fun v S2 L2 H2 x2 sm2 r2 => k v S2 L2 H2 (x1.trans sm.sub x2) sm2 r2
    | ex c fs => exact fun cls d S2 L2 H2 x2 sm2 r2 => k cls d S2 L2 H2 (x1.trans sm.sub x2) sm2 r2
theorem xt_tru (h : PE X e (tEX md X.K W m)) (he : ∀ whole, isTrue e X.env whole = (do let v ← whole; standAt e.pos; holding [v] (truthy v)) := by intro _; rfl) : PT X e (tTX md X.K W (mTruX m)) := by
  refine pt_weak (pt_truth h he) ?_
  rintro σ H Q ⟨S, L, env, st, s, st', sm, sl, e, k⟩
  obtain ⟨⟨s1, st1⟩, e1, e⟩ := bindM_some e
  cases s1 with
  | ok s1 =>
    obtain ⟨d, f1, e⟩ := bindM_some e
    obtain ⟨b, f2, e⟩ := bindM_some e
    cases e
    exact ⟨S, L, env, st, .ok s1, st1, sm, sl, e1, fun v S1 L1 H1 x1 sm1 r1 => ⟨_, tru_of (r1.shp sm1 f1) f2, k S1 L1 H1 x1 sm1⟩⟩
  | ex c fs =>
    cases e
    exact ⟨S, L, env, st, .ex c fs, st1, sm, sl, e1, k⟩
theorem xt_not (h : PT X a (tTX md X.K W mc)) : PT X (.UnaryOp .Not a pos) (tTX md X.K W (mNotX mc)) := by
  refine pt_weak (pt_not h) ?_
  rintro σ H Q ⟨S, L, env, st, s, st', sm, sl, e, k⟩
  obtain ⟨⟨s1, st1⟩, e1, e⟩ := bindM_some e
  cases s1 with
  | ok s1 =>
    cases e
    exact ⟨S, L, env, st, .ok s1, _, sm, sl, e1, fun S1 L1 H1 x1 sm1 => k S1 L1 H1 x1 sm1⟩
  | ex c fs =>
    cases e
    exact ⟨S, L, env, st, .ex c fs, _, sm, sl, e1, k⟩
end
/-! ### statements -/
section
variable {X : Cx} {W : WX} {st : Stmt} {rest : List Stmt} {e : Expr} {es : List Expr} {pos p : Pos} {a b : StX} {m : MX Slot} {mc : MX Bool} {k : Nat}
theorem sx_lift {m : StM} (h : PS X st (tS md X.K m)) : PS X st (tSX md X.K W (sOkX m)) := by
  refine ps_weak h ?_
  rintro D' σ H ⟨S, L, env, st, r, env', st', sm, sl, e, k⟩
  obtain ⟨⟨o, env1, st1⟩, e1, e⟩ := bindM_some e
  cases e
  exact ⟨S, L, env, st, o, _, _, sm, sl, e1, k⟩
theorem sxs_lift {m : StM} {l : List Stmt} (h : PSs X l (tS md X.K m)) : PSs X l (tSX md X.K W (sOkX m)) := by
  refine pss_weak h ?_
  rintro D' σ H ⟨S, L, env, st, r, env', st', sm, sl, e, k⟩
  obtain ⟨⟨o, env1, st1⟩, e1, e⟩ := bindM_some e
  cases e
  exact ⟨S, L, env, st, o, _, _, sm, sl, e1, k⟩
theorem sx_one (h1 : PS X st (tSX md X.K W a)) : PSs X [st] (tSX md X.K W a) := pss_one h1
theorem sx_cons (h1 : PS X st (tSX md X.K W a)) (h2 : PSs X rest (tSX md X.K W b)) : PSs X (st :: rest) (tSX md X.K W (xSeq a b)) := by
  refine pss_weak (pss_cons h1 h2) ?_
  rintro D' σ H ⟨S, L, env, st, r, env', st', sm, sl, e, k⟩
  obtain ⟨⟨r1, env1, st1⟩, e1, e⟩ := bindM_some e
  refine ⟨S, L, env, st, r1, env1, st1, sm, sl, e1, ?_⟩
  cases r1 with
  | ok o1 =>
    cases o1 with
    | nx =>
      intro S1 L1 H1 x1 sm1 σ1 sl1
      refine ⟨S1, L1, env1, st1, r, env', st', sm1, sl1, e, ?_⟩
      cases r with
      | ok o => exact fun S2 L2 H2 x2 sm2 => (k S2 L2 H2 (x1.trans sm.sub x2) sm2).less x1.up
      | ex c fs => exact fun cls d σ' S2 L2 H2 x2 sm2 sl2 xa => k cls d σ' S2 L2 H2 (x1.trans sm.sub x2) sm2 sl2 xa
    | bk => cases e; exact fun S1 L1 H1 x1 sm1 => (k S1 L1 H1 x1 sm1).seqX (fun z => nomatch z)
    | ct => cases e; exact fun S1 L1 H1 x1 sm1 => (k S1 L1 H1 x1 sm1).seqX (fun z => nomatch z)
    | rt s => cases e; exact fun S1 L1 H1 x1 sm1 => (k S1 L1 H1 x1 sm1).seqX (fun z => nomatch z)
    | rtF d => cases e; exact fun S1 L1 H1 x1 sm1 => (k S1 L1 H1 x1 sm1).seqX (fun z => nomatch z)
    | rtN d => cases e; exact fun S1 L1 H1 x1 sm1 => (k S1 L1 H1 x1 sm1).seqX (fun z => nomatch z)
  | ex c fs => cases e; exact k
theorem sx_set {i : Nat} {x : Str} {pos' : Pos} (hN : X.N.Nodup) (hi : X.N[i]? = some x) (hx : Loc X.env.scope x) (he : PE X e (tEX md X.K W m)) (hs : swapsWith e (some (.Name x pos')) pos.line X.env = pure false := by rfl)
    (hf : X.fn x = true ∨ X.env.scope.names.lookup x = some .local := by first | exact .inl rfl | exact .inr rfl | assumption) : PS X (.Assign [.Name x pos'] e pos) (tSX md X.K W (xSet i m)) := by
  refine ps_weak (ps_set hN hi hx he hs hf) ?_
  rintro D' σ H ⟨S, L, env, st, r, env', st', sm, sl, e, k⟩
  obtain ⟨⟨s1, st1⟩, e1, e⟩ := bindM_some e
  refine ⟨S, L, env, st, s1, st1, sm, sl, e1, ?_⟩
  cases s1 with
  | ok s1 => cases e; exact fun v S1 L1 H1 x1 sm1 r1 => k S1 L1 H1 x1 sm1 _ ((sl.ext sm.sub x1).set r1 i)
  | ex c fs => cases e; exact fun cls d S1 L1 H1 x1 sm1 xa => k cls d σ S1 L1 H1 x1 sm1 (sl.ext sm.sub x1) xa
theorem sx_drop (he : PE X e (tEX md X.K W m)) (hs : swapsWith e none pos.line X.env = pure false := by rfl) : PS X (.Expr e pos) (tSX md X.K W (xDrop m)) := by
  refine ps_weak (ps_expr he hs) ?_
  rintro D' σ H ⟨S, L, env, st, r, env', st', sm, sl, e, k⟩
  obtain ⟨⟨s1, st1⟩, e1, e⟩ := bindM_some e
  refine ⟨S, L, env, st, s1, st1, sm, sl, e1, ?_⟩
  cases s1 with
  | ok s1 => cases e; exact fun v S1 L1 H1 x1 sm1 r1 => k S1 L1 H1 x1 sm1 σ (sl.ext sm.sub x1)
  | ex c fs => cases e; exact fun cls d S1 L1 H1 x1 sm1 xa => k cls d σ S1 L1 H1 x1 sm1 (sl.ext sm.sub x1) xa
theorem sx_ret (he : PE X e (tEX md X.K W m)) : PS X (.Return (some e) pos) (tSX md X.K W (xRet m)) := by
  refine ps_weak (ps_ret he) ?_
  rintro D' σ H ⟨S, L, env, st, r, env', st', sm, sl, e, k⟩
  obtain ⟨⟨s1, st1⟩, e1, e⟩ := bindM_some e
  refine ⟨S, L, env, st, s1, st1, sm, sl, e1, ?_⟩
  cases s1 with
  | ok s1 => cases e; exact fun v S1 L1 H1 x1 sm1 r1 => k S1 L1 H1 x1 sm1 v r1
  | ex c fs => cases e; exact fun cls d S1 L1 H1 x1 sm1 xa => k cls d σ S1 L1 H1 x1 sm1 (sl.ext sm.sub x1) xa
theorem sx_if {c : Expr} {ba bb : List Stmt} (hc : PT X c (tTX md X.K W mc)) (ha : PSs X ba (tSX md X.K W a)) (hb : PSs X bb (tSX md X.K W b)) : PS X (.If c ba bb pos) (tSX md X.K W (xIf mc a b)) := by
  refine ps_weak (ps_if hc ha hb) ?_
  rintro D' σ H ⟨S, L, env, st, r, env', st', sm, sl, e, k⟩
  obtain ⟨⟨s1, st1⟩, e1, e⟩ := bindM_some e
  refine ⟨S, L, env, st, s1, st1, sm, sl, e1, ?_⟩
  cases s1 with
  | ok s1 =>
    intro S1 L1 H1 x1 sm1
    cases s1 with
    | true =>
      refine ⟨S1, L1, env, st1, r, env', st', sm1, sl.ext sm.sub x1, e, ?_⟩
      cases r with
      | ok o => exact fun S2 L2 H2 x2 sm2 => (k S2 L2 H2 (x1.trans sm.sub x2) sm2).less x1.up
      | ex c fs => exact fun cls d σ' S2 L2 H2 x2 sm2 sl2 xa => k cls d σ' S2 L2 H2 (x1.trans sm.sub x2) sm2 sl2 xa
    | false =>
      refine ⟨S1, L1, env, st1, r, env', st', sm1, sl.ext sm.sub x1, e, ?_⟩
      cases r with
      | ok o => exact fun S2 L2 H2 x2 sm2 => (k S2 L2 H2 (x1.trans sm.sub x2) sm2).less x1.up
      | ex c fs => exact fun cls d σ' S2 L2 H2 x2 sm2 sl2 xa => k cls d σ' S2 L2 H2 (x1.trans sm.sub x2) sm2 sl2 xa
  | ex c fs => cases e; exact fun cls d S1 L1 H1 x1 sm1 xa => k cls d σ S1 L1 H1 x1 sm1 (sl.ext sm.sub x1) xa
theorem grow_xd {H : Hp} {dx : Addr} {fs : List (Str × V)} (n : H dx = none) : Grow H (upd H dx (.xd fs)) := Grow.new n
/-- an exception's dict laid -/
theorem lay_xd {K : Frag} {S : Trk} {L : List Addr} {H : Hp} {st : Store} {dx : Addr} {fn : Str} {v : V} {d : D} (sm : Sim md K S L H st) (n : H dx = none) (r : Rep K S H v d) :
    ¬ S dx ∧ Sim md K S L (upd H dx (.xd [(fn, v)])) st ∧ Ext S L H S L (upd H dx (.xd [(fn, v)])) ∧ RepF K S (upd H dx (.xd [(fn, v)])) [(fn, v)] [(fn, d)] :=
  ⟨sm.free n, sm.grow (grow_xd n), .grow (grow_xd n), .cons (r.carry (.grow (grow_xd n))) .nil⟩
theorem sx_raise {c : Str} {fo : Option Str} {ps : List Str} {ma : M (List Slot)} {pos' : Pos} (hc : X.calm = true) (hx : X.ex = []) (tk : Takes X W) (C : XC X.K X.prog X.mg c ps fo) (hr : Room (k + 1) X.A) (ha : PA X (e :: es) (tA md X.K ma)) (hn : ∀ env st r, ma env st = some r → r.1.length = ps.length) (hg : Gl X c := by rfl) (hdb : (c == ("__debug__" : Str)) = false := by decide)
    (he : starEach (e :: es) X.env = (false, eval e X.env) :: starEach es X.env := by rfl) (hpl : (backTo pos (starEach es X.env)).any (·.1) = false := by rfl) : PS X (.Raise (some (.Call (.Name c p) (e :: es) [] pos)) none pos') (tSX md X.K W (xRaise c fo ma)) := by
  refine ps_weak (ps_raise (W := W) hc tk (pmk_X C hr ha hx (fun σ H Q h => ?_) hg hdb he hpl)) ?_
  · obtain ⟨S, L, env, st, s, st', sm, sl, e, k⟩ := h
    exact ⟨S, L, env, st, s, st', sm, sl, e, fun vs S1 L1 H1 x1 sm1 r1 => ⟨by rw [r1.length]; exact hn _ _ _ e, k vs S1 L1 H1 x1 sm1 r1⟩⟩
  rintro D' σ H ⟨S, L, env, st, r, env', st', sm, sl, e, k⟩
  obtain ⟨⟨ss, st1⟩, e1, e⟩ := bindM_some e
  obtain ⟨fs, e2, e⟩ := bindM_some e
  cases e
  refine ⟨S, L, env, st, ss, _, sm, sl, e1, fun vs S1 L1 H1 x1 sm1 r1 => ?_⟩
  cases fo with
  | none =>
    match ss, e2, r1 with
    | [], e2, .nil =>
      cases e2
      exact ⟨rfl, k _ none σ S1 L1 H1 x1 sm1 (sl.ext sm.sub x1) ⟨rfl, .inl ⟨rfl, rfl⟩⟩⟩
  | some fn =>
    match ss, e2, r1 with
    | [.im d], e2, .cons (.im r) .nil =>
      cases e2
      refine ⟨_, rfl, fun dx n => ?_⟩
      obtain ⟨ns, sm2, x2, rf⟩ := lay_xd (fn := fn) sm1 n r
      exact k _ (some dx) σ S1 L1 _ (x1.trans sm.sub x2) sm2 ((sl.ext sm.sub x1).ext sm1.sub x2) ⟨rfl, .inr ⟨dx, _, rfl, ns, upd_same, rf⟩⟩
theorem sx_raise0 {c : Str} {pos' : Pos} (hc : X.calm = true) (hx : X.ex = []) (tk : Takes X W) (C : XC X.K X.prog X.mg c [] none) (hr : Room (k + 1) X.A) (hg : Gl X c := by rfl) (hdb : (c == ("__debug__" : Str)) = false := by decide) : PS X (.Raise (some (.Call (.Name c p) [] [] pos)) none pos') (tSX md X.K W (xRaise c none mNil)) := by
  refine ps_weak (ps_raise (W := W) hc tk (pmk_X0 C hr hx rfl hg hdb)) ?_
  rintro D' σ H ⟨S, L, env, st, r, env', st', sm, sl, e, k⟩
  cases e
  exact ⟨rfl, k _ none σ S L H .refl sm sl ⟨rfl, .inl ⟨rfl, rfl⟩⟩⟩
/-- C(..) as a value -/
theorem rep_exc {K : Frag} {S : Trk} {L : List Addr} {H : Hp} {st : Store} {a : Addr} {cls : Value} {d : Option Addr} {c : Str} {fs : List (Str × D)} (sm : Sim md K S L H st) (n : H a = none) (h : XAt K S H cls d c fs) :
    Grow H (upd H a (ExV cls d a)) ∧ Rep K S (upd H a (ExV cls d a)) (.ref a) (.exc c fs) := by
  have gr : Grow H (upd H a (ExV cls d a)) := Grow.new n
  obtain ⟨rfl, ⟨rfl, rfl⟩ | ⟨dd, vs, rfl, nd, hd, r⟩⟩ := h
  · exact ⟨gr, .obj (sm.free n) (.exc0 upd_same)⟩
  · exact ⟨gr, .obj (sm.free n) (.excD upd_same nd (gr _ _ hd) (r.carry (.grow gr)))⟩
theorem mkV_read {c : Str} {fo : Option Str} {ma : M (List Slot)} {σ : L2.St} {H : Hp} {Q : VK} (h : tE md X.K (mMkV c fo ma) σ H Q) : tMkV (He.ga X.K c) fo (tA md X.K ma) σ H Q := by
  obtain ⟨S, L, env, st, s, st', sm, sl, e, k⟩ := h
  obtain ⟨⟨ss, st1⟩, e1, e⟩ := bindM_some e
  obtain ⟨fs, e2, e⟩ := bindM_some e
  cases e
  refine ⟨S, L, env, st, ss, _, sm, sl, e1, fun vs S1 L1 H1 x1 sm1 r1 a na => ?_⟩
  cases fo with
  | none =>
    match ss, e2, r1 with
    | [], e2, .nil =>
      cases e2
      obtain ⟨gr, rp⟩ := rep_exc (cls := .ref (He.ga X.K c)) (d := none) (c := c) (fs := []) sm1 na ⟨rfl, .inl ⟨rfl, rfl⟩⟩
      exact ⟨rfl, k _ S1 L1 _ (x1.trans sm.sub (.grow gr)) (sm1.grow gr) (.im rp)⟩
  | some fn =>
    match ss, e2, r1 with
    | [.im d], e2, .cons (.im r) .nil =>
      cases e2
      refine ⟨_, rfl, fun dx n ne => ?_⟩
      obtain ⟨ns, sm2, x2, rf⟩ := lay_xd (fn := fn) sm1 n r
      have na2 : ∀ u, upd H1 dx u a = none := fun u => by rw [upd_ne (Ne.symm ne)]; exact na
      obtain ⟨gr, rp⟩ := rep_exc (cls := .ref (He.ga X.K c)) (d := some dx) (c := c) (fs := [(fn, d)]) sm2 (na2 _) ⟨rfl, .inr ⟨dx, _, rfl, ns, upd_same, rf⟩⟩
      exact k _ S1 L1 _ ((x1.trans sm.sub x2).trans sm.sub (.grow gr)) (sm2.grow gr) (.im rp)
theorem j_mkV {c : Str} {fo : Option Str} {ps : List Str} {ma : M (List Slot)} (hx : X.ex = []) (C : XC X.K X.prog X.mg c ps fo) (hr : Room (k + 1) X.A) (ha : PA X (e :: es) (tA md X.K ma)) (hn : ∀ env st r, ma env st = some r → r.1.length = ps.length) (hg : Gl X c := by rfl) (hdb : (c == ("__debug__" : Str)) = false := by decide)
    (he : starEach (e :: es) X.env = (false, eval e X.env) :: starEach es X.env := by rfl) (hpl : (backTo pos (starEach es X.env)).any (·.1) = false := by rfl) : PE X (.Call (.Name c p) (e :: es) [] pos) (tE md X.K (mMkV c fo ma)) := by
  refine pe_weak (pe_mkV C hr ha hx (fun σ H Q h => ?_) hg hdb he hpl) fun _ _ _ h => mkV_read h
  obtain ⟨S, L, env, st, s, st', sm, sl, e, k⟩ := h
  exact ⟨S, L, env, st, s, st', sm, sl, e, fun vs S1 L1 H1 x1 sm1 r1 => ⟨by rw [r1.length]; exact hn _ _ _ e, k vs S1 L1 H1 x1 sm1 r1⟩⟩
theorem j_mkV0 {c : Str} (hx : X.ex = []) (C : XC X.K X.prog X.mg c [] none) (hr : Room (k + 1) X.A) (hg : Gl X c := by rfl) (hdb : (c == ("__debug__" : Str)) = false := by decide) : PE X (.Call (.Name c p) [] [] pos) (tE md X.K (mMkV c none mNil)) := by
  refine pe_weak (pe_mkV0 C hr hx rfl hg hdb) ?_
  rintro σ H Q ⟨S, L, env, st, s, st', sm, sl, e, k⟩
  cases e
  intro a na
  obtain ⟨gr, rp⟩ := rep_exc (cls := .ref (He.ga X.K c)) (d := none) (c := c) (fs := []) sm na ⟨rfl, .inl ⟨rfl, rfl⟩⟩
  exact ⟨rfl, k _ S L _ (.grow gr) (sm.grow gr) (.im rp)⟩
end
end Mi
/-! MxE: try, isinstance of exceptions, their fields; promises of defs that may raise. -/
namespace Mi
open PySem L2 PySem.Spec PyProof.Rows PySem.W
/-! ### a def that may raise -/
theorem sp_startX {K : Frag} {N : List Str} {n : Nat} {m : StX} {vs : List V} {H : Hp} {Q : VK} {E : XK} (h : spX K n (mkFnX N.length m) vs H Q E) : tSX true K (fun cls d _ H => E cls d H) m { nx := fun _ H' => Q .non H', rt := Q } (start N vs) H := by
  obtain ⟨md, S, L, args, st0, r, st', sm, pa, hl, e, q⟩ := h
  obtain ⟨⟨o, env', st1⟩, e1, e⟩ := bindM_some e
  have hL : L.length = st0.length := sm.cells.length
  refine ⟨S.mode true, L, _, st0, o, env', st1, sm.mode, slots_start (slots_mode pa), e1, ?_⟩
  cases o with
  | ex c fs =>
    cases e
    intro cls d σ' S1 L1 H1 x1 sm1 sl1 xa
    obtain ⟨x2, sm2⟩ := leaveM sm x1 sm1
    exact q cls d _ H1 x2 (x1.fx rfl) sm2 (xa.carry .mode)
  | ok o =>
  intro S1 L1 H1 x1 sm1
  obtain ⟨x2, sm2⟩ := leaveM sm x1 sm1
  cases o with
  | nx =>
    cases e
    exact fun σ _ => q .non _ H1 x2 (x1.fx rfl) sm2 .non
  | bk => cases e
  | ct => cases e
  | rt s =>
    cases s with
    | no => cases e
    | ns ks => cases e
    | im d =>
      cases e
      intro v hv
      cases hv with | im hv => exact q v _ H1 x2 (x1.fx rfl) sm2 (hv.carry .mode)
    | pt j =>
      have e : (if st0.length ≤ j then bindM st1[j]? fun d => some (XR.ok (Res.fresh d), st1.take st0.length) else none) = some (r, st') := e
      split at e
      · rename_i hj
        obtain ⟨d, e2, e⟩ := bindM_some e
        cases e
        intro v hv
        cases hv with
        | pt hv =>
          rename_i a
          obtain ⟨t, et⟩ := x1.pre
          have hnl : a ∉ L := fun z => by
            obtain ⟨i, hi, hie⟩ := List.getElem_of_mem z
            have h1 : L1[i]? = some a := by rw [et, List.getElem?_append_left hi, List.getElem?_eq_getElem hi, hie]
            have := nd_ix sm1.nd h1 hv
            omega
          have ha : a ∈ L1 := List.mem_of_getElem? hv
          obtain ⟨d', e3, hat⟩ := sm1.cell hv
          rw [e2] at e3
          cases e3
          exact q a _ H1 x2 (x1.fx rfl) sm2 (sm.free (x1.cel a ha hnl)) (sm1.sub a ha) hnl (hat.carry .mode rfl)
      · cases e
  | rtF d =>
    cases e
    exact fun p n i c hat => q p _ H1 x2 (x1.fx rfl) sm2 n i (fun z => c (by obtain ⟨t, et⟩ := x1.pre; rw [et]; exact List.mem_append_left _ z)) (hat.carry .mode rfl)
  | rtN ss =>
    obtain ⟨ds, e2, e⟩ := bindM_some (show bindM (frzN st0.length ss st1) _ = _ from e)
    cases e
    exact fun p vs n i c hp hv => rtN_fin sm.mode x1 sm1 (x1.fx rfl) hL n i c hp hv e2 fun x3 sm3 n3 i3 c3 at3 => q p ((addS (S.mode true) p).mode md) H1 ⟨x3.pre, x3.up, x3.new, x3.keep, x3.cel, fun _ _ z => z, fun _ => rfl, sm.fz.symm⟩ rfl sm3.mode n3 i3 c3 (at3.carry .mode rfl)
section
variable {P : Program} {w : World} {K : Frag} {mg : Str → Option Value} {base : Heap}
theorem f_okX {x qual : Str} {params : Arguments} {body : List Stmt} {scope : Scope} {dvs : List V} {kws : List (Str × V)} {f : Addr} {fd : FuncData} {N ps : List Str} {k n : Nat} {m : StX} (F : FunD K x qual params body scope dvs kws f fd) (Sc : FnScope N ps scope) (hn : ps.length = n)
    (hb : ∀ (cdv : Value) (A : Around) (outer : List Env) (s : Shared) (H : Hp) (E : XK), Room k (A.deeper (envOfC qual scope s.heap.objs.size f cdv)) →
      Takes (cxOf (L2.CX P w) P w K mg base N qual scope f cdv A outer s H E) (fun cls d _ H' => E cls d H') →
      PSs (cxOf (L2.CX P w) P w K mg base N qual scope f cdv A outer s H E) body (tSX true K (fun cls d _ H' => E cls d H') m)) : FnOk P w K mg base (L2.CX P w) (k + 1) f fd ps (spX K n (mkFnX N.length m)) := by
  refine F.ok Sc (fun vs H Q E h => ?_) (fun cdv A outer s H vs Q E hr h => ⟨_, hb cdv A outer s H E hr (takes_of (E := E) rfl rfl rfl rfl), sp_startX h⟩)
  obtain ⟨md, S, L, args, st, r, st', sm, pa, hl, _⟩ := h
  rw [pa.length, hl, hn]
end
/-! ### try -/
/-- what the head tells of the classes of exceptions -/
structure ExF (K : Frag) (mg : Str → Option Value) : Prop where
  sub : ∀ c t b, exSub c t = some b → PySem.W.exmOne K (.ref (He.ga K c)) (.ref (He.ga K t)) = some b
  kit : ∀ c t b, exSub c t = some b → kitOne K (.ref (He.ga K c)) (.ref (He.ga K t)) = some b
  kitV : ∀ c, c ∈ exNames → kitOne K (.ref (He.ga K c)) (.type "ValueError") = some true
  exc : ∀ c, c ∈ exNames → ExcC K (He.ga K c)
  xf : ∀ c, c ∈ exNames → XfC K (He.ga K c)
  nof : ∀ c f, c ∈ exNames → f ∈ (["hand", "number", "most"] : List Str) → PySem.W.findIn K (.ref (He.ga K c)) f = some none
/-- what the clauses' words are -/
def clauseV (md : Bool) (K : Frag) : List (Str × Nat × StM) → List (Value × Nat × TS)
  | [] => []
  | (t, i, m) :: r => (.ref (He.ga K t), i, tS md K m) :: clauseV md K r
section
variable {X : Cx} {st : Stmt} {rest body : List Stmt} {pos : Pos} {b : StX} {hs : List (Str × Nat × StM)} {h₀ : ExceptHandler} {hds : List ExceptHandler}
theorem clauses_read {K : Frag} {mg : Str → Option Value} (F : ExF K mg) {D' : Ends} {σ : L2.St} {H : Hp} {S S0 : Trk} {L : List Addr} {st st' : Store} {env env' : En} {o : Out} {cls : Value} {d : Option Addr} {c : Str} {fs : List (Str × D)} (xa : XAt K S H cls d c fs) (sm : Sim md K S L H st) (sl : Slots K S L H σ env)
    (n0 : ∀ a, S0 a → S a) (k : ∀ S' L' H', Ext S L H S' L' H' → Sim md K S' L' H' st' → Fin K D' S S' L' H' o env') : ∀ {hs : List (Str × Nat × StM)}, mClauses c fs hs env st = some (o, env', st') → wV K (fun _ _ _ _ => False) D' (clauseV md K hs) cls d σ H
  | [], e => by cases e
  | (t, i, m) :: r, e => by
    obtain ⟨bb, e1, e⟩ := bindM_some e
    refine ⟨bb, ?_, fun hb a na => ?_, fun hb => ?_⟩
    · rw [xa.1]; exact F.sub _ _ _ e1
    · subst hb
      rw [if_pos rfl] at e
      obtain ⟨⟨o1, env1, st1⟩, e2, e⟩ := bindM_some e
      obtain ⟨gr, rp⟩ := rep_exc sm na xa
      have x1 : Ext S L H S L (upd H a (ExV cls d a)) := .grow gr
      refine ⟨S, L, _, st, o1, env1, st1, sm.grow gr, (sl.ext sm.sub x1).set (.im rp) i, e2, fun S2 L9 H2 x2 sm2 => ?_⟩
      have un : ∀ {σ2 : L2.St}, Slots K S2 L9 H2 σ2 env1 → Slots K S2 L9 H2 (σ2.set i none) (env1.set i .no) := fun {σ2} h => by
        have go : ∀ {vs : L2.St} {en : En} (i : Nat), Paired (SlotO K S2 L9 H2) vs en → Paired (SlotO K S2 L9 H2) (vs.set i none) (en.set i .no) := by
          intro vs en i q
          induction q generalizing i with
          | nil => exact .nil
          | cons r t ih =>
            cases i with
            | zero => exact .cons .no t
            | succ i => exact .cons r (ih i)
        exact go i h
      have xx := x1.trans sm.sub x2
      cases o1 with
      | nx => cases e; exact fun σ2 sl2 => k S2 L9 H2 xx sm2 _ (un sl2)
      | bk => cases e; exact fun σ2 sl2 => k S2 L9 H2 xx sm2 _ (un sl2)
      | ct => cases e; exact fun σ2 sl2 => k S2 L9 H2 xx sm2 _ (un sl2)
      | rt s => cases e; exact k S2 L9 H2 xx sm2
      | rtF _ => cases e
      | rtN _ => cases e
    · subst hb
      rw [if_neg Bool.false_ne_true] at e
      exact clauses_read F xa sm sl n0 k e
theorem s_try {mg : Str → Option Value} (F : ExF X.K mg) (hst : X.stack = X.env :: X.outer) (hf : X.env.frame = some X.env.locals) (hex : X.ex = []) (hN : X.N.Nodup)
    (hb : ∀ (W : WX) (pn : List (Addr × Obj)) (xe : Value → Shared → Prop), Takes (X.tr pn xe) W → PSs (X.tr pn xe) body (tSX md X.K W b))
    (hh : HdsV X (h₀ :: hds) (clauseV md X.K hs)) : PS X (.Try body (h₀ :: hds) [] [] pos) (tS md X.K (mTry b hs)) := by
  refine ps_weak (ps_tryV (Wout := fun _ _ _ _ => False) hst hf hex hN takes_none5 (fun W pn xe tk _ => hb W pn xe tk) hh) ?_
  rintro D' σ H ⟨S, L, env, st, o, env', st', sm, sl, e, k⟩
  obtain ⟨⟨r, env1, st1⟩, e1, e⟩ := bindM_some e
  refine ⟨S, L, env, st, r, env1, st1, sm, sl, e1, ?_⟩
  cases r with
  | ok o1 => cases e; exact k
  | ex c fs =>
    intro cls d σ' S1 L1 H1 x1 sm1 sl1 xa
    exact clauses_read F xa sm1 sl1 (S0 := S) x1.up (fun S2 L2 H2 x2 sm2 => (k S2 L2 H2 (x1.trans sm.sub x2) sm2).less x1.up) e
theorem hdsV_nil : HdsV X [] (clauseV md X.K []) := .nil
theorem hdsV_cons {x n : Str} {i : Nat} {b₀ : Stmt} {suite : List Stmt} {np pos' : Pos} {m : StM} (hm : X.mg x = some (.ref (He.ga X.K x))) (hi : X.N[i]? = some n) (hln : X.env.kindOf n = some .local) (hsu : ∀ (a : Addr) (pn : List (Addr × Obj)), PSs (X.suite a pn) (b₀ :: suite) (tS md X.K m))
    (r : HdsV X hds (clauseV md X.K hs)) (hg : Gl X x := by rfl) (hdb : (x == ("__debug__" : Str)) = false := by decide) : HdsV X (.ExceptHandler (some (.Name x np)) (some n) (b₀ :: suite) pos' :: hds) (clauseV md X.K ((x, i, m) :: hs)) :=
  .cons ⟨hg, hdb, .inl hm⟩ hi hln hsu r
end
/-! ### isinstance -/
theorem rep_exV {K : Frag} {S : Trk} {H : Hp} {v : V} {c : Str} {fs : List (Str × D)} (h : Shp K S H v (.exc c fs)) : ∃ a d, v = .ref a ∧ H a = some (ExV (.ref (He.ga K c)) d a) ∧ ((d = none ∧ fs = []) ∨ ∃ dd vs, d = some dd ∧ H dd = some (.xd vs) ∧ RepF K S H vs fs) := by
  have at_ : ∀ {a : Addr}, At K S H a (.exc c fs) → ∃ d, H a = some (ExV (.ref (He.ga K c)) d a) ∧ ((d = none ∧ fs = []) ∨ ∃ dd vs, d = some dd ∧ H dd = some (.xd vs) ∧ RepF K S H vs fs) := fun {a} h => by
    cases h with
    | exc0 e => exact ⟨_, e, .inl ⟨rfl, rfl⟩⟩
    | excD e n q r => exact ⟨_, e, .inr ⟨_, _, rfl, q, r⟩⟩
  rcases h with h | ⟨a, rfl, h, _⟩
  · cases h with
    | obj n h => obtain ⟨d, e⟩ := at_ h; exact ⟨_, d, rfl, e⟩
  · obtain ⟨d, e⟩ := at_ h; exact ⟨_, d, rfl, e⟩
def isVD : List D → Option D
  | [.exc c _, .fn t] => bindM (exSub c t) fun b => some (.bl b)
  | [.exc c _, .ty T] => if c ∈ exNames ∧ T = "ValueError" then some (.bl true) else none
  | _ => none
theorem isVD_inv {ds : List D} {z : D} (e : isVD ds = some z) : ∃ c fs, (∃ t b, ds = [.exc c fs, .fn t] ∧ exSub c t = some b ∧ z = .bl b) ∨ (ds = [.exc c fs, .ty "ValueError"] ∧ c ∈ exNames ∧ z = .bl true) := by
  unfold isVD at e
  split at e
  · obtain ⟨b, e1, e⟩ := bindM_some e
    cases e
    exact ⟨_, _, .inl ⟨_, b, rfl, e1, rfl⟩⟩
  · split at e
    · rename_i hc
      obtain ⟨hc, rfl⟩ := hc
      cases e
      exact ⟨_, _, .inr ⟨rfl, hc, rfl⟩⟩
    · cases e
  · cases e
theorem isVD_ok {K : Frag} {mg : Str → Option Value} (F : ExF K mg) : CallD K (rIsV K) isVD := by
  intro S H xs ds z Q _ hp e k
  have inEx : ∀ {c t : Str} {b : Bool}, exSub c t = some b → c ∈ exNames := fun {c t b} h => by
    unfold exSub at h
    split at h
    · assumption
    · cases h
  obtain ⟨c, fs, ⟨t, b, rfl, e1, rfl⟩ | ⟨rfl, hc, rfl⟩⟩ := isVD_inv e
  · cases hp with
    | cons r1 hp =>
    cases hp with
    | cons r2 hp =>
    cases hp
    obtain ⟨a, d, rfl, ha, hd⟩ := rep_exV r1
    have ev : ∀ v, Shp K S H v (.fn t) → v = .ref (He.ga K t) := fun v h => by
      rcases h with h | ⟨p, rfl, h, _⟩
      · cases h with
        | fn => rfl
        | obj n h => cases h
      · cases h
    obtain rfl := ev _ r2
    refine ⟨a, _, d, _, .ref (He.ga K t), b, rfl, ha, fun dx e => ?_, F.exc _ (inEx e1), fun u r => r, F.kit _ _ _ e1, k _ H (fun _ _ z => z) (.bl b)⟩
    rcases hd with ⟨rfl, _⟩ | ⟨dd, vs, rfl, q, _⟩
    · cases e
    · cases e; exact ⟨_, q⟩
  · cases hp with
    | cons r1 hp =>
    cases hp with
    | cons r2 hp =>
    cases hp
    obtain ⟨a, d, rfl, ha, hd⟩ := rep_exV r1
    have ev : ∀ v, Shp K S H v (.ty "ValueError") → v = .ty "ValueError" := fun v h => by
      rcases h with h | ⟨p, rfl, h, _⟩
      · cases h with
        | ty => rfl
        | obj n h => cases h
      · cases h
    obtain rfl := ev _ r2
    refine ⟨a, _, d, _, .type "ValueError", true, rfl, ha, fun dx e => ?_, F.exc _ hc, fun u r => r, F.kitV _ hc, k _ H (fun _ _ z => z) (.bl true)⟩
    rcases hd with ⟨rfl, _⟩ | ⟨dd, vs, rfl, q, _⟩
    · cases e
    · cases e; exact ⟨_, q⟩
/-- .. one of several -/
def exAny (c : Str) : List D → Option Bool
  | [] => some false
  | .fn t :: r => match exSub c t with
    | some true => some true
    | some false => exAny c r
    | none => none
  | _ => none
def isVTD : List D → Option D
  | [.exc c _, .tup ts] => if c ∈ exNames then bindM (exAny c ts) fun b => some (.bl b) else none
  | _ => none
theorem exAny_kit {K : Frag} {mg : Str → Option Value} (F : ExF K mg) {S : Trk} {H : Hp} {c : Str} : ∀ {ts : List D} {vs : List V} {us : List Value} {b : Bool}, Reps K S H vs ts → Vals vs us → exAny c ts = some b → kitAny K (.ref (He.ga K c)) us = some b
  | [], _, _, b, .nil, .nil, e => by cases e; rfl
  | t :: ts, _, _, b, .cons r1 r, .cons (b := u) rv rr, e => by
    cases t with
    | fn t =>
      have ev : ∀ v, Rep K S H v (.fn t) → v = .ref (He.ga K t) := fun v h => by
        cases h with
        | fn => rfl
        | obj n h => cases h
      obtain rfl := ev _ r1
      obtain rfl : u = Value.ref (He.ga K t) := rv
      have e : (match exSub c t with | some true => some true | some false => exAny c ts | none => none) = some b := e
      unfold kitAny
      cases q : exSub c t with
      | none => rw [q] at e; cases e
      | some b1 =>
        rw [q] at e
        rw [F.kit _ _ _ q]
        cases b1 with
        | true => exact e
        | false => exact exAny_kit F r rr e
    | _ => cases e
theorem isVTD_ok {K : Frag} {mg : Str → Option Value} (F : ExF K mg) : CallD K (rIsVT K) isVTD := by
  intro S H xs ds z Q _ hp e k
  unfold isVTD at e
  split at e
  · rename_i c fs ts
    split at e
    · rename_i hc
      obtain ⟨b, e1, e⟩ := bindM_some e
      cases e
      cases hp with
      | cons r1 hp =>
      cases hp with
      | cons r2 hp =>
      cases hp
      obtain ⟨a, d, rfl, ha, hd⟩ := rep_exV r1
      obtain ⟨t, vs, rfl, ht, rt⟩ := r2.tup
      refine ⟨a, _, d, t, vs, b, rfl, ha, fun dx e => ?_, F.exc _ hc, ht, fun us rv => exAny_kit F rt rv e1, k _ H (fun _ _ z => z) (.bl b)⟩
      rcases hd with ⟨rfl, _⟩ | ⟨dd, vs, rfl, q, _⟩
      · cases e
      · cases e; exact ⟨_, q⟩
    · cases e
  · cases e
/-! ### e.f -/
def xfD (f : Str) : D → Option D
  | .exc c fs => if c ∈ exNames ∧ f ∈ (["hand", "number", "most"] : List Str) then fs.lookup f else none
  | _ => none
def mXf (f : Str) (m : M Slot) : M Slot := fun env st => bindM (m env st) fun r => bindM (deref r.1 r.2) fun d => bindM (xfD f d) fun z => some (.im z, r.2)
theorem j_xf {X : Cx} {e : Expr} {f : Str} {pos : Pos} {m : M Slot} {mg : Str → Option Value} (F : ExF X.K mg) (h : PE X e (tE md X.K m)) (hb : attributeBase e f X.env (eval e X.env) = eval e X.env := by rfl) : PE X (.Attribute e f pos) (tE md X.K (mXf f m)) := by
  refine pe_weak (pe_xfV h hb) ?_
  rintro σ H Q ⟨S, L, env, st, s, st', sm, sl, e, k⟩
  obtain ⟨⟨s1, st1⟩, e1, e⟩ := bindM_some e
  obtain ⟨d, e2, e⟩ := bindM_some e
  obtain ⟨z, e3, e⟩ := bindM_some e
  cases e
  refine ⟨S, L, env, st, _, st1, sm, sl, e1, fun v S1 L1 H1 x1 sm1 r1 => ?_⟩
  have sh := r1.shp sm1 e2
  cases d with
  | exc c fs =>
    have e4 : (if c ∈ exNames ∧ f ∈ (["hand", "number", "most"] : List Str) then fs.lookup f else none) = some z := e3
    split at e4
    · rename_i hc
      obtain ⟨a, d, rfl, ha, hd⟩ := rep_exV sh
      rcases hd with ⟨rfl, rfl⟩ | ⟨dd, vs, rfl, q, r⟩
      · cases e4
      · obtain ⟨w, hw, rw'⟩ := r.look e4
        exact ⟨a, _, dd, vs, w, rfl, F.xf _ hc.1, F.nof _ _ hc.1 hc.2, ha, q, hw, k w S1 L1 H1 x1 sm1 (.im rw')⟩
    · cases e4
  | _ => cases e3
end Mi
/-! MxH0: the head's facts where classes of exceptions close over __class__. -/
namespace Mi
open PySem L2 PySem.Spec PyProof.Rows PySem.W
structure DefC where
  cls : Str
  qual : Str
  st : Stmt
  fo : Option Str
abbrev FnC : Type := Option (Str × Str × Arguments × FuncBody × Scope × Addr × Addr)
def fnC (K : Frag) (p : Str × Option Str) : FnC := match K.lookup (He.fAd K p) with
  | some ⟨_, _, .func fd, _⟩ => some (fd.name, fd.qualname, fd.params, fd.body, fd.scope, fd.globals, fd.builtins)
  | _ => none
def DefC.at_ (d : DefC) : Str × Option Str := (d.cls, some "__init__")
def DefC.val (d : DefC) : FnC := some ("__init__", d.qual, defArgs d.st, .stmts (defBody d.st), defScope d.st, mainGlobals, builtinsNs)
abbrev veT : List Value := [.type "ValueError", .type "Exception", .type "BaseException", .type "object"]
def fileB (K : Frag) (file : Str) (c : Addr) : Bool := match K.lookup c with
  | some ⟨_, _, .fields vs, _⟩ => (match (vs.toList[2]? : Option Value) with | some (Value.str f _) => file == f | _ => false)
  | _ => false
def cellB (K : Frag) (C : Addr) (cc : Addr) : Bool := match K.lookup cc with
  | some ⟨_, _, .cell (some (.ref D)), _⟩ => decide (D = C)
  | _ => false
def cloB (K : Frag) (file : Str) (C f : Addr) (qual : Str) : Bool := match K.lookup f with
  | some ⟨_, _, .func fd, _⟩ => (match fd.code, fd.closure, fd.defaults with
    | .ref cda, [(n, cc)], .none => codeIn K (.ref cda) qual && (fileB K file cda && (decide (n = ("__class__" : Str)) && cellB K C cc))
    | _, _, _ => false)
  | _ => false
def oexB (K : Frag) (C : Addr) : Bool := excInitIn K C veT "ValueError.__new__" && (hasDictIn K C && (He.eqO (findIn K (.ref C) "__setattr__") (some (some (.builtin "object.__setattr__"))) && (decide (subIn K (.ref C) (.type "BaseException") = some true) && (decide (typeIn K (.ref C) = some (.type "type")) && keepIn K (.ref C)))))
def clsB (K : Frag) (C f : Addr) : Bool := He.eqO (findIn K (.ref C) "__init__") (some (some (.ref f))) && (decide (typeIn K (.ref f) = some (.type "function")) && (decide (mroIn K C (.ref C) = some true) && (He.eqO (nsIn K mainGlobals "super") (some none) && (He.eqO (nsIn K cStatics "thirdparty.any") (some none) &&
  (He.eqO (ks_superIn K C C "__init__") (some (some (.builtin "ValueError.__init__"))) && decide (subIn K (.ref C) (.type "ValueError") = some true))))))
def fldB (K : Frag) (C : Addr) : Option Str → Bool
  | none => true
  | some a => He.eqO (findIn K (.ref C) a) (some none)
def DefC.ok (file : Str) (K : Frag) (d : DefC) : Bool := cloB K file (He.ga K d.cls) (He.fAd K d.at_) d.qual && (oexB K (He.ga K d.cls) && (clsB K (He.ga K d.cls) (He.fAd K d.at_) && fldB K (He.ga K d.cls) d.fo))
def frZ (g : Addr → Option Obj) (n : Nat) : Frag := He.frT g (He.asD g n ++ [sysModules, cStatics])
abbrev AlZ : Type := He.AlX × List FnC
def obsZ (n : Nat) (fa : List He.Fa) (fn : List He.DefD) (cl : List DefC) (ts : List He.Tab) (ex : Frag → Bool) (g : Addr → Option Obj) : AlZ := ((He.obsT fa fn ts (frZ g n), ex (frZ g n) && He.dictB (frZ g n) sysModules), cl.map fun d => fnC (frZ g n) d.at_)
structure SaysZ (fa : List He.Fa) (fn : List He.DefD) (cl : List DefC) (ts : List He.Tab) (ex : Frag → Bool) (w : World) (K : Frag) : Prop where
  s : SaysS fa fn ts ex w K
  c : (cl.map fun d => fnC K d.at_) = cl.map DefC.val
theorem saysZ_of {n : Nat} {fa : List He.Fa} {fn : List He.DefD} {cl : List DefC} {ts : List He.Tab} {ex : Frag → Bool} {w : World} {g : Addr → Option Obj} (e : obsZ n fa fn cl ts ex g = (He.valX fn ts w, cl.map DefC.val)) : SaysZ fa fn cl ts ex w (frZ g n) := by
  have h0 := congrArg Prod.fst e
  have h1 := congrArg Prod.fst h0
  have h2 := congrArg Prod.snd h0
  obtain ⟨h3, h4⟩ := He.ba (show (ex (frZ g n) && He.dictB (frZ g n) sysModules) = true from h2)
  exact ⟨⟨h1, h3, h4⟩, congrArg Prod.snd e⟩
def hookZ (n : Nat) (fa : List He.Fa) (fn : List He.DefD) (cl : List DefC) (ts : List He.Tab) (ex : Frag → Bool) : PySem.W.Hook where
  α := AlZ
  obs := fun z => obsZ n fa fn cl ts ex z.heap.get?
  val := fun v => (He.valX fn ts v, cl.map DefC.val)
  says := fun v hh => ∃ K : Frag, K.In hh ∧ SaysZ fa fn cl ts ex v K
  of := fun _ _ q => ⟨_, He.frT_in, saysZ_of q⟩
  keeps := fun _ _ _ ⟨K, i, c⟩ q => ⟨K, i.keeps q, c⟩
theorem obsZ_eq {n : Nat} {fa : List He.Fa} {fn : List He.DefD} {cl : List DefC} {ts : List He.Tab} {ex : Frag → Bool} {g : Addr → Option Obj} {s : Shared} (h : ∀ a, g a = s.heap.get? a) : obsZ n fa fn cl ts ex g = (hookZ n fa fn cl ts ex).obs s := by
  have e : g = s.heap.get? := funext h
  subst e
  rfl
theorem SaysZ.cl {fa : List He.Fa} {fn : List He.DefD} {cl : List DefC} {ts : List He.Tab} {ex : Frag → Bool} {w : World} {K : Frag} (c : SaysZ fa fn cl ts ex w K) (i : Nat) {d : DefC} (h : cl[i]? = some d := by rfl) : fnC K d.at_ = d.val := by
  have e := congrArg (fun l : List FnC => l[i]?) c.c
  simp only [List.getElem?_map, h, Option.map_some] at e
  exact Option.some.inj e
/-- the classes of exceptions among each other; c's name, whether it has a field -/
def exFB (K : Frag) (ns : List Str) : Bool := ns.all fun c => ((("BeatError" : Str) :: ns).all fun t => decide (exmOne K (.ref (He.ga K c)) (.ref (He.ga K t)) = some (decide (c = t) || decide (t = ("BeatError" : Str)))) && decide (kitOne K (.ref (He.ga K c)) (.ref (He.ga K t)) = some (decide (c = t) || decide (t = ("BeatError" : Str))))) &&
  (decide (kitOne K (.ref (He.ga K c)) (.type "ValueError") = some true) && (He.eqO (findIn K (.ref (He.ga K c)) "__getattribute__") (some (some (.builtin "BaseException.__getattribute__"))) && (He.eqO (findIn K (.ref (He.ga K c)) "__getattr__") (some none) && (decide (subIn K (.ref (He.ga K c)) (.type "BaseException") = some true) && (hasDictIn K (He.ga K c) &&
  (He.eqO (findIn K (.ref (He.ga K c)) "__class__") (some (some (.builtin "object.__class__"))) && (decide (mroIn K (He.ga K c) (.type "object") = some true) && (He.eqO (findIn K (.ref (He.ga K c)) "hand") (some none) && (He.eqO (findIn K (.ref (He.ga K c)) "number") (some none) && He.eqO (findIn K (.ref (He.ga K c)) "most") (some none))))))))))
def clsF (K : Frag) : Bool := He.eqO (specialIn K (.builtin "object.__class__") "__get__") (some (some (.builtin "getset_descriptor.__get__"))) && decide (takesIn K (.builtin "object.__class__") = some true)
end Mi
/-! MxF: from the head's looks to what is asked of the classes of exceptions. -/
namespace Mi
open PySem L2 PySem.Spec PyProof.Rows PySem.W
theorem tail_ve : ∀ {l : List Value}, excTail veT l = true → HandSPX.refsVE l = true
  | [], h => by cases h
  | .ref c :: r, h => tail_ve (l := r) h
  | .none :: _, h => h
  | .ellipsis :: _, h => h
  | .notImplemented :: _, h => h
  | .bool _ :: _, h => h
  | .int _ _ :: _, h => h
  | .float _ _ :: _, h => h
  | .str _ _ :: _, h => h
  | .bytes _ _ :: _, h => h
  | .type _ :: _, h => h
  | .builtin _ :: _, h => h
theorem oex_of {K : Frag} {C : Addr} (h : oexB K C = true) : OexC K C ∧ excInitIn K C veT "ValueError.__new__" = true := by
  obtain ⟨h1, h⟩ := He.ba h
  obtain ⟨h2, h⟩ := He.ba h
  obtain ⟨h3, h⟩ := He.ba h
  obtain ⟨h4, h⟩ := He.ba h
  obtain ⟨h5, h6⟩ := He.ba h
  refine ⟨⟨?_, He.eqO_ok h3, of_decide_eq_true h4, of_decide_eq_true h5, h6⟩, h1⟩
  have q := h1
  unfold excInitIn at q
  split at q
  · rename_i dd cd sl ho
    split at q
    · rename_i C' bm k0 k1 k2 k3 n k5 hm hs
      simp only [Bool.and_eq_true, beq_iff_eq, Bool.not_eq_true'] at q
      obtain ⟨⟨⟨rfl, rfl⟩, hdel⟩, ht⟩ := q
      obtain ⟨nm, bs, mro, ns, qn, hd, sn, sb, ab, col, del⟩ := cd
      dsimp only at hm hdel
      subst hm hdel
      have hd' : hd = true := by
        obtain ⟨cd', hc, he⟩ := any_some h2
        unfold clsIn at hc
        rw [ho] at hc
        cases hc
        exact he
      subst hd'
      obtain ⟨l⟩ := sl
      dsimp only at hs
      subst hs
      exact ⟨nm, qn, ns, bs, bm, sn, sb, ab, col, dd, k0, k1, k2, k3, k5, ho, tail_ve ht⟩
    · cases q
  · cases q
theorem DefC.xcls {K : Frag} {P : Program} {d : DefC} (e : fnC K d.at_ = d.val) (c : d.ok P.main.file K = true) : XCls K P (He.ga K d.cls) (He.fAd K d.at_) d.qual d.st ∧ ∀ a, d.fo = some a → findIn K (.ref (He.ga K d.cls)) a = some none := by
  obtain ⟨c1, c⟩ := He.ba c
  obtain ⟨c2, c⟩ := He.ba c
  obtain ⟨c3, c4⟩ := He.ba c
  obtain ⟨ox, xi⟩ := oex_of c2
  obtain ⟨q1, c3⟩ := He.ba c3
  obtain ⟨q2, c3⟩ := He.ba c3
  obtain ⟨q3, c3⟩ := He.ba c3
  obtain ⟨q4, c3⟩ := He.ba c3
  obtain ⟨q5, c3⟩ := He.ba c3
  obtain ⟨q6, q7⟩ := He.ba c3
  refine ⟨⟨ox, He.eqO_ok q1, of_decide_eq_true q2, ?_, ?_, of_decide_eq_true q3, He.eqO_ok q4, He.eqO_ok q5, He.eqO_ok q6, of_decide_eq_true q7, xi⟩, fun a ea => ?_⟩
  · unfold fnC at e
    unfold cloB at c1
    cases q : K.lookup (He.fAd K d.at_) with
    | none => rw [q] at c1; cases c1
    | some o =>
      obtain ⟨oc, od, dt, osl⟩ := o
      rw [q] at c1 e
      cases dt with
      | func fd =>
        obtain ⟨n1, n2, n3, n4, n5, n6, n7, n8, n9, n10, n11, n12, n13, n14, n15⟩ := fd
        have e2 : (some (n1, n2, n3, n4, n5, n6, n15) : FnC) = some (("__init__" : Str), d.qual, defArgs d.st, FuncBody.stmts (defBody d.st), defScope d.st, mainGlobals, builtinsNs) := e
        simp only [Option.some.injEq, Prod.mk.injEq] at e2
        obtain ⟨h1, h2, h3, h4, h5, h6, h8⟩ := e2
        subst h1 h2 h3 h4 h5 h6 h8
        dsimp only at c1
        split at c1
        · rename_i cda n cc
          obtain ⟨k1, c1⟩ := He.ba c1
          obtain ⟨k2, c1⟩ := He.ba c1
          obtain ⟨k3, k4⟩ := He.ba c1
          have k3 := of_decide_eq_true k3
          subst k3
          refine ⟨oc, od, osl, n9, n10, n11, n12, cda, n14, cc, rfl, k1, ?_, ?_⟩
          · unfold fileB at k2
            split at k2
            · rename_i vs _ ho
              split at k2
              · rename_i f tf hv
                exact ⟨_, _, vs, _, f, tf, ho, by rw [← Array.getElem?_toList]; exact hv, k2⟩
              · cases k2
            · cases k2
          · unfold cellB at k4
            split at k4
            · rename_i D _ ho
              have k4 := of_decide_eq_true k4
              subst k4
              exact ⟨_, _, _, ho⟩
            · cases k4
        · cases c1
      | _ => cases c1
  · obtain ⟨cd, hc, _⟩ := any_some (show (clsIn K (He.ga K d.cls)).any _ = true from (He.ba (He.ba c2).2).1)
    exact ⟨cd, hc⟩
  · rw [ea] at c4
    exact He.eqO_ok c4
theorem DefC.xc {K : Frag} {P : Program} {mg : Str → Option Value} {d : DefC} {ps : List Str} {rest : List Stmt} (e : fnC K d.at_ = d.val) (c : d.ok P.main.file K = true) (S : IniS d.qual d.st (("self" : Str) :: ps) rest) (R : IniR d.st ps rest d.fo) (hm : mg d.cls = some (.ref (He.ga K d.cls)))
    (top : (P.main.scope.names.lookup ("super" : Str)).isSome = false) : XC K P mg d.cls ps d.fo := by
  obtain ⟨h1, h2⟩ := DefC.xcls e c
  exact ⟨⟨_, _, _, _, h1, S, R⟩, h2, hm, top⟩
theorem exF_of {K : Frag} {mg : Str → Option Value} (h : exFB K exNames = true) (hc : clsF K = true) : ExF K mg := by
  obtain ⟨f1, f2⟩ := He.ba hc
  have key : ∀ c, c ∈ exNames → _ := fun c hc => List.all_eq_true.mp h c hc
  have inj : ∀ c t b, exSub c t = some b → c ∈ exNames ∧ t ∈ ("BeatError" : Str) :: exNames ∧ b = (decide (c = t) || decide (t = ("BeatError" : Str))) := fun c t b e => by
    unfold exSub at e
    split at e
    · rename_i h1
      split at e
      · rename_i h2
        cases e
        subst h2
        exact ⟨h1, List.mem_cons_self, by simp⟩
      · rename_i h2
        split at e
        · rename_i h3
          cases e
          exact ⟨h1, List.mem_cons_of_mem _ h3, by simp [h2]⟩
        · cases e
    · cases e
  refine ⟨fun c t b e => ?_, fun c t b e => ?_, fun c hc => ?_, fun c hc => ?_, fun c hc => ?_, fun c f hc hf => ?_⟩
  · obtain ⟨h1, h2, rfl⟩ := inj c t b e
    exact of_decide_eq_true (He.ba (List.all_eq_true.mp (He.ba (key c h1)).1 t h2)).1
  · obtain ⟨h1, h2, rfl⟩ := inj c t b e
    exact of_decide_eq_true (He.ba (List.all_eq_true.mp (He.ba (key c h1)).1 t h2)).2
  · exact of_decide_eq_true (He.ba (He.ba (key c hc)).2).1
  · obtain ⟨q1, q⟩ := He.ba (He.ba (He.ba (key c hc)).2).2
    obtain ⟨q2, q⟩ := He.ba q
    obtain ⟨q3, q⟩ := He.ba q
    obtain ⟨q4, q⟩ := He.ba q
    obtain ⟨q5, q⟩ := He.ba q
    obtain ⟨q6, q⟩ := He.ba q
    exact ⟨He.eqO_ok q1, He.eqO_ok q2, of_decide_eq_true q3, q4, He.eqO_ok q5, He.eqO_ok f1, of_decide_eq_true f2, of_decide_eq_true q6⟩
  · obtain ⟨q1, q⟩ := He.ba (He.ba (He.ba (key c hc)).2).2
    obtain ⟨q2, q⟩ := He.ba q
    obtain ⟨q3, q⟩ := He.ba q
    obtain ⟨q4, q⟩ := He.ba q
    exact ⟨He.eqO_ok q1, He.eqO_ok q2, of_decide_eq_true q3, q4⟩
  · obtain ⟨q1, q⟩ := He.ba (He.ba (He.ba (key c hc)).2).2
    obtain ⟨q2, q⟩ := He.ba q
    obtain ⟨q3, q⟩ := He.ba q
    obtain ⟨q4, q⟩ := He.ba q
    obtain ⟨q5, q⟩ := He.ba q
    obtain ⟨q6, q⟩ := He.ba q
    obtain ⟨q7, q⟩ := He.ba q
    obtain ⟨q8, q9⟩ := He.ba q
    rcases List.mem_cons.mp hf with rfl | hf
    · exact He.eqO_ok q7
    rcases List.mem_cons.mp hf with rfl | hf
    · exact He.eqO_ok q8
    · rw [List.mem_singleton] at hf
      subst hf
      exact He.eqO_ok q9
end Mi
/-! Mw: the mirror run by simp: what an expression, a statement, a def comes to. -/
namespace Mi
open PySem
def Oo {α : Type} (o : Option α) (Q : α → Prop) : Prop := ∃ a, o = some a ∧ Q a
def Ok {α : Type} (o : Option (α × Store)) (Q : α → Store → Prop) : Prop := ∃ a s, o = some (a, s) ∧ Q a s
def Os (o : Option (Out × En × Store)) (Q : Out → En → Store → Prop) : Prop := ∃ a e s, o = some (a, e, s) ∧ Q a e s
section
variable {α β : Type} {a : α} {s st : Store} {env : En} {Q : α → Store → Prop} {QS : Slot → Store → Prop} {QD : D → Store → Prop} {QB : Bool → Store → Prop} {QL : List Slot → Store → Prop} {QO : Out → En → Store → Prop}
theorem oo_some {P : α → Prop} : Oo (some a) P ↔ P a := ⟨fun ⟨_, e, h⟩ => by cases e; exact h, fun h => ⟨_, rfl, h⟩⟩
theorem oo_none {P : α → Prop} : Oo none P ↔ False := ⟨fun ⟨_, e, _⟩ => (by cases e), fun h => h.elim⟩
theorem oo_bind {o : Option α} {f : α → Option β} {P : β → Prop} : Oo (bindM o f) P ↔ Oo o fun a => Oo (f a) P := by
  cases o with
  | none => exact ⟨fun ⟨_, e, _⟩ => (by cases e), fun ⟨_, e, _⟩ => (by cases e)⟩
  | some a => rw [oo_some]; rfl
theorem oo_if {c : Prop} [Decidable c] {x : α} {P : α → Prop} : Oo (if c then some x else none) P ↔ c ∧ P x := by
  by_cases h : c <;> simp [h, oo_some, oo_none]
theorem oo_mono {o : Option α} {P P' : α → Prop} (h : Oo o P) (k : ∀ a, P a → P' a) : Oo o P' := let ⟨a, e, q⟩ := h; ⟨a, e, k a q⟩
theorem oo_iff {o : Option α} {P P' : α → Prop} (h : ∀ a, P a ↔ P' a) : Oo o P ↔ Oo o P' := ⟨fun q => oo_mono q fun a => (h a).1, fun q => oo_mono q fun a => (h a).2⟩
theorem ok_some : Ok (some (a, s)) Q ↔ Q a s := ⟨fun ⟨_, _, e, h⟩ => by cases e; exact h, fun h => ⟨_, _, rfl, h⟩⟩
theorem ok_none : Ok (none : Option (α × Store)) Q ↔ False := ⟨fun ⟨_, _, e, _⟩ => (by cases e), fun h => h.elim⟩
theorem ok_bindO {o : Option β} {f : β → Option (α × Store)} : Ok (bindM o f) Q ↔ Oo o fun b => Ok (f b) Q := by
  cases o with
  | none => exact ⟨fun ⟨_, _, e, _⟩ => (by cases e), fun ⟨_, e, _⟩ => (by cases e)⟩
  | some a => rw [oo_some]; rfl
theorem ok_bind {o : Option (β × Store)} {f : β × Store → Option (α × Store)} : Ok (bindM o f) Q ↔ Ok o fun b s => Ok (f (b, s)) Q := by
  cases o with
  | none => exact ⟨fun ⟨_, _, e, _⟩ => (by cases e), fun ⟨_, _, e, _⟩ => (by cases e)⟩
  | some a => obtain ⟨b, t⟩ := a; rw [ok_some]; rfl
theorem ok_mono {o : Option (α × Store)} {Q' : α → Store → Prop} (h : Ok o Q) (k : ∀ a s, Q a s → Q' a s) : Ok o Q' := let ⟨a, s, e, q⟩ := h; ⟨a, s, e, k a s q⟩
theorem ok_eq {o : Option (α × Store)} (e : o = some (a, s)) : Ok o Q ↔ Q a s := by rw [e]; exact ok_some
theorem ok_iff {o : Option (α × Store)} {Q' : α → Store → Prop} (h : ∀ a s, Q a s ↔ Q' a s) : Ok o Q ↔ Ok o Q' := ⟨fun q => ok_mono q fun a s => (h a s).1, fun q => ok_mono q fun a s => (h a s).2⟩
theorem os_some {o : Out} {e : En} : Os (some (o, e, s)) QO ↔ QO o e s := ⟨fun ⟨_, _, _, e, h⟩ => by cases e; exact h, fun h => ⟨_, _, _, rfl, h⟩⟩
theorem os_none : Os none QO ↔ False := ⟨fun ⟨_, _, _, e, _⟩ => (by cases e), fun h => h.elim⟩
theorem os_bind {o : Option (β × Store)} {f : β × Store → Option (Out × En × Store)} : Os (bindM o f) QO ↔ Ok o fun b s => Os (f (b, s)) QO := by
  cases o with
  | none => exact ⟨fun ⟨_, _, _, e, _⟩ => (by cases e), fun ⟨_, _, e, _⟩ => (by cases e)⟩
  | some a => obtain ⟨b, t⟩ := a; rw [ok_some]; rfl
theorem os_bindO {o : Option β} {f : β → Option (Out × En × Store)} : Os (bindM o f) QO ↔ Oo o fun b => Os (f b) QO := by
  cases o with
  | none => exact ⟨fun ⟨_, _, _, e, _⟩ => (by cases e), fun ⟨_, e, _⟩ => (by cases e)⟩
  | some a => rw [oo_some]; rfl
theorem os_bindS {o : Option (Out × En × Store)} {f : Out × En × Store → Option (Out × En × Store)} : Os (bindM o f) QO ↔ Os o fun b e s => Os (f (b, e, s)) QO := by
  cases o with
  | none => exact ⟨fun ⟨_, _, _, e, _⟩ => (by cases e), fun ⟨_, _, _, e, _⟩ => (by cases e)⟩
  | some a => obtain ⟨b, e, t⟩ := a; rw [os_some]; rfl
theorem ok_bindS {o : Option (Out × En × Store)} {f : Out × En × Store → Option (α × Store)} : Ok (bindM o f) Q ↔ Os o fun b e s => Ok (f (b, e, s)) Q := by
  cases o with
  | none => exact ⟨fun ⟨_, _, e, _⟩ => (by cases e), fun ⟨_, _, _, e, _⟩ => (by cases e)⟩
  | some a => obtain ⟨b, e, t⟩ := a; rw [os_some]; rfl
theorem os_mono {o : Option (Out × En × Store)} {Q' : Out → En → Store → Prop} (h : Os o QO) (k : ∀ a e s, QO a e s → Q' a e s) : Os o Q' := let ⟨a, e, s, z, q⟩ := h; ⟨a, e, s, z, k a e s q⟩
theorem os_iff {o : Option (Out × En × Store)} {Q' : Out → En → Store → Prop} (h : ∀ a e s, QO a e s ↔ Q' a e s) : Os o QO ↔ Os o Q' := ⟨fun q => os_mono q fun a e s => (h a e s).1, fun q => os_mono q fun a e s => (h a e s).2⟩
/-! expressions -/
theorem ok_var {i : Nat} {x : Slot} (h : env[i]? = some x) (n : x ≠ .no) : Ok (mVar i env st) QS ↔ QS x st := by
  unfold mVar
  rw [h]
  cases x <;> first | exact absurd rfl n | exact ok_some
theorem ok_var_im {i : Nat} {d : D} (h : env[i]? = some (.im d)) : Ok (mVar i env st) QS ↔ QS (.im d) st := ok_var h (by simp)
theorem ok_var_pt {i k : Nat} (h : env[i]? = some (.pt k)) : Ok (mVar i env st) QS ↔ QS (.pt k) st := ok_var h (by simp)
theorem ok_C {d : D} : Ok (mC d env st) QS ↔ QS (.im d) st := ok_some
theorem ok_F {m : M D} : Ok (mF m env st) QS ↔ Ok (m env st) fun d s => QS (.im d) s := by unfold mF; rw [ok_bind]; simp only [ok_some]
theorem ok_op {g : D → D → Option D} {ma mb : M Slot} : Ok (mOp g ma mb env st) QS ↔ Ok (ma env st) fun s1 t1 => Ok (mb env t1) fun s2 t2 => Oo (deref s1 t2) fun d1 => Oo (deref s2 t2) fun d2 => Oo (g d1 d2) fun z => QS (.im z) t2 := by
  unfold mOp; simp only [ok_bind]; simp only [ok_bindO, ok_some]
theorem ok_opF {g : D → D → Option D} {ma mb : M Slot} : Ok (mOpF g ma mb env st) QD ↔ Ok (ma env st) fun s1 t1 => Ok (mb env t1) fun s2 t2 => Oo (deref s1 t2) fun d1 => Oo (deref s2 t2) fun d2 => Oo (g d1 d2) fun z => QD z t2 := by
  unfold mOpF; simp only [ok_bind]; simp only [ok_bindO, ok_some]
theorem ok_un {g : D → Option D} {ma : M Slot} : Ok (mUn g ma env st) QS ↔ Ok (ma env st) fun s1 t1 => Oo (deref s1 t1) fun d1 => Oo (g d1) fun z => QS (.im z) t1 := by
  unfold mUn; simp only [ok_bind]; simp only [ok_bindO, ok_some]
theorem ok_nil : Ok (mNil env st) QL ↔ QL [] st := ok_some
theorem ok_cons {ma : M Slot} {mr : M (List Slot)} : Ok (mCons ma mr env st) QL ↔ Ok (ma env st) fun s1 t1 => Ok (mr env t1) fun l t2 => QL (s1 :: l) t2 := by
  unfold mCons; simp only [ok_bind, ok_some]
theorem ok_B {g : List D → Option D} {ma : M (List Slot)} : Ok (mB g ma env st) QS ↔ Ok (ma env st) fun l t => Oo (derefs l t) fun ds => Oo (g ds) fun z => QS (.im z) t := by
  unfold mB; simp only [ok_bind]; simp only [ok_bindO, ok_some]
theorem ok_BF {g : List D → Option D} {ma : M (List Slot)} : Ok (mBF g ma env st) QD ↔ Ok (ma env st) fun l t => Oo (derefs l t) fun ds => Oo (g ds) fun z => QD z t := by
  unfold mBF; simp only [ok_bind]; simp only [ok_bindO, ok_some]
theorem ok_ite {c : Prop} [Decidable c] {x y : Option (α × Store)} : Ok (if c then x else y) Q ↔ if c then Ok x Q else Ok y Q := by
  split <;> exact Iff.rfl
theorem ok_ifn {c : Prop} [Decidable c] {x : α × Store} : Ok (if c then some x else none) Q ↔ c ∧ Q x.1 x.2 := by
  obtain ⟨a, s⟩ := x
  by_cases h : c <;> simp [h, ok_some, ok_none]
theorem ok_tup {ma : M (List Slot)} : Ok (mTup ma env st) QS ↔ Ok (ma env st) fun l t => Oo (imsOf l) fun ds => ds.length ≤ 100000 ∧ QS (.im (.tup ds)) t := by
  unfold mTup; simp only [ok_bind]; simp only [ok_bindO, ok_ifn]
theorem ok_lst {ma : M (List Slot)} : Ok (mLst ma env st) QD ↔ Ok (ma env st) fun l t => Oo (imsOf l) fun ds => ds.length ≤ 100000 ∧ QD (.lst ds) t := by
  unfold mLst; simp only [ok_bind]; simp only [ok_bindO, ok_ifn]
theorem ok_tru {ma : M Slot} : Ok (mTru ma env st) QB ↔ Ok (ma env st) fun s t => Oo (deref s t) fun d => Oo (truth d) fun b => QB b t := by
  unfold mTru; simp only [ok_bind]; simp only [ok_bindO, ok_some]
/-- a slot that holds a truth -/
def isBl : Slot → Option Bool
  | .im (.bl b) => some b
  | _ => none
theorem ok_bool {ma : M Slot} : Ok (mBool ma env st) QB ↔ Ok (ma env st) fun s t => Oo (isBl s) fun b => QB b t := by
  have e : ∀ s t, Ok (match s with | Slot.im (.bl b) => some (b, t) | _ => none) QB ↔ Oo (isBl s) fun b => QB b t := by
    intro s t
    rcases s with _ | d | k
    · exact ok_none.trans oo_none.symm
    · cases d <;> first | exact ok_none.trans oo_none.symm | exact Iff.trans ok_some (Iff.symm (oo_some (P := fun b => QB b t)))
    · exact ok_none.trans oo_none.symm
    · exact ok_none.trans oo_none.symm
  unfold mBool
  rw [ok_bind]
  exact ok_iff fun s t => e s t
theorem ok_and {ma mb : M Bool} : Ok (mAnd ma mb env st) QB ↔ Ok (ma env st) fun b t => if b = true then Ok (mb env t) QB else QB false t := by
  unfold mAnd; simp only [ok_bind, ok_ite, ok_some]
theorem ok_or {ma mb : M Bool} : Ok (mOr ma mb env st) QB ↔ Ok (ma env st) fun b t => if b = true then QB true t else Ok (mb env t) QB := by
  unfold mOr; simp only [ok_bind, ok_ite, ok_some]
theorem ok_not {ma : M Bool} : Ok (mNot ma env st) QB ↔ Ok (ma env st) fun b t => QB (!b) t := by unfold mNot; simp only [ok_bind, ok_some]
theorem ok_val {ma : M Bool} : Ok (mVal ma env st) QS ↔ Ok (ma env st) fun b t => QS (.im (.bl b)) t := by unfold mVal; simp only [ok_bind, ok_some]
theorem ok_if {mc : M Bool} {ma mb : M Slot} : Ok (mIf mc ma mb env st) QS ↔ Ok (mc env st) fun b t => if b = true then Ok (ma env t) QS else Ok (mb env t) QS := by unfold mIf; simp only [ok_bind, ok_ite]
theorem ok_yes : Ok (mYes env st) QB ↔ QB true st := ok_some
theorem ok_rev {m : M Slot} : Ok (mRevS m env st) QS ↔ Ok (m env st) fun s t => Oo (deref s t) fun d => Oo (backD d) fun z => QS (.im z) t := by unfold mRevS; simp only [ok_bind]; simp only [ok_bindO, ok_some]
theorem ok_sset {m : M Slot} : Ok (mSortedSet m env st) QD ↔ Ok (m env st) fun s t => Oo (deref s t) fun d => Oo (sortedSetD d) fun z => QD z t := by unfold mSortedSet; simp only [ok_bind]; simp only [ok_bindO, ok_some]
theorem ok_call {f : Fn} {ma : M (List Slot)} : Ok (mCall f ma env st) QS ↔ Ok (ma env st) fun l t => Ok (f l t) fun r t2 => QS (.im r.d) t2 := by unfold mCall; simp only [ok_bind, ok_some]
theorem ok_callF {f : Fn} {ma : M (List Slot)} : Ok (mCallF f ma env st) QD ↔ Ok (ma env st) fun l t => Ok (f l t) fun r t2 => ∃ d, r = .fresh d ∧ QD d t2 := by
  unfold mCallF
  rw [ok_bind]
  refine ok_iff fun l t => ?_
  rw [ok_bind]
  have e : ∀ (r : Res) (t2 : Store), Ok (match r with | .fresh d => some (d, t2) | .val _ => none) QD ↔ ∃ d, r = .fresh d ∧ QD d t2 := by
    intro r t2
    cases r with
    | val d => exact ⟨fun ⟨_, _, e, _⟩ => (by cases e), fun ⟨_, e, _⟩ => (by cases e)⟩
    | fresh d => exact ok_some.trans ⟨fun h => ⟨d, rfl, h⟩, fun ⟨_, e, h⟩ => by cases e; exact h⟩
  exact ok_iff fun r t => e r t
def isInt1 : List Slot → Option Int
  | [.im (.int n)] => some n
  | _ => none
theorem ok_lrng {m : M (List Slot)} : Ok (mListRng1 m env st) QD ↔ Ok (m env st) fun l t => Oo (isInt1 l) fun n => (0 ≤ n ∧ n ≤ 100000) ∧ QD (.lst (rgD 0 n)) t := by
  unfold mListRng1
  rw [ok_bind]
  have e : ∀ (l : List Slot) (t : Store), Ok (match l with | [.im (.int n)] => if 0 ≤ n ∧ n ≤ 100000 then some (D.lst (rgD 0 n), t) else none | _ => none) QD ↔ Oo (isInt1 l) fun n => (0 ≤ n ∧ n ≤ 100000) ∧ QD (.lst (rgD 0 n)) t := by
    intro l t
    unfold isInt1
    split
    · rw [oo_some, ok_ifn]
    · exact ok_none.trans oo_none.symm
  exact ok_iff fun l t => e l t
theorem ok_dict1 {mk mv : M Slot} : Ok (mDict1 mk mv env st) QD ↔ Ok (mk env st) fun s1 t1 => Ok (mv env t1) fun s2 t2 => Oo (imOf s1) fun k => Oo (imOf s2) fun v => Oo (keyOf k) fun k => QD (.dic [(k, v)]) t2 := by
  unfold mDict1; simp only [ok_bind]; simp only [ok_bindO, ok_some]
/-! a method of a cell -/
def isPt : Slot → Option Nat
  | .pt k => some k
  | _ => none
theorem ok_meth {isT : D → Bool} {g : D → List D → Option (D × D)} {mo : M Slot} {ma : M (List Slot)} : Ok (mMeth isT g mo ma env st) QS ↔ Ok (mo env st) fun s t => Oo (isPt s) fun k => Oo t[k]? fun d0 => isT d0 = true ∧
    Ok (ma env t) fun l t2 => Oo t2[k]? fun d => Oo (imsOf l) fun ds => Oo (g d ds) fun q => QS (.im q.2) (t2.set k q.1) := by
  unfold mMeth
  rw [ok_bind]
  have e : ∀ s t, Ok (match s with | Slot.pt k => bindM t[k]? fun d0 => if isT d0 = true then bindM (ma env t) fun r2 => bindM r2.2[k]? fun d => bindM (imsOf r2.1) fun ds => bindM (g d ds) fun q => some (Slot.im q.2, r2.2.set k q.1) else none | _ => none) QS ↔
      Oo (isPt s) fun k => Oo t[k]? fun d0 => isT d0 = true ∧ Ok (ma env t) fun l t2 => Oo t2[k]? fun d => Oo (imsOf l) fun ds => Oo (g d ds) fun q => QS (.im q.2) (t2.set k q.1) := by
    intro s t
    rcases s with _ | d | k
    · exact ok_none.trans oo_none.symm
    · exact ok_none.trans oo_none.symm
    · rw [show isPt (Slot.pt k) = some k from rfl, oo_some]; dsimp only; rw [ok_bindO]; refine oo_iff fun d0 => ?_; by_cases h : isT d0 = true
      · rw [if_pos h, ok_bind]; simp only [h, true_and]; simp only [ok_bindO, ok_some]
      · rw [if_neg h, ok_none]; simp [h]
    · exact ok_none.trans oo_none.symm
  exact ok_iff fun s t => e s t
theorem ok_methS {isT : D → Bool} {g : D → List D → Option (D × D)} {mo : M Slot} {ma : M (List Slot)} : Ok (mMethS isT g mo ma env st) QS ↔ Ok (mo env st) fun s t => Oo (isPt s) fun k => Oo t[k]? fun d0 => isT d0 = true ∧
    Ok (ma env t) fun l t2 => Oo t2[k]? fun d => Oo (derefs l t2) fun ds => Oo (g d ds) fun q => QS (.im q.2) (t2.set k q.1) := by
  unfold mMethS
  rw [ok_bind]
  have e : ∀ s t, Ok (match s with | Slot.pt k => bindM t[k]? fun d0 => if isT d0 = true then bindM (ma env t) fun r2 => bindM r2.2[k]? fun d => bindM (derefs r2.1 r2.2) fun ds => bindM (g d ds) fun q => some (Slot.im q.2, r2.2.set k q.1) else none | _ => none) QS ↔
      Oo (isPt s) fun k => Oo t[k]? fun d0 => isT d0 = true ∧ Ok (ma env t) fun l t2 => Oo t2[k]? fun d => Oo (derefs l t2) fun ds => Oo (g d ds) fun q => QS (.im q.2) (t2.set k q.1) := by
    intro s t
    rcases s with _ | d | k
    · exact ok_none.trans oo_none.symm
    · exact ok_none.trans oo_none.symm
    · rw [show isPt (Slot.pt k) = some k from rfl, oo_some]; dsimp only; rw [ok_bindO]; refine oo_iff fun d0 => ?_; by_cases h : isT d0 = true
      · rw [if_pos h, ok_bind]; simp only [h, true_and]; simp only [ok_bindO, ok_some]
      · rw [if_neg h, ok_none]; simp [h]
    · exact ok_none.trans oo_none.symm
  exact ok_iff fun s t => e s t
/-! statements -/
theorem os_ite {c : Prop} [Decidable c] {x y : Option (Out × En × Store)} : Os (if c then x else y) QO ↔ if c then Os x QO else Os y QO := by split <;> exact Iff.rfl
/-- what comes behind a statement -/
def Nx (b : StM) (QO : Out → En → Store → Prop) : Out → En → Store → Prop
  | .nx, e, s => Os (b e s) QO
  | o, e, s => QO o e s
theorem os_seq {a b : StM} : Os (mSeq a b env st) QO ↔ Os (a env st) (Nx b QO) := by
  unfold mSeq
  rw [os_bindS]
  have e : ∀ o e s, Os (match (o, e, s) with | (Out.nx, env', st') => b env' st' | (.bk, env', st') => some (.bk, env', st') | (.ct, env', st') => some (.ct, env', st') | (.rt s, env', st') => some (.rt s, env', st') | (.rtF d, env', st') => some (.rtF d, env', st') | (.rtN d, env', st') => some (.rtN d, env', st')) QO ↔ Nx b QO o e s := by
    intro o e s
    cases o <;> first | exact os_some | exact Iff.rfl
  exact os_iff fun o e' s => e o e' s
theorem nx_nx {b : StM} {e : En} : Nx b QO .nx e s ↔ Os (b e s) QO := Iff.rfl
theorem nx_rt {b : StM} {e : En} {x : Slot} : Nx b QO (.rt x) e s ↔ QO (.rt x) e s := Iff.rfl
theorem nx_rtN {b : StM} {e : En} {x : List Slot} : Nx b QO (.rtN x) e s ↔ QO (.rtN x) e s := Iff.rfl
theorem nx_rtF {b : StM} {e : En} {x : D} : Nx b QO (.rtF x) e s ↔ QO (.rtF x) e s := Iff.rfl
theorem nx_bk {b : StM} {e : En} : Nx b QO .bk e s ↔ QO .bk e s := Iff.rfl
theorem nx_ct {b : StM} {e : En} : Nx b QO .ct e s ↔ QO .ct e s := Iff.rfl
theorem os_skip : Os (mSkip env st) QO ↔ QO .nx env st := os_some
theorem os_set {i : Nat} {m : M Slot} : Os (mSet i m env st) QO ↔ Ok (m env st) fun s t => QO .nx (env.set i s) t := by unfold mSet; simp only [os_bind, os_some]
theorem os_new {i : Nat} {m : M D} : Os (mNew i m env st) QO ↔ Ok (m env st) fun d t => QO .nx (env.set i (.pt t.length)) (t ++ [d]) := by unfold mNew; simp only [os_bind, os_some]
theorem os_setT {t : Tgt} {m : M Slot} : Os (mSetT t m env st) QO ↔ Ok (m env st) fun s u => Oo (imOf s) fun d => Oo (asg t d env) fun e => QO .nx e u := by unfold mSetT; simp only [os_bind]; simp only [os_bindO, os_some]
theorem os_ret {m : M Slot} : Os (mRet m env st) QO ↔ Ok (m env st) fun s t => QO (.rt s) env t := by unfold mRet; simp only [os_bind, os_some]
theorem os_retL {m : M (List Slot)} : Os (mRetL m env st) QO ↔ Ok (m env st) fun l t => l.length ≤ 100000 ∧ QO (.rtN l) env t := by
  unfold mRetL
  rw [os_bind]
  refine ok_iff fun l t => ?_
  by_cases h : l.length ≤ 100000
  · simp only [h, if_true, true_and, os_some]
  · simp only [h, if_false, false_and, os_none]
theorem os_retF {m : M D} : Os (mRetF m env st) QO ↔ Ok (m env st) fun d t => QO (.rtF d) env t := by unfold mRetF; simp only [os_bind, os_some]
theorem os_ifS {c : M Bool} {a b : StM} : Os (mIfS c a b env st) QO ↔ Ok (c env st) fun r t => if r = true then Os (a env t) QO else Os (b env t) QO := by unfold mIfS; simp only [os_bind, os_ite]
theorem os_drop {m : M Slot} : Os (mDrop m env st) QO ↔ Ok (m env st) fun _ t => QO .nx env t := by unfold mDrop; simp only [os_bind, os_some]
theorem os_setIx {mv mo mi : M Slot} : Os (mSetIx mv mo mi env st) QO ↔ Ok (mv env st) fun s0 t0 => Ok (mo env t0) fun s1 t1 => Oo (isPt s1) fun k => Ok (mi env t1) fun s2 t2 => Oo t2[k]? fun d => Oo (imOf s0) fun v => Oo (imOf s2) fun i => Oo (setG d i v) fun d' => QO .nx env (t2.set k d') := by
  unfold mSetIx
  rw [os_bind]
  refine ok_iff fun s0 t0 => ?_
  rw [os_bind]
  have e : ∀ (s0 s1 : Slot) (t1 : Store), Os (match s1 with | Slot.pt k => bindM (mi env t1) fun r2 => bindM r2.2[k]? fun d => bindM (imOf s0) fun v => bindM (imOf r2.1) fun i => bindM (setG d i v) fun d' => some (Out.nx, env, r2.2.set k d') | _ => none) QO ↔
      Oo (isPt s1) fun k => Ok (mi env t1) fun s2 t2 => Oo t2[k]? fun d => Oo (imOf s0) fun v => Oo (imOf s2) fun i => Oo (setG d i v) fun d' => QO .nx env (t2.set k d') := by
    intro s0 s1 t1
    rcases s1 with _ | d | k
    · exact os_none.trans oo_none.symm
    · exact os_none.trans oo_none.symm
    · rw [show isPt (Slot.pt k) = some k from rfl, oo_some]; dsimp only; rw [os_bind]; simp only [os_bindO, os_some]
    · exact os_none.trans oo_none.symm
  exact ok_iff fun s1 t1 => e s0 s1 t1
theorem os_put {mv mo mi : M Slot} : Os (mPut mv mo mi env st) QO ↔ Ok (mv env st) fun s0 t0 => Ok (mo env t0) fun s1 t1 => Oo (isPt s1) fun k => Ok (mi env t1) fun s2 t2 => Oo t2[k]? fun d => Oo (imOf s0) fun v => Oo (imOf s2) fun i => Oo (putG d i v) fun d' => QO .nx env (t2.set k d') := by
  unfold mPut
  rw [os_bind]
  refine ok_iff fun s0 t0 => ?_
  rw [os_bind]
  have e : ∀ (s0 s1 : Slot) (t1 : Store), Os (match s1 with | Slot.pt k => bindM (mi env t1) fun r2 => bindM r2.2[k]? fun d => bindM (imOf s0) fun v => bindM (imOf r2.1) fun i => bindM (putG d i v) fun d' => some (Out.nx, env, r2.2.set k d') | _ => none) QO ↔
      Oo (isPt s1) fun k => Ok (mi env t1) fun s2 t2 => Oo t2[k]? fun d => Oo (imOf s0) fun v => Oo (imOf s2) fun i => Oo (putG d i v) fun d' => QO .nx env (t2.set k d') := by
    intro s0 s1 t1
    rcases s1 with _ | d | k
    · exact os_none.trans oo_none.symm
    · exact os_none.trans oo_none.symm
    · rw [show isPt (Slot.pt k) = some k from rfl, oo_some]; dsimp only; rw [os_bind]; simp only [os_bindO, os_some]
    · exact os_none.trans oo_none.symm
  exact ok_iff fun s1 t1 => e s0 s1 t1
/-! a def -/
/-- what a def gives back, by how its body ends; n: the store's length at its beginning -/
def Ends (n : Nat) (Q : Res → Store → Prop) : Out → En → Store → Prop
  | .nx, _, s => Q (.val .non) (s.take n)
  | .rt (.im d), _, s => Q (.val d) (s.take n)
  | .rt (.pt k), _, s => n ≤ k ∧ Oo s[k]? fun d => Q (.fresh d) (s.take n)
  | .rtF d, _, s => Q (.fresh d) (s.take n)
  | .rtN ss, _, s => Oo (frzN n ss s) fun ds => Q (.fresh (.lst ds)) (s.take n)
  | _, _, _ => False
theorem ok_fn {N : Nat} {body : StM} {args : List Slot} {Q : Res → Store → Prop} : Ok (mkFn N body args st) Q ↔ Os (body (args ++ List.replicate (N - args.length) .no) st) (Ends st.length Q) := by
  unfold mkFn
  rw [ok_bindS]
  refine os_iff fun o e s => ?_
  rcases o with _ | _ | _ | x | d | ss
  · exact ok_some
  · exact ok_none
  · exact ok_none
  · rcases x with _ | d | k
    · exact ok_none
    · exact ok_some
    · show Ok (if st.length ≤ k then bindM s[k]? fun d => some (Res.fresh d, s.take st.length) else none) Q ↔ st.length ≤ k ∧ Oo s[k]? fun d => Q (.fresh d) (s.take st.length)
      by_cases h : st.length ≤ k
      · rw [if_pos h, ok_bindO]
        simp only [ok_some, h, true_and]
      · rw [if_neg h, ok_none]
        simp [h]
    · exact ok_none
  · exact ok_some
  · show Ok (bindM (frzN st.length ss s) fun ds => some (Res.fresh (D.lst ds), s.take st.length)) Q ↔ _
    rw [ok_bindO]
    simp only [ok_some]
    exact Iff.rfl
theorem en_nx {n : Nat} {e : En} {Q : Res → Store → Prop} : Ends n Q .nx e s ↔ Q (.val .non) (s.take n) := Iff.rfl
theorem en_im {n : Nat} {e : En} {d : D} {Q : Res → Store → Prop} : Ends n Q (.rt (.im d)) e s ↔ Q (.val d) (s.take n) := Iff.rfl
theorem en_pt {n k : Nat} {e : En} {Q : Res → Store → Prop} : Ends n Q (.rt (.pt k)) e s ↔ n ≤ k ∧ Oo s[k]? fun d => Q (.fresh d) (s.take n) := Iff.rfl
theorem en_N {n : Nat} {e : En} {ss : List Slot} {Q : Res → Store → Prop} : Ends n Q (.rtN ss) e s ↔ Oo (frzN n ss s) fun ds => Q (.fresh (.lst ds)) (s.take n) := Iff.rfl
theorem en_F {n : Nat} {e : En} {d : D} {Q : Res → Store → Prop} : Ends n Q (.rtF d) e s ↔ Q (.fresh d) (s.take n) := Iff.rfl
end
end Mi
/-! Mx: loops of the mirror by invariants; the run's tactic. -/
namespace Mi
open PySem
section
variable {s st : Store} {env : En} {QO : Out → En → Store → Prop} {QD : D → Store → Prop} {QC : Src → Store → Prop}
theorem ok_seqS {m : M Slot} : Ok (mSeqS m env st) QC ↔ Ok (m env st) fun s t => Oo (deref s t) fun d => Oo (seqItems d) fun ds => QC ⟨s, d, ds⟩ t := by
  unfold mSeqS; rw [ok_bind]; simp only [ok_bindO, ok_some]
theorem ok_rng1 {m : M (List Slot)} : Ok (mRng1 m env st) QC ↔ Ok (m env st) fun l t => Oo (isInt1 l) fun n => (-(2 ^ 62) ≤ n ∧ n < 2 ^ 62) ∧ QC ⟨.im .non, .non, (List.range n.toNat).map fun i => D.int (i : Nat)⟩ t := by
  unfold mRng1
  rw [ok_bind]
  have e : ∀ (l : List Slot) (t : Store), Ok (match l with | [.im (.int n)] => if -(2 ^ 62) ≤ n ∧ n < 2 ^ 62 then some ((⟨.im .non, .non, (List.range n.toNat).map fun i => D.int (i : Nat)⟩ : Src), t) else none | _ => none) QC ↔
      Oo (isInt1 l) fun n => (-(2 ^ 62) ≤ n ∧ n < 2 ^ 62) ∧ QC ⟨.im .non, .non, (List.range n.toNat).map fun i => D.int (i : Nat)⟩ t := by
    intro l t
    rcases l with _ | ⟨_ | (_ | _ | n | _ | _ | _ | _ | _ | _ | _) | _ | _, _ | ⟨_, _⟩⟩ <;> first | exact ok_none.trans oo_none.symm | exact Iff.trans ok_ifn (Iff.symm oo_some)
  exact ok_iff fun l t => e l t
def isInt2 : List Slot → Option (Int × Int)
  | [.im (.int a), .im (.int n)] => some (a, n)
  | _ => none
theorem ok_rng2 {m : M (List Slot)} : Ok (mRng2 m env st) QC ↔ Ok (m env st) fun l t => Oo (isInt2 l) fun p => (-(2 ^ 62) ≤ p.1 ∧ p.1 < 2 ^ 62 ∧ -(2 ^ 62) ≤ p.2 ∧ p.2 < 2 ^ 62) ∧ QC ⟨.im .non, .non, (List.range (p.2 - p.1).toNat).map fun i => D.int (p.1 + (i : Nat))⟩ t := by
  unfold mRng2
  rw [ok_bind]
  have e : ∀ (l : List Slot) (t : Store), Ok (match l with | [.im (.int a), .im (.int n)] => if -(2 ^ 62) ≤ a ∧ a < 2 ^ 62 ∧ -(2 ^ 62) ≤ n ∧ n < 2 ^ 62 then some ((⟨.im .non, .non, (List.range (n - a).toNat).map fun i => D.int (a + (i : Nat))⟩ : Src), t) else none | _ => none) QC ↔
      Oo (isInt2 l) fun p => (-(2 ^ 62) ≤ p.1 ∧ p.1 < 2 ^ 62 ∧ -(2 ^ 62) ≤ p.2 ∧ p.2 < 2 ^ 62) ∧ QC ⟨.im .non, .non, (List.range (p.2 - p.1).toNat).map fun i => D.int (p.1 + (i : Nat))⟩ t := by
    intro l t
    unfold isInt2
    split
    · rw [oo_some, ok_ifn]
    · exact ok_none.trans oo_none.symm
  exact ok_iff fun l t => e l t
theorem os_for {t : Tgt} {src : M Src} {body : StM} : Os (mFor t src body env st) QO ↔ Ok (src env st) fun q s => Os (forGo t q body q.items env s) QO := by unfold mFor; rw [os_bind]
/-- what a loop's turn leaves: on, out, or back -/
def Turn (I : En → Store → Prop) (QO : Out → En → Store → Prop) : Out → En → Store → Prop
  | .nx, e, s => I e s
  | .ct, e, s => I e s
  | .bk, e, s => QO .nx e s
  | o, e, s => QO o e s
theorem tn_nx {I : En → Store → Prop} : Turn I QO .nx env st ↔ I env st := Iff.rfl
theorem tn_ct {I : En → Store → Prop} : Turn I QO .ct env st ↔ I env st := Iff.rfl
theorem tn_bk {I : En → Store → Prop} : Turn I QO .bk env st ↔ QO .nx env st := Iff.rfl
theorem tn_rt {I : En → Store → Prop} {x : Slot} : Turn I QO (.rt x) env st ↔ QO (.rt x) env st := Iff.rfl
theorem tn_rtN {I : En → Store → Prop} {x : List Slot} : Turn I QO (.rtN x) env st ↔ QO (.rtN x) env st := Iff.rfl
theorem tn_rtF {I : En → Store → Prop} {x : D} : Turn I QO (.rtF x) env st ↔ QO (.rtF x) env st := Iff.rfl
theorem for_inv {t : Tgt} {q : Src} {body : StM} (I : List D → En → Store → Prop) : ∀ (ds : List D) (env : En) (st : Store), I ds env st →
    (∀ d ds env st, I (d :: ds) env st → chk q st ∧ Oo (asg t d env) fun env1 => Os (body env1 st) (Turn (I ds) QO)) → (∀ env st, I [] env st → chk q st ∧ QO .nx env st) → Os (forGo t q body ds env st) QO := by
  intro ds
  induction ds with
  | nil =>
    intro env st h _ k
    obtain ⟨c, h⟩ := k env st h
    unfold forGo
    rw [if_pos c, os_some]
    exact h
  | cons d ds ih =>
    intro env st h f k
    obtain ⟨c, h⟩ := f d ds env st h
    unfold forGo
    rw [if_pos c, os_bindO]
    refine oo_mono h fun env1 h => ?_
    rw [os_bindS]
    refine os_mono h fun o e s h => ?_
    cases o with
    | nx => exact ih e s h f k
    | ct => exact ih e s h f k
    | bk => exact os_some.2 h
    | rt x => exact os_some.2 h
    | rtF x => exact os_some.2 h
    | rtN x => exact os_some.2 h
theorem ok_lc {t : Tgt} {src : M Src} {mt : M Bool} {me : M Slot} {vs : List Nat} : Ok (mLc t src mt me vs env st) QD ↔ Ok (src env st) fun q s => q.items.length ≤ 100000 ∧ Ok (lcGo t q mt me (wipeE env vs) q.items s) fun l s => QD (.lst l) s := by
  unfold mLc
  rw [ok_bind]
  refine ok_iff fun q s => ?_
  by_cases h : q.items.length ≤ 100000
  · rw [if_pos h, ok_bind]
    simp only [h, true_and, ok_some]
  · rw [if_neg h, ok_none]
    simp [h]
theorem lc_inv {t : Tgt} {q : Src} {mt : M Bool} {me : M Slot} {envw : En} {Q : List D → Store → Prop} (I : List D → List D → Store → Prop) : ∀ (ds acc : List D) (st : Store), I ds acc st →
    (∀ d ds acc st, I (d :: ds) acc st → chk q st ∧ Oo (asg t d envw) fun env1 => Ok (mt env1 st) fun b s => if b = true then Ok (me env1 s) fun x s2 => Oo (imOf x) fun z => I ds (acc ++ [z]) s2 else I ds acc s) →
    (∀ acc st, I [] acc st → chk q st ∧ Q acc st) → Ok (lcGo t q mt me envw ds st) fun l s => Q (acc ++ l) s := by
  intro ds
  induction ds with
  | nil =>
    intro acc st h _ k
    obtain ⟨c, h⟩ := k acc st h
    unfold lcGo
    rw [if_pos c, ok_some, List.append_nil]
    exact h
  | cons d ds ih =>
    intro acc st h f k
    obtain ⟨c, h⟩ := f d ds acc st h
    unfold lcGo
    rw [if_pos c, ok_bindO]
    refine oo_mono h fun env1 h => ?_
    rw [ok_bind]
    refine ok_mono h fun b s h => ?_
    rw [ok_ite]
    split at h
    · rename_i hb
      rw [if_pos hb, ok_bind]
      refine ok_mono h fun x s2 h => ?_
      rw [ok_bindO]
      refine oo_mono h fun z h => ?_
      rw [ok_bind]
      refine ok_mono (ih (acc ++ [z]) s2 h f k) fun l s3 h => ?_
      rw [ok_some]
      rw [List.append_assoc] at h
      exact h
    · rename_i hb
      rw [if_neg hb]
      exact ih acc s h f k
/-- a comprehension that changes nothing: by each item's own word -/
theorem lc_pure {t : Tgt} {q : Src} {mt : M Bool} {me : M Slot} {envw : En} {Q : List D → Store → Prop} (p : D → Bool) (f : D → D) (hc : chk q st) : ∀ (ds : List D),
    (∀ d ∈ ds, Oo (asg t d envw) fun env1 => Ok (mt env1 st) fun b s => (b = p d ∧ s = st) ∧ (p d = true → Ok (me env1 st) fun x s2 => x = .im (f d) ∧ s2 = st)) →
    Q ((ds.filter p).map f) st → Ok (lcGo t q mt me envw ds st) Q := by
  intro ds
  induction ds generalizing Q with
  | nil =>
    intro _ k
    unfold lcGo
    rw [if_pos hc, ok_some]
    exact k
  | cons d ds ih =>
    intro g k
    unfold lcGo
    rw [if_pos hc, ok_bindO]
    refine oo_mono (g d (by simp)) fun env1 h => ?_
    rw [ok_bind]
    refine ok_mono h fun b s h => ?_
    obtain ⟨⟨rfl, rfl⟩, h⟩ := h
    rw [ok_ite]
    by_cases hb : p d = true
    · rw [if_pos hb, ok_bind]
      refine ok_mono (h hb) fun x s2 h => ?_
      obtain ⟨rfl, rfl⟩ := h
      show Ok (bindM (some (f d)) _) Q
      rw [ok_bindO, oo_some, ok_bind]
      refine ih (fun x hx => g x (by simp [hx])) ?_
      rw [ok_some]
      rw [List.filter_cons_of_pos hb] at k
      exact k
    · rw [if_neg hb]
      refine ih (fun x hx => g x (by simp [hx])) ?_
      rw [List.filter_cons_of_neg hb] at k
      exact k
theorem wh_inv {c : M Bool} {body : StM} (I : Nat → En → Store → Prop) (N : Nat) (f : ∀ i env st, I i env st → Ok (c env st) fun b s => if b = true then i < N ∧ Os (body env s) (Turn (I (i + 1)) QO) else QO .nx env s) :
    ∀ (n i : Nat) (env : En) (st : Store), N < i + n → i ≤ N → I i env st → Os (whGo c body n env st) QO := by
  intro n
  induction n with
  | zero => intro i env st h h2; omega
  | succ n ih =>
    intro i env st h h2 hi
    unfold whGo
    rw [os_bind]
    refine ok_mono (f i env st hi) fun b s h => ?_
    rw [os_ite]
    split at h
    · rename_i hb
      rw [if_pos hb, os_bindS]
      refine os_mono h.2 fun o e s' h3 => ?_
      cases o with
      | nx => exact ih (i + 1) e s' (by omega) (by omega) h3
      | ct => exact ih (i + 1) e s' (by omega) (by omega) h3
      | bk => exact os_some.2 h3
      | rt x => exact os_some.2 h3
      | rtF x => exact os_some.2 h3
      | rtN x => exact os_some.2 h3
    · rename_i hb
      rw [if_neg hb, os_some]
      exact h
end
/-! the small words -/
section
variable {P : D → Prop}
theorem oo_add {a b : Int} : Oo (addD (.int a) (.int b)) P ↔ P (.int (a + b)) := oo_some
theorem oo_sub {a b : Int} : Oo (subD (.int a) (.int b)) P ↔ P (.int (a - b)) := oo_some
theorem oo_mul {a b : Int} : Oo (mulD (.int a) (.int b)) P ↔ a.natAbs.log2 + b.natAbs.log2 < 1000000 ∧ P (.int (a * b)) := oo_if
theorem oo_div {a b : Int} : Oo (divD (.int a) (.int b)) P ↔ (0 < b ∧ b.natAbs.log2 < 9000) ∧ P (.int (a / b)) := oo_if
theorem oo_mod {a b : Int} : Oo (modD (.int a) (.int b)) P ↔ 0 < b ∧ P (.int (a % b)) := oo_if
theorem oo_pow {a b : Int} : Oo (powD (.int a) (.int b)) P ↔ (0 ≤ b ∧ b ≤ 100 ∧ a.natAbs.log2 < 100000) ∧ P (.int (a ^ b.toNat)) := oo_if
theorem oo_neg {a : Int} : Oo (negD (.int a)) P ↔ P (.int (-a)) := oo_some
theorem oo_lt {a b : Int} : Oo (ltD (.int a) (.int b)) P ↔ P (.bl (decide (a < b))) := oo_some
theorem oo_le {a b : Int} : Oo (leD (.int a) (.int b)) P ↔ P (.bl (decide (a ≤ b))) := oo_some
theorem oo_gt {a b : Int} : Oo (gtD (.int a) (.int b)) P ↔ P (.bl (decide (b < a))) := oo_some
theorem oo_ge {a b : Int} : Oo (geD (.int a) (.int b)) P ↔ P (.bl (decide (b ≤ a))) := oo_some
theorem eqv_int (a b : Int) : PyData.eqv (.int a) (.int b) = decide (a = b) := by unfold PyData.eqv; first | rfl | simp [BEq.beq]
theorem oo_eq {a b : Int} : Oo (eqD (.int a) (.int b)) P ↔ P (.bl (decide (a = b))) := by
  show Oo (bindM (if SeqAt.shaped (.int a) = true ∧ SeqAt.shaped (.int b) = true then some (PyData.eqv (.int a) (.int b)) else none) fun b => some (D.bl b)) P ↔ _
  rw [if_pos ⟨rfl, rfl⟩, eqv_int]; exact oo_some
theorem oo_ne {a b : Int} : Oo (neD (.int a) (.int b)) P ↔ P (.bl (!decide (a = b))) := by
  show Oo (bindM (if SeqAt.shaped (.int a) = true ∧ SeqAt.shaped (.int b) = true then some (PyData.eqv (.int a) (.int b)) else none) fun b => some (D.bl (!b))) P ↔ _
  rw [if_pos ⟨rfl, rfl⟩, eqv_int]; exact oo_some
theorem oo_max2 {a b : Int} : Oo (max2D [.int a, .int b]) P ↔ P (.int (max a b)) := by
  have e : (if b > a then b else a) = max a b := by split <;> omega
  rw [← e]; exact oo_some
theorem oo_min2 {a b : Int} : Oo (min2D [.int a, .int b]) P ↔ P (.int (min a b)) := by
  have e : (if b < a then b else a) = min a b := by split <;> omega
  rw [← e]; exact oo_some
theorem oo_lenL {l : List D} : Oo (lenD [.lst l]) P ↔ P (.int (l.length : Int)) := oo_some
theorem oo_lenT {l : List D} : Oo (lenD [.tup l]) P ↔ P (.int (l.length : Int)) := oo_some
theorem oo_lenS {l : List Int} : Oo (lenD [.scr l]) P ↔ P (.int (l.length : Int)) := oo_some
theorem oo_isNN : Oo (isN .non .non) P ↔ P (.bl true) := oo_some
theorem oo_isNI {i : Int} : Oo (isN (.int i) .non) P ↔ P (.bl false) := oo_some
theorem oo_isnNN : Oo (isNotN .non .non) P ↔ P (.bl false) := oo_some
theorem oo_isnNI {i : Int} : Oo (isNotN (.int i) .non) P ↔ P (.bl true) := oo_some
theorem oo_tupL {l : List D} : Oo (tupleD [.lst l]) P ↔ P (.tup l) := oo_some
theorem oo_listL {l : List D} : Oo (listD [.lst l]) P ↔ P (.lst l) := oo_some
theorem oo_addT {a b : List D} : Oo (addD (.tup a) (.tup b)) P ↔ a.length + b.length ≤ 100000 ∧ P (.tup (a ++ b)) := oo_if
theorem oo_addL {a b : List D} : Oo (addD (.lst a) (.lst b)) P ↔ a.length + b.length ≤ 100000 ∧ P (.lst (a ++ b)) := oo_if
theorem oo_addF {a b : List D} : Oo (addF (.lst a) (.lst b)) P ↔ a.length + b.length ≤ 100000 ∧ P (.lst (a ++ b)) := oo_if
end
theorem atI_nat {α : Type} {l : List α} {i : Nat} {x : α} (h : l[i]? = some x) : L2.atI l (i : Int) = some x := by
  have hi := (List.getElem?_eq_some_iff.mp h).1
  unfold L2.atI L2.ixN
  rw [if_pos (by omega), if_pos (by omega)]
  simpa using h
theorem oo_ixL {l : List D} {i : Nat} {x : D} {P : D → Prop} (h : l[i]? = some x) : Oo (ixD (.lst l) (.int (i : Int))) P ↔ P x := by
  show Oo (L2.atI l (i : Int)) P ↔ P x
  rw [atI_nat h]; exact oo_some
theorem oo_ixT {l : List D} {i : Nat} {x : D} {P : D → Prop} (h : l[i]? = some x) : Oo (ixD (.tup l) (.int (i : Int))) P ↔ P x := by
  show Oo (L2.atI l (i : Int)) P ↔ P x
  rw [atI_nat h]; exact oo_some
theorem oo_ixT0 {x : D} {l : List D} {P : D → Prop} : Oo (ixD (.tup (x :: l)) (.int 0)) P ↔ P x := oo_ixT (i := 0) rfl
theorem oo_ixT1 {y x : D} {l : List D} {P : D → Prop} : Oo (ixD (.tup (y :: x :: l)) (.int 1)) P ↔ P x := oo_ixT (i := 1) rfl
theorem oo_ixT2 {z y x : D} {l : List D} {P : D → Prop} : Oo (ixD (.tup (z :: y :: x :: l)) (.int 2)) P ↔ P x := oo_ixT (i := 2) rfl
theorem oo_ixL0 {x : D} {l : List D} {P : D → Prop} : Oo (ixD (.lst (x :: l)) (.int 0)) P ↔ P x := oo_ixL (i := 0) rfl
theorem oo_ixL1 {y x : D} {l : List D} {P : D → Prop} : Oo (ixD (.lst (y :: x :: l)) (.int 1)) P ↔ P x := oo_ixL (i := 1) rfl
theorem oo_ixL2 {z y x : D} {l : List D} {P : D → Prop} : Oo (ixD (.lst (z :: y :: x :: l)) (.int 2)) P ↔ P x := oo_ixL (i := 2) rfl
theorem ixN_nat {n i : Nat} (h : i < n) : L2.ixN n (i : Int) = some i := by
  unfold L2.ixN
  rw [if_pos (by omega), if_pos (by omega)]; simp
theorem oo_setL {l : List D} {i : Nat} {v : D} {P : D → Prop} (h : i < l.length) : Oo (setG (.lst l) (.int (i : Int)) v) P ↔ P (.lst (l.set i v)) := by
  show Oo (bindM (L2.ixN l.length (i : Int)) fun j => some (D.lst (l.set j v))) P ↔ _
  rw [ixN_nat h]; exact oo_some
theorem ok_varO {i : Nat} {env : En} {st : Store} {Q : Slot → Store → Prop} : Ok (mVar i env st) Q ↔ Oo env[i]? fun s => s ≠ .no ∧ Q s st := by
  unfold mVar
  cases h : env[i]? with
  | none => exact ok_none.trans oo_none.symm
  | some x => cases x with
    | no => rw [oo_some]; simp [ok_none]
    | im d => rw [oo_some]; simp [ok_some]
    | pt k => rw [oo_some]; simp [ok_some]
    | ns k => rw [oo_some]; simp [ok_some]
theorem deref_im {d : D} {st : Store} : deref (.im d) st = some d := rfl
theorem deref_ptL {k : Nat} {st : Store} {l : List D} (h : st[k]? = some (.lst l)) : deref (.pt k) st = some (.lst l) := by simp only [deref, h]
theorem deref_ptD {k : Nat} {st : Store} {l : List (L2.Key × D)} (h : st[k]? = some (.dic l)) : deref (.pt k) st = some (.dic l) := by simp only [deref, h]
theorem imOf_im {d : D} : imOf (.im d) = some d := rfl
theorem oo_set0 {x v : D} {l : List D} {P : D → Prop} : Oo (setG (.lst (x :: l)) (.int 0) v) P ↔ P (.lst (v :: l)) := oo_setL (i := 0) (by simp)
theorem oo_set1 {y x v : D} {l : List D} {P : D → Prop} : Oo (setG (.lst (y :: x :: l)) (.int 1) v) P ↔ P (.lst (y :: v :: l)) := oo_setL (i := 1) (by simp)
theorem oo_set2 {z y x v : D} {l : List D} {P : D → Prop} : Oo (setG (.lst (z :: y :: x :: l)) (.int 2) v) P ↔ P (.lst (z :: y :: v :: l)) := oo_setL (i := 2) (by simp)
theorem deref_set {k : Nat} {st : Store} {l : List D} (h : k < st.length) : deref (.pt k) (st.set k (.lst l)) = some (.lst l) := deref_ptL (by simp [h])
theorem take_set {k : Nat} {st : Store} {d : D} : (st.set k d).take st.length = st.set k d := by rw [← List.length_set (as := st) (i := k) (a := d)]; exact List.take_length
theorem take_self {st : Store} : st.take st.length = st := List.take_length
theorem lg {x : Int} {k : Nat} (hk : 300 ≤ k) (h1 : -(2 ^ 250) < x) (h2 : x < 2 ^ 250) : x.natAbs.log2 < k := by
  refine Nat.lt_of_lt_of_le ?_ hk
  by_cases z : x.natAbs = 0
  · rw [z]; decide
  · rw [Nat.log2_lt z]
    have e : ((2 ^ 250 : Nat) : Int) = 2 ^ 250 := by norm_cast
    have : x.natAbs < 2 ^ 250 := by omega
    exact Nat.lt_of_lt_of_le this (Nat.pow_le_pow_right (by decide) (by decide))
theorem lg2 {x y : Int} (h1 : -(2 ^ 250) < x) (h2 : x < 2 ^ 250) (h3 : -(2 ^ 250) < y) (h4 : y < 2 ^ 250) : x.natAbs.log2 + y.natAbs.log2 < 1000000 := by
  have a : x.natAbs.log2 < 500000 := lg (by decide) h1 h2
  have b : y.natAbs.log2 < 500000 := lg (by decide) h3 h4
  omega
theorem ok_nw {m : M D} {env : En} {st : Store} {Q : Slot → Store → Prop} : Ok (mNw m env st) Q ↔ Ok (m env st) fun d t => Q (.pt t.length) (t ++ [d]) := by unfold mNw; simp only [ok_bind, ok_some]
theorem ok_lstN {ma : M (List Slot)} {env : En} {st : Store} {Q : Slot → Store → Prop} : Ok (mLstN ma env st) Q ↔ Ok (ma env st) fun l t => l.length ≤ 100000 ∧ Q (.ns l) t := by
  unfold mLstN; rw [ok_bind]; simp only [ok_ifn]
theorem ok_nsIx {m : M Slot} {c : Nat} {env : En} {st : Store} {Q : Slot → Store → Prop} : Ok (mNsIx m c env st) Q ↔ Ok (m env st) fun s t => Oo (isNs s) fun ks => Oo ks[c]? fun k => Q k t := by
  unfold mNsIx; simp only [ok_bind]; simp only [ok_bindO, ok_some]
def isBlD : D → Option Bool
  | .bl b => some b
  | _ => none
end Mi
local macro_rules
  | `(tactic| rotate_left 101) => `(tactic| simp only [Mi.ok_nw, Mi.ok_lstN, Mi.ok_nsIx, Mi.isNs, Mi.ok_fn, Mi.os_seq, Mi.nx_nx, Mi.nx_rt, Mi.nx_rtF, Mi.nx_rtN, Mi.nx_bk, Mi.nx_ct, Mi.os_set, Mi.os_new, Mi.os_setT, Mi.os_ret, Mi.os_retF, Mi.os_retL, Mi.os_ifS, Mi.os_drop, Mi.os_setIx, Mi.os_put, Mi.os_skip, Mi.ok_C, Mi.ok_F, Mi.ok_op, Mi.ok_opF, Mi.ok_un, Mi.ok_nil, Mi.ok_cons, Mi.ok_B, Mi.ok_BF, Mi.ok_tup, Mi.ok_lst, Mi.ok_tru, Mi.ok_bool, Mi.ok_and, Mi.ok_or, Mi.ok_not, Mi.ok_val, Mi.ok_if, Mi.ok_yes, Mi.ok_rev, Mi.ok_sset, Mi.ok_call, Mi.ok_callF, Mi.ok_lrng, Mi.ok_dict1, Mi.ok_meth, Mi.ok_methS, Mi.os_for, Mi.ok_lc, Mi.ok_seqS, Mi.ok_rng1, Mi.ok_rng2, Mi.en_nx, Mi.en_im, Mi.en_pt, Mi.en_F, Mi.en_N, Mi.tn_nx, Mi.tn_ct, Mi.tn_bk, Mi.tn_rt, Mi.tn_rtF, Mi.tn_rtN, Mi.oo_some, Mi.oo_bind, Mi.ok_varO, Mi.deref_im, Mi.imOf_im, Mi.isBl, Mi.isPt, Mi.isInt1, Mi.isInt2, Mi.imsOf, Mi.derefs, Mi.oo_add, Mi.oo_sub, Mi.oo_mul, Mi.oo_div, Mi.oo_mod, Mi.oo_pow, Mi.oo_neg, Mi.oo_lt, Mi.oo_le, Mi.oo_gt, Mi.oo_ge, Mi.oo_eq, Mi.oo_ne, Mi.oo_max2, Mi.oo_min2, Mi.oo_lenL, Mi.oo_lenT, Mi.oo_lenS, Mi.oo_isNN, Mi.oo_isNI, Mi.oo_isnNN, Mi.oo_isnNI, Mi.oo_tupL, Mi.oo_listL, Mi.oo_set0, Mi.oo_set1, Mi.oo_set2, Mi.take_set, Mi.take_self, Mi.oo_ixT0, Mi.oo_ixT1, Mi.oo_ixT2, Mi.oo_ixL0, Mi.oo_ixL1, Mi.oo_ixL2, List.cons_append, List.nil_append, List.length_cons, List.length_nil, List.replicate, Nat.reduceAdd, Nat.reduceSub, Int.reduceToNat, Int.reducePow, Int.reduceAdd, Int.reduceSub, Int.reduceMul, Int.reduceLT, Int.reduceLE, Nat.reduceLT, Int.reduceNeg, Nat.reduceLeDiff, List.getElem?_cons_zero, List.getElem?_cons_succ, List.set_cons_zero, List.set_cons_succ, ne_eq, reduceCtorEq, not_false_eq_true, true_and, Bool.not_true, Bool.not_false, Bool.false_eq_true, if_true, if_false, decide_eq_true_eq, and_true, Mi.isL, Mi.isDi, Mi.asg, Mi.asgs, Mi.seqItems, Mi.wipeE, Mi.Res.d])
/-! My: more words for running a mirror: loops over mapped items, two fors, chains. -/
namespace Mi
open PySem
section
variable {s st : Store} {env : En} {QO : Out → En → Store → Prop} {QD : D → Store → Prop} {QB : Bool → Store → Prop}
/-- a comprehension that changes nothing, over items that are images -/
theorem lc_map {α : Type} (g : α → D) (p : α → Bool) (f : α → D) {t : Tgt} {q : Src} {mt : M Bool} {me : M Slot} {envw : En} {Q : List D → Store → Prop} (hc : chk q st) : ∀ (l : List α),
    (∀ x ∈ l, Oo (asg t (g x) envw) fun env1 => Ok (mt env1 st) fun b s => (b = p x ∧ s = st) ∧ (p x = true → Ok (me env1 st) fun y s2 => y = .im (f x) ∧ s2 = st)) →
    Q ((l.filter p).map f) st → Ok (lcGo t q mt me envw (l.map g) st) Q := by
  intro l
  induction l generalizing Q with
  | nil =>
    intro _ k
    unfold lcGo
    rw [List.map_nil]
    dsimp only
    rw [if_pos hc, ok_some]
    exact k
  | cons d ds ih =>
    intro h k
    rw [List.map_cons]
    unfold lcGo
    rw [if_pos hc, ok_bindO]
    refine oo_mono (h d (by simp)) fun env1 h1 => ?_
    rw [ok_bind]
    refine ok_mono h1 fun b s h1 => ?_
    obtain ⟨⟨rfl, rfl⟩, h1⟩ := h1
    rw [ok_ite]
    by_cases hb : p d = true
    · rw [if_pos hb, ok_bind]
      refine ok_mono (h1 hb) fun x s2 h2 => ?_
      obtain ⟨rfl, rfl⟩ := h2
      show Ok (bindM (some (f d)) _) Q
      rw [ok_bindO, oo_some, ok_bind]
      refine ih (fun x hx => h x (by simp [hx])) ?_
      rw [ok_some]
      rw [List.filter_cons_of_pos hb] at k
      exact k
    · rw [if_neg hb]
      refine ih (fun x hx => h x (by simp [hx])) ?_
      rw [List.filter_cons_of_neg hb] at k
      exact k
theorem for_map {α : Type} (g : α → D) {t : Tgt} {q : Src} {body : StM} (I : List α → En → Store → Prop) : ∀ (l : List α) (env : En) (st : Store), I l env st →
    (∀ x xs env st, I (x :: xs) env st → chk q st ∧ Oo (asg t (g x) env) fun env1 => Os (body env1 st) (Turn (I xs) QO)) → (∀ env st, I [] env st → chk q st ∧ QO .nx env st) → Os (forGo t q body (l.map g) env st) QO := by
  intro l env st h f k
  refine for_inv (fun ds env st => ∃ l : List α, ds = l.map g ∧ I l env st) _ _ _ ⟨l, rfl, h⟩ ?_ ?_
  · rintro d ds env st ⟨l, e, h⟩
    cases l with
    | nil => cases e
    | cons x xs =>
      injection e with e1 e2
      subst e1 e2
      obtain ⟨c, h⟩ := f x xs env st h
      refine ⟨c, oo_mono h fun env1 h => os_mono h fun o e s h => ?_⟩
      cases o <;> first | exact ⟨_, rfl, h⟩ | exact h
  · rintro env st ⟨l, e, h⟩
    cases l with
    | nil => exact k env st h
    | cons x xs => cases e
theorem ok_lc2 {t t1 : Tgt} {src src1 : M Src} {mt mt1 : M Bool} {me : M Slot} {vs vs1 : List Nat} : Ok (mLc2 t src mt t1 src1 mt1 me vs vs1 env st) QD ↔ Ok (src env st) fun q s => Ok (lc2Go t q mt t1 src1 mt1 me (wipeE env vs) vs1 q.items s) fun l s => l.length ≤ 100000 ∧ QD (.lst l) s := by
  unfold mLc2
  rw [ok_bind]
  refine ok_iff fun q s => ?_
  rw [ok_bind]
  refine ok_iff fun l s => ?_
  by_cases h : l.length ≤ 100000
  · rw [if_pos h, ok_some]; simp [h]
  · rw [if_neg h, ok_none]; simp [h]
/-- two fors that change nothing: what each item of the first gives, f x -/
theorem lc2_map {α : Type} (g : α → D) (f : α → List D) {t t1 : Tgt} {q : Src} {src1 : M Src} {mt mt1 : M Bool} {me : M Slot} {envw : En} {vs1 : List Nat} {Q : List D → Store → Prop} (hc : chk q st) : ∀ (l : List α),
    (∀ x ∈ l, Oo (asg t (g x) envw) fun env1 => Ok (mt env1 st) fun b s => s = st ∧ (b = false → f x = []) ∧ (b = true → env1.all noNs = true ∧ Ok (src1 env1 st) fun q1 s1 => Ok (lcGo t1 q1 mt1 me (wipeE env1 vs1) q1.items s1) fun r s2 => r = f x ∧ s2 = st)) →
    Q (l.map f).flatten st → Ok (lc2Go t q mt t1 src1 mt1 me envw vs1 (l.map g) st) Q := by
  intro l
  induction l generalizing Q with
  | nil =>
    intro _ k
    rw [List.map_nil]
    unfold lc2Go
    rw [if_pos hc, ok_some]
    exact k
  | cons d ds ih =>
    intro h k
    rw [List.map_cons]
    unfold lc2Go
    rw [if_pos hc, ok_bindO]
    refine oo_mono (h d (by simp)) fun env1 h1 => ?_
    rw [ok_bind]
    refine ok_mono h1 fun b s h1 => ?_
    obtain ⟨rfl, hf, ht⟩ := h1
    rw [ok_ite]
    cases b with
    | false =>
      rw [if_neg (by simp)]
      refine ih (fun x hx => h x (by simp [hx])) ?_
      rw [List.map_cons, List.flatten_cons, hf rfl] at k
      exact k
    | true =>
      obtain ⟨hn, h2⟩ := ht rfl
      rw [if_pos rfl]
      dsimp only
      rw [if_pos hn, ok_bind]
      refine ok_mono h2 fun q1 s1 h2 => ?_
      rw [ok_bind]
      refine ok_mono h2 fun r s2 h2 => ?_
      obtain ⟨rfl, rfl⟩ := h2
      rw [ok_bind]
      refine ih (fun x hx => h x (by simp [hx])) ?_
      rw [ok_some]
      rw [List.map_cons, List.flatten_cons] at k
      exact k
theorem oo_asB {b : Bool} {P : Bool → Prop} : Oo (asB (.bl b)) P ↔ P b := oo_some
theorem ok_chain {g g' : D → D → Option D} {ma mb mc : M Slot} : Ok (mChain g g' ma mb mc env st) QB ↔ Ok (ma env st) fun s1 t1 => Ok (mb env t1) fun s2 t2 => Oo (deref s1 t2) fun d1 => Oo (deref s2 t2) fun d2 => Oo (g d1 d2) fun z => Oo (asB z) fun k =>
    if k = true then Ok (mc env t2) fun s3 t3 => Oo (deref s2 t3) fun d3 => Oo (deref s3 t3) fun d4 => Oo (g' d3 d4) fun z2 => Oo (asB z2) fun k2 => QB k2 t3 else QB false t2 := by
  unfold mChain; simp only [ok_bind]; simp only [ok_bindO (β := D), ok_bindO (β := Bool), ok_ite, ok_bind, ok_some]
end
theorem ok_nsPick {i : Nat} {m : M Slot} {env : En} {st : Store} {Q : Slot → Store → Prop} : Ok (mNsPick i m env st) Q ↔ Ok (m env st) fun s t => Oo (isNs s) fun ss => (i < env.length ∧ ss.length ≤ 100000) ∧ Q (.ns (ss.filter notNon)) t := by
  unfold mNsPick; rw [ok_bind]; simp only [ok_bindO, ok_ifn]
theorem oo_truI {i : Int} {P : Bool → Prop} : Oo (truth (.int i)) P ↔ P (i != 0) := oo_some
theorem oo_truB {b : Bool} {P : Bool → Prop} : Oo (truth (.bl b)) P ↔ P b := oo_some
theorem oo_truL {l : List D} {P : Bool → Prop} : Oo (truth (.lst l)) P ↔ P (!l.isEmpty) := oo_some
theorem oo_truT {l : List D} {P : Bool → Prop} : Oo (truth (.tup l)) P ↔ P (!l.isEmpty) := oo_some
theorem oo_truN {P : Bool → Prop} : Oo (truth .non) P ↔ P false := oo_some
end Mi
/-! Mz: small words of built-ins over mapped lists; sorted lists of ints. -/
namespace Mi
open PySem
theorem blsOf_map {α : Type} (f : α → Bool) : ∀ l : List α, blsOf (l.map fun x => D.bl (f x)) = some (l.map f)
  | [] => rfl
  | a :: l => by
    show bindM (blsOf (l.map fun x => D.bl (f x))) _ = _
    rw [blsOf_map f l]; rfl
theorem oo_all_map {α : Type} {f : α → Bool} {l : List α} {P : D → Prop} : Oo (allD [.lst (l.map fun x => D.bl (f x))]) P ↔ P (.bl (l.all f)) := by
  have e : allD [.lst (l.map fun x => D.bl (f x))] = some (.bl (l.all f)) := by
    show bindM (blsOf _) _ = _
    rw [blsOf_map]
    show some (D.bl ((l.map f).all id)) = _
    rw [List.all_map]; rfl
  rw [e]; exact oo_some
theorem oo_any_map {α : Type} {f : α → Bool} {l : List α} {P : D → Prop} : Oo (anyD [.lst (l.map fun x => D.bl (f x))]) P ↔ P (.bl (l.any f)) := by
  have e : anyD [.lst (l.map fun x => D.bl (f x))] = some (.bl (l.any f)) := by
    show bindM (blsOf _) _ = _
    rw [blsOf_map]
    show some (D.bl ((l.map f).any id)) = _
    rw [List.any_map]; rfl
  rw [e]; exact oo_some
theorem filter_true {α : Type} (l : List α) : l.filter (fun _ => true) = l := List.filter_eq_self.2 fun _ _ => rfl
theorem toPys_intsM : ∀ l : List Int, toPys (l.map D.int) = some (l.map PyData.int)
  | [] => by simp [toPys]
  | a :: l => by
    show toPys (.int a :: l.map D.int) = _
    simp only [toPys, toPy, bindM_eq, toPys_intsM l, List.map_cons]
theorem oo_neNil {l : List Int} {P : D → Prop} : Oo (neD (.lst (l.map D.int)) (.lst [])) P ↔ P (.bl (!l.isEmpty)) := by
  have e : neD (.lst (l.map D.int)) (.lst []) = some (.bl (!l.isEmpty)) := by
    show bindM (bindM (toPy (.lst (l.map D.int))) fun p => bindM (toPy (.lst [])) fun q => _) _ = _
    rw [show toPy (.lst (l.map D.int)) = some (.list (l.map PyData.int)) by simp only [toPy, toPys_intsM, bindM_eq], show toPy (.lst []) = some (.list []) by simp only [toPy, toPys, bindM_eq]]
    simp only [bindM_eq]
    rw [if_pos ⟨PySem.W.ke_shaped_ints l, rfl⟩]
    simp only [bindM_eq]
    cases l <;> rfl
  rw [e]; exact oo_some
theorem lt_of_le_nodup {l : List Int} (h : l.Pairwise (· ≤ ·)) (n : l.Nodup) : l.Pairwise (· < ·) := by
  refine (h.and n).imp fun {a b} h => ?_
  have := h.1; have := h.2
  omega
theorem sortI_lt {l : List Int} (n : l.Nodup) : (sortI l).Pairwise (· < ·) := lt_of_le_nodup (sortI_sorted l) ((sortI_perm l).nodup_iff.2 n)
theorem mem_sortI {l : List Int} {x : Int} : x ∈ sortI l ↔ x ∈ l := (sortI_perm l).mem_iff
theorem sortI_len {l : List Int} : (sortI l).length = l.length := (sortI_perm l).length_eq
theorem sortI_of {l m : List Int} (p : l.Perm m) : sortI l = sortI m := sorted_unique ((sortI_perm l).trans (p.trans (sortI_perm m).symm)) (sortI_sorted l) (sortI_sorted m)
theorem intsOf_mapI : ∀ l : List Int, intsOf (l.map D.int) = some l
  | [] => rfl
  | a :: l => by
    show bindM (intsOf (l.map D.int)) _ = _
    rw [intsOf_mapI l]; rfl
theorem oo_sortedI {l : List Int} {P : D → Prop} : Oo (sortedD [.lst (l.map D.int)]) P ↔ P (.lst ((sortI l).map D.int)) := by
  have e : sortedD [.lst (l.map D.int)] = some (.lst ((sortI l).map D.int)) := by
    show bindM (intsOf _) _ = _
    rw [intsOf_mapI]; rfl
  rw [e]; exact oo_some
theorem oo_ssetI {l : List Int} {P : D → Prop} (h1 : l.length ≤ 1000) (h2 : (iset l).length < 64) : Oo (sortedSetI (.lst (l.map D.int))) P ↔ P (.lst ((iset l).map D.int)) := by
  have e : sortedSetI (.lst (l.map D.int)) = some (.lst ((iset l).map D.int)) := by
    show bindM (intsOf _) _ = _
    rw [intsOf_mapI, bindM_eq, if_pos ⟨h1, h2⟩]
  rw [e]; exact oo_some
theorem nodup_subset_le {l A : List Int} (nd : l.Nodup) (h : ∀ v ∈ l, v ∈ A) : l.length ≤ A.length := by
  induction l generalizing A with
  | nil => simp
  | cons x l ih =>
    rw [List.nodup_cons] at nd
    have hx := h x (by simp)
    have := ih nd.2 (A := A.erase x) fun v hv => (List.mem_erase_of_ne (fun e => by rw [e] at hv; exact nd.1 hv)).2 (h v (by simp [hv]))
    rw [List.length_erase_of_mem hx] at this
    have := List.length_pos_of_mem hx
    simp; omega
theorem nodup_of_lt {l : List Int} (h : l.Pairwise (· < ·)) : l.Nodup := h.imp fun {a b} h e => by omega
theorem ok_ssetI {m : M Slot} {env : En} {st : Store} {Q : D → Store → Prop} : Ok (mSortedSetI m env st) Q ↔ Ok (m env st) fun s t => Oo (deref s t) fun d => Oo (sortedSetI d) fun z => Q z t := by unfold mSortedSetI; simp only [ok_bind]; simp only [ok_bindO, ok_some]
def isInt2a : List Slot → Option (Int × Int)
  | [.im (.int a), .im (.int n)] => some (a, n)
  | _ => none
theorem ok_lrng2 {m : M (List Slot)} {env : En} {st : Store} {Q : D → Store → Prop} : Ok (mListRng2 m env st) Q ↔ Ok (m env st) fun l t => Oo (isInt2a l) fun p => (0 ≤ p.1 ∧ p.1 ≤ 100000 ∧ 0 ≤ p.2 ∧ p.2 ≤ 100000) ∧ Q (.lst (rgD p.1 p.2)) t := by
  unfold mListRng2
  rw [ok_bind]
  have e : ∀ (l : List Slot) (t : Store), Ok (match l with | [.im (.int a), .im (.int n)] => if 0 ≤ a ∧ a ≤ 100000 ∧ 0 ≤ n ∧ n ≤ 100000 then some (D.lst (rgD a n), t) else none | _ => none) Q ↔ Oo (isInt2a l) fun p => (0 ≤ p.1 ∧ p.1 ≤ 100000 ∧ 0 ≤ p.2 ∧ p.2 ≤ 100000) ∧ Q (.lst (rgD p.1 p.2)) t := by
    intro l t
    unfold isInt2a
    split
    · rw [oo_some, ok_ifn]
    · exact ok_none.trans oo_none.symm
  exact ok_iff fun l t => e l t
theorem ok_trng1 {m : M (List Slot)} {env : En} {st : Store} {Q : Slot → Store → Prop} : Ok (mTupRng1 m env st) Q ↔ Ok (m env st) fun l t => Oo (isInt1 l) fun n => (0 ≤ n ∧ n ≤ 100000) ∧ Q (.im (.tup (rgD 0 n))) t := by
  unfold mTupRng1
  rw [ok_bind]
  have e : ∀ (l : List Slot) (t : Store), Ok (match l with | [.im (.int n)] => if 0 ≤ n ∧ n ≤ 100000 then some (Slot.im (.tup (rgD 0 n)), t) else none | _ => none) Q ↔ Oo (isInt1 l) fun n => (0 ≤ n ∧ n ≤ 100000) ∧ Q (.im (.tup (rgD 0 n))) t := by
    intro l t
    rcases l with _ | ⟨_ | (_ | _ | n | _ | _ | _ | _ | _ | _ | _) | _ | _, _ | ⟨_, _⟩⟩ <;> first | exact ok_none.trans oo_none.symm | exact Iff.trans ok_ifn (Iff.symm oo_some)
  exact ok_iff fun l t => e l t
theorem oo_mulF {xs : List D} {n : Int} {P : D → Prop} : Oo (mulF (.lst xs) (.int n)) P ↔ (-(2 ^ 63) ≤ n ∧ n < 2 ^ 63 ∧ xs.length * n.toNat ≤ 100000) ∧ P (.lst (List.replicate n.toNat xs).flatten) := oo_if
theorem oo_mulL {xs : List D} {n : Int} {P : D → Prop} : Oo (mulD (.lst xs) (.int n)) P ↔ (-(2 ^ 63) ≤ n ∧ n < 2 ^ 63 ∧ xs.length * n.toNat ≤ 100000) ∧ P (.lst (List.replicate n.toNat xs).flatten) := oo_if
theorem oo_intB {b : Bool} {P : D → Prop} : Oo (intD [.bl b]) P ↔ P (.int (if b then 1 else 0)) := oo_some
theorem oo_intI {i : Int} {P : D → Prop} : Oo (intD [.int i]) P ↔ P (.int i) := oo_some
theorem rep_one {α : Type} (a : α) : ∀ n : Nat, (List.replicate n [a]).flatten = List.replicate n a
  | 0 => rfl
  | n + 1 => by rw [List.replicate_succ, List.flatten_cons, rep_one a n]; rfl
section
variable {α : Type} {st cs : List α} {a b x y : α}
theorem q0 {t : List α} : (st ++ a :: t)[st.length]? = some a := by simp
theorem q1 {t : List α} : (st ++ a :: b :: t)[st.length + 1]? = some b := by
  rw [List.getElem?_append_right (by omega), show st.length + 1 - st.length = 1 by omega]; rfl
theorem q2 : (st ++ a :: b :: (cs ++ [x]))[st.length + (cs.length + 2)]? = some x := by
  rw [List.getElem?_append_right (by omega), show st.length + (cs.length + 2) - st.length = cs.length + 2 by omega, List.getElem?_cons_succ, List.getElem?_cons_succ]
  simp
theorem r0 {t : List α} : (st ++ a :: t).set st.length y = st ++ y :: t := by
  rw [List.set_append_right _ _ (Nat.le_refl _)]; simp
theorem r1 {t : List α} : (st ++ a :: b :: t).set (st.length + 1) y = st ++ a :: y :: t := by
  rw [List.set_append_right _ _ (by omega), show st.length + 1 - st.length = 1 by omega]; rfl
theorem r2 : (st ++ a :: b :: (cs ++ [x])).set (st.length + (cs.length + 2)) y = st ++ a :: b :: (cs ++ [y]) := by
  rw [List.set_append_right _ _ (by omega), show st.length + (cs.length + 2) - st.length = cs.length + 2 by omega, List.set_cons_succ, List.set_cons_succ, List.set_append_right _ _ (Nat.le_refl _)]; simp
theorem tk {t : List α} : (st ++ t).take st.length = st := by simp
end
theorem for_none {t : Tgt} {q : Src} {body : StM} {env : En} {st : Store} {QO : Out → En → Store → Prop} (c : chk q st) (h : QO .nx env st) : Os (forGo t q body [] env st) QO := by
  unfold forGo
  rw [if_pos c, os_some]
  exact h
theorem items2 {a b : Nat} : (List.range ((b : Int) - (a : Int)).toNat).map (fun i : Nat => D.int ((a : Int) + (i : Int))) = (List.range' a (b - a)).map fun j : Nat => D.int (j : Int) := by
  rw [show ((b : Int) - (a : Int)).toNat = b - a by omega, List.range'_eq_map_range, List.map_map]
  apply List.map_congr_left
  intro i _
  show D.int ((a : Int) + (i : Int)) = D.int ((a + i : Nat) : Int)
  rw [Int.natCast_add]
theorem items1 {b : Nat} : (List.range (b : Int).toNat).map (fun i : Nat => D.int (i : Int)) = (List.range' 0 b).map fun j : Nat => D.int (j : Int) := by
  simp [List.range_eq_range']
theorem canAll : ∀ {l : List PyData}, (∀ d ∈ l, d.canLay0 = true) → PyData.canLayAll0 l = true
  | [], _ => by simp [PyData.canLayAll0]
  | d :: l, h => by
    simp only [PyData.canLayAll0, Bool.and_eq_true]
    exact ⟨h d (by simp), canAll fun x hx => h x (by simp [hx])⟩
theorem depAll {k : Nat} : ∀ {l : List PyData}, (∀ d ∈ l, d.depth ≤ k) → PyData.depthAll l ≤ k
  | [], _ => by simp [PyData.depthAll]
  | d :: l, h => by
    simp only [PyData.depthAll]
    exact Nat.max_le.2 ⟨h d (by simp), depAll fun x hx => h x (by simp [hx])⟩
theorem shaped_tup {l : List PyData} (h : ∀ d ∈ l, d.canLay0 = true ∧ d.depth ≤ 50) : SeqAt.shaped (.tuple l) = true := by
  have a := canAll fun d hd => (h d hd).1
  have b := depAll fun d hd => (h d hd).2
  unfold SeqAt.shaped
  simp only [PyData.canLay0, PyData.depth, a, Bool.true_and]
  exact decide_eq_true (by omega)
theorem shaped_lst {l : List PyData} (h : ∀ d ∈ l, d.canLay0 = true ∧ d.depth ≤ 50) : SeqAt.shaped (.list l) = true := by
  have a := canAll fun d hd => (h d hd).1
  have b := depAll fun d hd => (h d hd).2
  unfold SeqAt.shaped
  simp only [PyData.canLay0, PyData.depth, a, Bool.true_and]
  exact decide_eq_true (by omega)
section
variable {env : En} {st : Store} {QI : Option Int → Store → Prop} {QS : Slot → Store → Prop}
theorem ok_mNone : Ok (mNone env st) QI ↔ QI none st := ok_some
def isInt0 : Slot → Option Int
  | .im (.int i) => some i
  | _ => none
theorem ok_mSome {m : M Slot} : Ok (mSome m env st) QI ↔ Ok (m env st) fun s t => Oo (isInt0 s) fun i => QI (some i) t := by
  unfold mSome
  rw [ok_bind]
  have e : ∀ (s : Slot) (t : Store), Ok (match s with | .im (.int i) => some (some i, t) | _ => none) QI ↔ Oo (isInt0 s) fun i => QI (some i) t := by
    intro s t
    rcases s with _ | d | k | ks
    · exact ok_none.trans oo_none.symm
    · cases d <;> first | exact ok_none.trans oo_none.symm | exact Iff.trans ok_some (Iff.symm (oo_some (P := fun i => QI (some i) t)))
    · exact ok_none.trans oo_none.symm
    · exact ok_none.trans oo_none.symm
  exact ok_iff fun s t => e s t
theorem ok_sl {m : M Slot} {lo hi : M (Option Int)} : Ok (mSl m lo hi env st) QS ↔ Ok (m env st) fun s t => Ok (lo env t) fun l t2 => Ok (hi env t2) fun h t3 => Oo (deref s t3) fun d => Oo (slD d l h) fun z => QS (.im z) t3 := by
  unfold mSl; simp only [ok_bind]; simp only [ok_bindO, ok_some]
end
theorem oo_slT {l : List D} {lo hi : Option Int} {P : D → Prop} : Oo (slD (.tup l) lo hi) P ↔ P (.tup (cutD l lo hi)) := oo_some
theorem oo_slL {l : List D} {lo hi : Option Int} {P : D → Prop} : Oo (slD (.lst l) lo hi) P ↔ P (.lst (cutD l lo hi)) := oo_some
theorem oo_slL2 {l : List D} {lo hi : Option Int} {P : D → Prop} : Oo (slF (.lst l) lo hi) P ↔ P (.lst (cutD l lo hi)) := oo_some
theorem oo_minL {a : Int} {l : List Int} {P : D → Prop} : Oo (minLD [.lst ((a :: l).map D.int)]) P ↔ P (.int (leastI a l)) := by
  have e : minLD [.lst ((a :: l).map D.int)] = some (.int (leastI a l)) := by
    show bindM (intsOf _) _ = _
    rw [intsOf_mapI]; rfl
  rw [e]; exact oo_some
def leastO : List Int → Option Int
  | [] => none
  | a :: l => some (leastI a l)
theorem leastO_spec {l : List Int} {m : Int} : leastO l = some m ↔ m ∈ l ∧ ∀ y ∈ l, m ≤ y := by
  cases l with
  | nil => simp [leastO]
  | cons a l =>
    obtain ⟨h1, h2, h3⟩ := leastI_le l a
    show some (leastI a l) = some m ↔ _
    constructor
    · intro e
      injection e with e
      subst e
      refine ⟨?_, fun y hy => ?_⟩
      · rcases h3 with h | h
        · rw [h]; simp
        · exact List.mem_cons_of_mem _ h
      · rcases List.mem_cons.mp hy with rfl | hy
        · exact h1
        · exact h2 y hy
    · rintro ⟨hm, hle⟩
      have a1 : m ≤ leastI a l := by
        rcases h3 with h | h
        · rw [h]; exact hle a (by simp)
        · exact hle _ (List.mem_cons_of_mem _ h)
      have a2 : leastI a l ≤ m := by
        rcases List.mem_cons.mp hm with rfl | hm
        · exact h1
        · exact h2 m hm
      congr 1
      omega
theorem leastO_same {l m : List Int} (h : ∀ x, x ∈ l ↔ x ∈ m) : leastO l = leastO m := by
  cases e : leastO l with
  | none =>
    have : l = [] := by cases l <;> first | rfl | cases e
    subst this
    have : m = [] := List.eq_nil_iff_forall_not_mem.2 fun x hx => by have := (h x).2 hx; cases this
    subst this
    rfl
  | some a =>
    obtain ⟨h1, h2⟩ := leastO_spec.1 e
    exact (leastO_spec.2 ⟨(h a).1 h1, fun y hy => h2 y ((h y).2 hy)⟩).symm
section
variable {env : En} {st : Store} {QS : Slot → Store → Prop} {QD : D → Store → Prop} {QC : Src → Store → Prop}
def isPtO : Slot → Option Nat
  | .pt k => some k
  | _ => none
theorem ok_setdT {mo : M Slot} {mk : M (List Slot)} {mv : M Slot} : Ok (mSetdT mo mk mv env st) QS ↔ Ok (mo env st) fun s t => Oo (isPtO s) fun k => Oo t[k]? fun d0 => isDt d0 = true ∧ Ok (mk env t) fun l t1 => Oo (imsOf l) fun ds => ds.length ≤ 100000 ∧ Oo (keysOf ds) fun key => Ok (mv env t1) fun s2 t2 => Oo (imOf s2) fun v => Oo t2[k]? fun d => Ok (setdE k key v t2 d) QS := by
  unfold mSetdT
  rw [ok_bind]
  refine ok_iff fun s t => ?_
  rw [ok_bindO]
  show Oo (isPtO s) _ ↔ _
  refine oo_iff fun k => ?_
  rw [ok_bindO]
  refine oo_iff fun d0 => ?_
  by_cases h : isDt d0 = true
  · rw [if_pos h, ok_bind]
    simp only [h, true_and]
    refine ok_iff fun l t1 => ?_
    rw [ok_bindO]
    refine oo_iff fun ds => ?_
    by_cases h2 : ds.length ≤ 100000
    · rw [if_pos h2, ok_bindO]
      simp only [h2, true_and]
      refine oo_iff fun key => ?_
      rw [ok_bind]
      refine ok_iff fun s2 t2 => ?_
      rw [ok_bindO]
      refine oo_iff fun v => ?_
      rw [ok_bindO]
    · rw [if_neg h2, ok_none]; simp [h2]
  · rw [if_neg h, ok_none]; simp [h]
def ditVals : D → Option (List D)
  | .dit kds => some (kds.map (·.2))
  | _ => none
theorem ok_listVals {mo : M Slot} : Ok (mListVals mo env st) QD ↔ Ok (mo env st) fun s t => Oo (deref s t) fun d => Oo (ditVals d) fun l => QD (.lst l) t := by
  unfold mListVals
  rw [ok_bind]
  refine ok_iff fun s t => ?_
  rw [ok_bindO]
  refine oo_iff fun d => ?_
  cases d <;> first | exact ok_none.trans oo_none.symm | exact Iff.trans ok_some (Iff.symm oo_some)
def isOne : List Slot → Option Slot
  | [s] => some s
  | _ => none
theorem ok_enum {m : M (List Slot)} : Ok (mEnum m env st) QC ↔ Ok (m env st) fun l t => Oo (isOne l) fun s => Oo (deref s t) fun d => Oo (seqItems d) fun ds => QC ⟨s, d, enumI 0 ds⟩ t := by
  unfold mEnum
  rw [ok_bind]
  refine ok_iff fun l t => ?_
  rcases l with _ | ⟨s, _ | ⟨_, _⟩⟩
  · exact ok_none.trans oo_none.symm
  · show Ok (bindM (deref s t) _) QC ↔ Oo (some s) _
    rw [oo_some]; simp only [ok_bindO, ok_some]
  · exact ok_none.trans oo_none.symm
end
/-! pairs as lists of ints, sorted -/
def p2 (p : Int × Int) : List Int := [p.1, p.2]
theorem tle_p2 (a b : Int × Int) : tle (p2 a) (p2 b) = MiS.ple a b := by
  unfold tle p2 MiS.ple
  rw [← decide_not]
  congr 1
  rw [eq_iff_iff, List.cons_lt_cons_iff, List.cons_lt_cons_iff]
  have : ¬ (([] : List Int) < []) := by simp
  constructor
  · intro h
    omega
  · intro h h2
    rcases h2 with h2 | ⟨h2, h3 | ⟨h3, h4⟩⟩
    · omega
    · omega
    · exact this h4
theorem sortP_of {l m : List (Int × Int)} (hm : m.Pairwise MiS.plt) (nd : l.Nodup) (h : ∀ x, x ∈ l ↔ x ∈ m) : sortT (l.map p2) = m.map p2 := by
  have e : (l.mergeSort fun a b => MiS.ple a b).map p2 = sortT (l.map p2) := List.map_mergeSort fun a _ b _ => (tle_p2 a b).symm
  rw [← e]
  congr 1
  have pm := List.mergeSort_perm l (fun a b => MiS.ple a b)
  have pw := List.pairwise_mergeSort (le := fun a b => MiS.ple a b) (fun a b c h k => by unfold MiS.ple at *; rw [decide_eq_true_eq] at *; omega) (fun a b => by
    unfold MiS.ple; rw [Bool.or_eq_true, decide_eq_true_eq, decide_eq_true_eq]; omega) l
  refine MiS.lt_unique ?_ hm fun x => (pm.mem_iff).trans (h x)
  exact ((pm.nodup_iff.2 nd).and pw).imp fun h => MiS.plt_of h.1 h.2
theorem oo_sortP {l m : List (Int × Int)} {P : D → Prop} (hm : m.Pairwise MiS.plt) (nd : l.Nodup) (h : ∀ x, x ∈ l ↔ x ∈ m) : Oo (sortedTD [.lst (l.map pairD)]) P ↔ P (.lst (m.map pairD)) := by
  have e : sortedTD [.lst (l.map pairD)] = some (.lst (m.map pairD)) := by
    have e1 : l.map pairD = (l.map p2).map tupD := by rw [List.map_map]; rfl
    show bindM (tupsOf (l.map pairD)) _ = _
    rw [e1, tupsOf_map (fun p hp => by obtain ⟨q, _, rfl⟩ := List.mem_map.mp hp; unfold p2; simp), bindM_eq, sortP_of hm nd h, List.map_map]
    rfl
  rw [e]; exact oo_some
theorem oo_minP2 {a : Int × Int} {l : List (Int × Int)} {P : D → Prop} (h : (a :: l).Pairwise MiS.plt) : Oo (minTupD [.lst ((a :: l).map pairD)]) P ↔ P (pairD a) := by
  have e : minTupD [.lst ((a :: l).map pairD)] = some (pairD a) := by
    have e1 : (a :: l).map pairD = ((a :: l).map p2).map tupD := by rw [List.map_map]; rfl
    show bindM (tupsOf ((a :: l).map pairD)) _ = _
    rw [e1, tupsOf_map (fun p hp => by obtain ⟨q, _, rfl⟩ := List.mem_map.mp hp; unfold p2; simp), bindM_eq]
    show some (tupD (minL (p2 a) (l.map p2))) = _
    have e2 : minL (p2 a) (l.map p2) = p2 a := by
      unfold minL
      have hl := (List.pairwise_cons.mp h).1
      clear h e1
      induction l with
      | nil => rfl
      | cons b l ih =>
        rw [List.map_cons, List.foldl_cons, if_neg, ih fun x hx => hl x (by simp [hx])]
        have h1 := hl b (by simp)
        have := tle_p2 a b
        have : tle (p2 a) (p2 b) = true := by
          rw [this]; unfold MiS.ple; rw [decide_eq_true_eq]; unfold MiS.plt at h1; omega
        unfold tle at this
        simpa using this
    rw [e2]; rfl
  rw [e]; exact oo_some
end Mi
/-! Ma: more small words; a wider run. -/
namespace Mi
open PySem
theorem oo_sb {b : Bool} {P : Bool → Prop} : Oo (match Slot.im (D.bl b) with | .im (.bl b) => some b | _ => none) P ↔ P b := oo_some
theorem oo_i1 {n : Int} {P : Int → Prop} : Oo (match [Slot.im (D.int n)] with | [.im (.int n)] => some n | _ => none) P ↔ P n := oo_some
theorem ixL_any {l : List D} {w : Int} {P : D → Prop} (h0 : 0 ≤ w) (h1 : w < l.length) (h : ∀ x ∈ l, P x) : Oo (ixD (.lst l) (.int w)) P := by
  obtain ⟨i, rfl⟩ : ∃ i : Nat, w = i := ⟨w.toNat, by omega⟩
  have hi : i < l.length := by omega
  exact (oo_ixL (List.getElem?_eq_getElem hi)).2 (h _ (List.getElem_mem hi))
theorem ixT_any {l : List D} {w : Int} {P : D → Prop} (h0 : 0 ≤ w) (h1 : w < l.length) (h : ∀ x ∈ l, P x) : Oo (ixD (.tup l) (.int w)) P := by
  obtain ⟨i, rfl⟩ : ∃ i : Nat, w = i := ⟨w.toNat, by omega⟩
  have hi : i < l.length := by omega
  exact (oo_ixT (List.getElem?_eq_getElem hi)).2 (h _ (List.getElem_mem hi))
theorem oo_addTT {a b : List D} {P : D → Prop} (h : a.length + b.length ≤ 100000) : Oo (addD (.tup a) (.tup b)) P ↔ P (.tup (a ++ b)) := by
  have e : addD (.tup a) (.tup b) = some (.tup (a ++ b)) := if_pos h
  rw [e]; exact oo_some
theorem oo_addLL {a b : List D} {P : D → Prop} (h : a.length + b.length ≤ 100000) : Oo (addD (.lst a) (.lst b)) P ↔ P (.lst (a ++ b)) := by
  have e : addD (.lst a) (.lst b) = some (.lst (a ++ b)) := if_pos h
  rw [e]; exact oo_some
theorem oo_addFL {a b : List D} {P : D → Prop} (h : a.length + b.length ≤ 100000) : Oo (addF (.lst a) (.lst b)) P ↔ P (.lst (a ++ b)) := by
  have e : addF (.lst a) (.lst b) = some (.lst (a ++ b)) := if_pos h
  rw [e]; exact oo_some
theorem oo_addTTx {a b : List D} {P : D → Prop} : Oo (addD (.tup a) (.tup b)) P ↔ a.length + b.length ≤ 100000 ∧ P (.tup (a ++ b)) := oo_if
theorem oo_addLLx {a b : List D} {P : D → Prop} : Oo (addD (.lst a) (.lst b)) P ↔ a.length + b.length ≤ 100000 ∧ P (.lst (a ++ b)) := oo_if
theorem oo_addFLx {a b : List D} {P : D → Prop} : Oo (addF (.lst a) (.lst b)) P ↔ a.length + b.length ≤ 100000 ∧ P (.lst (a ++ b)) := oo_if
theorem cut_mem {α : Type} {l : List α} {lo hi : Option Int} {x : α} (h : x ∈ cutD l lo hi) : x ∈ l := List.mem_of_mem_drop (List.mem_of_mem_take h)
theorem cut_len {α : Type} {l : List α} {lo hi : Option Int} : (cutD l lo hi).length ≤ l.length := by
  unfold cutD
  rw [List.length_take, List.length_drop]; omega
theorem cut_map {α β : Type} (f : α → β) {l : List α} {lo hi : Option Int} : cutD (l.map f) lo hi = (cutD l lo hi).map f := by
  unfold cutD
  rw [List.map_take, List.map_drop, List.length_map]
theorem cut_to {α : Type} {l : List α} {a : Int} (h : 0 ≤ a) : cutD l none (some a) = l.take a.toNat := by
  obtain ⟨i, rfl⟩ : ∃ i : Nat, a = i := ⟨a.toNat, by omega⟩
  unfold cutD
  rw [HT.sIx_none, HT.sIx_nat, List.drop_zero, Nat.sub_zero, Int.toNat_natCast]
  rcases Nat.le_total i l.length with z | z
  · rw [Nat.min_eq_left z]
  · rw [Nat.min_eq_right z, List.take_length, List.take_of_length_le z]
theorem cut_from {α : Type} {l : List α} {a : Int} (h : 0 ≤ a) : cutD l (some a) none = l.drop a.toNat := by
  obtain ⟨i, rfl⟩ : ∃ i : Nat, a = i := ⟨a.toNat, by omega⟩
  unfold cutD
  rw [HT.sIx_none, HT.sIx_nat, Int.toNat_natCast]
  rcases Nat.le_total i l.length with z | z
  · rw [Nat.min_eq_left z, List.take_of_length_le (by rw [List.length_drop]; exact Nat.le_refl _)]
  · rw [Nat.min_eq_right z, List.drop_length, List.take_nil, List.drop_of_length_le z]
theorem cut_to_len {α : Type} {l : List α} {a : Int} (h : 0 ≤ a) : (cutD l none (some a)).length ≤ a.toNat := by rw [cut_to h, List.length_take]; omega
theorem cut_from_len {α : Type} {l : List α} {a : Int} (h : 0 ≤ a) : (cutD l (some a) none).length = l.length - a.toNat := by rw [cut_from h, List.length_drop]
theorem oo_back {l : List D} {P : D → Prop} : Oo (backD (.tup l)) P ↔ P (.tup l.reverse) := oo_some
theorem oo_backL {l : List D} {P : D → Prop} : Oo (backD (.lst l)) P ↔ P (.lst l.reverse) := oo_some
theorem oo_listT {l : List D} {P : D → Prop} : Oo (listD [.tup l]) P ↔ P (.lst l) := oo_some
theorem oo_tupT {l : List D} {P : D → Prop} : Oo (tupleD [.tup l]) P ↔ P (.tup l) := oo_some
theorem oo_i0 {n : Int} {P : Int → Prop} : Oo (isInt0 (.im (.int n))) P ↔ P n := oo_some
theorem oo_one {s : Slot} {P : Slot → Prop} : Oo (isOne [s]) P ↔ P s := oo_some
theorem oo_eqSS {a b : Str} {P : D → Prop} : Oo (eqXD (.str a) (.str b)) P ↔ P (.bl (decide (a = b))) := oo_some
theorem oo_neSS {a b : Str} {P : D → Prop} : Oo (neXD (.str a) (.str b)) P ↔ P (.bl (!decide (a = b))) := oo_some
end Mi
local macro_rules
  | `(tactic| rotate_left 102) => `(tactic| simp only [Mi.ok_nw, Mi.ok_lstN, Mi.ok_nsIx, Mi.isNs, Mi.ok_fn, Mi.os_seq, Mi.nx_nx, Mi.nx_rt, Mi.nx_rtF, Mi.nx_rtN, Mi.nx_bk, Mi.nx_ct, Mi.os_set, Mi.os_new, Mi.os_setT, Mi.os_ret, Mi.os_retF, Mi.os_retL, Mi.os_ifS, Mi.os_drop, Mi.os_setIx, Mi.os_put, Mi.os_skip, Mi.ok_C, Mi.ok_F, Mi.ok_op, Mi.ok_opF, Mi.ok_un, Mi.ok_nil, Mi.ok_cons, Mi.ok_B, Mi.ok_BF, Mi.ok_tup, Mi.ok_lst, Mi.ok_tru, Mi.ok_bool, Mi.ok_and, Mi.ok_or, Mi.ok_not, Mi.ok_val, Mi.ok_if, Mi.ok_yes, Mi.ok_rev, Mi.ok_sset, Mi.ok_call, Mi.ok_callF, Mi.ok_lrng, Mi.ok_dict1, Mi.ok_meth, Mi.ok_methS, Mi.os_for, Mi.ok_lc, Mi.ok_seqS, Mi.ok_rng1, Mi.ok_rng2, Mi.en_nx, Mi.en_im, Mi.en_pt, Mi.en_F, Mi.en_N, Mi.tn_nx, Mi.tn_ct, Mi.tn_bk, Mi.tn_rt, Mi.tn_rtF, Mi.tn_rtN, Mi.oo_some, Mi.oo_bind, Mi.ok_varO, Mi.deref_im, Mi.imOf_im, Mi.isBl, Mi.isPt, Mi.isInt1, Mi.isInt2, Mi.imsOf, Mi.derefs, Mi.oo_add, Mi.oo_sub, Mi.oo_mul, Mi.oo_div, Mi.oo_mod, Mi.oo_pow, Mi.oo_neg, Mi.oo_lt, Mi.oo_le, Mi.oo_gt, Mi.oo_ge, Mi.oo_eq, Mi.oo_ne, Mi.oo_max2, Mi.oo_min2, Mi.oo_lenL, Mi.oo_lenT, Mi.oo_lenS, Mi.oo_isNN, Mi.oo_isNI, Mi.oo_isnNN, Mi.oo_isnNI, Mi.oo_tupL, Mi.oo_listL, Mi.oo_set0, Mi.oo_set1, Mi.oo_set2, Mi.take_set, Mi.take_self, Mi.oo_ixT0, Mi.oo_ixT1, Mi.oo_ixT2, Mi.oo_ixL0, Mi.oo_ixL1, Mi.oo_ixL2, List.cons_append, List.nil_append, List.length_cons, List.length_nil, List.replicate, Nat.reduceAdd, Nat.reduceSub, Int.reduceToNat, Int.reducePow, Int.reduceAdd, Int.reduceSub, Int.reduceMul, Int.reduceLT, Int.reduceLE, Nat.reduceLT, Int.reduceNeg, Nat.reduceLeDiff, List.getElem?_cons_zero, List.getElem?_cons_succ, List.set_cons_zero, List.set_cons_succ, ne_eq, reduceCtorEq, not_false_eq_true, true_and, Bool.not_true, Bool.not_false, Bool.false_eq_true, if_true, if_false, decide_eq_true_eq, and_true, Mi.isL, Mi.isDi, Mi.asg, Mi.asgs, Mi.seqItems, Mi.wipeE, Mi.Res.d, Mi.ok_sl, Mi.ok_mNone, Mi.ok_mSome, Mi.ok_chain, Mi.ok_lc2, Mi.ok_enum, Mi.ok_ssetI, Mi.ok_trng1, Mi.ok_lrng2, Mi.oo_slT, Mi.oo_slL, Mi.oo_back, Mi.oo_backL, Mi.oo_listT, Mi.oo_tupT, Mi.oo_i0, Mi.oo_one, Mi.oo_truB, Mi.oo_truI, Mi.oo_truL, Mi.oo_truT, Mi.oo_truN, Mi.oo_intB, Mi.oo_intI, Mi.oo_eqSS, Mi.oo_neSS, Int.reduceEq, decide_true, decide_false, List.set_set])
/-! Mb: the run of texts. -/
namespace Mi
open PySem L2
section
variable {env : En} {st : Store} {QS : Slot → Store → Prop} {QD : D → Store → Prop} {QC : Src → Store → Prop} {QT : Str → Store → Prop}
/-- a slot that holds a text -/
def isStr : Slot → Option Str
  | .im (.str s) => some s
  | _ => none
theorem oo_isStr {s : Str} {P : Str → Prop} : Oo (isStr (.im (.str s))) P ↔ P s := oo_some
theorem ok_m1 {g : D → D → Option D} {ma mb : M Slot} : Ok (mM1 g ma mb env st) QS ↔ Ok (ma env st) fun s1 t1 => Oo (isStr s1) fun a => Ok (mb env t1) fun s2 t2 => Oo (deref s2 t2) fun d => Oo (g (.str a) d) fun z => QS (.im z) t2 := by
  unfold mM1
  rw [ok_bind]
  refine ok_iff fun s1 t1 => ?_
  rcases s1 with _ | d | k | ks
  · exact ok_none.trans oo_none.symm
  · cases d <;> first | exact ok_none.trans oo_none.symm | (rw [show isStr (.im (.str _)) = some _ from rfl, oo_some]; dsimp only; simp only [ok_bind]; simp only [ok_bindO, ok_some])
  · exact ok_none.trans oo_none.symm
  · exact ok_none.trans oo_none.symm
theorem ok_m1F {g : D → D → Option D} {ma mb : M Slot} : Ok (mM1F g ma mb env st) QD ↔ Ok (ma env st) fun s1 t1 => Oo (isStr s1) fun a => Ok (mb env t1) fun s2 t2 => Oo (deref s2 t2) fun d => Oo (g (.str a) d) fun z => QD z t2 := by
  unfold mM1F
  rw [ok_bind]
  refine ok_iff fun s1 t1 => ?_
  rcases s1 with _ | d | k | ks
  · exact ok_none.trans oo_none.symm
  · cases d <;> first | exact ok_none.trans oo_none.symm | (rw [show isStr (.im (.str _)) = some _ from rfl, oo_some]; dsimp only; simp only [ok_bind]; simp only [ok_bindO, ok_some])
  · exact ok_none.trans oo_none.symm
  · exact ok_none.trans oo_none.symm
theorem ok_strS {m : M Slot} : Ok (mStrS m env st) QC ↔ Ok (m env st) fun s t => Oo (isStr s) fun x => QC ⟨.im (.str x), .str x, x.cps.toList.map fun c => D.str ⟨#[c]⟩⟩ t := by
  unfold mStrS
  rw [ok_bind]
  refine ok_iff fun s1 t1 => ?_
  rcases s1 with _ | d | k | ks
  · exact ok_none.trans oo_none.symm
  · cases d <;> first | exact ok_none.trans oo_none.symm | (rw [show isStr (.im (.str _)) = some _ from rfl, oo_some]; exact ok_some)
  · exact ok_none.trans oo_none.symm
  · exact ok_none.trans oo_none.symm
theorem ok_fmt {m : M Slot} : Ok (mFmt m env st) QS ↔ Ok (m env st) fun s t => Oo (deref s t) fun d => Oo (fmtD d) fun z => QS (.im z) t := by
  unfold mFmt; simp only [ok_bind]; simp only [ok_bindO, ok_some]
theorem ok_js0 {acc : Str} : Ok (mJs [] acc env st) QT ↔ QT acc st := ok_some
theorem ok_js1 {m : M Slot} {ms : List (M Slot)} {acc : Str} : Ok (mJs (m :: ms) acc env st) QT ↔ Ok (m env st) fun s t => Oo (isStr s) fun y => (acc ++ y).length ≤ 100000 ∧ Ok (mJs ms (acc ++ y) env t) QT := by
  show Ok (bindM _ _) QT ↔ _
  rw [ok_bind]
  refine ok_iff fun s1 t1 => ?_
  rcases s1 with _ | d | k | ks
  · exact ok_none.trans oo_none.symm
  · cases d <;> first
      | exact ok_none.trans oo_none.symm
      | (rename_i y
         rw [show isStr (.im (.str y)) = some y from rfl, oo_some]
         show Ok (if (acc ++ y).length ≤ 100000 then mJs ms (acc ++ y) env t1 else none) QT ↔ _
         by_cases h : (acc ++ y).length ≤ 100000
         · rw [if_pos h]; simp [h]
         · rw [if_neg h, ok_none]; simp [h])
  · exact ok_none.trans oo_none.symm
  · exact ok_none.trans oo_none.symm
theorem ok_joined {ms : List (M Slot)} : Ok (mJoined ms env st) QS ↔ Ok (mJs ms Str.empty env st) fun s t => QS (.im (.str s)) t := by
  unfold mJoined; simp only [ok_bind, ok_some]
end
theorem oo_strI {i : Int} {P : D → Prop} : Oo (strD [.int i]) P ↔ i.natAbs.log2 < 1920 ∧ P (.str (toString i)) := oo_if
theorem oo_fmtI {i : Int} {P : D → Prop} : Oo (fmtD (.int i)) P ↔ i.natAbs.log2 < 1920 ∧ P (.str (toString i)) := oo_if
theorem oo_fmtS {s : Str} {P : D → Prop} : Oo (fmtD (.str s)) P ↔ s.length ≤ 100000 ∧ P (.str s) := oo_if
theorem oo_addSS {a b : Str} {P : D → Prop} : Oo (addD (.str a) (.str b)) P ↔ a.length + b.length ≤ 100000 ∧ P (.str (a ++ b)) := oo_if
theorem oo_split {a b : Str} {P : D → Prop} : Oo (splitD (.str a) (.str b)) P ↔ ((b.length == 0) = false ∧ a.length ≤ 100000) ∧ P (.lst ((Txt.split a b).map .str)) := oo_if
theorem oo_part {a b : Str} {P : D → Prop} : Oo (partD (.str a) (.str b)) P ↔ ((b.length == 0) = false ∧ a.length ≤ 100000) ∧ P (.tup [.str (Txt.partition a b).1, .str (Txt.partition a b).2.1, .str (Txt.partition a b).2.2]) := oo_if
theorem strsOf_map : ∀ ss : List Str, strsOf (ss.map D.str) = some ss
  | [] => rfl
  | s :: ss => by show bindM (strsOf (ss.map D.str)) _ = _; rw [strsOf_map ss]; rfl
theorem oo_join {a : Str} {ys : List Str} {P : D → Prop} : Oo (joinD (.str a) (.lst (ys.map D.str))) P ↔ (ys.map (·.length)).sum + ys.length * a.length ≤ 16777216 ∧ P (.str (Txt.join a ys)) := by
  show Oo (bindM (strsOf (ys.map D.str)) _) P ↔ _
  rw [strsOf_map, oo_bind, oo_some]
  exact oo_if
theorem oo_leS {a b : Str} {P : D → Prop} : Oo (leSD (.str a) (.str b)) P ↔ P (.bl (!decide (b.cps.toList < a.cps.toList))) := oo_some
theorem oo_insert {l : List D} {i : Int} {d : D} {P : D × D → Prop} : Oo (insertG (.lst l) [.int i, d]) P ↔ (l.length < 100000 ∧ 0 ≤ i ∧ i < 2 ^ 62) ∧ P (.lst (l.take i.toNat ++ [d] ++ l.drop i.toNat), .non) := oo_if
theorem oo_intS {a : Str} {n : Int} (h : PySem.intText? a = some n) {P : D → Prop} : Oo (intSD [.str a]) P ↔ a.length ≤ 640 ∧ P (.int n) := by
  have e : intSD [.str a] = if a.length ≤ 640 then some (.int n) else none := by
    show (if a.length ≤ 640 then bindM (PySem.intText? a) fun n => some (D.int n) else none) = _
    rw [h]; rfl
  rw [e]; exact oo_if
end Mi
local macro_rules
  | `(tactic| rotate_left 103) => `(tactic| simp only [Mi.ok_nw, Mi.ok_lstN, Mi.ok_nsIx, Mi.isNs, Mi.ok_fn, Mi.os_seq, Mi.nx_nx, Mi.nx_rt, Mi.nx_rtF, Mi.nx_rtN, Mi.nx_bk, Mi.nx_ct, Mi.os_set, Mi.os_new, Mi.os_setT, Mi.os_ret, Mi.os_retF, Mi.os_retL, Mi.os_ifS, Mi.os_drop, Mi.os_setIx, Mi.os_put, Mi.os_skip, Mi.ok_C, Mi.ok_F, Mi.ok_op, Mi.ok_opF, Mi.ok_un, Mi.ok_nil, Mi.ok_cons, Mi.ok_B, Mi.ok_BF, Mi.ok_tup, Mi.ok_lst, Mi.ok_tru, Mi.ok_bool, Mi.ok_and, Mi.ok_or, Mi.ok_not, Mi.ok_val, Mi.ok_if, Mi.ok_yes, Mi.ok_rev, Mi.ok_sset, Mi.ok_call, Mi.ok_callF, Mi.ok_lrng, Mi.ok_dict1, Mi.ok_meth, Mi.ok_methS, Mi.os_for, Mi.ok_lc, Mi.ok_seqS, Mi.ok_rng1, Mi.ok_rng2, Mi.en_nx, Mi.en_im, Mi.en_pt, Mi.en_F, Mi.en_N, Mi.tn_nx, Mi.tn_ct, Mi.tn_bk, Mi.tn_rt, Mi.tn_rtF, Mi.tn_rtN, Mi.oo_some, Mi.oo_bind, Mi.ok_varO, Mi.deref_im, Mi.imOf_im, Mi.isBl, Mi.isPt, Mi.isInt1, Mi.isInt2, Mi.imsOf, Mi.derefs, Mi.oo_add, Mi.oo_sub, Mi.oo_mul, Mi.oo_div, Mi.oo_mod, Mi.oo_pow, Mi.oo_neg, Mi.oo_lt, Mi.oo_le, Mi.oo_gt, Mi.oo_ge, Mi.oo_eq, Mi.oo_ne, Mi.oo_max2, Mi.oo_min2, Mi.oo_lenL, Mi.oo_lenT, Mi.oo_lenS, Mi.oo_isNN, Mi.oo_isNI, Mi.oo_isnNN, Mi.oo_isnNI, Mi.oo_tupL, Mi.oo_listL, Mi.oo_set0, Mi.oo_set1, Mi.oo_set2, Mi.take_set, Mi.take_self, Mi.oo_ixT0, Mi.oo_ixT1, Mi.oo_ixT2, Mi.oo_ixL0, Mi.oo_ixL1, Mi.oo_ixL2, List.cons_append, List.nil_append, List.length_cons, List.length_nil, List.replicate, Nat.reduceAdd, Nat.reduceSub, Int.reduceToNat, Int.reducePow, Int.reduceAdd, Int.reduceSub, Int.reduceMul, Int.reduceLT, Int.reduceLE, Nat.reduceLT, Int.reduceNeg, Nat.reduceLeDiff, List.getElem?_cons_zero, List.getElem?_cons_succ, List.set_cons_zero, List.set_cons_succ, ne_eq, reduceCtorEq, not_false_eq_true, true_and, Bool.not_true, Bool.not_false, Bool.false_eq_true, if_true, if_false, decide_eq_true_eq, and_true, Mi.isL, Mi.isDi, Mi.asg, Mi.asgs, Mi.seqItems, Mi.wipeE, Mi.Res.d, Mi.ok_sl, Mi.ok_mNone, Mi.ok_mSome, Mi.ok_chain, Mi.ok_lc2, Mi.ok_enum, Mi.ok_ssetI, Mi.ok_trng1, Mi.ok_lrng2, Mi.oo_slT, Mi.oo_slL, Mi.oo_back, Mi.oo_backL, Mi.oo_listT, Mi.oo_tupT, Mi.oo_i0, Mi.oo_one, Mi.oo_truB, Mi.oo_truI, Mi.oo_truL, Mi.oo_truT, Mi.oo_truN, Mi.oo_intB, Mi.oo_intI, Mi.oo_eqSS, Mi.oo_neSS, Int.reduceEq, decide_true, decide_false, List.set_set, Mi.ok_m1, Mi.ok_m1F, Mi.ok_strS, Mi.ok_fmt, Mi.ok_js0, Mi.ok_js1, Mi.ok_joined, Mi.oo_isStr, Mi.oo_strI, Mi.oo_fmtI, Mi.oo_fmtS, Mi.oo_addSS, Mi.oo_split, Mi.oo_part, Mi.oo_join, Mi.oo_leS])
/-! Mc: words of instances, tables, dict comprehensions, released blocks; == and in of plain data. -/
namespace Mi
open PySem L2
section
variable {env : En} {st : Store} {QS : Slot → Store → Prop} {QD : D → Store → Prop} {QO : Out → En → Store → Prop}
theorem ok_fld {c f : Str} {m : M Slot} : Ok (mFld c f m env st) QS ↔ Ok (m env st) fun s t => Oo (deref s t) fun d => Oo (fldD c f d) fun z => QS (.im z) t := by
  unfold mFld; simp only [ok_bind]; simp only [ok_bindO, ok_some]
theorem oo_fldI {c f : Str} {fs : List (Str × D)} {P : D → Prop} : Oo (fldD c f (.ins c fs)) P ↔ Oo (fs.lookup f) P := by
  rw [show fldD c f (.ins c fs) = fs.lookup f from if_pos rfl]
theorem os_setFld {c f : Str} {mv mo : M Slot} : Os (mSetFld c f mv mo env st) QO ↔ Ok (mv env st) fun s0 t0 => Ok (mo env t0) fun s1 t1 => Oo (isPt s1) fun k => Oo t1[k]? fun d => Oo (imOf s0) fun v => Oo (setFD c f v d) fun d' => QO .nx env (t1.set k d') := by
  unfold mSetFld
  rw [os_bind]
  refine ok_iff fun s0 t0 => ?_
  rw [os_bind]
  refine ok_iff fun s1 t1 => ?_
  cases s1 with
  | pt k => rw [show isPt (.pt k) = some k from rfl, oo_some]; simp only [os_bindO, os_some]
  | _ => exact os_none.trans oo_none.symm
theorem oo_setFI {c f : Str} {v : D} {fs : List (Str × D)} {P : D → Prop} : Oo (setFD c f v (.ins c fs)) P ↔ fs.length < 900 ∧ P (.ins c (putFD f v fs)) := by
  have e : setFD c f v (.ins c fs) = if fs.length < 900 then some (.ins c (putFD f v fs)) else none := by
    show (if c = c ∧ fs.length < 900 then _ else _) = _
    by_cases h : fs.length < 900 <;> simp [h]
  rw [e]; exact oo_if
theorem ok_make {c : Str} {g : Fn} {ma : M (List Slot)} : Ok (mMake c g ma env st) QD ↔ Ok (ma env st) fun l t => Ok (g (.pt t.length :: l) (t ++ [.ins c []])) fun r t2 => r = .val .non ∧ Oo t2[t.length]? fun d => QD d (t2.take t.length) := by
  unfold mMake
  rw [ok_bind]
  refine ok_iff fun l t => ?_
  rw [ok_bind]
  refine ok_iff fun r t2 => ?_
  cases r with
  | fresh d => exact ⟨fun h => (ok_none.1 h).elim, fun h => by cases h.1⟩
  | val d => cases d with
    | non => dsimp only; simp only [ok_bindO, ok_some, true_and]
    | _ => exact ⟨fun h => (ok_none.1 h).elim, fun h => by cases h.1⟩
theorem os_setTL {is : List Nat} {m : M Slot} : Os (mSetTL is m env st) QO ↔ Ok (m env st) fun s u => Oo (imOf s) fun d => Oo (asgL is d env) fun e => QO .nx e u := by unfold mSetTL; simp only [os_bind]; simp only [os_bindO, os_some]
/-- what comes behind a released block -/
def Nr (n : Nat) (b : StM) (QO : Out → En → Store → Prop) : Out → En → Store → Prop
  | .nx, e, s => Os (b (e.map (relS n s)) (s.take n)) QO
  | o, e, s => QO o e s
theorem os_seqR {a b : StM} : Os (mSeqR a b env st) QO ↔ Os (a env st) (Nr st.length b QO) := by
  unfold mSeqR
  rw [os_bindS]
  refine os_iff fun o e s => ?_
  cases o <;> first | exact os_some | exact Iff.rfl
theorem nr_nx {n : Nat} {b : StM} {e : En} {s : Store} : Nr n b QO .nx e s ↔ Os (b (e.map (relS n s)) (s.take n)) QO := Iff.rfl
theorem nr_rt {n : Nat} {b : StM} {e : En} {s : Store} {x : Slot} : Nr n b QO (.rt x) e s ↔ QO (.rt x) e s := Iff.rfl
theorem rel_im {n : Nat} {s : Store} {d : D} : relS n s (.im d) = .im d := rfl
theorem rel_no {n : Nat} {s : Store} : relS n s .no = .no := rfl
theorem rel_lt {n k : Nat} {s : Store} (h : k < n) : relS n s (.pt k) = .pt k := if_pos h
theorem rel_ge {n k : Nat} {s : Store} {d : D} (h : n ≤ k) (e : s[k]? = some d) : relS n s (.pt k) = .im d := by
  show (if k < n then Slot.pt k else match s[k]? with
    | some d => .im d
    | none => .no) = _
  rw [if_neg (by omega), e]
theorem oo_kin {x : Str} {tab : List (Str × D)} {z : Str} {neg : Bool} {P : D → Prop} : Oo (kinD x tab neg (.str z) (.fn x)) P ↔ P (.bl (if neg then !(tab.lookup z).isSome else (tab.lookup z).isSome)) := by
  rw [show kinD x tab neg (.str z) (.fn x) = some (.bl (if neg then !(tab.lookup z).isSome else (tab.lookup z).isSome)) from if_pos rfl]
  exact oo_some
theorem oo_kget {x : Str} {tab : List (Str × D)} {z : Str} {P : D → Prop} : Oo (kgetD x tab (.fn x) (.str z)) P ↔ Oo (tab.lookup z) P := by
  rw [show kgetD x tab (.fn x) (.str z) = tab.lookup z from if_pos rfl]
section
open Classical
/-- {k: e for t in src}, each turn telling (f x, h x) -/
theorem dc_map {α : Type} (g : α → D) (key : α → L2.Key) (f : α → D) (kd : α → D) (hk : ∀ x, keyOf (kd x) = some (key x)) {t : Tgt} {q : Src} {mt : M Bool} {mk me : M Slot} {envw : En} {Q : List (L2.Key × D) → Store → Prop} (hc : chk q st) : ∀ (l : List α) (acc : List (L2.Key × D)),
    (∀ x ∈ l, Oo (asg t (g x) envw) fun env1 => Ok (mt env1 st) fun b s1 => b = true ∧ s1 = st ∧ Ok (mk env1 st) fun s2 t2 => s2 = .im (kd x) ∧ t2 = st ∧ Ok (me env1 st) fun s3 t3 => s3 = .im (f x) ∧ t3 = st) →
    Q (l.foldl (fun a x => putE a (key x) (f x)) acc) st → Ok (dcGo t q mt mk me envw (l.map g) acc st) Q
  | [], acc, _, h => by
    show Ok (if chk q st then some (acc, st) else none) Q
    rw [if_pos hc]
    exact ok_some.2 h
  | x :: l, acc, hx, h => by
    show Ok (if chk q st then bindM (asg t (g x) envw) fun env1 => bindM (mt env1 st) fun r => if r.1 = true then
        bindM (mk env1 r.2) fun r1 => bindM (me env1 r1.2) fun r2 => bindM (imOf r1.1) fun k => bindM (keyOf k) fun key => bindM (imOf r2.1) fun z => dcGo t q mt mk me envw (l.map g) (putE acc key z) r2.2
      else dcGo t q mt mk me envw (l.map g) acc r.2 else none) Q
    rw [if_pos hc]
    obtain ⟨env1, e1, b, s1, e2, rfl, h1, s2, t2, e3, rfl, h2, s3, t3, e4, rfl, h3⟩ := hx x (by simp)
    replace h1 := h1.symm
    replace h2 := h2.symm
    replace h3 := h3.symm
    subst h1 h2 h3
    rw [e1]
    show Ok (bindM (mt env1 _) _) Q
    rw [e2]
    show Ok (bindM (mk env1 _) _) Q
    rw [e3]
    show Ok (bindM (me env1 _) _) Q
    rw [e4]
    show Ok (bindM (keyOf (kd x)) _) Q
    rw [hk x]
    exact dc_map g key f kd hk hc l (putE acc (key x) (f x)) (fun y hy => hx y (by simp [hy])) h
end
theorem ok_dc {t : Tgt} {src : M Src} {mt : M Bool} {mk me : M Slot} {vs : List Nat} : Ok (mDc t src mt mk me vs env st) QD ↔ Ok (src env st) fun q s => q.items.length ≤ 100000 ∧ Ok (dcGo t q mt mk me (wipeE env vs) q.items [] s) fun l s => QD (.dic l) s := by
  unfold mDc
  rw [ok_bind]
  refine ok_iff fun q s => ?_
  dsimp only
  by_cases h : q.items.length ≤ 100000
  · rw [if_pos h]; simp only [h, true_and, ok_bind, ok_some]
  · rw [if_neg h]; simp [h, ok_none]
theorem ok_vals0 {Q : List (L2.Key × D) → Store → Prop} : Ok (mVals [] env st) Q ↔ Q [] st := ok_some
theorem ok_vals1 {k : Str} {m : M Slot} {r : List (Str × M Slot)} {Q : List (L2.Key × D) → Store → Prop} : Ok (mVals ((k, m) :: r) env st) Q ↔ Ok (m env st) fun s t => Oo (imOf s) fun d => Ok (mVals r env t) fun l u => Q ((Sum.inr k, d) :: l) u := by
  show Ok (bindM (m env st) fun q => bindM (imOf q.1) fun d => bindM (mVals r env q.2) fun s => some ((Sum.inr k, d) :: s.1, s.2)) Q ↔ _
  rw [ok_bind]
  refine ok_iff fun s t => ?_
  rw [ok_bindO]
  refine oo_iff fun d => ?_
  rw [ok_bind]
  exact ok_iff fun l u => ok_some
theorem ok_disp {l : List (Str × M Slot)} : Ok (mDispS l env st) QD ↔ Ok (mVals l env st) fun r t => ((l.map (·.1)).Nodup ∧ l.length ≤ 15) ∧ QD (.dic r) t := by
  unfold mDispS
  simp only [ok_bind]
  refine ok_iff fun r t => ?_
  exact ok_ifn
end
/-! ### plain data against itself, texts in lists -/
theorem eq_self {d : D} {p : PyData} (h : toPy d = some p) (hs : SeqAt.shaped p = true) {P : D → Prop} : Oo (eqD d d) P ↔ P (.bl true) := by
  have e : eqD d d = some (.bl true) := by
    show bindM (bindM (toPy d) fun p => bindM (toPy d) fun q => if SeqAt.shaped p = true ∧ SeqAt.shaped q = true then some (PyData.eqv p q) else none) _ = _
    rw [h]
    show bindM (if SeqAt.shaped p = true ∧ SeqAt.shaped p = true then some (PyData.eqv p p) else none) _ = _
    rw [if_pos ⟨hs, hs⟩, SeqAt.eqv_refl p (SeqAt.canLay_of_shaped hs)]
    rfl
  rw [e]; exact oo_some
theorem ne_self {d : D} {p : PyData} (h : toPy d = some p) (hs : SeqAt.shaped p = true) {P : D → Prop} : Oo (neD d d) P ↔ P (.bl false) := by
  have e : neD d d = some (.bl false) := by
    show bindM (bindM (toPy d) fun p => bindM (toPy d) fun q => if SeqAt.shaped p = true ∧ SeqAt.shaped q = true then some (PyData.eqv p q) else none) _ = _
    rw [h]
    show bindM (if SeqAt.shaped p = true ∧ SeqAt.shaped p = true then some (PyData.eqv p p) else none) _ = _
    rw [if_pos ⟨hs, hs⟩, SeqAt.eqv_refl p (SeqAt.canLay_of_shaped hs)]
    rfl
  rw [e]; exact oo_some
theorem toPys_strs : ∀ ss : List Str, toPys (ss.map D.str) = some (ss.map PyData.str)
  | [] => by simp [toPys]
  | s :: ss => by
    show toPys (.str s :: ss.map D.str) = _
    simp only [toPys, toPy, bindM_eq, toPys_strs ss, List.map_cons]
theorem lay_strs : ∀ {ss : List Str}, (∀ s ∈ ss, PyData.strOk s = true) → PyData.canLayAll0 (ss.map PyData.str) = true
  | [], _ => rfl
  | s :: ss, h => by
    rw [List.map_cons]
    unfold PyData.canLayAll0
    rw [lay_strs fun x hx => h x (by simp [hx]), Bool.and_true]
    unfold PyData.canLay0
    exact h s (by simp)
theorem dep_strs : ∀ {ss : List Str}, PyData.depthAll (ss.map PyData.str) = 0
  | [] => rfl
  | s :: ss => by
    rw [List.map_cons]
    unfold PyData.depthAll
    rw [dep_strs]
    rfl
theorem shaped_strs {ss : List Str} (h : ∀ s ∈ ss, PyData.strOk s = true) : SeqAt.shaped (.list (ss.map PyData.str)) = true := by
  unfold SeqAt.shaped
  rw [Bool.and_eq_true]
  refine ⟨by unfold PyData.canLay0; exact lay_strs h, decide_eq_true ?_⟩
  unfold PyData.depth
  rw [dep_strs]; decide
theorem eqv_str (a b : Str) : PyData.eqv (.str a) (.str b) = decide (a = b) := by
  unfold PyData.eqv
  first | rfl | simp [BEq.beq]
theorem inOf_strs {o : Str} {ss : List Str} (ho : PyData.strOk o = true) (h : ∀ s ∈ ss, PyData.strOk s = true) : inOf (.str o) (ss.map D.str) = some (decide (o ∈ ss)) := by
  unfold inOf
  rw [toPys_strs]
  simp only [toPy, bindM_eq]
  rw [if_pos ⟨by unfold SeqAt.shaped PyData.canLay0 PyData.depth; rw [ho]; rfl, shaped_strs h⟩]
  congr 1
  rw [List.any_map]
  clear h
  induction ss with
  | nil => rfl
  | cons a l ih =>
    rw [List.any_cons, ih]
    simp only [Function.comp, eqv_str, List.mem_cons]
    by_cases h : a = o
    · simp [h]
    · have : ¬ o = a := fun z => h z.symm
      simp [h, this]
theorem oo_inS {o : Str} {ss : List Str} {P : D → Prop} (ho : PyData.strOk o = true) (h : ∀ s ∈ ss, PyData.strOk s = true) : Oo (inD (.str o) (.lst (ss.map D.str))) P ↔ P (.bl (decide (o ∈ ss))) := by
  rw [show inD (.str o) (.lst (ss.map D.str)) = some (.bl (decide (o ∈ ss))) by show bindM (inOf _ _) _ = _; rw [inOf_strs ho h]; rfl]
  exact oo_some
theorem oo_inST {o : Str} {ss : List Str} {P : D → Prop} (ho : PyData.strOk o = true) (h : ∀ s ∈ ss, PyData.strOk s = true) : Oo (inD (.str o) (.tup (ss.map D.str))) P ↔ P (.bl (decide (o ∈ ss))) := by
  rw [show inD (.str o) (.tup (ss.map D.str)) = some (.bl (decide (o ∈ ss))) by show bindM (inOf _ _) _ = _; rw [inOf_strs ho h]; rfl]
  exact oo_some
theorem oo_ninS {o : Str} {ss : List Str} {P : D → Prop} (ho : PyData.strOk o = true) (h : ∀ s ∈ ss, PyData.strOk s = true) : Oo (ninD (.str o) (.lst (ss.map D.str))) P ↔ P (.bl (!decide (o ∈ ss))) := by
  rw [show ninD (.str o) (.lst (ss.map D.str)) = some (.bl (!decide (o ∈ ss))) by show bindM (inOf _ _) _ = _; rw [inOf_strs ho h]; rfl]
  exact oo_some
theorem oo_ixT3 {w z y x : D} {l : List D} {P : D → Prop} : Oo (ixD (.tup (w :: z :: y :: x :: l)) (.int 3)) P ↔ P x := oo_ixT (i := 3) rfl
theorem oo_ixL3 {w z y x : D} {l : List D} {P : D → Prop} : Oo (ixD (.lst (w :: z :: y :: x :: l)) (.int 3)) P ↔ P x := oo_ixL (i := 3) rfl
end Mi
local macro_rules
  | `(tactic| rotate_left 104) => `(tactic| simp only [Mi.ok_nw, Mi.ok_lstN, Mi.ok_nsIx, Mi.isNs, Mi.ok_fn, Mi.os_seq, Mi.nx_nx, Mi.nx_rt, Mi.nx_rtF, Mi.nx_rtN, Mi.nx_bk, Mi.nx_ct, Mi.os_set, Mi.os_new, Mi.os_setT, Mi.os_ret, Mi.os_retF, Mi.os_retL, Mi.os_ifS, Mi.os_drop, Mi.os_setIx, Mi.os_put, Mi.os_skip, Mi.ok_C, Mi.ok_F, Mi.ok_op, Mi.ok_opF, Mi.ok_un, Mi.ok_nil, Mi.ok_cons, Mi.ok_B, Mi.ok_BF, Mi.ok_tup, Mi.ok_lst, Mi.ok_tru, Mi.ok_bool, Mi.ok_and, Mi.ok_or, Mi.ok_not, Mi.ok_val, Mi.ok_if, Mi.ok_yes, Mi.ok_rev, Mi.ok_sset, Mi.ok_call, Mi.ok_callF, Mi.ok_lrng, Mi.ok_dict1, Mi.ok_meth, Mi.ok_methS, Mi.os_for, Mi.ok_lc, Mi.ok_seqS, Mi.ok_rng1, Mi.ok_rng2, Mi.en_nx, Mi.en_im, Mi.en_pt, Mi.en_F, Mi.en_N, Mi.tn_nx, Mi.tn_ct, Mi.tn_bk, Mi.tn_rt, Mi.tn_rtF, Mi.tn_rtN, Mi.oo_some, Mi.oo_bind, Mi.ok_varO, Mi.deref_im, Mi.imOf_im, Mi.isBl, Mi.isPt, Mi.isInt1, Mi.isInt2, Mi.imsOf, Mi.derefs, Mi.oo_add, Mi.oo_sub, Mi.oo_mul, Mi.oo_div, Mi.oo_mod, Mi.oo_pow, Mi.oo_neg, Mi.oo_lt, Mi.oo_le, Mi.oo_gt, Mi.oo_ge, Mi.oo_eq, Mi.oo_ne, Mi.oo_max2, Mi.oo_min2, Mi.oo_lenL, Mi.oo_lenT, Mi.oo_lenS, Mi.oo_isNN, Mi.oo_isNI, Mi.oo_isnNN, Mi.oo_isnNI, Mi.oo_tupL, Mi.oo_listL, Mi.oo_set0, Mi.oo_set1, Mi.oo_set2, Mi.take_set, Mi.take_self, Mi.oo_ixT0, Mi.oo_ixT1, Mi.oo_ixT2, Mi.oo_ixL0, Mi.oo_ixL1, Mi.oo_ixL2, List.cons_append, List.nil_append, List.length_cons, List.length_nil, List.replicate, Nat.reduceAdd, Nat.reduceSub, Int.reduceToNat, Int.reducePow, Int.reduceAdd, Int.reduceSub, Int.reduceMul, Int.reduceLT, Int.reduceLE, Nat.reduceLT, Int.reduceNeg, Nat.reduceLeDiff, List.getElem?_cons_zero, List.getElem?_cons_succ, List.set_cons_zero, List.set_cons_succ, ne_eq, reduceCtorEq, not_false_eq_true, true_and, Bool.not_true, Bool.not_false, Bool.false_eq_true, if_true, if_false, decide_eq_true_eq, and_true, Mi.isL, Mi.isDi, Mi.asg, Mi.asgs, Mi.seqItems, Mi.wipeE, Mi.Res.d, Mi.ok_sl, Mi.ok_mNone, Mi.ok_mSome, Mi.ok_chain, Mi.ok_lc2, Mi.ok_enum, Mi.ok_ssetI, Mi.ok_trng1, Mi.ok_lrng2, Mi.oo_slT, Mi.oo_slL, Mi.oo_back, Mi.oo_backL, Mi.oo_listT, Mi.oo_tupT, Mi.oo_i0, Mi.oo_one, Mi.oo_truB, Mi.oo_truI, Mi.oo_truL, Mi.oo_truT, Mi.oo_truN, Mi.oo_intB, Mi.oo_intI, Mi.oo_eqSS, Mi.oo_neSS, Int.reduceEq, decide_true, decide_false, List.set_set, Mi.ok_m1, Mi.ok_m1F, Mi.ok_strS, Mi.ok_fmt, Mi.ok_js0, Mi.ok_js1, Mi.ok_joined, Mi.oo_isStr, Mi.oo_strI, Mi.oo_fmtI, Mi.oo_fmtS, Mi.oo_addSS, Mi.oo_split, Mi.oo_part, Mi.oo_join, Mi.oo_leS, Mi.ok_fld, Mi.oo_fldI, Mi.os_setFld, Mi.oo_setFI, Mi.ok_make, Mi.os_setTL, Mi.os_seqR, Mi.nr_nx, Mi.nr_rt, Mi.rel_im, Mi.rel_no, Mi.oo_kin, Mi.oo_kget, Mi.ok_dc, Mi.ok_vals0, Mi.ok_vals1, Mi.ok_disp, Mi.asgL, Mi.oo_ixT3, Mi.oo_ixL3])
/-! Mj: running mirrors that may end in an exception. -/
namespace Mi
open PySem
def Ot (o : Option (XR Out × En × Store)) (Q : XR Out → En → Store → Prop) : Prop := ∃ a e s, o = some (a, e, s) ∧ Q a e s
section
variable {α β : Type} {st s : Store} {env e : En} {Q : XR Slot → Store → Prop} {QB : XR Bool → Store → Prop} {QS : Slot → Store → Prop} {QT : XR Out → En → Store → Prop} {QO : Out → En → Store → Prop} {QR : XR Res → Store → Prop} {c : Str} {fs : List (Str × D)}
theorem ot_some {o : XR Out} : Ot (some (o, e, s)) QT ↔ QT o e s := ⟨fun ⟨_, _, _, e, h⟩ => by cases e; exact h, fun h => ⟨_, _, _, rfl, h⟩⟩
theorem ot_none : Ot none QT ↔ False := ⟨fun ⟨_, _, _, e, _⟩ => (by cases e), fun h => h.elim⟩
theorem ot_bind {o : Option (β × Store)} {f : β × Store → Option (XR Out × En × Store)} : Ot (bindM o f) QT ↔ Ok o fun b s => Ot (f (b, s)) QT := by
  cases o with
  | none => exact ⟨fun ⟨_, _, _, e, _⟩ => (by cases e), fun ⟨_, _, e, _⟩ => (by cases e)⟩
  | some a => obtain ⟨b, t⟩ := a; rw [ok_some]; rfl
theorem ot_bindO {o : Option β} {f : β → Option (XR Out × En × Store)} : Ot (bindM o f) QT ↔ Oo o fun b => Ot (f b) QT := by
  cases o with
  | none => exact ⟨fun ⟨_, _, _, e, _⟩ => (by cases e), fun ⟨_, e, _⟩ => (by cases e)⟩
  | some a => rw [oo_some]; rfl
theorem ot_bindS {o : Option (Out × En × Store)} {f : Out × En × Store → Option (XR Out × En × Store)} : Ot (bindM o f) QT ↔ Os o fun b e s => Ot (f (b, e, s)) QT := by
  cases o with
  | none => exact ⟨fun ⟨_, _, _, e, _⟩ => (by cases e), fun ⟨_, _, _, e, _⟩ => (by cases e)⟩
  | some a => obtain ⟨b, e, t⟩ := a; rw [os_some]; rfl
theorem ot_bindT {o : Option (XR Out × En × Store)} {f : XR Out × En × Store → Option (XR Out × En × Store)} : Ot (bindM o f) QT ↔ Ot o fun b e s => Ot (f (b, e, s)) QT := by
  cases o with
  | none => exact ⟨fun ⟨_, _, _, e, _⟩ => (by cases e), fun ⟨_, _, _, e, _⟩ => (by cases e)⟩
  | some a => obtain ⟨b, e, t⟩ := a; rw [ot_some]; rfl
theorem os_bindT {o : Option (XR Out × En × Store)} {f : XR Out × En × Store → Option (Out × En × Store)} : Os (bindM o f) QO ↔ Ot o fun b e s => Os (f (b, e, s)) QO := by
  cases o with
  | none => exact ⟨fun ⟨_, _, _, e, _⟩ => (by cases e), fun ⟨_, _, _, e, _⟩ => (by cases e)⟩
  | some a => obtain ⟨b, e, t⟩ := a; rw [ot_some]; rfl
theorem ok_bindT {o : Option (XR Out × En × Store)} {f : XR Out × En × Store → Option (α × Store)} {Q : α → Store → Prop} : Ok (bindM o f) Q ↔ Ot o fun b e s => Ok (f (b, e, s)) Q := by
  cases o with
  | none => exact ⟨fun ⟨_, _, e, _⟩ => (by cases e), fun ⟨_, _, _, e, _⟩ => (by cases e)⟩
  | some a => obtain ⟨b, e, t⟩ := a; rw [ot_some]; rfl
theorem ot_mono {o : Option (XR Out × En × Store)} {Q' : XR Out → En → Store → Prop} (h : Ot o QT) (k : ∀ a e s, QT a e s → Q' a e s) : Ot o Q' := let ⟨a, e, s, z, q⟩ := h; ⟨a, e, s, z, k a e s q⟩
theorem ot_iff {o : Option (XR Out × En × Store)} {Q' : XR Out → En → Store → Prop} (h : ∀ a e s, QT a e s ↔ Q' a e s) : Ot o QT ↔ Ot o Q' := ⟨fun q => ot_mono q fun a e s => (h a e s).1, fun q => ot_mono q fun a e s => (h a e s).2⟩
/-! expressions -/
theorem ok_okX {m : M Slot} : Ok (mOkX m env st) Q ↔ Ok (m env st) fun a s => Q (.ok a) s := by unfold mOkX; simp only [ok_bind, ok_some]
theorem ok_okXB {m : M Bool} : Ok (mOkX m env st) QB ↔ Ok (m env st) fun a s => QB (.ok a) s := by unfold mOkX; simp only [ok_bind, ok_some]
def xval : XR Res → XR Slot
  | .ok r => .ok (.im r.d)
  | .ex c fs => .ex c fs
theorem xval_ok {r : Res} : xval (.ok r) = .ok (.im r.d) := rfl
theorem xval_ex : xval (.ex c fs) = .ex c fs := rfl
theorem ok_callX {g : FnX} {ma : M (List Slot)} : Ok (mCallX g ma env st) Q ↔ Ok (ma env st) fun l t => Ok (g l t) fun r t2 => Q (xval r) t2 := by
  unfold mCallX
  rw [ok_bind]
  refine ok_iff fun l t => ?_
  rw [ok_bind]
  refine ok_iff fun r t2 => ?_
  cases r <;> exact ok_some
theorem ok_ifX {mc : M Bool} {ma mb : MX Slot} : Ok (mIfX mc ma mb env st) Q ↔ Ok (mc env st) fun b t => if b = true then Ok (ma env t) Q else Ok (mb env t) Q := by unfold mIfX; simp only [ok_bind, ok_ite]
def TrX (QB : XR Bool → Store → Prop) : XR Slot → Store → Prop
  | .ok s, t => Oo (deref s t) fun d => Oo (truth d) fun b => QB (.ok b) t
  | .ex c fs, t => QB (.ex c fs) t
theorem trX_ok {x : Slot} : TrX QB (.ok x) s ↔ Oo (deref x s) fun d => Oo (truth d) fun b => QB (.ok b) s := Iff.rfl
theorem trX_ex : TrX QB (.ex c fs) s ↔ QB (.ex c fs) s := Iff.rfl
theorem ok_truX {m : MX Slot} : Ok (mTruX m env st) QB ↔ Ok (m env st) (TrX QB) := by
  unfold mTruX
  rw [ok_bind]
  refine ok_iff fun r t => ?_
  cases r with
  | ok s =>
    show Ok (bindM (deref s t) fun d => bindM (truth d) fun b => some (XR.ok b, t)) QB ↔ _
    simp only [ok_bindO, ok_some]; exact Iff.rfl
  | ex c fs => exact ok_some
def NoX (QB : XR Bool → Store → Prop) : XR Bool → Store → Prop
  | .ok b, t => QB (.ok (!b)) t
  | .ex c fs, t => QB (.ex c fs) t
theorem noX_ok {b : Bool} : NoX QB (.ok b) s ↔ QB (.ok (!b)) s := Iff.rfl
theorem noX_ex : NoX QB (.ex c fs) s ↔ QB (.ex c fs) s := Iff.rfl
theorem ok_notX {m : MX Bool} : Ok (mNotX m env st) QB ↔ Ok (m env st) (NoX QB) := by
  unfold mNotX
  rw [ok_bind]
  refine ok_iff fun r t => ?_
  cases r <;> exact ok_some
/-! statements -/
def SoX (QT : XR Out → En → Store → Prop) : Out → En → Store → Prop := fun o e s => QT (.ok o) e s
theorem soX {o : Out} : SoX QT o e s ↔ QT (.ok o) e s := Iff.rfl
theorem ot_sOk {m : StM} : Ot (sOkX m env st) QT ↔ Os (m env st) (SoX QT) := by unfold sOkX; rw [ot_bindS]; exact os_iff fun o e s => ot_some
def NxX (b : StX) (QT : XR Out → En → Store → Prop) : XR Out → En → Store → Prop
  | .ok .nx, e, s => Ot (b e s) QT
  | r, e, s => QT r e s
theorem nxX_nx {b : StX} : NxX b QT (.ok .nx) e s ↔ Ot (b e s) QT := Iff.rfl
theorem nxX_rt {b : StX} {x : Slot} : NxX b QT (.ok (.rt x)) e s ↔ QT (.ok (.rt x)) e s := Iff.rfl
theorem nxX_rtF {b : StX} {x : D} : NxX b QT (.ok (.rtF x)) e s ↔ QT (.ok (.rtF x)) e s := Iff.rfl
theorem nxX_rtN {b : StX} {x : List Slot} : NxX b QT (.ok (.rtN x)) e s ↔ QT (.ok (.rtN x)) e s := Iff.rfl
theorem nxX_ex {b : StX} : NxX b QT (.ex c fs) e s ↔ QT (.ex c fs) e s := Iff.rfl
theorem ot_seq {a b : StX} : Ot (xSeq a b env st) QT ↔ Ot (a env st) (NxX b QT) := by
  unfold xSeq
  rw [ot_bindT]
  refine ot_iff fun r e s => ?_
  rcases r with o | ⟨c, fs⟩
  · cases o <;> first | exact Iff.rfl | exact ot_some
  · exact ot_some
def StpX (f : Slot → XR Out) (g : Slot → En) (env : En) (QT : XR Out → En → Store → Prop) : XR Slot → Store → Prop
  | .ok x, t => QT (f x) (g x) t
  | .ex c fs, t => QT (.ex c fs) env t
theorem stpX_ok {f : Slot → XR Out} {g : Slot → En} {x : Slot} : StpX f g env QT (.ok x) s ↔ QT (f x) (g x) s := Iff.rfl
theorem stpX_ex {f : Slot → XR Out} {g : Slot → En} : StpX f g env QT (.ex c fs) s ↔ QT (.ex c fs) env s := Iff.rfl
theorem ot_set {i : Nat} {m : MX Slot} : Ot (xSet i m env st) QT ↔ Ok (m env st) (StpX (fun _ => .ok .nx) (fun x => env.set i x) env QT) := by
  unfold xSet
  rw [ot_bind]
  refine ok_iff fun r t => ?_
  cases r <;> exact ot_some
theorem ot_drop {m : MX Slot} : Ot (xDrop m env st) QT ↔ Ok (m env st) (StpX (fun _ => .ok .nx) (fun _ => env) env QT) := by
  unfold xDrop
  rw [ot_bind]
  refine ok_iff fun r t => ?_
  cases r <;> exact ot_some
theorem ot_ret {m : MX Slot} : Ot (xRet m env st) QT ↔ Ok (m env st) (StpX (fun x => .ok (.rt x)) (fun _ => env) env QT) := by
  unfold xRet
  rw [ot_bind]
  refine ok_iff fun r t => ?_
  cases r <;> exact ot_some
def IfX (a b : StX) (env : En) (QT : XR Out → En → Store → Prop) : XR Bool → Store → Prop
  | .ok v, t => if v = true then Ot (a env t) QT else Ot (b env t) QT
  | .ex c fs, t => QT (.ex c fs) env t
theorem ifX_ok {a b : StX} {v : Bool} : IfX a b env QT (.ok v) s ↔ if v = true then Ot (a env s) QT else Ot (b env s) QT := Iff.rfl
theorem ifX_ex {a b : StX} : IfX a b env QT (.ex c fs) s ↔ QT (.ex c fs) env s := Iff.rfl
theorem ot_if {mc : MX Bool} {a b : StX} : Ot (xIf mc a b env st) QT ↔ Ok (mc env st) (IfX a b env QT) := by
  unfold xIf
  rw [ot_bind]
  refine ok_iff fun r t => ?_
  rcases r with v | ⟨c, fs⟩
  · cases v <;> exact Iff.rfl
  · exact ot_some
theorem exFs0 : exFs none [] = some [] := rfl
theorem exFs1 {fn : Str} {d : D} : exFs (some fn) [.im d] = some [(fn, d)] := rfl
theorem ot_raise {fo : Option Str} {ma : M (List Slot)} : Ot (xRaise c fo ma env st) QT ↔ Ok (ma env st) fun l t => Oo (exFs fo l) fun fs => QT (.ex c fs) env t := by unfold xRaise; simp only [ot_bind]; simp only [ot_bindO, ot_some]
theorem ok_mkV {fo : Option Str} {ma : M (List Slot)} : Ok (mMkV c fo ma env st) QS ↔ Ok (ma env st) fun l t => Oo (exFs fo l) fun fs => QS (.im (.exc c fs)) t := by unfold mMkV; simp only [ok_bind]; simp only [ok_bindO, ok_some]
theorem ok_xf {f : Str} {m : M Slot} : Ok (mXf f m env st) QS ↔ Ok (m env st) fun x t => Oo (deref x t) fun d => Oo (xfD f d) fun z => QS (.im z) t := by unfold mXf; simp only [ok_bind]; simp only [ok_bindO, ok_some]
def EndX (n : Nat) (Q : XR Res → Store → Prop) : XR Out → En → Store → Prop
  | .ok .nx, _, s => Q (.ok (.val .non)) (s.take n)
  | .ok (.rt (.im d)), _, s => Q (.ok (.val d)) (s.take n)
  | .ok (.rt (.pt k)), _, s => n ≤ k ∧ Oo s[k]? fun d => Q (.ok (.fresh d)) (s.take n)
  | .ok (.rtF d), _, s => Q (.ok (.fresh d)) (s.take n)
  | .ok (.rtN ss), _, s => Oo (frzN n ss s) fun ds => Q (.ok (.fresh (.lst ds))) (s.take n)
  | .ex c fs, _, s => Q (.ex c fs) (s.take n)
  | _, _, _ => False
theorem eX_nx {n : Nat} : EndX n QR (.ok .nx) e s ↔ QR (.ok (.val .non)) (s.take n) := Iff.rfl
theorem eX_im {n : Nat} {d : D} : EndX n QR (.ok (.rt (.im d))) e s ↔ QR (.ok (.val d)) (s.take n) := Iff.rfl
theorem eX_pt {n k : Nat} : EndX n QR (.ok (.rt (.pt k))) e s ↔ n ≤ k ∧ Oo s[k]? fun d => QR (.ok (.fresh d)) (s.take n) := Iff.rfl
theorem eX_F {n : Nat} {d : D} : EndX n QR (.ok (.rtF d)) e s ↔ QR (.ok (.fresh d)) (s.take n) := Iff.rfl
theorem eX_N {n : Nat} {ss : List Slot} : EndX n QR (.ok (.rtN ss)) e s ↔ Oo (frzN n ss s) fun ds => QR (.ok (.fresh (.lst ds))) (s.take n) := Iff.rfl
theorem eX_ex {n : Nat} : EndX n QR (.ex c fs) e s ↔ QR (.ex c fs) (s.take n) := Iff.rfl
theorem ok_fnX {N : Nat} {body : StX} {args : List Slot} : Ok (mkFnX N body args st) QR ↔ Ot (body (args ++ List.replicate (N - args.length) .no) st) (EndX st.length QR) := by
  unfold mkFnX
  rw [ok_bindT]
  refine ot_iff fun r e s => ?_
  rcases r with o | ⟨c, fs⟩
  · rcases o with _ | _ | _ | x | d | ss
    · exact ok_some
    · exact ok_none
    · exact ok_none
    · rcases x with _ | d | k
      · exact ok_none
      · exact ok_some
      · show Ok (if st.length ≤ k then bindM s[k]? fun d => some (XR.ok (Res.fresh d), s.take st.length) else none) QR ↔ st.length ≤ k ∧ Oo s[k]? fun d => QR (.ok (.fresh d)) (s.take st.length)
        by_cases h : st.length ≤ k
        · rw [if_pos h, ok_bindO]
          simp only [ok_some, h, true_and]
        · rw [if_neg h, ok_none]
          simp [h]
      · exact ok_none
    · exact ok_some
    · show Ok (bindM (frzN st.length ss s) fun ds => some (XR.ok (Res.fresh (D.lst ds)), s.take st.length)) QR ↔ _
      rw [ok_bindO]
      simp only [ok_some]
      exact Iff.rfl
  · exact ok_some
/-! try -/
def TryQ (hs : List (Str × Nat × StM)) (QO : Out → En → Store → Prop) : XR Out → En → Store → Prop
  | .ok o, e, s => QO o e s
  | .ex c fs, e, s => Os (mClauses c fs hs e s) QO
theorem tryQ_ok {hs : List (Str × Nat × StM)} {o : Out} : TryQ hs QO (.ok o) e s ↔ QO o e s := Iff.rfl
theorem tryQ_ex {hs : List (Str × Nat × StM)} : TryQ hs QO (.ex c fs) e s ↔ Os (mClauses c fs hs e s) QO := Iff.rfl
theorem os_try {b : StX} {hs : List (Str × Nat × StM)} : Os (mTry b hs env st) QO ↔ Ot (b env st) (TryQ hs QO) := by
  unfold mTry
  rw [os_bindT]
  refine ot_iff fun r e s => ?_
  cases r with
  | ok o => exact os_some
  | ex c fs => exact Iff.rfl
def ClQ (i : Nat) (QO : Out → En → Store → Prop) : Out → En → Store → Prop
  | .rtF _, _, _ => False
  | .rtN _, _, _ => False
  | .rt x, e, s => QO (.rt x) e s
  | o, e, s => QO o (e.set i .no) s
theorem clQ_nx {i : Nat} : ClQ i QO .nx e s ↔ QO .nx (e.set i .no) s := Iff.rfl
theorem clQ_rt {i : Nat} {x : Slot} : ClQ i QO (.rt x) e s ↔ QO (.rt x) e s := Iff.rfl
theorem os_clause {t : Str} {i : Nat} {m : StM} {r : List (Str × Nat × StM)} : Os (mClauses c fs ((t, i, m) :: r) env st) QO ↔ Oo (exSub c t) fun b => if b = true then Os (m (env.set i (.im (.exc c fs))) st) (ClQ i QO) else Os (mClauses c fs r env st) QO := by
  show Os (bindM (exSub c t) _) QO ↔ _
  rw [os_bindO]
  refine oo_iff fun b => ?_
  by_cases hb : b = true
  · subst hb
    rw [if_pos rfl, if_pos rfl, os_bindS]
    refine os_iff fun o e s => ?_
    cases o <;> first | exact os_some | exact os_none
  · rw [if_neg hb, if_neg hb]
end
/-! the classes -/
theorem exSub_self {c : Str} (h : c ∈ exNames) : exSub c "BeatError" = some true := by unfold exSub; rw [if_pos h, if_pos rfl]
theorem exSub_of {c t : Str} (h : c ∈ exNames) (ht : t ∈ exNames) : exSub c t = some (decide (c = t)) := by
  unfold exSub
  rw [if_pos h]
  split
  · rename_i e
    subst e
    exact absurd ht (by decide +kernel)
  · first | rfl | rw [if_pos ht]
theorem oo_isB {c : Str} {fs : List (Str × D)} (h : c ∈ exNames) {P : D → Prop} : Oo (isVD [.exc c fs, .fn "BeatError"]) P ↔ P (.bl true) := by
  show Oo (bindM (exSub c "BeatError") fun b => some (D.bl b)) P ↔ _
  rw [exSub_self h]; exact oo_some
theorem oo_isC {c t : Str} {fs : List (Str × D)} (h : c ∈ exNames) (ht : t ∈ exNames) {P : D → Prop} : Oo (isVD [.exc c fs, .fn t]) P ↔ P (.bl (decide (c = t))) := by
  show Oo (bindM (exSub c t) fun b => some (D.bl b)) P ↔ _
  rw [exSub_of h ht]; exact oo_some
theorem oo_isVE {c : Str} {fs : List (Str × D)} (h : c ∈ exNames) {P : D → Prop} : Oo (isVD [.exc c fs, .ty "ValueError"]) P ↔ P (.bl true) := by
  show Oo (if c ∈ exNames ∧ ("ValueError" : String) = "ValueError" then some (D.bl true) else none) P ↔ _
  rw [if_pos ⟨h, rfl⟩]; exact oo_some
theorem oo_xfF {c f : Str} {fs : List (Str × D)} {d : D} (h : c ∈ exNames) (hf : f ∈ (["hand", "number", "most"] : List Str)) (hd : fs.lookup f = some d) {P : D → Prop} : Oo (xfD f (.exc c fs)) P ↔ P d := by
  show Oo (if c ∈ exNames ∧ f ∈ (["hand", "number", "most"] : List Str) then fs.lookup f else none) P ↔ _
  rw [if_pos ⟨h, hf⟩, hd]; exact oo_some
end Mi
local macro_rules
  | `(tactic| rotate_left 105) => `(tactic| simp only [Mi.ok_nw, Mi.ok_lstN, Mi.ok_nsIx, Mi.isNs, Mi.ok_fn, Mi.os_seq, Mi.nx_nx, Mi.nx_rt, Mi.nx_rtF, Mi.nx_rtN, Mi.nx_bk, Mi.nx_ct, Mi.os_set, Mi.os_new, Mi.os_setT, Mi.os_ret, Mi.os_retF, Mi.os_retL, Mi.os_ifS, Mi.os_drop, Mi.os_setIx, Mi.os_put, Mi.os_skip, Mi.ok_C, Mi.ok_F, Mi.ok_op, Mi.ok_opF, Mi.ok_un, Mi.ok_nil, Mi.ok_cons, Mi.ok_B, Mi.ok_BF, Mi.ok_tup, Mi.ok_lst, Mi.ok_tru, Mi.ok_bool, Mi.ok_and, Mi.ok_or, Mi.ok_not, Mi.ok_val, Mi.ok_if, Mi.ok_yes, Mi.ok_rev, Mi.ok_sset, Mi.ok_call, Mi.ok_callF, Mi.ok_lrng, Mi.ok_dict1, Mi.ok_meth, Mi.ok_methS, Mi.os_for, Mi.ok_lc, Mi.ok_seqS, Mi.ok_rng1, Mi.ok_rng2, Mi.en_nx, Mi.en_im, Mi.en_pt, Mi.en_F, Mi.en_N, Mi.tn_nx, Mi.tn_ct, Mi.tn_bk, Mi.tn_rt, Mi.tn_rtF, Mi.tn_rtN, Mi.oo_some, Mi.oo_bind, Mi.ok_varO, Mi.deref_im, Mi.imOf_im, Mi.isBl, Mi.isPt, Mi.isInt1, Mi.isInt2, Mi.imsOf, Mi.derefs, Mi.oo_add, Mi.oo_sub, Mi.oo_mul, Mi.oo_div, Mi.oo_mod, Mi.oo_pow, Mi.oo_neg, Mi.oo_lt, Mi.oo_le, Mi.oo_gt, Mi.oo_ge, Mi.oo_eq, Mi.oo_ne, Mi.oo_max2, Mi.oo_min2, Mi.oo_lenL, Mi.oo_lenT, Mi.oo_lenS, Mi.oo_isNN, Mi.oo_isNI, Mi.oo_isnNN, Mi.oo_isnNI, Mi.oo_tupL, Mi.oo_listL, Mi.oo_set0, Mi.oo_set1, Mi.oo_set2, Mi.take_set, Mi.take_self, Mi.oo_ixT0, Mi.oo_ixT1, Mi.oo_ixT2, Mi.oo_ixL0, Mi.oo_ixL1, Mi.oo_ixL2, List.cons_append, List.nil_append, List.length_cons, List.length_nil, List.replicate, Nat.reduceAdd, Nat.reduceSub, Int.reduceToNat, Int.reducePow, Int.reduceAdd, Int.reduceSub, Int.reduceMul, Int.reduceLT, Int.reduceLE, Nat.reduceLT, Int.reduceNeg, Nat.reduceLeDiff, List.getElem?_cons_zero, List.getElem?_cons_succ, List.set_cons_zero, List.set_cons_succ, ne_eq, reduceCtorEq, not_false_eq_true, true_and, Bool.not_true, Bool.not_false, Bool.false_eq_true, if_true, if_false, decide_eq_true_eq, and_true, Mi.isL, Mi.isDi, Mi.asg, Mi.asgs, Mi.seqItems, Mi.wipeE, Mi.Res.d, Mi.ok_sl, Mi.ok_mNone, Mi.ok_mSome, Mi.ok_chain, Mi.ok_lc2, Mi.ok_enum, Mi.ok_ssetI, Mi.ok_trng1, Mi.ok_lrng2, Mi.oo_slT, Mi.oo_slL, Mi.oo_back, Mi.oo_backL, Mi.oo_listT, Mi.oo_tupT, Mi.oo_i0, Mi.oo_one, Mi.oo_truB, Mi.oo_truI, Mi.oo_truL, Mi.oo_truT, Mi.oo_truN, Mi.oo_intB, Mi.oo_intI, Mi.oo_eqSS, Mi.oo_neSS, Int.reduceEq, decide_true, decide_false, List.set_set, Mi.ok_m1, Mi.ok_m1F, Mi.ok_strS, Mi.ok_fmt, Mi.ok_js0, Mi.ok_js1, Mi.ok_joined, Mi.oo_isStr, Mi.oo_strI, Mi.oo_fmtI, Mi.oo_fmtS, Mi.oo_addSS, Mi.oo_split, Mi.oo_part, Mi.oo_join, Mi.oo_leS, Mi.ok_fld, Mi.oo_fldI, Mi.os_setFld, Mi.oo_setFI, Mi.ok_make, Mi.os_setTL, Mi.os_seqR, Mi.nr_nx, Mi.nr_rt, Mi.rel_im, Mi.rel_no, Mi.oo_kin, Mi.oo_kget, Mi.ok_dc, Mi.ok_vals0, Mi.ok_vals1, Mi.ok_disp, Mi.asgL, Mi.oo_ixT3, Mi.oo_ixL3, Mi.ok_okX, Mi.ok_okXB, Mi.ok_callX, Mi.xval_ok, Mi.xval_ex, Mi.ok_ifX, Mi.trX_ok, Mi.trX_ex, Mi.ok_truX, Mi.noX_ok, Mi.noX_ex, Mi.ok_notX, Mi.soX, Mi.ot_sOk, Mi.nxX_nx, Mi.nxX_rt, Mi.nxX_rtF, Mi.nxX_rtN, Mi.nxX_ex, Mi.ot_seq, Mi.stpX_ok, Mi.stpX_ex, Mi.ot_set, Mi.ot_drop, Mi.ot_ret, Mi.ifX_ok, Mi.ifX_ex, Mi.ot_if, Mi.exFs0, Mi.exFs1, Mi.ot_raise, Mi.ok_mkV, Mi.ok_xf, Mi.eX_nx, Mi.eX_im, Mi.eX_pt, Mi.eX_F, Mi.eX_N, Mi.eX_ex, Mi.ok_fnX, Mi.tryQ_ok, Mi.tryQ_ex, Mi.os_try, Mi.clQ_nx, Mi.clQ_rt, Mi.os_clause])
namespace Mi.K
open PySem L2 Mi PySem.Spec PyProof.Rows
def top (i : Nat) : Stmt := PySem.Challenge.pw_beatnet_k27_refusals_made.main.body.getD i (.Pass ⟨0, 0, 0, 0⟩)
abbrev FnP (K : PySem.W.Frag) (x : Str) (st : Stmt) (f : Addr) (fd : FuncData) : Prop := FunD K x x (defArgs st) (defBody st) (defScope st) [] [] f fd
/-! ### _law_cell_at -/
abbrev s__law_cell_at : Stmt := top 13
noncomputable def m__law_cell_at : Fn := mkFn 2
  (mSeq (mIfS (mBool (mOp ltD (mVar 1) (mB lenD (mCons (mVar 0) mNil)))) (mRet (mOp ixD (mVar 0) (mVar 1))) mSkip)
  (mRet (mC (.int 0))))
/-! ### _law_bag -/
abbrev s__law_bag : Stmt := top 14
noncomputable def m__law_bag : Fn := mkFn 2
  (mRetF (mLst (mCons (mB max2D (mCons (mC (.int 0)) (mCons (mOp subD (mVar 0) (mOp powD (mC (.int 10)) (mC (.int 18)))) mNil))) (mCons (mOp addD (mOp modD (mVar 0) (mC (.int 162259276829213363391578010288127))) (mOp mulD (mC (.int 7919)) (mOp addD (mVar 1) (mC (.int 1))))) (mCons (mC (.int 0)) mNil)))))
/-! ### _law_take -/
abbrev s__law_take : Stmt := top 15
noncomputable def m__law_take : Fn := mkFn 4
  (mSeq (mIfS (mBool (mOp gtD (mOp ixD (mVar 0) (mC (.int 0))) (mC (.int 1)))) (mSeq (mSet 3 (mOp modD (mOp ixD (mVar 0) (mC (.int 0))) (mVar 1)))
  (mSeq (mSetIx (mOp divD (mOp ixD (mVar 0) (mC (.int 0))) (mVar 1)) (mVar 0) (mC (.int 0)))
  (mRet (mVar 3)))) mSkip)
  (mSeq (mSetIx (mOp addD (mOp ixD (mVar 0) (mC (.int 2))) (mC (.int 1))) (mVar 0) (mC (.int 2)))
  (mSeq (mSet 2 (mOp modD (mOp powD (mOp addD (mOp ixD (mVar 0) (mC (.int 1))) (mOp mulD (mC (.int 1299709)) (mOp ixD (mVar 0) (mC (.int 2))))) (mC (.int 3))) (mC (.int 162259276829213363391578010288127))))
  (mSeq (mSet 2 (mOp modD (mOp powD (mOp addD (mVar 2) (mOp mulD (mC (.int 15485863)) (mOp ixD (mVar 0) (mC (.int 2))))) (mC (.int 5))) (mC (.int 618970019642690137449562111))))
  (mRet (mOp modD (mOp divD (mVar 2) (mC (.int 1048576))) (mVar 1)))))))
/-! ### _law_classes -/
abbrev s__law_classes : Stmt := top 17
noncomputable def m__law_classes : Fn := mkFn 5
  (mSeq (mNew 1 (mLst mNil))
  (mSeq (mSet 2 (mF (mLst (mCons (mTup (mCons (mC (.str "Fallen")) (mCons (mB isVD (mCons (mVar 0) (mCons (mC (.fn "Fallen")) mNil))) mNil))) (mCons (mTup (mCons (mC (.str "NoBeats")) (mCons (mB isVD (mCons (mVar 0) (mCons (mC (.fn "NoBeats")) mNil))) mNil))) mNil)))))
  (mSeq (mSet 2 (mF (mOpF addF (mVar 2) (mF (mLst (mCons (mTup (mCons (mC (.str "NoHand")) (mCons (mB isVD (mCons (mVar 0) (mCons (mC (.fn "NoHand")) mNil))) mNil))) (mCons (mTup (mCons (mC (.str "NoLetter")) (mCons (mB isVD (mCons (mVar 0) (mCons (mC (.fn "NoLetter")) mNil))) mNil))) mNil)))))))
  (mSeq (mSet 2 (mF (mOpF addF (mVar 2) (mF (mLst (mCons (mTup (mCons (mC (.str "NoNet")) (mCons (mB isVD (mCons (mVar 0) (mCons (mC (.fn "NoNet")) mNil))) mNil))) (mCons (mTup (mCons (mC (.str "NoNumber")) (mCons (mB isVD (mCons (mVar 0) (mCons (mC (.fn "NoNumber")) mNil))) mNil))) mNil)))))))
  (mSeq (mSet 2 (mF (mOpF addF (mVar 2) (mF (mLst (mCons (mTup (mCons (mC (.str "NoParting")) (mCons (mB isVD (mCons (mVar 0) (mCons (mC (.fn "NoParting")) mNil))) mNil))) (mCons (mTup (mCons (mC (.str "NoProgram")) (mCons (mB isVD (mCons (mVar 0) (mCons (mC (.fn "NoProgram")) mNil))) mNil))) mNil)))))))
  (mSeq (mSet 2 (mF (mOpF addF (mVar 2) (mF (mLst (mCons (mTup (mCons (mC (.str "NoText")) (mCons (mB isVD (mCons (mVar 0) (mCons (mC (.fn "NoText")) mNil))) mNil))) (mCons (mTup (mCons (mC (.str "TooLong")) (mCons (mB isVD (mCons (mVar 0) (mCons (mC (.fn "TooLong")) mNil))) mNil))) mNil)))))))
  (mSeq (mSet 2 (mF (mOpF addF (mVar 2) (mF (mLst (mCons (mTup (mCons (mC (.str "beat")) (mCons (mB isVD (mCons (mVar 0) (mCons (mC (.fn "BeatError")) mNil))) mNil))) (mCons (mTup (mCons (mC (.str "value")) (mCons (mB isVD (mCons (mVar 0) (mCons (mC (.ty "ValueError")) mNil))) mNil))) mNil)))))))
  (mSeq (mFor (.tp [3, 4]) (mSeqS (mVar 2)) (mIfS (mTru (mVar 4)) (mDrop (mMeth isL appendG (mVar 1) (mCons (mVar 3) mNil))) mSkip))
  (mRet (mVar 1))))))))))
/-! ### _law_fields -/
abbrev s__law_fields : Stmt := top 18
noncomputable def m__law_fields : Fn := mkFn 6
  (mSeq (mSet 1 (mMkV "NoHand" (some "hand") (mCons (mVar 0) mNil)))
  (mSeq (mSet 2 (mMkV "Fallen" (some "hand") (mCons (mVar 0) mNil)))
  (mSeq (mSet 3 (mMkV "NoLetter" (some "number") (mCons (mVar 0) mNil)))
  (mSeq (mSet 4 (mMkV "TooLong" (some "most") (mCons (mVar 0) mNil)))
  (mSeq (mSet 5 (mF (mLst (mCons (mTup (mCons (mCall m__law_classes (mCons (mVar 1) mNil)) (mCons (mXf "hand" (mVar 1)) mNil))) (mCons (mTup (mCons (mCall m__law_classes (mCons (mVar 2) mNil)) (mCons (mXf "hand" (mVar 2)) mNil))) mNil)))))
  (mRetF (mOpF addF (mVar 5) (mF (mLst (mCons (mTup (mCons (mCall m__law_classes (mCons (mVar 3) mNil)) (mCons (mXf "number" (mVar 3)) mNil))) (mCons (mTup (mCons (mCall m__law_classes (mCons (mVar 4) mNil)) (mCons (mXf "most" (mVar 4)) mNil))) mNil)))))))))))
/-! ### _law_alike -/
abbrev s__law_alike : Stmt := top 16
noncomputable def m__law_alike : Nat → Fn
  | 0 => fun _ _ => none
  | rn + 1 => mkFn 3 ((mSeq (mIfS (mTru (mB isiTD (mCons (mVar 1) (mCons (mTup (mCons (mC (.ty "list")) (mCons (mC (.ty "tuple")) mNil))) mNil)))) (mSeq (mIfS (mOr (mBool (mOp neXD (mB isiD (mCons (mVar 0) (mCons (mC (.ty "list")) mNil))) (mB isiD (mCons (mVar 1) (mCons (mC (.ty "list")) mNil))))) (mNot (mTru (mB isiTD (mCons (mVar 0) (mCons (mTup (mCons (mC (.ty "list")) (mCons (mC (.ty "tuple")) mNil))) mNil)))))) (mRet (mC (.bl false))) mSkip)
  (mSeq (mIfS (mBool (mOp neXD (mB lenD (mCons (mVar 0) mNil)) (mB lenD (mCons (mVar 1) mNil)))) (mRet (mC (.bl false))) mSkip)
  (mRet (mB allD (mCons (mF (mLc (.nm 2) (mRng1 (mCons (mB lenD (mCons (mVar 1) mNil)) mNil)) mYes (mCall (m__law_alike rn) (mCons (mOp ixD (mVar 0) (mVar 2)) (mCons (mOp ixD (mVar 1) (mVar 2)) mNil))) [2])) mNil))))) mSkip)
  (mSeq (mIfS (mOr (mTru (mB isiD (mCons (mVar 1) (mCons (mC (.ty "bool")) mNil)))) (mTru (mB isiD (mCons (mVar 0) (mCons (mC (.ty "bool")) mNil))))) (mRet (mVal (mAnd (mBool (mB isiD (mCons (mVar 1) (mCons (mC (.ty "bool")) mNil)))) (mAnd (mBool (mB isiD (mCons (mVar 0) (mCons (mC (.ty "bool")) mNil)))) (mBool (mOp eqXD (mVar 0) (mVar 1))))))) mSkip)
  (mRet (mOp eqXD (mVar 0) (mVar 1))))))
/-! ### law -/
abbrev s_law : Stmt := top 19
noncomputable def m_law : Fn := mkFn 10
  (mSeq (mFor (.nm 1) (mRng1 (mCons (mB max2D (mCons (mC (.int 1)) (mCons (mB min2D (mCons (mC (.int 8)) (mCons (mB lenD (mCons (mVar 0) mNil)) mNil))) mNil))) mNil)) (mSeq (mNew 2 (mCallF m__law_bag (mCons (mCall m__law_cell_at (mCons (mVar 0) (mCons (mVar 1) mNil))) (mCons (mVar 1) mNil))))
  (mSeq (mSet 3 (mOp ixD (mF (mLst (mCons (mCall m__law_take (mCons (mVar 2) (mCons (mOp powD (mC (.int 10)) (mC (.int 18))) mNil))) (mCons (mUn negD (mC (.int 3))) (mCons (mC (.bl true)) (mCons (mC .non) (mCons (mC (.str "a")) (mCons (mTup (mCons (mC (.int 1)) (mCons (mC (.int 2)) mNil))) mNil)))))))) (mCall m__law_take (mCons (mVar 2) (mCons (mC (.int 6)) mNil)))))
  (mSeq (mSet 4 (mF (mLst (mCons (mC (.str "NoHand")) (mCons (mC (.str "Fallen")) (mCons (mC (.str "NoLetter")) (mCons (mC (.str "TooLong")) mNil)))))))
  (mSeq (mSet 5 (mCall m__law_fields (mCons (mVar 3) mNil)))
  (mSeq (mFor (.nm 6) (mRng1 (mCons (mC (.int 4)) mNil)) (mIfS (mOr (mBool (mOp neXD (mOp ixD (mOp ixD (mVar 5) (mVar 6)) (mC (.int 0))) (mF (mLst (mCons (mOp ixD (mVar 4) (mVar 6)) (mCons (mC (.str "beat")) (mCons (mC (.str "value")) mNil))))))) (mNot (mTru (mCall (m__law_alike 12) (mCons (mOp ixD (mOp ixD (mVar 5) (mVar 6)) (mC (.int 1))) (mCons (mVar 3) mNil)))))) (mRet (mC (.bl false))) mSkip))
  (mSeq (mSet 7 (mF (mLst (mCons (mCall m__law_classes (mCons (mMkV "NoNet" none mNil) mNil)) (mCons (mCall m__law_classes (mCons (mMkV "NoParting" none mNil) mNil)) (mCons (mCall m__law_classes (mCons (mMkV "NoNumber" none mNil) mNil)) mNil))))))
  (mSeq (mSet 7 (mF (mOpF addF (mVar 7) (mF (mLst (mCons (mCall m__law_classes (mCons (mMkV "NoProgram" none mNil) mNil)) (mCons (mCall m__law_classes (mCons (mMkV "NoBeats" none mNil) mNil)) (mCons (mCall m__law_classes (mCons (mMkV "NoText" none mNil) mNil)) mNil))))))))
  (mSeq (mSet 8 (mF (mLst (mCons (mC (.str "NoNet")) (mCons (mC (.str "NoParting")) (mCons (mC (.str "NoNumber")) (mCons (mC (.str "NoProgram")) (mCons (mC (.str "NoBeats")) (mCons (mC (.str "NoText")) mNil)))))))))
  (mIfS (mBool (mOp neXD (mVar 7) (mF (mLc (.nm 9) (mSeqS (mVar 8)) mYes (mF (mLst (mCons (mVar 9) (mCons (mC (.str "beat")) (mCons (mC (.str "value")) mNil))))) [9])))) (mRet (mC (.bl false))) mSkip))))))))))
  (mRet (mC (.bl true))))
section
variable {P : Program} {w : World} {K : PySem.W.Frag} {mg : Str → Option Value} {base : Heap} {f : Addr} {fd : FuncData}
theorem sc__law_cell_at : FnScope ["script", "k"] ["script", "k"] (defScope (s__law_cell_at)) := ⟨rfl, rfl, rfl, by decide +kernel, rfl, by decide +kernel, by decide +kernel⟩
theorem ok__law_cell_at (F : FnP K "_law_cell_at" s__law_cell_at f fd) (b_len : mg "len" = none) : FnOk P w K mg base CX0 1 f fd ["script", "k"] (spM K 2 m__law_cell_at) :=
  f_okD F sc__law_cell_at rfl fun cdv A outer s H E hr =>
  (s_cons (s_if (j_cmpT (op_ltX hr.units0) ltD_ok (j_var 1) (j_cb (pe_callB call_lenX (by rfl) b_len (by decide +kernel) (j_cons (j_var 0) j_nil)) lenD_ok) (nomark _)) (s_one (s_ret (j_ix ix_seq ixD_ok (j_var 0) (j_var 1) (fun _ _ => rfl)))) s_nil)
  (s_one (s_ret j_int)))
theorem sc__law_bag : FnScope ["cell", "k"] ["cell", "k"] (defScope (s__law_bag)) := ⟨rfl, rfl, rfl, by decide +kernel, rfl, by decide +kernel, by decide +kernel⟩
theorem ok__law_bag (F : FnP K "_law_bag" s__law_bag f fd) (b_max : mg "max" = none) : FnOk P w K mg base CX0 1 f fd ["cell", "k"] (spM K 2 m__law_bag) :=
  f_okD F sc__law_bag rfl fun cdv A outer s H E hr =>
  (s_one (s_retF (j_lst (j_cons (j_cb (pe_callB (call_max2 rfl) (by rfl) b_max (by decide +kernel) (j_cons j_int (j_cons (j_op op_sub subD_ok (j_var 0) (j_op op_powX powD_ok j_int j_int)) j_nil))) max2D_ok) (j_cons (j_op op_addX addD_ok (j_op op_mod modD_ok (j_var 0) j_int) (j_op op_mulX mulD_ok j_int (j_op op_addX addD_ok (j_var 1) j_int))) (j_cons j_int j_nil))))))
theorem sc__law_take : FnScope ["bag", "many", "mixed", "found"] ["bag", "many"] (defScope (s__law_take)) := ⟨rfl, rfl, rfl, by decide +kernel, rfl, by decide +kernel, by decide +kernel⟩
theorem ok__law_take (F : FnP K "_law_take" s__law_take f fd)  : FnOk P w K mg base CX0 1 f fd ["bag", "many"] (spM K 2 m__law_take) :=
  f_okD F sc__law_take rfl fun cdv A outer s H E hr =>
  (s_cons (s_if (j_cmpT op_gt cmpD_ok (j_ix ix_seq ixD_ok (j_var 0) j_int (fun _ _ => rfl)) j_int (nomark _)) (s_cons (s_set (i := 3) sc__law_take.nd rfl (by first | exact Or.inl rfl | exact Or.inr rfl) (j_op op_mod modD_ok (j_ix ix_seq ixD_ok (j_var 0) j_int (fun _ _ => rfl)) (j_var 1)))
  (s_cons (s_setIx (j_op op_fdivW divD_ok (j_ix ix_seq ixD_ok (j_var 0) j_int (fun _ _ => rfl)) (j_var 1)) (j_var 0) j_int)
  (s_one (s_ret (j_var 3))))) s_nil)
  (s_cons (s_setIx (j_op op_addX addD_ok (j_ix ix_seq ixD_ok (j_var 0) j_int (fun _ _ => rfl)) j_int) (j_var 0) j_int)
  (s_cons (s_set (i := 2) sc__law_take.nd rfl (by first | exact Or.inl rfl | exact Or.inr rfl) (j_op op_mod modD_ok (j_op op_powX powD_ok (j_op op_addX addD_ok (j_ix ix_seq ixD_ok (j_var 0) j_int (fun _ _ => rfl)) (j_op op_mulX mulD_ok j_int (j_ix ix_seq ixD_ok (j_var 0) j_int (fun _ _ => rfl)))) j_int) j_int))
  (s_cons (s_set (i := 2) sc__law_take.nd rfl (by first | exact Or.inl rfl | exact Or.inr rfl) (j_op op_mod modD_ok (j_op op_powX powD_ok (j_op op_addX addD_ok (j_var 2) (j_op op_mulX mulD_ok j_int (j_ix ix_seq ixD_ok (j_var 0) j_int (fun _ _ => rfl)))) j_int) j_int))
  (s_one (s_ret (j_op op_mod modD_ok (j_op op_fdivW divD_ok (j_var 2) j_int) (j_var 1))))))))
theorem sc__law_classes : FnScope ["caught", "found", "pairs", "word", "there"] ["caught"] (defScope (s__law_classes)) := ⟨rfl, rfl, rfl, by decide +kernel, rfl, by decide +kernel, by decide +kernel⟩
theorem ok__law_classes (F : FnP K "_law_classes" s__law_classes f fd) (b_ValueError : mg "ValueError" = none) (b_isinstance : mg "isinstance" = none) (exF : ExF K mg) (gl_BeatError : mg "BeatError" = some (.ref (He.ga K "BeatError"))) (gl_Fallen : mg "Fallen" = some (.ref (He.ga K "Fallen"))) (gl_NoBeats : mg "NoBeats" = some (.ref (He.ga K "NoBeats"))) (gl_NoHand : mg "NoHand" = some (.ref (He.ga K "NoHand"))) (gl_NoLetter : mg "NoLetter" = some (.ref (He.ga K "NoLetter"))) (gl_NoNet : mg "NoNet" = some (.ref (He.ga K "NoNet"))) (gl_NoNumber : mg "NoNumber" = some (.ref (He.ga K "NoNumber"))) (gl_NoParting : mg "NoParting" = some (.ref (He.ga K "NoParting"))) (gl_NoProgram : mg "NoProgram" = some (.ref (He.ga K "NoProgram"))) (gl_NoText : mg "NoText" = some (.ref (He.ga K "NoText"))) (gl_TooLong : mg "TooLong" = some (.ref (He.ga K "TooLong"))) : FnOk P w K mg base CX0 1 f fd ["caught"] (spM K 1 m__law_classes) :=
  f_okD F sc__law_classes rfl fun cdv A outer s H E hr =>
  (s_cons (s_new (i := 1) sc__law_classes.nd rfl (by first | exact Or.inl rfl | exact Or.inr rfl) (j_lst j_nil))
  (s_cons (s_set (i := 2) sc__law_classes.nd rfl (by first | exact Or.inl rfl | exact Or.inr rfl) (j_F (j_lst (j_cons (j_tup (j_cons j_str (j_cons (j_cb (pe_callB call_isV (by rfl) b_isinstance (by decide +kernel) (j_cons (j_var 0) (j_cons (j_gref gl_Fallen) j_nil))) (isVD_ok exF)) j_nil))) (j_cons (j_tup (j_cons j_str (j_cons (j_cb (pe_callB call_isV (by rfl) b_isinstance (by decide +kernel) (j_cons (j_var 0) (j_cons (j_gref gl_NoBeats) j_nil))) (isVD_ok exF)) j_nil))) j_nil)))))
  (s_cons (s_set (i := 2) sc__law_classes.nd rfl (by first | exact Or.inl rfl | exact Or.inr rfl) (j_F (j_opF op_addX addF_ok (j_var 2) (j_F (j_lst (j_cons (j_tup (j_cons j_str (j_cons (j_cb (pe_callB call_isV (by rfl) b_isinstance (by decide +kernel) (j_cons (j_var 0) (j_cons (j_gref gl_NoHand) j_nil))) (isVD_ok exF)) j_nil))) (j_cons (j_tup (j_cons j_str (j_cons (j_cb (pe_callB call_isV (by rfl) b_isinstance (by decide +kernel) (j_cons (j_var 0) (j_cons (j_gref gl_NoLetter) j_nil))) (isVD_ok exF)) j_nil))) j_nil)))))))
  (s_cons (s_set (i := 2) sc__law_classes.nd rfl (by first | exact Or.inl rfl | exact Or.inr rfl) (j_F (j_opF op_addX addF_ok (j_var 2) (j_F (j_lst (j_cons (j_tup (j_cons j_str (j_cons (j_cb (pe_callB call_isV (by rfl) b_isinstance (by decide +kernel) (j_cons (j_var 0) (j_cons (j_gref gl_NoNet) j_nil))) (isVD_ok exF)) j_nil))) (j_cons (j_tup (j_cons j_str (j_cons (j_cb (pe_callB call_isV (by rfl) b_isinstance (by decide +kernel) (j_cons (j_var 0) (j_cons (j_gref gl_NoNumber) j_nil))) (isVD_ok exF)) j_nil))) j_nil)))))))
  (s_cons (s_set (i := 2) sc__law_classes.nd rfl (by first | exact Or.inl rfl | exact Or.inr rfl) (j_F (j_opF op_addX addF_ok (j_var 2) (j_F (j_lst (j_cons (j_tup (j_cons j_str (j_cons (j_cb (pe_callB call_isV (by rfl) b_isinstance (by decide +kernel) (j_cons (j_var 0) (j_cons (j_gref gl_NoParting) j_nil))) (isVD_ok exF)) j_nil))) (j_cons (j_tup (j_cons j_str (j_cons (j_cb (pe_callB call_isV (by rfl) b_isinstance (by decide +kernel) (j_cons (j_var 0) (j_cons (j_gref gl_NoProgram) j_nil))) (isVD_ok exF)) j_nil))) j_nil)))))))
  (s_cons (s_set (i := 2) sc__law_classes.nd rfl (by first | exact Or.inl rfl | exact Or.inr rfl) (j_F (j_opF op_addX addF_ok (j_var 2) (j_F (j_lst (j_cons (j_tup (j_cons j_str (j_cons (j_cb (pe_callB call_isV (by rfl) b_isinstance (by decide +kernel) (j_cons (j_var 0) (j_cons (j_gref gl_NoText) j_nil))) (isVD_ok exF)) j_nil))) (j_cons (j_tup (j_cons j_str (j_cons (j_cb (pe_callB call_isV (by rfl) b_isinstance (by decide +kernel) (j_cons (j_var 0) (j_cons (j_gref gl_TooLong) j_nil))) (isVD_ok exF)) j_nil))) j_nil)))))))
  (s_cons (s_set (i := 2) sc__law_classes.nd rfl (by first | exact Or.inl rfl | exact Or.inr rfl) (j_F (j_opF op_addX addF_ok (j_var 2) (j_F (j_lst (j_cons (j_tup (j_cons j_str (j_cons (j_cb (pe_callB call_isV (by rfl) b_isinstance (by decide +kernel) (j_cons (j_var 0) (j_cons (j_gref gl_BeatError) j_nil))) (isVD_ok exF)) j_nil))) (j_cons (j_tup (j_cons j_str (j_cons (j_cb (pe_callB call_isV (by rfl) b_isinstance (by decide +kernel) (j_cons (j_var 0) (j_cons (j_ty (T := "ValueError") b_ValueError (by decide +kernel)) j_nil))) (isVD_ok exF)) j_nil))) j_nil)))))))
  (s_cons (s_for (t := (.tp [3, 4])) PassesOwn.never rfl (i_seq (j_var 2)) (g_tp (is := [3, 4]) rfl (pgs_cons (pg_name (i := 3) sc__law_classes.nd rfl (by first | exact Or.inl rfl | exact Or.inr rfl)) (pgs_cons (pg_name (i := 4) sc__law_classes.nd rfl (by first | exact Or.inl rfl | exact Or.inr rfl)) pgs_nil))) (s_one (s_if (j_tru (j_var 4)) (s_one (s_drop (j_meth (pe_bm PySem.F.plainAttrs_list PySem.F.slot_list_append PySem.F.type_list_append mt_append (j_var 1) (j_cons (j_var 3) j_nil)) (fun _ _ _ _ => tyV_list) appendG_ok))) s_nil)))
  (s_one (s_ret (j_var 1)))))))))))
theorem sc__law_fields : FnScope ["thing", "hand", "fallen", "letter", "late", "found"] ["thing"] (defScope (s__law_fields)) := ⟨rfl, rfl, rfl, by decide +kernel, rfl, by decide +kernel, by decide +kernel⟩
theorem ok__law_fields (F : FnP K "_law_fields" s__law_fields f fd) (exF : ExF K mg) (xc_Fallen : XC K P mg "Fallen" ["hand"] (some "hand")) (xc_NoHand : XC K P mg "NoHand" ["hand"] (some "hand")) (xc_NoLetter : XC K P mg "NoLetter" ["number"] (some "number")) (xc_TooLong : XC K P mg "TooLong" ["most"] (some "most")) (p__law_classes : Prom P w K mg base "_law_classes" 1 1 m__law_classes) : FnOk P w K mg base CX0 2 f fd ["thing"] (spM K 1 m__law_fields) :=
  f_okD F sc__law_fields rfl fun cdv A outer s H E hr =>
  (s_cons (s_set (i := 1) sc__law_fields.nd rfl (by first | exact Or.inl rfl | exact Or.inr rfl) (j_mkV (k := 0) rfl xc_NoHand (hr.mono (by decide)) (j_cons (j_var 0) j_nil) (len_cons len_nil)))
  (s_cons (s_set (i := 2) sc__law_fields.nd rfl (by first | exact Or.inl rfl | exact Or.inr rfl) (j_mkV (k := 0) rfl xc_Fallen (hr.mono (by decide)) (j_cons (j_var 0) j_nil) (len_cons len_nil)))
  (s_cons (s_set (i := 3) sc__law_fields.nd rfl (by first | exact Or.inl rfl | exact Or.inr rfl) (j_mkV (k := 0) rfl xc_NoLetter (hr.mono (by decide)) (j_cons (j_var 0) j_nil) (len_cons len_nil)))
  (s_cons (s_set (i := 4) sc__law_fields.nd rfl (by first | exact Or.inl rfl | exact Or.inr rfl) (j_mkV (k := 0) rfl xc_TooLong (hr.mono (by decide)) (j_cons (j_var 0) j_nil) (len_cons len_nil)))
  (s_cons (s_set (i := 5) sc__law_fields.nd rfl (by first | exact Or.inl rfl | exact Or.inr rfl) (j_F (j_lst (j_cons (j_tup (j_cons (p_call p__law_classes (hr.mono (by decide)) (j_cons (j_var 1) j_nil) (len_cons len_nil)) (j_cons (j_xf exF (j_var 1)) j_nil))) (j_cons (j_tup (j_cons (p_call p__law_classes (hr.mono (by decide)) (j_cons (j_var 2) j_nil) (len_cons len_nil)) (j_cons (j_xf exF (j_var 2)) j_nil))) j_nil)))))
  (s_one (s_retF (j_opF op_addX addF_ok (j_var 5) (j_F (j_lst (j_cons (j_tup (j_cons (p_call p__law_classes (hr.mono (by decide)) (j_cons (j_var 3) j_nil) (len_cons len_nil)) (j_cons (j_xf exF (j_var 3)) j_nil))) (j_cons (j_tup (j_cons (p_call p__law_classes (hr.mono (by decide)) (j_cons (j_var 4) j_nil) (len_cons len_nil)) (j_cons (j_xf exF (j_var 4)) j_nil))) j_nil))))))))))))
theorem sc__law_alike : FnScope ["found", "due", "k"] ["found", "due"] (defScope (s__law_alike)) := ⟨rfl, rfl, rfl, by decide +kernel, rfl, by decide +kernel, by decide +kernel⟩
theorem ok__law_alike (F : FnP K "_law_alike" s__law_alike f fd) (hmg : mg "_law_alike" = some (.ref f)) (hk : PySem.W.keepIn K (.ref f) = true) (hb : Binds K fd ["found", "due"] []) (b_all : mg "all" = none) (b_bool : mg "bool" = none) (b_isinstance : mg "isinstance" = none) (b_len : mg "len" = none) (b_list : mg "list" = none) (b_range : mg "range" = none) (b_tuple : mg "tuple" = none) : ∀ rn : Nat, FnOk P w K mg base CX0 (rn + 1) f fd ["found", "due"] (spM K 2 (m__law_alike rn))
  | 0 => fnok_none fun _ _ => rfl
  | rn + 1 =>
    have p__law_alike : Prom P w K mg base "_law_alike" (rn + 1) 2 (m__law_alike rn) := ⟨f, fd, ["found", "due"], ok__law_alike F hmg hk hb b_all b_bool b_isinstance b_len b_list b_range b_tuple rn, hmg, hk, hb⟩
    f_okD F sc__law_alike rfl fun cdv A outer s H E hr =>
  (s_cons (s_if (j_tru (j_cb (pe_callB call_isiX (by rfl) b_isinstance (by decide +kernel) (j_cons (j_var 1) (j_cons (j_tup (j_cons (j_ty (T := "list") b_list (by decide +kernel)) (j_cons (j_ty (T := "tuple") b_tuple (by decide +kernel)) j_nil))) j_nil))) isiTD_ok)) (s_cons (s_if (PW.pt (w_or (j_cmpT (op_neX hr.units) neXD_ok (j_cb (pe_callB call_isi (by rfl) b_isinstance (by decide +kernel) (j_cons (j_var 0) (j_cons (j_ty (T := "list") b_list (by decide +kernel)) j_nil))) isiD_ok) (j_cb (pe_callB call_isi (by rfl) b_isinstance (by decide +kernel) (j_cons (j_var 1) (j_cons (j_ty (T := "list") b_list (by decide +kernel)) j_nil))) isiD_ok) (nomark _)) (w_or1 (j_not (j_tru (j_cb (pe_callB call_isiX (by rfl) b_isinstance (by decide +kernel) (j_cons (j_var 0) (j_cons (j_tup (j_cons (j_ty (T := "list") b_list (by decide +kernel)) (j_cons (j_ty (T := "tuple") b_tuple (by decide +kernel)) j_nil))) j_nil))) isiTD_ok)))))) (s_one (s_ret j_bl)) s_nil)
  (s_cons (s_if (j_cmpT (op_neX hr.units) neXD_ok (j_cb (pe_callB call_lenX (by rfl) b_len (by decide +kernel) (j_cons (j_var 0) j_nil)) lenD_ok) (j_cb (pe_callB call_lenX (by rfl) b_len (by decide +kernel) (j_cons (j_var 1) j_nil)) lenD_ok) (nomark _)) (s_one (s_ret j_bl)) s_nil)
  (s_one (s_ret (j_cb (pe_callB (cr_all rfl) (by rfl) b_all (by decide +kernel) (j_cons (j_F (f_lc (own := [("k", 2)]) (t := (.nm 2)) rfl sc__law_alike.nd (i_range1 (by rfl) b_range (j_cons (j_cb (pe_callB call_lenX (by rfl) b_len (by decide +kernel) (j_cons (j_var 1) j_nil)) lenD_ok) j_nil)) (blkOk_by (show blkC ["found", "due", "k"] (defScope s__law_alike) _ [("k", 2)] = true from by decide +kernel)) (by decide) (fun _ _ _ _ _ => (g_nm sc__law_alike.nd rfl (by first | exact Or.inl rfl | exact Or.inr rfl))) (fun _ _ _ _ _ => ts_nil) (fun _ _ _ _ _ => (p_call p__law_alike (hr.mono (by omega)) (j_cons (j_ix ix_seq ixD_ok (j_var 0) (j_var 2) (fun _ _ => rfl)) (j_cons (j_ix ix_seq ixD_ok (j_var 1) (j_var 2) (fun _ _ => rfl)) j_nil)) (len_cons (len_cons len_nil)))))) j_nil)) allD_ok))))) s_nil)
  (s_cons (s_if (PW.pt (w_or (j_tru (j_cb (pe_callB call_isi (by rfl) b_isinstance (by decide +kernel) (j_cons (j_var 1) (j_cons (j_ty (T := "bool") b_bool (by decide +kernel)) j_nil))) isiD_ok)) (w_or1 (j_tru (j_cb (pe_callB call_isi (by rfl) b_isinstance (by decide +kernel) (j_cons (j_var 0) (j_cons (j_ty (T := "bool") b_bool (by decide +kernel)) j_nil))) isiD_ok))))) (s_one (s_ret (v_and (v_of (j_cb (pe_callB call_isi (by rfl) b_isinstance (by decide +kernel) (j_cons (j_var 1) (j_cons (j_ty (T := "bool") b_bool (by decide +kernel)) j_nil))) isiD_ok)) (v_and (v_of (j_cb (pe_callB call_isi (by rfl) b_isinstance (by decide +kernel) (j_cons (j_var 0) (j_cons (j_ty (T := "bool") b_bool (by decide +kernel)) j_nil))) isiD_ok)) (v_one (v_of (j_cmp (op_eqX hr.units) eqXD_ok (j_var 0) (j_var 1) (nomark _)))))))) s_nil)
  (s_one (s_ret (j_cmp (op_eqX hr.units) eqXD_ok (j_var 0) (j_var 1) (nomark _))))))
theorem sc_law : FnScope ["script", "k", "bag", "thing", "words", "found", "j", "plain_ones", "due", "word"] ["script"] (defScope (s_law)) := ⟨rfl, rfl, rfl, by decide +kernel, rfl, by decide +kernel, by decide +kernel⟩
theorem ok_law (F : FnP K "law" s_law f fd) (b_len : mg "len" = none) (b_max : mg "max" = none) (b_min : mg "min" = none) (b_range : mg "range" = none) (xc_NoBeats : XC K P mg "NoBeats" [] none) (xc_NoNet : XC K P mg "NoNet" [] none) (xc_NoNumber : XC K P mg "NoNumber" [] none) (xc_NoParting : XC K P mg "NoParting" [] none) (xc_NoProgram : XC K P mg "NoProgram" [] none) (xc_NoText : XC K P mg "NoText" [] none) (p__law_cell_at : Prom P w K mg base "_law_cell_at" 1 2 m__law_cell_at) (p__law_bag : Prom P w K mg base "_law_bag" 1 2 m__law_bag) (p__law_take : Prom P w K mg base "_law_take" 1 2 m__law_take) (p__law_fields : Prom P w K mg base "_law_fields" 2 1 m__law_fields) (p__law_alike : Prom P w K mg base "_law_alike" 13 2 (m__law_alike 12)) (p__law_classes : Prom P w K mg base "_law_classes" 1 1 m__law_classes) : FnOk P w K mg base CX0 14 f fd ["script"] (spM K 1 m_law) :=
  f_okD F sc_law rfl fun cdv A outer s H E hr =>
  (s_cons (s_for (t := (.nm 1)) PassesOwn.never rfl (i_range1 (by rfl) b_range (j_cons (j_cb (pe_callB (call_max2 rfl) (by rfl) b_max (by decide +kernel) (j_cons j_int (j_cons (j_cb (pe_callB (call_min2 rfl) (by rfl) b_min (by decide +kernel) (j_cons j_int (j_cons (j_cb (pe_callB call_lenX (by rfl) b_len (by decide +kernel) (j_cons (j_var 0) j_nil)) lenD_ok) j_nil))) min2D_ok) j_nil))) max2D_ok) j_nil)) (g_nm sc_law.nd rfl (by first | exact Or.inl rfl | exact Or.inr rfl)) (s_cons (s_new (i := 2) sc_law.nd rfl (by first | exact Or.inl rfl | exact Or.inr rfl) (p_callF p__law_bag (hr.mono (by decide)) (j_cons (p_call p__law_cell_at (hr.mono (by decide)) (j_cons (j_var 0) (j_cons (j_var 1) j_nil)) (len_cons (len_cons len_nil))) (j_cons (j_var 1) j_nil)) (len_cons (len_cons len_nil))))
  (s_cons (s_set (i := 3) sc_law.nd rfl (by first | exact Or.inl rfl | exact Or.inr rfl) (j_ix ix_seq ixD_ok (j_F (j_lst (j_cons (p_call p__law_take (hr.mono (by decide)) (j_cons (j_var 2) (j_cons (j_op op_powX powD_ok j_int j_int) j_nil)) (len_cons (len_cons len_nil))) (j_cons (j_un un_neg negD_ok j_int) (j_cons j_bl (j_cons j_non (j_cons j_str (j_cons (j_tup (j_cons j_int (j_cons j_int j_nil))) j_nil)))))))) (p_call p__law_take (hr.mono (by decide)) (j_cons (j_var 2) (j_cons j_int j_nil)) (len_cons (len_cons len_nil))) (fun _ _ => rfl)))
  (s_cons (s_set (i := 4) sc_law.nd rfl (by first | exact Or.inl rfl | exact Or.inr rfl) (j_F (j_lst (j_cons j_str (j_cons j_str (j_cons j_str (j_cons j_str j_nil)))))))
  (s_cons (s_set (i := 5) sc_law.nd rfl (by first | exact Or.inl rfl | exact Or.inr rfl) (p_call p__law_fields (hr.mono (by decide)) (j_cons (j_var 3) j_nil) (len_cons len_nil)))
  (s_cons (s_for (t := (.nm 6)) PassesOwn.never rfl (i_range1 (by rfl) b_range (j_cons j_int j_nil)) (g_nm sc_law.nd rfl (by first | exact Or.inl rfl | exact Or.inr rfl)) (s_one (s_if (PW.pt (w_or (j_cmpT (op_neX hr.units) neXD_ok (j_ix ix_seq ixD_ok (j_ix ix_seq ixD_ok (j_var 5) (j_var 6) (fun _ _ => rfl)) j_int (fun _ _ => rfl)) (j_F (j_lst (j_cons (j_ix ix_seq ixD_ok (j_var 4) (j_var 6) (fun _ _ => rfl)) (j_cons j_str (j_cons j_str j_nil))))) (nomark _)) (w_or1 (j_not (j_tru (p_call p__law_alike (hr.mono (by decide)) (j_cons (j_ix ix_seq ixD_ok (j_ix ix_seq ixD_ok (j_var 5) (j_var 6) (fun _ _ => rfl)) j_int (fun _ _ => rfl)) (j_cons (j_var 3) j_nil)) (len_cons (len_cons len_nil)))))))) (s_one (s_ret j_bl)) s_nil)))
  (s_cons (s_set (i := 7) sc_law.nd rfl (by first | exact Or.inl rfl | exact Or.inr rfl) (j_F (j_lst (j_cons (p_call p__law_classes (hr.mono (by decide)) (j_cons (j_mkV0 (k := 0) rfl xc_NoNet (hr.mono (by decide))) j_nil) (len_cons len_nil)) (j_cons (p_call p__law_classes (hr.mono (by decide)) (j_cons (j_mkV0 (k := 0) rfl xc_NoParting (hr.mono (by decide))) j_nil) (len_cons len_nil)) (j_cons (p_call p__law_classes (hr.mono (by decide)) (j_cons (j_mkV0 (k := 0) rfl xc_NoNumber (hr.mono (by decide))) j_nil) (len_cons len_nil)) j_nil))))))
  (s_cons (s_set (i := 7) sc_law.nd rfl (by first | exact Or.inl rfl | exact Or.inr rfl) (j_F (j_opF op_addX addF_ok (j_var 7) (j_F (j_lst (j_cons (p_call p__law_classes (hr.mono (by decide)) (j_cons (j_mkV0 (k := 0) rfl xc_NoProgram (hr.mono (by decide))) j_nil) (len_cons len_nil)) (j_cons (p_call p__law_classes (hr.mono (by decide)) (j_cons (j_mkV0 (k := 0) rfl xc_NoBeats (hr.mono (by decide))) j_nil) (len_cons len_nil)) (j_cons (p_call p__law_classes (hr.mono (by decide)) (j_cons (j_mkV0 (k := 0) rfl xc_NoText (hr.mono (by decide))) j_nil) (len_cons len_nil)) j_nil))))))))
  (s_cons (s_set (i := 8) sc_law.nd rfl (by first | exact Or.inl rfl | exact Or.inr rfl) (j_F (j_lst (j_cons j_str (j_cons j_str (j_cons j_str (j_cons j_str (j_cons j_str (j_cons j_str j_nil)))))))))
  (s_one (s_if (j_cmpT (op_neX hr.units) neXD_ok (j_var 7) (j_F (f_lc (own := [("word", 9)]) (t := (.nm 9)) rfl sc_law.nd (i_seq (j_var 8)) (blkOk_by (show blkC ["script", "k", "bag", "thing", "words", "found", "j", "plain_ones", "due", "word"] (defScope s_law) _ [("word", 9)] = true from by decide +kernel)) (by decide) (fun _ _ _ _ _ => (g_nm sc_law.nd rfl (by first | exact Or.inl rfl | exact Or.inr rfl))) (fun _ _ _ _ _ => ts_nil) (fun _ _ _ _ _ => (j_F (j_lst (j_cons (j_var 9) (j_cons j_str (j_cons j_str j_nil)))))))) (nomark _)) (s_one (s_ret j_bl)) s_nil)))))))))))
  (s_one (s_ret j_bl)))
end
end Mi.K
namespace Mi.K
open Mi PySem
variable {st : Store} {Q : Res → Store → Prop}
theorem chk_im {d : D} {ds : List D} {st : Store} : chk ⟨.im d, d, ds⟩ st := rfl
def Bag (st : Store) (k n : Nat) : Prop := ∃ a b c : Int, st[k]? = some (.lst [.int a, .int b, .int c]) ∧ 0 ≤ b ∧ b < 2 ^ 200 ∧ 0 ≤ c ∧ c ≤ n
theorem take_ok {k n : Nat} {m : Int} (h : Bag st k n) (hn : n < 1000000000) (m0 : 0 < m) (m1 : m < 2 ^ 60)
    (q : ∀ v d, 0 ≤ v → v < m → Bag (st.set k d) k (n + 1) → Q (.val (.int v)) (st.set k d)) : Ok (m__law_take [.pt k, .im (.int m)] st) Q := by
  obtain ⟨a, b, c, h, b0, b1, c0, c1⟩ := h
  have hk : k < st.length := (List.getElem?_eq_some_iff.mp h).1
  unfold m__law_take
  rotate_left 101
  simp only [deref_ptL h, h, deref_set hk]
  rotate_left 101
  have up : ∀ l, (st.set k l)[k]? = some l := fun l => by simp [hk]
  simp only [deref_set hk]
  rotate_left 101
  split
  · refine ⟨m0, ⟨m0, lg (by decide) (by omega) (by omega)⟩, q _ _ (Int.emod_nonneg _ (by omega)) (Int.emod_lt_of_pos _ m0) ⟨_, b, c, up _, b0, b1, c0, by omega⟩⟩
  · and_intros
    rotate_right
    · exact q _ _ (Int.emod_nonneg _ (by omega)) (Int.emod_lt_of_pos _ m0) ⟨_, b, c + 1, up _, b0, b1, by omega, by omega⟩
    all_goals try decide
    all_goals first | exact m0 | skip
    · exact lg2 (by decide) (by decide) (by omega) (by omega)
    · exact lg (by decide) (by omega) (by omega)
    · exact lg2 (by decide) (by decide) (by omega) (by omega)
    · generalize (b + 1299709 * (c + 1)) ^ 3 = z
      exact lg (by decide) (by omega) (by omega)
theorem bag_ok {i k : Int} (k0 : 0 ≤ k) (k1 : k < 2 ^ 60) (q : ∀ a b : Int, 0 ≤ b → b < 2 ^ 200 → Q (.fresh (.lst [.int a, .int b, .int 0])) st) : Ok (m__law_bag [.im (.int i), .im (.int k)] st) Q := by
  unfold m__law_bag
  rotate_left 101
  and_intros
  rotate_right
  · refine q _ _ ?_ ?_ <;> omega
  all_goals first | decide | exact lg (by decide) (by decide) (by decide) | exact lg2 (by decide) (by decide) (by omega) (by omega) | omega
theorem cell_ok {ns : List Int} {k : Nat} (q : ∀ i, Q (.val (.int i)) st) : Ok (m__law_cell_at [.im (.scr ns), .im (.int k)] st) Q := by
  unfold m__law_cell_at
  rotate_left 101
  split
  · rename_i h
    have h : k < ns.length := by omega
    have e : ixD (.scr ns) (.int (k : Int)) = some (.int ns[k]) := by
      show bindM (L2.atI ns (k : Int)) _ = _
      rw [atI_nat (List.getElem?_eq_getElem h)]; rfl
    simp only [e, oo_some]
    exact q _
  · exact q _
/-! the classes of an exception -/
def nmd (c : Str) : D := .lst [.str c, .str "beat", .str "value"]
def pairB (p : Str × Bool) : D := .tup [.str p.1, .bl p.2]
def prs (c : Str) : List (Str × Bool) := [("Fallen", decide (c = "Fallen")), ("NoBeats", decide (c = "NoBeats")), ("NoHand", decide (c = "NoHand")), ("NoLetter", decide (c = "NoLetter")), ("NoNet", decide (c = "NoNet")), ("NoNumber", decide (c = "NoNumber")),
  ("NoParting", decide (c = "NoParting")), ("NoProgram", decide (c = "NoProgram")), ("NoText", decide (c = "NoText")), ("TooLong", decide (c = "TooLong")), ("beat", true), ("value", true)]
theorem prs_ok {c : Str} (h : c ∈ exNames) : ((prs c).filter (·.2)).map (·.1) = [c, "beat", "value"] := by
  revert c
  decide +kernel
theorem classes_ok {c : Str} {fs : List (Str × D)} (h : c ∈ exNames) (q : Q (.fresh (nmd c)) st) : Ok (m__law_classes [.im (.exc c fs)] st) Q := by
  unfold m__law_classes
  generalize hR : (mSeq (mFor _ _ _) _ : StM) = R
  rotate_left 105
  have k0 : ∀ {P : D → Prop}, Oo (isVD [.exc c fs, .fn "Fallen"]) P ↔ P (.bl (decide (c = "Fallen"))) := oo_isC h (by decide)
  have k1 : ∀ {P : D → Prop}, Oo (isVD [.exc c fs, .fn "NoBeats"]) P ↔ P (.bl (decide (c = "NoBeats"))) := oo_isC h (by decide)
  have k2 : ∀ {P : D → Prop}, Oo (isVD [.exc c fs, .fn "NoHand"]) P ↔ P (.bl (decide (c = "NoHand"))) := oo_isC h (by decide)
  have k3 : ∀ {P : D → Prop}, Oo (isVD [.exc c fs, .fn "NoLetter"]) P ↔ P (.bl (decide (c = "NoLetter"))) := oo_isC h (by decide)
  have k4 : ∀ {P : D → Prop}, Oo (isVD [.exc c fs, .fn "NoNet"]) P ↔ P (.bl (decide (c = "NoNet"))) := oo_isC h (by decide)
  have k5 : ∀ {P : D → Prop}, Oo (isVD [.exc c fs, .fn "NoNumber"]) P ↔ P (.bl (decide (c = "NoNumber"))) := oo_isC h (by decide)
  have k6 : ∀ {P : D → Prop}, Oo (isVD [.exc c fs, .fn "NoParting"]) P ↔ P (.bl (decide (c = "NoParting"))) := oo_isC h (by decide)
  have k7 : ∀ {P : D → Prop}, Oo (isVD [.exc c fs, .fn "NoProgram"]) P ↔ P (.bl (decide (c = "NoProgram"))) := oo_isC h (by decide)
  have k8 : ∀ {P : D → Prop}, Oo (isVD [.exc c fs, .fn "NoText"]) P ↔ P (.bl (decide (c = "NoText"))) := oo_isC h (by decide)
  have k9 : ∀ {P : D → Prop}, Oo (isVD [.exc c fs, .fn "TooLong"]) P ↔ P (.bl (decide (c = "TooLong"))) := oo_isC h (by decide)
  simp only [k0, k1, k2, k3, k4, k5, k6, k7, k8, k9, oo_isB h, oo_isVE h, oo_addF]
  refine ⟨by simp, by simp, by simp, by simp, by simp, ?_⟩
  subst hR
  have e : ([D.tup [.str "Fallen", .bl (decide (c = "Fallen"))], .tup [.str "NoBeats", .bl (decide (c = "NoBeats"))]] ++ [.tup [.str "NoHand", .bl (decide (c = "NoHand"))], .tup [.str "NoLetter", .bl (decide (c = "NoLetter"))]] ++ [.tup [.str "NoNet", .bl (decide (c = "NoNet"))], .tup [.str "NoNumber", .bl (decide (c = "NoNumber"))]] ++ [.tup [.str "NoParting", .bl (decide (c = "NoParting"))], .tup [.str "NoProgram", .bl (decide (c = "NoProgram"))]] ++ [.tup [.str "NoText", .bl (decide (c = "NoText"))], .tup [.str "TooLong", .bl (decide (c = "TooLong"))]] ++ [.tup [.str "beat", .bl true], .tup [.str "value", .bl true]] : List D) = (prs c).map pairB := rfl
  rw [e]
  rotate_left 105
  refine for_map pairB (fun ps env s => ∃ (x3 x4 : Slot) (found : List Str), found ++ (ps.filter (·.2)).map (·.1) = [c, "beat", "value"] ∧ s = st ++ [.lst (found.map D.str)] ∧ env = [.im (.exc c fs), .pt st.length, .im (.lst ((prs c).map pairB)), x3, x4]) _ _ _ ?_ ?_ ?_
  · exact ⟨_, _, [], prs_ok h, rfl, rfl⟩
  · rintro ⟨w, b⟩ ps env s ⟨x3, x4, found, hf, rfl, rfl⟩
    refine ⟨chk_im, ?_⟩
    have hl : found.length ≤ 3 := by
      have := congrArg List.length hf
      rw [List.length_append] at this
      simp at this; omega
    simp only [pairB]
    rotate_left 105
    have up : (st ++ [D.lst (found.map D.str)])[st.length]? = some (.lst (found.map D.str)) := by simp
    cases b with
    | false =>
      rotate_left 105
      exact ⟨_, _, found, by simpa using hf, rfl, rfl⟩
    | true =>
      rotate_left 105
      simp only [up, oo_some]
      rotate_left 105
      rw [show appendG (D.lst (found.map D.str)) [D.str w] = some (.lst (found.map D.str ++ [.str w]), .non) from if_pos (by simp; omega), oo_some]
      exact ⟨_, _, found ++ [w], by simpa using hf, by simp, rfl⟩
  · rintro env s ⟨x3, x4, found, hf, rfl, rfl⟩
    refine ⟨chk_im, ?_⟩
    have hf : found = [c, "beat", "value"] := by simpa using hf
    subst hf
    rotate_left 105
    refine ⟨Nat.le_refl _, ?_⟩
    simp only [List.getElem?_append_right (Nat.le_refl _), Nat.sub_self, List.getElem?_cons_zero, oo_some, List.take_left]
    exact q
/-! the fields -/
theorem fields_ok {d : D} (q : Q (.fresh (.lst [.tup [nmd "NoHand", d], .tup [nmd "Fallen", d], .tup [nmd "NoLetter", d], .tup [nmd "TooLong", d]])) st) : Ok (m__law_fields [.im d] st) Q := by
  unfold m__law_fields
  rotate_left 105
  refine classes_ok (by decide) ?_
  rw [oo_xfF (d := d) (by decide) (by decide) rfl]
  refine classes_ok (by decide) ?_
  rw [oo_xfF (d := d) (by decide) (by decide) rfl]
  refine classes_ok (by decide) ?_
  rw [oo_xfF (d := d) (by decide) (by decide) rfl]
  refine classes_ok (by decide) ?_
  rw [oo_xfF (d := d) (by decide) (by decide) rfl, oo_addF]
  refine ⟨by simp, ?_⟩
  rw [take_self]
  exact q
theorem alike_i {n : Nat} {i : Int} (q : Q (.val (.bl true)) st) : Ok (m__law_alike (n + 1) [.im (.int i), .im (.int i)] st) Q := by
  unfold m__law_alike
  rotate_left 105
  rw [show isiTD [.int i, .tup [.ty "list", .ty "tuple"]] = some (.bl false) from rfl, oo_some]
  rw [show isiD [.int i, .ty "bool"] = some (.bl false) from rfl]
  rotate_left 105
  rw [show eqXD (.int i) (.int i) = some (.bl (decide (i = i))) from rfl, oo_some, decide_eq_true rfl]
  exact q
theorem alike_b {n : Nat} (q : Q (.val (.bl true)) st) : Ok (m__law_alike (n + 1) [.im (.bl true), .im (.bl true)] st) Q := by
  unfold m__law_alike
  rotate_left 105
  rw [show isiTD [.bl true, .tup [.ty "list", .ty "tuple"]] = some (.bl false) from rfl, oo_some]
  rw [show isiD [.bl true, .ty "bool"] = some (.bl true) from rfl]
  rotate_left 105
  rw [show eqXD (.bl true) (.bl true) = some (.bl true) from rfl]
  rotate_left 105
  exact q
theorem alike_n {n : Nat} (q : Q (.val (.bl true)) st) : Ok (m__law_alike (n + 1) [.im .non, .im .non] st) Q := by
  unfold m__law_alike
  rotate_left 105
  rw [show isiTD [.non, .tup [.ty "list", .ty "tuple"]] = some (.bl false) from rfl, oo_some]
  rw [show isiD [.non, .ty "bool"] = some (.bl false) from rfl]
  rotate_left 105
  rw [show eqXD .non .non = some (.bl true) from rfl]
  rotate_left 105
  exact q
theorem alike_s {n : Nat} (q : Q (.val (.bl true)) st) : Ok (m__law_alike (n + 1) [.im (.str "a"), .im (.str "a")] st) Q := by
  unfold m__law_alike
  rotate_left 105
  rw [show isiTD [.str "a", .tup [.ty "list", .ty "tuple"]] = some (.bl false) from rfl, oo_some]
  rw [show isiD [.str "a", .ty "bool"] = some (.bl false) from rfl]
  rotate_left 105
  exact q
theorem alike_t {n : Nat} (q : Q (.val (.bl true)) st) : Ok (m__law_alike (n + 2) [.im (.tup [.int 1, .int 2]), .im (.tup [.int 1, .int 2])] st) Q := by
  unfold m__law_alike
  rotate_left 105
  rw [show isiTD [.tup [.int 1, .int 2], .tup [.ty "list", .ty "tuple"]] = some (.bl true) from rfl, oo_some]
  rw [show isiD [.tup [.int 1, .int 2], .ty "list"] = some (.bl false) from rfl]
  rotate_left 105
  rw [show neXD (.bl false) (.bl false) = some (.bl false) from rfl]
  rotate_left 105
  rw [show neXD (.int ((2 : Nat) : Int)) (.int ((2 : Nat) : Int)) = some (.bl false) from rfl]
  rotate_left 105
  refine ⟨by decide, by decide, ?_⟩
  refine lc_map (fun i : Nat => D.int i) (fun _ => true) (fun _ => .bl true) chk_im (List.range 2) (fun x hx => ?_) ?_
  · rotate_left 105
    have hx : x < 2 := List.mem_range.1 hx
    refine fun _ => ?_
    rcases (show x = 0 ∨ x = 1 by omega) with rfl | rfl
    · refine (oo_ixT (i := 0) rfl).2 ((oo_ixT (i := 0) rfl).2 ?_); refine alike_i ?_; exact ⟨rfl, rfl⟩
    · refine (oo_ixT (i := 1) rfl).2 ((oo_ixT (i := 1) rfl).2 ?_); refine alike_i ?_; exact ⟨rfl, rfl⟩
  rw [show allD [.lst (((List.range 2).filter fun _ => true).map fun _ => D.bl true)] = some (.bl true) from rfl]
  rotate_left 105
  exact q
def AlOk (d : D) : Prop := ∀ (n : Nat) (st : Store) (Q : Res → Store → Prop), Q (.val (.bl true)) st → Ok (m__law_alike (n + 2) [.im d, .im d] st) Q
theorem law_ok (ns : List Int) (hn : ns.length ≤ 63) : Ok (m_law [.im (.scr ns)] []) fun r _ => r = .val (.bl true) := by
  unfold m_law
  generalize hR : (mSeq (mSet 4 _) _ : StM) = R
  rotate_left 105
  refine ⟨by omega, ?_⟩
  refine for_map (fun k : Nat => D.int (k : Int)) (fun ks env s => ∃ (x1 x2 x3 x4 x5 x6 x7 x8 x9 : Slot), (∀ k ∈ ks, k < 100) ∧ env = [.im (.scr ns), x1, x2, x3, x4, x5, x6, x7, x8, x9]) _ _ _ ?_ ?_ ?_
  · exact ⟨_, _, _, _, _, _, _, _, _, fun k hk => by have := List.mem_range.mp hk; omega, rfl⟩
  · rintro k ks env s ⟨x1, x2, x3, x4, x5, x6, x7, x8, x9, hk, rfl⟩
    refine ⟨chk_im, ?_⟩
    have k1 := hk k (by simp)
    have hk2 : ∀ k ∈ ks, k < 100 := fun x hx => hk x (by simp [hx])
    generalize hT : Turn _ _ = T
    rotate_left 105
    refine cell_ok fun i => ?_
    rotate_left 105
    refine bag_ok (by omega) (by omega) fun a b b0 b1 => ?_
    refine ⟨_, rfl, ?_⟩
    have hB : Bag (s ++ [.lst [.int a, .int b, .int 0]]) s.length 0 := ⟨a, b, 0, by simp, b0, b1, by omega, by omega⟩
    refine ⟨by decide, ?_⟩
    have rest : ∀ (d : D) (s' : Store), AlOk d → Os (R [.im (.scr ns), .im (.int k), .pt s.length, .im d, x4, x5, x6, x7, x8, x9] s') T := by
      intro d s' hd
      subst hR hT
      rotate_left 105
      refine fields_ok ?_
      rotate_left 105
      refine for_map (fun i : Nat => D.int (i : Int)) (fun js env u => ∃ y6 : Slot, (∀ j ∈ js, j < 4) ∧ env = [.im (.scr ns), .im (.int k), .pt s.length, .im d, .im (.lst [.str "NoHand", .str "Fallen", .str "NoLetter", .str "TooLong"]), .im (.lst [.tup [nmd "NoHand", d], .tup [nmd "Fallen", d], .tup [nmd "NoLetter", d], .tup [nmd "TooLong", d]]), y6, x7, x8, x9]) _ _ _ ?_ ?_ ?_
      · exact ⟨_, fun j hj => List.mem_range.1 hj, rfl⟩
      · rintro j js env u ⟨y6, hj, rfl⟩
        refine ⟨chk_im, ?_⟩
        have hj2 : ∀ j ∈ js, j < 4 := fun x hx => hj x (by simp [hx])
        have j4 := hj j (by simp)
        rotate_left 105
        rcases (show j = 0 ∨ j = 1 ∨ j = 2 ∨ j = 3 by omega) with rfl | rfl | rfl | rfl
        all_goals
          refine (oo_ixL rfl).2 ?_
          rotate_left 105
          refine (oo_ixL rfl).2 ?_
        · rw [show neXD (nmd "NoHand") (.lst [.str "NoHand", .str "beat", .str "value"]) = some (.bl false) by kernel_rfl]
          rotate_left 105
          refine (oo_ixL rfl).2 ?_
          rotate_left 105
          refine hd 10 _ _ ?_
          rotate_left 105
          exact ⟨_, hj2, rfl⟩
        · rw [show neXD (nmd "Fallen") (.lst [.str "Fallen", .str "beat", .str "value"]) = some (.bl false) by kernel_rfl]
          rotate_left 105
          refine (oo_ixL rfl).2 ?_
          rotate_left 105
          refine hd 10 _ _ ?_
          rotate_left 105
          exact ⟨_, hj2, rfl⟩
        · rw [show neXD (nmd "NoLetter") (.lst [.str "NoLetter", .str "beat", .str "value"]) = some (.bl false) by kernel_rfl]
          rotate_left 105
          refine (oo_ixL rfl).2 ?_
          rotate_left 105
          refine hd 10 _ _ ?_
          rotate_left 105
          exact ⟨_, hj2, rfl⟩
        · rw [show neXD (nmd "TooLong") (.lst [.str "TooLong", .str "beat", .str "value"]) = some (.bl false) by kernel_rfl]
          rotate_left 105
          refine (oo_ixL rfl).2 ?_
          rotate_left 105
          refine hd 10 _ _ ?_
          rotate_left 105
          exact ⟨_, hj2, rfl⟩
      · rintro env u ⟨y6, hj, rfl⟩
        refine ⟨chk_im, ?_⟩
        rotate_left 105
        refine classes_ok (by decide) ?_
        refine classes_ok (by decide) ?_
        refine classes_ok (by decide) ?_
        refine classes_ok (by decide) ?_
        refine classes_ok (by decide) ?_
        refine classes_ok (by decide) ?_
        rw [oo_addF]
        refine ⟨by simp, ?_⟩
        rw [show [D.str "NoNet", .str "NoParting", .str "NoNumber", .str "NoProgram", .str "NoBeats", .str "NoText"] = (["NoNet", "NoParting", "NoNumber", "NoProgram", "NoBeats", "NoText"] : List Str).map D.str from rfl]
        refine lc_map D.str (fun _ => true) nmd chk_im _ (fun x hx => ?_) ?_
        · rotate_left 105
          exact fun _ => rfl
        rw [show neXD _ _ = some (.bl false) by kernel_rfl]
        rotate_left 105
        exact ⟨_, _, _, _, _, _, _, _, _, hk2, rfl⟩
    refine take_ok hB (by omega) (by decide) (by decide) fun v d v0 v1 hB2 => ?_
    refine take_ok hB2 (by omega) (by decide) (by decide) fun w d2 w0 w1 hB3 => ?_
    have hw : w = 0 ∨ w = 1 ∨ w = 2 ∨ w = 3 ∨ w = 4 ∨ w = 5 := by omega
    rcases hw with rfl | rfl | rfl | rfl | rfl | rfl
    · refine (oo_ixL (i := 0) rfl).2 (rest _ _ ?_); exact fun n st Q q => alike_i q
    · refine (oo_ixL (i := 1) rfl).2 (rest _ _ ?_); exact fun n st Q q => alike_i q
    · refine (oo_ixL (i := 2) rfl).2 (rest _ _ ?_); exact fun n st Q q => alike_b q
    · refine (oo_ixL (i := 3) rfl).2 (rest _ _ ?_); exact fun n st Q q => alike_n q
    · refine (oo_ixL (i := 4) rfl).2 (rest _ _ ?_); exact fun n st Q q => alike_s q
    · refine (oo_ixL (i := 5) rfl).2 (rest _ _ ?_); exact fun n st Q q => alike_t q
  · rintro env s ⟨x1, x2, x3, x4, x5, x6, x7, x8, x9, hk, rfl⟩
    refine ⟨chk_im, ?_⟩
    rotate_left 105
theorem law_true : ∀ ns : List Int, ns.length ≤ 63 → ∃ st, m_law [.im (.scr ns)] [] = some (.val (.bl true), st) := fun ns h => by
  obtain ⟨r, st, e, rfl⟩ := law_ok ns h
  exact ⟨st, e⟩
end Mi.K
namespace Mi.K
open PySem PySem.Spec PyProof.Rows L2 Mi
def d__law_cell_at : He.DefD := ⟨("_law_cell_at", none), "_law_cell_at", "_law_cell_at", defArgs (s__law_cell_at), defBody (s__law_cell_at), defScope (s__law_cell_at), [], []⟩
def d__law_bag : He.DefD := ⟨("_law_bag", none), "_law_bag", "_law_bag", defArgs (s__law_bag), defBody (s__law_bag), defScope (s__law_bag), [], []⟩
def d__law_take : He.DefD := ⟨("_law_take", none), "_law_take", "_law_take", defArgs (s__law_take), defBody (s__law_take), defScope (s__law_take), [], []⟩
def d__law_classes : He.DefD := ⟨("_law_classes", none), "_law_classes", "_law_classes", defArgs (s__law_classes), defBody (s__law_classes), defScope (s__law_classes), [], []⟩
def d__law_fields : He.DefD := ⟨("_law_fields", none), "_law_fields", "_law_fields", defArgs (s__law_fields), defBody (s__law_fields), defScope (s__law_fields), [], []⟩
def d__law_alike : He.DefD := ⟨("_law_alike", none), "_law_alike", "_law_alike", defArgs (s__law_alike), defBody (s__law_alike), defScope (s__law_alike), [], []⟩
def d_law : He.DefD := ⟨("law", none), "law", "law", defArgs (s_law), defBody (s_law), defScope (s_law), [], []⟩
def fn : List He.DefD := [d__law_cell_at, d__law_bag, d__law_take, d__law_classes, d__law_fields, d__law_alike, d_law]
def fa : List He.Fa := [.glo "_law_cell_at", .glo "_law_bag", .glo "_law_take", .glo "_law_classes", .glo "_law_fields", .glo "_law_alike", .glo "law", .glo "BeatError", .glo "Fallen", .glo "NoBeats", .glo "NoHand", .glo "NoLetter", .glo "NoNet", .glo "NoNumber", .glo "NoParting", .glo "NoProgram", .glo "NoText", .glo "TooLong", .free "ValueError", .free "all", .free "bool", .free "isinstance", .free "len", .free "list", .free "max", .free "min", .free "range", .free "tuple"]
abbrev R : PySem.W.OpenRow := PySem.W.OpenLaw.row PySem.Challenge.rw_beatnet_k27_refusals_made
def ts : List He.Tab := []
abbrev file : Str := PySem.Challenge.pw_beatnet_k27_refusals_made.main.file
abbrev s_Fallen : Stmt := inClass (top 8) 0
def x_Fallen : DefC := ⟨"Fallen", "Fallen.__init__", s_Fallen, (some "hand")⟩
theorem iniS_Fallen : IniS "Fallen.__init__" s_Fallen ((("self" : Str)) :: ["hand"]) ((defBody s_Fallen).drop 1) := ⟨⟨_, _, _, _, _, _, _, _, rfl, _, fun _ _ _ _ => rfl⟩, ⟨_, rfl, rfl⟩, rfl, rfl, rfl, rfl, by decide +kernel, by decide +kernel, rfl, rfl, fun _ _ _ _ => rfl, fun _ _ _ _ _ _ _ us hl => match us, hl with | [_, _], _ => rfl⟩
theorem iniR_Fallen : IniR s_Fallen ["hand"] ((defBody s_Fallen).drop 1) (some "hand") := .fld rfl rfl rfl
abbrev s_NoBeats : Stmt := inClass (top 7) 0
def x_NoBeats : DefC := ⟨"NoBeats", "NoBeats.__init__", s_NoBeats, none⟩
theorem iniS_NoBeats : IniS "NoBeats.__init__" s_NoBeats ((("self" : Str)) :: []) [] := ⟨⟨_, _, _, _, _, _, _, _, rfl, _, fun _ _ _ _ => rfl⟩, ⟨_, rfl, rfl⟩, rfl, rfl, rfl, rfl, by decide +kernel, by decide +kernel, rfl, rfl, fun _ _ _ _ => rfl, fun _ _ _ _ _ _ _ us hl => match us, hl with | [_], _ => rfl⟩
theorem iniR_NoBeats : IniR s_NoBeats [] [] none := .none
abbrev s_NoHand : Stmt := inClass (top 3) 0
def x_NoHand : DefC := ⟨"NoHand", "NoHand.__init__", s_NoHand, (some "hand")⟩
theorem iniS_NoHand : IniS "NoHand.__init__" s_NoHand ((("self" : Str)) :: ["hand"]) ((defBody s_NoHand).drop 1) := ⟨⟨_, _, _, _, _, _, _, _, rfl, _, fun _ _ _ _ => rfl⟩, ⟨_, rfl, rfl⟩, rfl, rfl, rfl, rfl, by decide +kernel, by decide +kernel, rfl, rfl, fun _ _ _ _ => rfl, fun _ _ _ _ _ _ _ us hl => match us, hl with | [_, _], _ => rfl⟩
theorem iniR_NoHand : IniR s_NoHand ["hand"] ((defBody s_NoHand).drop 1) (some "hand") := .fld rfl rfl rfl
abbrev s_NoLetter : Stmt := inClass (top 9) 0
def x_NoLetter : DefC := ⟨"NoLetter", "NoLetter.__init__", s_NoLetter, (some "number")⟩
theorem iniS_NoLetter : IniS "NoLetter.__init__" s_NoLetter ((("self" : Str)) :: ["number"]) ((defBody s_NoLetter).drop 1) := ⟨⟨_, _, _, _, _, _, _, _, rfl, _, fun _ _ _ _ => rfl⟩, ⟨_, rfl, rfl⟩, rfl, rfl, rfl, rfl, by decide +kernel, by decide +kernel, rfl, rfl, fun _ _ _ _ => rfl, fun _ _ _ _ _ _ _ us hl => match us, hl with | [_, _], _ => rfl⟩
theorem iniR_NoLetter : IniR s_NoLetter ["number"] ((defBody s_NoLetter).drop 1) (some "number") := .fld rfl rfl rfl
abbrev s_NoNet : Stmt := inClass (top 2) 0
def x_NoNet : DefC := ⟨"NoNet", "NoNet.__init__", s_NoNet, none⟩
theorem iniS_NoNet : IniS "NoNet.__init__" s_NoNet ((("self" : Str)) :: []) [] := ⟨⟨_, _, _, _, _, _, _, _, rfl, _, fun _ _ _ _ => rfl⟩, ⟨_, rfl, rfl⟩, rfl, rfl, rfl, rfl, by decide +kernel, by decide +kernel, rfl, rfl, fun _ _ _ _ => rfl, fun _ _ _ _ _ _ _ us hl => match us, hl with | [_], _ => rfl⟩
theorem iniR_NoNet : IniR s_NoNet [] [] none := .none
abbrev s_NoNumber : Stmt := inClass (top 5) 0
def x_NoNumber : DefC := ⟨"NoNumber", "NoNumber.__init__", s_NoNumber, none⟩
theorem iniS_NoNumber : IniS "NoNumber.__init__" s_NoNumber ((("self" : Str)) :: []) [] := ⟨⟨_, _, _, _, _, _, _, _, rfl, _, fun _ _ _ _ => rfl⟩, ⟨_, rfl, rfl⟩, rfl, rfl, rfl, rfl, by decide +kernel, by decide +kernel, rfl, rfl, fun _ _ _ _ => rfl, fun _ _ _ _ _ _ _ us hl => match us, hl with | [_], _ => rfl⟩
theorem iniR_NoNumber : IniR s_NoNumber [] [] none := .none
abbrev s_NoParting : Stmt := inClass (top 4) 0
def x_NoParting : DefC := ⟨"NoParting", "NoParting.__init__", s_NoParting, none⟩
theorem iniS_NoParting : IniS "NoParting.__init__" s_NoParting ((("self" : Str)) :: []) [] := ⟨⟨_, _, _, _, _, _, _, _, rfl, _, fun _ _ _ _ => rfl⟩, ⟨_, rfl, rfl⟩, rfl, rfl, rfl, rfl, by decide +kernel, by decide +kernel, rfl, rfl, fun _ _ _ _ => rfl, fun _ _ _ _ _ _ _ us hl => match us, hl with | [_], _ => rfl⟩
theorem iniR_NoParting : IniR s_NoParting [] [] none := .none
abbrev s_NoProgram : Stmt := inClass (top 6) 0
def x_NoProgram : DefC := ⟨"NoProgram", "NoProgram.__init__", s_NoProgram, none⟩
theorem iniS_NoProgram : IniS "NoProgram.__init__" s_NoProgram ((("self" : Str)) :: []) [] := ⟨⟨_, _, _, _, _, _, _, _, rfl, _, fun _ _ _ _ => rfl⟩, ⟨_, rfl, rfl⟩, rfl, rfl, rfl, rfl, by decide +kernel, by decide +kernel, rfl, rfl, fun _ _ _ _ => rfl, fun _ _ _ _ _ _ _ us hl => match us, hl with | [_], _ => rfl⟩
theorem iniR_NoProgram : IniR s_NoProgram [] [] none := .none
abbrev s_NoText : Stmt := inClass (top 11) 0
def x_NoText : DefC := ⟨"NoText", "NoText.__init__", s_NoText, none⟩
theorem iniS_NoText : IniS "NoText.__init__" s_NoText ((("self" : Str)) :: []) [] := ⟨⟨_, _, _, _, _, _, _, _, rfl, _, fun _ _ _ _ => rfl⟩, ⟨_, rfl, rfl⟩, rfl, rfl, rfl, rfl, by decide +kernel, by decide +kernel, rfl, rfl, fun _ _ _ _ => rfl, fun _ _ _ _ _ _ _ us hl => match us, hl with | [_], _ => rfl⟩
theorem iniR_NoText : IniR s_NoText [] [] none := .none
abbrev s_TooLong : Stmt := inClass (top 10) 0
def x_TooLong : DefC := ⟨"TooLong", "TooLong.__init__", s_TooLong, (some "most")⟩
theorem iniS_TooLong : IniS "TooLong.__init__" s_TooLong ((("self" : Str)) :: ["most"]) ((defBody s_TooLong).drop 1) := ⟨⟨_, _, _, _, _, _, _, _, rfl, _, fun _ _ _ _ => rfl⟩, ⟨_, rfl, rfl⟩, rfl, rfl, rfl, rfl, by decide +kernel, by decide +kernel, rfl, rfl, fun _ _ _ _ => rfl, fun _ _ _ _ _ _ _ us hl => match us, hl with | [_, _], _ => rfl⟩
theorem iniR_TooLong : IniR s_TooLong ["most"] ((defBody s_TooLong).drop 1) (some "most") := .fld rfl rfl rfl
def cl : List DefC := [x_Fallen, x_NoBeats, x_NoHand, x_NoLetter, x_NoNet, x_NoNumber, x_NoParting, x_NoProgram, x_NoText, x_TooLong]
def ex (K : PySem.W.Frag) : Bool := (Mi.exFB K Mi.exNames && (Mi.clsF K && ((cl.all fun d => d.ok file K) && true)))
abbrev hk : PySem.W.Hook := Mi.hookZ 4 fa fn cl ts ex
def ob (s : PySem.W.SharedT) : Mi.AlZ := Mi.obsZ 4 fa fn cl ts ex (HandSHeadRun.getT s)
theorem ob_eq (s : PySem.W.SharedT) : ob s = hk.obs s.abs := Mi.obsZ_eq (HandSHeadRun.getT_eq s)
theorem run (w : World) : HandSHeadRun.RunEq R (PySem.W.view R.prog [19]) hk ob 4000 ("_law_cell_at" :: "_law_bag" :: "_law_take" :: "_law_alike" :: "_law_classes" :: "_law_fields" :: "BeatError" :: "NoNet" :: "NoHand" :: "NoParting" :: "NoNumber" :: "NoProgram" :: "NoBeats" :: "Fallen" :: "NoLetter" :: "TooLong" :: "NoText" :: []) w := by
  intro os
  kernel_rfl
theorem facts {P : Program} {w : World} {K : PySem.W.Frag} {h : Heap} {mg : Str → Option Value} {f : Addr} (X : K.In h) (G : h.Ns mainGlobals mg) (hfa : mg ("law" : Str) = some (.ref f)) (hP : P.main.file = file) (hT : (P.main.scope.names.lookup ("super" : Str)).isSome = false) (cz : Mi.SaysZ fa fn cl ts ex w K) :
    ∃ fd : FuncData, (∀ (s : Shared) (v : Value), BindsTo s fd ⟨[v], []⟩ [("script", v)]) ∧ ∀ base : Heap, K.In base → base.Ns mainGlobals mg → FnOk P w K mg base CX0 14 f fd ["script"] (spM K 1 (m_law)) := by
  have cx := cz.s
  have c : He.SaysD fa fn K := cx.t.d
  obtain ⟨fd__law_cell_at, F__law_cell_at⟩ := c.def_ 0 (d := d__law_cell_at) rfl
  obtain ⟨fd__law_bag, F__law_bag⟩ := c.def_ 1 (d := d__law_bag) rfl
  obtain ⟨fd__law_take, F__law_take⟩ := c.def_ 2 (d := d__law_take) rfl
  obtain ⟨fd__law_classes, F__law_classes⟩ := c.def_ 3 (d := d__law_classes) rfl
  obtain ⟨fd__law_fields, F__law_fields⟩ := c.def_ 4 (d := d__law_fields) rfl
  obtain ⟨fd__law_alike, F__law_alike⟩ := c.def_ 5 (d := d__law_alike) rfl
  obtain ⟨fd_law, F_law⟩ := c.def_ 6 (d := d_law) rfl
  have h__law_cell_at := He.glo_ok X G (c.fact 0 (f := .glo "_law_cell_at") rfl)
  have h__law_bag := He.glo_ok X G (c.fact 1 (f := .glo "_law_bag") rfl)
  have h__law_take := He.glo_ok X G (c.fact 2 (f := .glo "_law_take") rfl)
  have h__law_classes := He.glo_ok X G (c.fact 3 (f := .glo "_law_classes") rfl)
  have h__law_fields := He.glo_ok X G (c.fact 4 (f := .glo "_law_fields") rfl)
  have h__law_alike := He.glo_ok X G (c.fact 5 (f := .glo "_law_alike") rfl)
  have h_law := He.glo_ok X G (c.fact 6 (f := .glo "law") rfl)
  have gl_BeatError := He.glo_ok X G (c.fact 7 (f := .glo "BeatError") rfl)
  have gl_Fallen := He.glo_ok X G (c.fact 8 (f := .glo "Fallen") rfl)
  have gl_NoBeats := He.glo_ok X G (c.fact 9 (f := .glo "NoBeats") rfl)
  have gl_NoHand := He.glo_ok X G (c.fact 10 (f := .glo "NoHand") rfl)
  have gl_NoLetter := He.glo_ok X G (c.fact 11 (f := .glo "NoLetter") rfl)
  have gl_NoNet := He.glo_ok X G (c.fact 12 (f := .glo "NoNet") rfl)
  have gl_NoNumber := He.glo_ok X G (c.fact 13 (f := .glo "NoNumber") rfl)
  have gl_NoParting := He.glo_ok X G (c.fact 14 (f := .glo "NoParting") rfl)
  have gl_NoProgram := He.glo_ok X G (c.fact 15 (f := .glo "NoProgram") rfl)
  have gl_NoText := He.glo_ok X G (c.fact 16 (f := .glo "NoText") rfl)
  have gl_TooLong := He.glo_ok X G (c.fact 17 (f := .glo "TooLong") rfl)
  have b_ValueError := He.free_ok X G (c.fact 18 (f := .free "ValueError") rfl)
  have b_all := He.free_ok X G (c.fact 19 (f := .free "all") rfl)
  have b_bool := He.free_ok X G (c.fact 20 (f := .free "bool") rfl)
  have b_isinstance := He.free_ok X G (c.fact 21 (f := .free "isinstance") rfl)
  have b_len := He.free_ok X G (c.fact 22 (f := .free "len") rfl)
  have b_list := He.free_ok X G (c.fact 23 (f := .free "list") rfl)
  have b_max := He.free_ok X G (c.fact 24 (f := .free "max") rfl)
  have b_min := He.free_ok X G (c.fact 25 (f := .free "min") rfl)
  have b_range := He.free_ok X G (c.fact 26 (f := .free "range") rfl)
  have b_tuple := He.free_ok X G (c.fact 27 (f := .free "tuple") rfl)
  have more : ex K = true := cx.more
  unfold ex at more
  obtain ⟨e_exF, more⟩ := He.ba more
  obtain ⟨e_clF, more⟩ := He.ba more
  obtain ⟨e_cl, more⟩ := He.ba more
  have exF : ExF K mg := exF_of e_exF e_clF
  have e_cl : ∀ d ∈ cl, d.ok P.main.file K = true := fun d hd => by rw [hP]; exact List.all_eq_true.mp e_cl d hd
  have xc_Fallen : XC K P mg "Fallen" ["hand"] (some "hand") := DefC.xc (d := x_Fallen) (cz.cl 0) (e_cl _ (List.mem_of_getElem? (i := 0) rfl)) iniS_Fallen iniR_Fallen gl_Fallen hT
  have xc_NoBeats : XC K P mg "NoBeats" [] none := DefC.xc (d := x_NoBeats) (cz.cl 1) (e_cl _ (List.mem_of_getElem? (i := 1) rfl)) iniS_NoBeats iniR_NoBeats gl_NoBeats hT
  have xc_NoHand : XC K P mg "NoHand" ["hand"] (some "hand") := DefC.xc (d := x_NoHand) (cz.cl 2) (e_cl _ (List.mem_of_getElem? (i := 2) rfl)) iniS_NoHand iniR_NoHand gl_NoHand hT
  have xc_NoLetter : XC K P mg "NoLetter" ["number"] (some "number") := DefC.xc (d := x_NoLetter) (cz.cl 3) (e_cl _ (List.mem_of_getElem? (i := 3) rfl)) iniS_NoLetter iniR_NoLetter gl_NoLetter hT
  have xc_NoNet : XC K P mg "NoNet" [] none := DefC.xc (d := x_NoNet) (cz.cl 4) (e_cl _ (List.mem_of_getElem? (i := 4) rfl)) iniS_NoNet iniR_NoNet gl_NoNet hT
  have xc_NoNumber : XC K P mg "NoNumber" [] none := DefC.xc (d := x_NoNumber) (cz.cl 5) (e_cl _ (List.mem_of_getElem? (i := 5) rfl)) iniS_NoNumber iniR_NoNumber gl_NoNumber hT
  have xc_NoParting : XC K P mg "NoParting" [] none := DefC.xc (d := x_NoParting) (cz.cl 6) (e_cl _ (List.mem_of_getElem? (i := 6) rfl)) iniS_NoParting iniR_NoParting gl_NoParting hT
  have xc_NoProgram : XC K P mg "NoProgram" [] none := DefC.xc (d := x_NoProgram) (cz.cl 7) (e_cl _ (List.mem_of_getElem? (i := 7) rfl)) iniS_NoProgram iniR_NoProgram gl_NoProgram hT
  have xc_NoText : XC K P mg "NoText" [] none := DefC.xc (d := x_NoText) (cz.cl 8) (e_cl _ (List.mem_of_getElem? (i := 8) rfl)) iniS_NoText iniR_NoText gl_NoText hT
  have xc_TooLong : XC K P mg "TooLong" ["most"] (some "most") := DefC.xc (d := x_TooLong) (cz.cl 9) (e_cl _ (List.mem_of_getElem? (i := 9) rfl)) iniS_TooLong iniR_TooLong gl_TooLong hT
  have e := hfa.symm.trans h_law
  cases e
  have b := FunD.bindsA (ps := ["script"]) F_law fun _ _ _ _ _ _ us hl => match us, hl with | [_], _ => rfl
  refine ⟨fd_law, fun s v => b s [v] rfl, fun base _ _ => ?_⟩
  have p__law_cell_at : Prom P w K mg base "_law_cell_at" 1 2 (m__law_cell_at) := ⟨_, fd__law_cell_at, ["script", "k"], ok__law_cell_at F__law_cell_at b_len, h__law_cell_at, F__law_cell_at.kp, (F__law_cell_at.bindsN fun _ _ _ _ _ _ us hl => match us, hl with | [_, _], _ => rfl)⟩
  have p__law_bag : Prom P w K mg base "_law_bag" 1 2 (m__law_bag) := ⟨_, fd__law_bag, ["cell", "k"], ok__law_bag F__law_bag b_max, h__law_bag, F__law_bag.kp, (F__law_bag.bindsN fun _ _ _ _ _ _ us hl => match us, hl with | [_, _], _ => rfl)⟩
  have p__law_take : Prom P w K mg base "_law_take" 1 2 (m__law_take) := ⟨_, fd__law_take, ["bag", "many"], ok__law_take F__law_take , h__law_take, F__law_take.kp, (F__law_take.bindsN fun _ _ _ _ _ _ us hl => match us, hl with | [_, _], _ => rfl)⟩
  have p__law_classes : Prom P w K mg base "_law_classes" 1 1 (m__law_classes) := ⟨_, fd__law_classes, ["caught"], ok__law_classes F__law_classes b_ValueError b_isinstance exF gl_BeatError gl_Fallen gl_NoBeats gl_NoHand gl_NoLetter gl_NoNet gl_NoNumber gl_NoParting gl_NoProgram gl_NoText gl_TooLong, h__law_classes, F__law_classes.kp, (F__law_classes.bindsN fun _ _ _ _ _ _ us hl => match us, hl with | [_], _ => rfl)⟩
  have p__law_fields : Prom P w K mg base "_law_fields" 2 1 (m__law_fields) := ⟨_, fd__law_fields, ["thing"], ok__law_fields F__law_fields exF xc_Fallen xc_NoHand xc_NoLetter xc_TooLong p__law_classes, h__law_fields, F__law_fields.kp, (F__law_fields.bindsN fun _ _ _ _ _ _ us hl => match us, hl with | [_], _ => rfl)⟩
  have p__law_alike : Prom P w K mg base "_law_alike" 13 2 (m__law_alike 12) := ⟨_, fd__law_alike, ["found", "due"], ok__law_alike F__law_alike h__law_alike F__law_alike.kp (F__law_alike.bindsN fun _ _ _ _ _ _ us hl => match us, hl with | [_, _], _ => rfl) b_all b_bool b_isinstance b_len b_list b_range b_tuple 12, h__law_alike, F__law_alike.kp, (F__law_alike.bindsN fun _ _ _ _ _ _ us hl => match us, hl with | [_, _], _ => rfl)⟩
  exact ok_law F_law b_len b_max b_min b_range xc_NoBeats xc_NoNet xc_NoNumber xc_NoParting xc_NoProgram xc_NoText p__law_cell_at p__law_bag p__law_take p__law_fields p__law_alike p__law_classes
end Mi.K
open PySem PySem.W PySem.Calls PyProof.Rows
theorem PySem.Challenge.cw_beatnet_k27_refusals_made_holds : PySem.Challenge.rw_beatnet_k27_refusals_made.Holds := by
  w_on; o_law
  refine HandSHeadRun.head_any (r := OpenLaw.row PySem.Challenge.rw_beatnet_k27_refusals_made) (q := view (OpenLaw.row PySem.Challenge.rw_beatnet_k27_refusals_made).prog [19]) (H := Mi.K.hk) (ob := Mi.K.ob) (M := 4000) (loose := ("_law_cell_at" :: "_law_bag" :: "_law_take" :: "_law_alike" :: "_law_classes" :: "_law_fields" :: "BeatError" :: "NoNet" :: "NoHand" :: "NoParting" :: "NoNumber" :: "NoProgram" :: "NoBeats" :: "Fallen" :: "NoLetter" :: "TooLong" :: "NoText" :: [])) (d := HandSHeadRun.topDef (OpenLaw.row PySem.Challenge.rw_beatnet_k27_refusals_made).prog 19) (kwd := []) Mi.K.ob_eq
    (by kernel_rfl) (fun s => by kernel_rfl) Mi.K.run (by kernel_rfl) (by kernel_rfl) (by kernel_rfl) (by rfl) (by first | assumption | decide +kernel) (by decide +kernel) ⟨rfl, rfl, rfl, rfl, rfl, by decide +kernel⟩ ?hw ?hc
  case hw => w_witness2
  case hc =>
    refine L2.walk_ofE (l := PySem.Challenge.rw_beatnet_k27_refusals_made) (n := 63) (k := 14) (x := "script") (CX := L2.CX0) rfl (by decide) (by kernel_rfl) ⟨rfl, by decide, by decide⟩ ?F (fun _ _ _ _ z => z)
    intro w mg fa h Y G hmg0
    obtain ⟨K, KX, c⟩ := Y
    have hmg : mg ("law" : PySem.Str) = some (.ref fa) := by
      have e : (HandSHeadRun.topDef (OpenLaw.row PySem.Challenge.rw_beatnet_k27_refusals_made).prog 19).name = ("law" : PySem.Str) := by kernel_rfl
      rw [← e]
      exact hmg0
    obtain ⟨fd, hb, hF⟩ := Mi.K.facts (P := (PySem.Challenge.rw_beatnet_k27_refusals_made).prog) (w := w) KX G hmg (by rfl) (by decide +kernel) c
    exact ⟨K, fd, Mi.spM K 1 (Mi.K.m_law), KX, hb, fun H a ns hl hO hS => Mi.law_sp Mi.K.law_true H a ns hl hO hS, hF⟩

