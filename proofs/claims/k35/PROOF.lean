import PyProof.Rows.All
import Wide.All
import OpenK.AllK
import Wide.FinOn
import HandS.ForMost
import HandS.IsInst
import HandS.SortInts
import HandS.SetFor
import HandS.Strs
import HandS.Conv
import HandS.TupAny
import HandS.Codes
import HandS.Nested
import HandS.Style
import KE.GoesEnum
import HandS.NoneIn
import HandS.Gcd
import PyProof.Rows.StrJoinStr
import PyProof.Rows.StrSigns2
import PyProof.ReprRoads
import PyProof.EqKinds
import HandS.Walk
import HandS.DictComp
import HandS.More
import HandS.Zip
import KE.KDictDisplayH
import HandS.Star
import HandS.Deep
import HandS.Lambda
import HandS.EndTab
import KE.SortKeyHeap
import KE.SortData
import KE.KNestM
import PySem.Challenge.RW_recutkeys_k35_sifting
set_option Elab.async false
set_option linter.all false
set_option maxRecDepth 100000
set_option maxHeartbeats 4000000
section RGa
/-! Rules of my own over the layer: sorted of a tuple of ints, set of one, != of an empty list or tuple, repr of data. -/
namespace RG
open PySem PySem.Spec PyProof.Rows L2
section
variable {prog : Program} {w : World} {A : Around} {E : Value → Shared → Prop} {s : Shared}
/-- the items of a tuple gathered into a list -/
theorem gather_tup {t : Addr} {us : List Value} {Q : List Value → Shared → Prop} (ht : s.heap.IsTuple t us.toArray) (hz : us.length ≤ sizeLine)
    (k : Q us { s with heap := Heap.update (Heap.push s.heap (seqObj "list" #[] 0)) s.heap.objs.size (Obj.mapSeq fun x => x ++ us.toArray) }) :
    wpAny (model prog w) A (collect (Value.ref t)) Q E s := by
  obtain ⟨ob, g1, g2, n, g3⟩ := id ht
  have g1' : (Heap.push s.heap (seqObj "list" #[] 0)).get? t = some ob := Heap.get?_push_of_some _ g1
  have fresh : (Heap.push s.heap (seqObj "list" #[] 0)).get? s.heap.objs.size = some (seqObj "list" #[] 0) := Heap.get?_push_size _ rfl
  unfold collect
  apply wpAny_bind
  apply wpAny_runValue
  refine codeAny_builtin entry_proto_collect' ?_
  show wpAny _ _ (do
    again (.builtin "list.__iadd__" ⟨[← newList [], Value.ref t], []⟩)) _ _ s
  apply wpAny_bind
  refine wpAny_newList (wpAny_pure ⟨Code.quiet_builtin _ (by decide +kernel), ?_⟩)
  refine codeAny_builtin entry_list_iadd' ?_
  show wpAny _ _ (Builtin.List.listExtendWith (Value.ref s.heap.objs.size) (Value.ref t) (Value.ref s.heap.objs.size)) _ _ { s with heap := Heap.push s.heap (seqObj "list" #[] 0) }
  unfold Builtin.List.listExtendWith
  apply wpAny_bind
  refine wpAny_typeOf (T := "tuple") ⟨ob, g1', g2⟩ ?_
  rw [if_pos (by rw [show (Value.type "tuple" == Value.type "tuple") = true from rfl, Bool.or_true])]
  refine wpAny_bind (listItems_at g1' g3 ?_)
  refine wpAny_bind (listItems_at (n := 0) (xs := #[]) fresh rfl ?_)
  rw [if_neg (by simp)]
  refine wpAny_bind (listUpdate_at (n := 0) (xs := #[]) fresh rfl ?_ (Nat.zero_le _) (by simpa using Nat.le_succ_of_le hz))
  refine wpAny_pure ?_
  show wpAny (model prog w) A (do
      let o ← load s.heap.objs.size
      match o.data with
      | .seq xs _ => pure xs.toList
      | _ => unsupported "internal:collect") Q E { s with heap := Heap.update (Heap.push s.heap (seqObj "list" #[] 0)) s.heap.objs.size (Obj.mapSeq fun x => x ++ us.toArray) }
  refine wpAny_bind (wpAny_load (get?_update_seq fresh _) ?_)
  have e : (((#[] : Array Value) ++ us.toArray).toList) = us := by simp
  show wpAny _ _ (pure ((#[] : Array Value) ++ us.toArray).toList) Q E _
  rw [e]
  exact wpAny_pure k
/-- sorted(t), t a tuple of any things that an order sorts -/
theorem sorted_tup {t : Addr} {us : List Value} {lt : Value → Value → Bool} {Q : Value → Shared → Prop} (O : SrtO.Swo lt) (ht : s.heap.IsTuple t us.toArray) (hz : us.length ≤ sizeLine)
    (hS : 2 ≤ us.length → ∀ (g : Heap) (a : Addr), g.get? a = some (seqObj "list" us.toArray 0) → SrtO.SortableO prog w A.in1.in1 { s with heap := g } a us lt)
    (k : ∀ out : List Value, SrtO.Srtd lt out → SrtO.Stb lt out us → Q (Value.ref (s.heap.objs.size + 1)) { s with heap := sortedAll s.heap us out.toArray }) :
    wpAny (model prog w) A (call (.builtin "sorted") [Value.ref t]) Q E s := by
  refine Calls.call_function_entry kind_sorted plain_sorted entry_sorted (args_sorted1 _) ?_
  unfold Builtin.«sorted»
  apply wpAny_bind (m := checkCount "sorted" 1 1 _)
  apply wpAny_pure
  apply wpAny_bind
  refine gather_tup ht hz ?_
  apply wpAny_bind
  refine wpAny_newList ?_ hz
  have one : (Heap.update (Heap.push s.heap (seqObj "list" #[] 0)) s.heap.objs.size (Obj.mapSeq fun x => x ++ us.toArray)).objs.size = s.heap.objs.size + 1 := by
    rw [Heap.size_update, size_push']
  have at1 : (Heap.push (Heap.update (Heap.push s.heap (seqObj "list" #[] 0)) s.heap.objs.size (Obj.mapSeq fun x => x ++ us.toArray)) (seqObj "list" us.toArray 0)).get? (s.heap.objs.size + 1) = some (seqObj "list" us.toArray 0) := by
    have e := Heap.get?_push_size (Heap.update (Heap.push s.heap (seqObj "list" #[] 0)) s.heap.objs.size (Obj.mapSeq fun x => x ++ us.toArray)) (o := seqObj "list" us.toArray 0) rfl
    rw [one] at e
    exact e
  show wpAny _ _ _ _ _ { s with heap := Heap.push (Heap.update (Heap.push s.heap (seqObj "list" #[] 0)) s.heap.objs.size (Obj.mapSeq fun x => x ++ us.toArray)) (seqObj "list" us.toArray 0) }
  rw [one]
  apply wpAny_bind
  apply wpAny_holding
  refine wpAny_call_entry slot_list_sort ⟨_, at1, rfl⟩ entry_list_sort (SrtO.list_sort_ord O at1 hz (fun h2 => hS h2 _ _ at1) fun out h1 h2 => ⟨_, rfl, ?_⟩) (args_list_sort _)
  exact wpAny_pure ⟨_, rfl, k out h1 h2⟩
end
section
variable {X : Cx}
/-- sorted(t), t a tuple of ints -/
def rSortTI (K : PySem.W.Frag) : List V → Hp → VK → Prop := fun vs H Q => ∃ (a : Addr) (ns : List Int), vs = [V.ref a] ∧ SqT K H a (ns.map V.int) ∧
  ∀ (ms : List Int) (p : Addr), ms.Perm ns → ms.Pairwise (· ≤ ·) → H p = none → Q (.ref p) (upd H p (.lst (ms.map V.int)))
theorem ints_back : ∀ {ns : List Int} {us : List Value}, Vals (ns.map V.int) us → IntsAre us ns
  | [], _, .nil => .nil
  | n :: ns, _, .cons r t => by
    obtain ⟨k, rfl⟩ := r
    exact .cons n k (ints_back t)
theorem ints_forth : ∀ {ns : List Int} {us : List Value}, IntsAre us ns → Vals (ns.map V.int) us
  | _, _, .nil => .nil
  | _, _, .cons n k t => .cons ⟨k, rfl⟩ (ints_forth t)
theorem cr_sortTI : CallR X (.builtin "sorted") (rSortTI X.K) := by
  intro pins s σ H vs us Q I r h
  obtain ⟨a, ns, rfl, hs, q⟩ := h
  obtain ⟨its, rv, pt, hz⟩ := I.tuple hs
  rw [Vals.ref1 r]
  have hi := ints_back rv
  have hl := rv.length
  rw [List.length_map] at hl hz
  refine sorted_tup SrtO.swo_int (show s.heap.IsTuple a its.toArray from pt) (by omega) (fun h2 g b _ => SrtO.ints_sortable hi h2) fun out h1 h2 => ?_
  obtain ⟨k1, k2, k3⟩ := SrtO.ints_out hi h1 h2
  obtain ⟨ep, he⟩ := PyProof.Rows.sortedAll_at s.heap its out.toArray
  have h3 : ((out.map SrtO.iv).map V.int).length ≤ sizeLine := by
    rw [List.length_map, k2.length_eq]
    exact hz
  exact ⟨.ref _, upd H (s.heap.objs.size + 1) (.lst ((out.map SrtO.iv).map V.int)),
    I.laid (t' := s.toks) (fun _ _ => PyProof.Rows.sortedAll_old) (Nat.le_succ _) ⟨h3, out, ep, ints_forth k1, he⟩, rfl, q _ _ k2 k3 (I.hok.fresh (Nat.le_succ _))⟩

/-- set(t), t a tuple of ints -/
def rSetTI (K : PySem.W.Frag) (w : World) : List V → Hp → VK → Prop := fun vs H Q => ∃ (a : Addr) (ns : List Int), vs = [V.ref a] ∧ SqT K H a (ns.map V.int) ∧ ns.length ≤ 1000 ∧
  ∀ (p : Addr) (ms : List Int), ms.Nodup → (∀ k, k ∈ ms ↔ k ∈ ns) → H p = none → Q (.ref p) (upd H p (SetO w p (fun j => decide (j ∈ ns)) ms.length))
theorem cr_setTI (hc : X.calm = true) : CallR X (.type "set") (rSetTI X.K X.w) := by
  intro pins s σ H vs us Q I r h
  obtain ⟨a, ns, rfl, hs, hl, q⟩ := h
  obtain ⟨its, rv, pt, hz⟩ := I.tuple hs
  rw [Vals.ref1 r]
  have hi : IntsAre its.toArray.toList ns := by simpa using ints_back rv
  refine call_set_tupI ns (I.ok.hd hc) (show s.heap.IsTuple a its.toArray from pt) hi (by unfold scanBound; omega) fun g tk c R hcn kp => ?_
  have R2 := R
  obtain ⟨o, es, ep, t, ho, hex, hdt, gd, nd, hm, hb, hf, hn, hr, hl2⟩ := R2
  have hlen : c = (es.toList.map keyOf).length := by
    rw [List.length_map, Array.length_toList]
    exact hn.symm
  subst hlen
  exact ⟨.ref _, upd H s.heap.objs.size (SetO X.w s.heap.objs.size (fun j => decide (j ∈ ns)) (es.toList.map keyOf).length), I.laid kp (Nat.le_refl _) (setO_new R), rfl,
    q _ (es.toList.map keyOf) nd (fun k => by rw [← hm k, decide_eq_true_eq]) (I.hok.fresh (Nat.le_refl _))⟩
/-- len of a set of ints -/
theorem cr_lenSet : CallR X (.builtin "len") (fun xs H Q => ∃ (p : Addr) (S : Int → Bool) (n : Nat), xs = [.ref p] ∧ H p = some (SetO X.w p S n) ∧ Q (.int n) H) := by
  intro pins s σ H vs us Q I r h
  obtain ⟨p, S, n, rfl, hp, q⟩ := h
  rw [Vals.ref1 r]
  obtain ⟨o, es, ep, t, ho, hex, hdt, gd, nd, hm, hb, hf, hn, hr, hl2⟩ := setO_get I hp
  subst hn
  refine call_len_set ho hex hdt hf (by unfold scanBound at hb; omega) ⟨.int _, H, I.tok _, ⟨_, rfl⟩, q⟩
/-- xs != [], a list; t != (), a tuple: any things in them -/
def rNeNil (K : PySem.W.Frag) : R2 := fun x y H Q => ∃ a b xs, x = .ref a ∧ y = .ref b ∧ ((SqL K H a xs ∧ SqL K H b []) ∨ (SqT K H a xs ∧ SqT K H b [])) ∧ Q (.bl (!xs.isEmpty)) H
theorem op_neNil (hu : X.A.units < cLine) : OpR X (compareOp .NotEq) (rNeNil X.K) := by
  intro pins s σ H x y v u Q I rx ry h
  obtain ⟨a, b, xs, rfl, rfl, hq, q⟩ := h
  cases rx
  cases ry
  rcases hq with ⟨ha, hb⟩ | ⟨ha, hb⟩
  · obtain ⟨i1, r1, p1, _⟩ := I.list ha
    obtain ⟨i2, r2, p2, _⟩ := I.list hb
    cases r2
    cases r1 with
    | nil => exact SeqAt.RcNeAt.lists (e := fun _ => true) p1.isList p2.isList rfl hu (fun j h1 _ => absurd h1 (by simp)) X.prog X.w _ _ ⟨.bl false, H, I, rfl, q⟩
    | cons r t => exact SeqAt.RcNeAt.lists_lengths p1.isList p2.isList (by simp) hu X.prog X.w _ _ ⟨.bl true, H, I, rfl, q⟩
  · obtain ⟨i1, r1, p1, _⟩ := I.tuple ha
    obtain ⟨i2, r2, p2, _⟩ := I.tuple hb
    cases r2
    cases r1 with
    | nil => exact SeqAt.RcNeAt.tuples (e := fun _ => true) (show s.heap.IsTuple a _ from p1) (show s.heap.IsTuple b _ from p2) hu (fun j h1 _ => absurd h1 (by simp)) X.prog X.w _ _ ⟨.bl false, H, I, rfl, q⟩
    | cons r t => exact SeqAt.RcNeAt.tuples (e := fun _ => true) (show s.heap.IsTuple a _ from p1) (show s.heap.IsTuple b _ from p2) hu (fun j _ h2 => absurd h2 (by simp)) X.prog X.w _ _ ⟨.bl true, H, I, rfl, q⟩
end
end RG
end RGa
section RGb
/-! Data in the abstract heap, dicts among them; repr of it. -/
namespace RG
open PySem PySem.Spec PyProof.Rows L2
def keyData : Key → PyData
  | .inl i => .int i
  | .inr x => .str x
/-- a pen's dict begins with its cells -/
def isPen : List (Key × V) → Bool
  | (.inr x, _) :: _ => decide (x = ("cells" : Str))
  | _ => false
mutual
/-- the thing v is the data d, as the heap stands -/
inductive Dd (K : PySem.W.Frag) (H : Hp) : V → PyData → Prop
  | non : Dd K H .non .none
  | bl (b : Bool) : Dd K H (.bl b) (.bool b)
  | int (i : Int) : Dd K H (.int i) (.int i)
  | str (x : Str) : Dd K H (.str x) (.str x)
  | lst {a : Addr} {xs : List V} {ds : List PyData} (at' : SqL K H a xs) (all : DdAll K H xs ds) : Dd K H (.ref a) (.list ds)
  | tup {a : Addr} {xs : List V} {ds : List PyData} (at' : SqT K H a xs) (all : DdAll K H xs ds) : Dd K H (.ref a) (.tuple ds)
  | dct {a : Addr} {kvs : List (Key × V)} {ds : List (PyData × PyData)} (at' : Rd H a (.dK kvs)) (noPen : isPen kvs = false) (all : DdKv K H kvs ds) : Dd K H (.ref a) (.dict ds)
inductive DdAll (K : PySem.W.Frag) (H : Hp) : List V → List PyData → Prop
  | nil : DdAll K H [] []
  | cons {v : V} {vs : List V} {d : PyData} {ds : List PyData} (h : Dd K H v d) (t : DdAll K H vs ds) : DdAll K H (v :: vs) (d :: ds)
inductive DdKv (K : PySem.W.Frag) (H : Hp) : List (Key × V) → List (PyData × PyData) → Prop
  | nil : DdKv K H [] []
  | cons {k : Key} {v : V} {kvs : List (Key × V)} {d : PyData} {ds : List (PyData × PyData)} (h : Dd K H v d) (t : DdKv K H kvs ds) : DdKv K H ((k, v) :: kvs) ((keyData k, d) :: ds)
end
theorem DdAll.length {K : PySem.W.Frag} {H : Hp} : ∀ {vs : List V} {ds : List PyData}, DdAll K H vs ds → vs.length = ds.length
  | _, _, .nil => rfl
  | _, _, .cons _ t => congrArg Nat.succ t.length
theorem DdAll.get {K : PySem.W.Frag} {H : Hp} : ∀ {vs : List V} {ds : List PyData} {i : Nat} {v : V}, DdAll K H vs ds → vs[i]? = some v → ∃ d, ds[i]? = some d ∧ Dd K H v d
  | _, _, _, _, .nil, e => by simp at e
  | _, _, 0, _, .cons h _, e => by
    simp at e
    subst e
    exact ⟨_, rfl, h⟩
  | _, _, i + 1, _, .cons _ t, e => by
    obtain ⟨d, h1, h2⟩ := DdAll.get (i := i) t (by simpa using e)
    exact ⟨d, by simpa using h1, h2⟩
theorem keyRead {prog : Program} {w : World} {h : Heap} {k : Key} {v : Value} (e : (mixKind prog w).is k v = true) : Reads h v (keyData k) [] := by
  rcases keyIs_shape e with ⟨i, t, rfl, rfl⟩ | ⟨x, t, rfl, rfl⟩
  · exact Reads.int i t
  · exact Reads.str x t
theorem keyShow {prog : Program} {w : World} {h : Heap} {k : Key} {v : Value} {n : Nat} {bs : List Addr} (e : (mixKind prog w).is k v = true) (hs : (keyData k).showable = true) (hz : (keyData k).shown.length ≤ sizeLine) :
    ReprK prog w bs h n v (keyData k).shown := by
  rcases keyIs_shape e with ⟨i, t, rfl, rfl⟩ | ⟨x, t, rfl, rfl⟩
  · simp only [keyData, PyData.shown]
    exact .of_is (ReprIs.int t (by simpa [keyData, PyData.showable] using hs)) _ _ _
  · simp only [keyData, PyData.shown]
    exact .of_is (ReprIs.str x t (by simpa only [keyData, PyData.shown] using hz)) _ _ _
theorem keyFlat (k : Key) : (keyData k).depth = 0 := by
  cases k <;> rfl
section
variable {X : Cx} {pins : List (Addr × Obj)} {σ : L2.St} {H : Hp} {s : Shared}
/-- all but the thing at p is as it was -/
def Kb (p : Addr) (H H' : Hp) : Prop := ∀ b o, H b = some o → b ≠ p → H' b = some o
/-- p holds a pen -/
def PenO (H : Hp) (p : Addr) : Prop := ∃ kvs, H p = some (.dK kvs) ∧ isPen kvs = true
theorem rd_kb {p : Addr} {H H' : Hp} {a : Addr} {o : HO} (e : Kb p H H') (h : Rd H a o) (n : a ≠ p) : Rd H' a o := by
  rcases h with h | ⟨ob, h⟩
  · exact Or.inl (e _ _ h n)
  · exact Or.inr ⟨ob, e _ _ h n⟩
theorem sql_kb {K : PySem.W.Frag} {p : Addr} {H H' : Hp} {a : Addr} {xs : List V} (e : Kb p H H') (hp : PenO H p) (h : SqL K H a xs) : SqL K H' a xs := by
  obtain ⟨kvs, hp, _⟩ := hp
  rcases h with h | h
  · refine Or.inl (rd_kb e h ?_)
    rintro rfl
    rcases h with h | ⟨ob, h⟩
    · rw [hp] at h; cases h
    · rw [hp] at h; cases h
  · exact Or.inr h
theorem sqt_kb {K : PySem.W.Frag} {p : Addr} {H H' : Hp} {a : Addr} {xs : List V} (e : Kb p H H') (hp : PenO H p) (h : SqT K H a xs) : SqT K H' a xs := by
  obtain ⟨kvs, hp, _⟩ := hp
  rcases h with h | h
  · refine Or.inl (rd_kb e h ?_)
    rintro rfl
    rcases h with h | ⟨ob, h⟩
    · rw [hp] at h; cases h
    · rw [hp] at h; cases h
  · exact Or.inr h
theorem dk_kb {p : Addr} {H H' : Hp} {a : Addr} {kvs : List (Key × V)} (e : Kb p H H') (hp : PenO H p) (n : isPen kvs = false) (h : Rd H a (.dK kvs)) : Rd H' a (.dK kvs) := by
  obtain ⟨ks, hp, hk⟩ := hp
  refine rd_kb e h ?_
  rintro rfl
  rcases h with h | ⟨ob, h⟩
  · rw [hp] at h
    cases h
    rw [hk] at n
    cases n
  · rw [hp] at h; cases h
mutual
theorem Dd.kb {K : PySem.W.Frag} {p : Addr} {H H' : Hp} (e : Kb p H H') (hp : PenO H p) : ∀ {v : V} {d : PyData}, Dd K H v d → Dd K H' v d
  | _, _, .non => .non
  | _, _, .bl b => .bl b
  | _, _, .int i => .int i
  | _, _, .str x => .str x
  | _, _, .lst h t => .lst (sql_kb e hp h) (DdAll.kb e hp t)
  | _, _, .tup h t => .tup (sqt_kb e hp h) (DdAll.kb e hp t)
  | _, _, .dct h n t => .dct (dk_kb e hp n h) n (DdKv.kb e hp t)
theorem DdAll.kb {K : PySem.W.Frag} {p : Addr} {H H' : Hp} (e : Kb p H H') (hp : PenO H p) : ∀ {vs : List V} {ds : List PyData}, DdAll K H vs ds → DdAll K H' vs ds
  | _, _, .nil => .nil
  | _, _, .cons h t => .cons (Dd.kb e hp h) (DdAll.kb e hp t)
theorem DdKv.kb {K : PySem.W.Frag} {p : Addr} {H H' : Hp} (e : Kb p H H') (hp : PenO H p) : ∀ {kvs : List (Key × V)} {ds : List (PyData × PyData)}, DdKv K H kvs ds → DdKv K H' kvs ds
  | _, _, .nil => .nil
  | _, _, .cons h t => .cons (Dd.kb e hp h) (DdKv.kb e hp t)
end
/-- tuples, lists, dicts stand in a heap that keeps them -/
theorem rd_same {H H' : Hp} {a : Addr} {o : HO} (e : Same H H') (h : Rd H a o) : Rd H' a o := by
  rcases h with h | ⟨ob, h⟩
  · exact Or.inl (e _ _ h)
  · exact Or.inr ⟨ob, e _ _ h⟩
theorem sql_same {K : PySem.W.Frag} {H H' : Hp} {a : Addr} {xs : List V} (e : Same H H') (h : SqL K H a xs) : SqL K H' a xs := h.imp (rd_same e) id
theorem sqt_same {K : PySem.W.Frag} {H H' : Hp} {a : Addr} {xs : List V} (e : Same H H') (h : SqT K H a xs) : SqT K H' a xs := h.imp (rd_same e) id
mutual
theorem Dd.same {K : PySem.W.Frag} {H H' : Hp} (e : Same H H') : ∀ {v : V} {d : PyData}, Dd K H v d → Dd K H' v d
  | _, _, .non => .non
  | _, _, .bl b => .bl b
  | _, _, .int i => .int i
  | _, _, .str x => .str x
  | _, _, .lst h t => .lst (sql_same e h) (DdAll.same e t)
  | _, _, .tup h t => .tup (sqt_same e h) (DdAll.same e t)
  | _, _, .dct h n t => .dct (rd_same e h) n (DdKv.same e t)
theorem DdAll.same {K : PySem.W.Frag} {H H' : Hp} (e : Same H H') : ∀ {vs : List V} {ds : List PyData}, DdAll K H vs ds → DdAll K H' vs ds
  | _, _, .nil => .nil
  | _, _, .cons h t => .cons (Dd.same e h) (DdAll.same e t)
theorem DdKv.same {K : PySem.W.Frag} {H H' : Hp} (e : Same H H') : ∀ {kvs : List (Key × V)} {ds : List (PyData × PyData)}, DdKv K H kvs ds → DdKv K H' kvs ds
  | _, _, .nil => .nil
  | _, _, .cons h t => .cons (Dd.same e h) (DdKv.same e t)
end
mutual
theorem Dd.tells (I : Inv X pins σ H s) : ∀ {v : V} {d : PyData} {u : Value}, Dd X.K H v d → RelV v u → d.showable = true → d.shown.length ≤ sizeLine →
    ∃ as bs, Reads s.heap u d as ∧ ReadAtMost s.heap d.depth bs ∧ ReprK X.prog X.w bs s.heap d.depth u d.shown
  | _, _, _, .non, r, _, _ => by
    cases r
    refine ⟨_, [], Reads.none, (fun _ h => nomatch h), ?_⟩
    simp only [PyData.shown]
    exact .of_is ReprIs.none _ _ _
  | _, _, _, .bl b, r, _, _ => by
    cases r
    refine ⟨_, [], Reads.bool b, (fun _ h => nomatch h), ?_⟩
    simp only [PyData.shown]
    exact .of_is (ReprIs.bool b) _ _ _
  | _, _, _, .int i, r, hs, _ => by
    obtain ⟨t, rfl⟩ := r
    refine ⟨_, [], Reads.int i t, (fun _ h => nomatch h), ?_⟩
    simp only [PyData.shown]
    exact .of_is (ReprIs.int t (by simpa [PyData.showable] using hs)) _ _ _
  | _, _, _, .str x, r, _, hz => by
    obtain ⟨t, rfl⟩ := r
    refine ⟨_, [], Reads.str x t, (fun _ h => nomatch h), ?_⟩
    simp only [PyData.shown]
    exact .of_is (ReprIs.str x t (by simpa only [PyData.shown] using hz)) _ _ _
  | _, .list ds, _, .lst hs ha, r, hw, hz => by
    cases r
    obtain ⟨its, rv, ⟨o, n, ho, hc, _, hd⟩, _⟩ := I.list hs
    have hz2 : (listText (PyData.shownAll ds)).length ≤ sizeLine := by simpa only [PyData.shown] using hz
    obtain ⟨as, bs, hr, hb, hk⟩ := DdAll.tells I ha rv (by simpa [PyData.showable] using hw) (fun t ht => Nat.le_trans (listText_mem_le ht) hz2)
    have R : Reads s.heap (.ref _) (.list ds) _ := Reads.list ho hc hd (by simpa using hr)
    have hn := not_mem_of_deeper R (by simp only [PyData.depth]; omega) hb
    refine ⟨_, _, R, ReadAtMost.cons R (by simp only [PyData.depth]; omega) hb, ?_⟩
    simp only [PyData.depth, PyData.shown]
    cases its with
    | nil =>
      cases hr
      simp only [PyData.shownAll, listText_nil]
      exact ReprK.listEmpty ho hc hd
    | cons z l => exact ReprK.list ho hc hd hn (by simpa using hk.length_eq) (fun i y e => hk.item i y (by simpa using e))
  | _, .tuple ds, _, .tup hs ha, r, hw, hz => by
    cases r
    obtain ⟨its, rv, ⟨o, ho, hc, n, hd⟩, _⟩ := I.tuple hs
    have hz2 : (tupleText (PyData.shownAll ds)).length ≤ sizeLine := by simpa only [PyData.shown] using hz
    obtain ⟨as, bs, hr, hb, hk⟩ := DdAll.tells I ha rv (by simpa [PyData.showable] using hw) (fun t ht => Nat.le_trans (tupleText_mem_le ht) hz2)
    have R : Reads s.heap (.ref _) (.tuple ds) _ := Reads.tuple ho hc hd (by simpa using hr)
    have hn := not_mem_of_deeper R (by simp only [PyData.depth]; omega) hb
    refine ⟨_, _, R, ReadAtMost.cons R (by simp only [PyData.depth]; omega) hb, ?_⟩
    simp only [PyData.depth, PyData.shown]
    exact ReprK.tuple ho hc hd hn (by simpa using hk)
  | _, .dict ds, _, .dct hs _ ha, r, hw, hz => by
    cases r
    obtain ⟨z, hy, vs, rel, o, es, ep, h1, h2, h3, h4, h5, h6⟩ := hs.ok I.hok
    have hz2 : (dictText (PyData.shownKv ds)).length ≤ sizeLine := by simpa only [PyData.shown] using hz
    obtain ⟨w1, w2⟩ := PyData.showableKv_split ds (by simpa [PyData.showable] using hw)
    obtain ⟨as, a2, bs, r1, r2, hb, k1, k2⟩ := DdKv.tells I ha rel h5 w1 w2 (fun t ht => Nat.le_trans (dictText_mem_le ht) hz2)
    have R : Reads s.heap (.ref _) (.dict ds) _ := Reads.dict h1 h2.1 h3 r1 r2
    have hn := not_mem_of_deeper R (by simp only [PyData.depth]; omega) hb
    refine ⟨_, _, R, ReadAtMost.cons R (by simp only [PyData.depth]; omega) hb, ?_⟩
    simp only [PyData.depth, PyData.shown, PyData.shownKv_eq]
    exact ReprK.dict h1 h2.1 h3 hy hn (ReprEntriesK.of_two es.toList _ _ k1 k2)
theorem DdAll.tells (I : Inv X pins σ H s) : ∀ {vs : List V} {ds : List PyData} {us : List Value}, DdAll X.K H vs ds → Vals vs us → PyData.showableAll ds = true → (∀ t ∈ PyData.shownAll ds, t.length ≤ sizeLine) →
    ∃ as bs, ReadsAll s.heap us ds as ∧ ReadAtMost s.heap (PyData.depthAll ds) bs ∧ ReprAllK X.prog X.w bs s.heap (PyData.depthAll ds) us (PyData.shownAll ds)
  | _, _, _, .nil, r, _, _ => by
    cases r
    refine ⟨_, [], ReadsAll.nil, (fun _ h => nomatch h), ?_⟩
    simp only [PyData.shownAll]
    exact .nil
  | _, d :: ds, _, .cons h t, r, hw, hz => by
    cases r with
    | cons r1 r2 =>
      have w2 : d.showable = true ∧ PyData.showableAll ds = true := by simpa [PyData.showableAll] using hw
      simp only [PyData.shownAll] at hz
      obtain ⟨a1, b1, q1, m1, k1⟩ := Dd.tells I h r1 w2.1 (hz _ (List.mem_cons_self ..))
      obtain ⟨a2, b2, q2, m2, k2⟩ := DdAll.tells I t r2 w2.2 (fun x hx => hz x (List.mem_cons_of_mem _ hx))
      simp only [PyData.depthAll, PyData.shownAll]
      refine ⟨_, b1 ++ b2, ReadsAll.cons q1 q2, (m1.mono (Nat.le_max_left _ _)).append (m2.mono (Nat.le_max_right _ _)), ?_⟩
      exact .cons ((k1.more fun b hb => List.mem_append_left _ hb).level_le (Nat.le_max_left _ _)) (k2.more_le (fun b hb => List.mem_append_right _ hb) (Nat.le_max_right _ _))
theorem DdKv.tells (I : Inv X pins σ H s) : ∀ {kvs : List (Key × V)} {ds : List (PyData × PyData)} {vs : List (Key × Value)} {es : List DictEntry}, DdKv X.K H kvs ds → KV kvs vs → Pairs (mixKind X.prog X.w) es vs →
    PyData.showableAll (ds.map (·.1)) = true → PyData.showableAll (ds.map (·.2)) = true → (∀ t ∈ PyData.shownKv ds, t.length ≤ sizeLine) →
    ∃ as a2 bs, ReadsAll s.heap (es.map (·.key)) (ds.map (·.1)) as ∧ ReadsAll s.heap (es.map (·.val)) (ds.map (·.2)) a2 ∧ ReadAtMost s.heap (PyData.depthKv ds) bs ∧
      ReprAllK X.prog X.w bs s.heap (PyData.depthKv ds) (es.map (·.key)) (PyData.shownAll (ds.map (·.1))) ∧ ReprAllK X.prog X.w bs s.heap (PyData.depthKv ds) (es.map (·.val)) (PyData.shownAll (ds.map (·.2)))
  | _, _, _, _, .nil, r, p, _, _, _ => by
    cases r
    cases p
    refine ⟨_, _, [], ReadsAll.nil, ReadsAll.nil, (fun _ h => nomatch h), ?_, ?_⟩
    · simp only [List.map_nil, PyData.shownAll]
      exact .nil
    · simp only [List.map_nil, PyData.shownAll]
      exact .nil
  | (k, v) :: _, _, _, _, .cons (d := d) (ds := ds) h t, r, p, hw1, hw2, hz => by
    cases r with
    | cons r1 r2 =>
      cases p with
      | cons p1 p2 p3 =>
        obtain ⟨e1, e2⟩ := r1
        rename_i kv _ _ _
        obtain ⟨k', u'⟩ := kv
        simp only at e1 e2 p1 p2
        subst e1
        subst p2
        have w1 : (keyData k).showable = true ∧ PyData.showableAll (ds.map (·.1)) = true := by simpa [PyData.showableAll] using hw1
        have w2 : d.showable = true ∧ PyData.showableAll (ds.map (·.2)) = true := by simpa [PyData.showableAll] using hw2
        simp only [PyData.shownKv] at hz
        have z1 := hz _ (List.mem_cons_self ..)
        rw [strLen_append, strLen_append] at z1
        obtain ⟨a1, b1, q1, m1, k1⟩ := Dd.tells I h e2 w2.1 (by omega)
        obtain ⟨a2, a3, b2, q2, q3, m2, k2, k3⟩ := DdKv.tells I t r2 p3 w1.2 w2.2 (fun x hx => hz x (List.mem_cons_of_mem _ hx))
        have d1 : d.depth ≤ PyData.depthKv ((keyData k, d) :: ds) := by simp only [PyData.depthKv]; omega
        have d2 : PyData.depthKv ds ≤ PyData.depthKv ((keyData k, d) :: ds) := by simp only [PyData.depthKv]; omega
        refine ⟨_, _, b1 ++ b2, ReadsAll.cons (keyRead p1) q2, ReadsAll.cons q1 q3, (m1.mono d1).append (m2.mono d2), ?_, ?_⟩
        · simp only [List.map_cons, PyData.shownAll]
          exact .cons (keyShow p1 w1.1 (by omega)) (k2.more_le (fun b hb => List.mem_append_right _ hb) d2)
        · simp only [List.map_cons, PyData.shownAll]
          exact .cons ((k1.more fun b hb => List.mem_append_left _ hb).level_le d1) (k3.more_le (fun b hb => List.mem_append_right _ hb) d2)
end
end
section
variable {X : Cx}
/-- repr(x), x data of any kind -/
def rRepr (K : PySem.W.Frag) : List V → Hp → VK → Prop := fun vs H Q => ∃ (x : V) (d : PyData), vs = [x] ∧ Dd K H x d ∧ d.showable = true ∧ d.shown.length ≤ sizeLine ∧ d.depth ≤ 60 ∧ Q (.str d.shown) H
theorem cr_repr (hg : X.A.guards = some []) (hu : X.A.units + 64 < cLine) : CallR X (.builtin "repr") (rRepr X.K) := by
  intro pins s σ H vs us Q I r h
  obtain ⟨x, d, rfl, hx, hs, hz, hd, q⟩ := h
  obtain ⟨u, rfl, rx⟩ := vals1 r
  cases hx with
  | non =>
    cases rx
    simp only [PyData.shown] at q
    exact PySem.P.repr_of_none ⟨.str _, H, I.tok _, ⟨_, rfl⟩, q⟩
  | bl b =>
    cases rx
    simp only [PyData.shown] at q
    exact PySem.P.repr_of_bool ⟨.str _, H, I.tok _, ⟨_, rfl⟩, q⟩
  | int i =>
    obtain ⟨t, rfl⟩ := rx
    simp only [PyData.shown] at q
    exact PySem.P.repr_of_int (by simpa [PyData.showable] using hs) ⟨.str _, H, I.tok _, ⟨_, rfl⟩, q⟩
  | str y =>
    obtain ⟨t, rfl⟩ := rx
    simp only [PyData.shown] at q hz
    exact PySem.P.repr_of_str ⟨.str _, H, I.tok _, ⟨_, rfl⟩, q⟩ hz
  | @lst a xs ds h1 h2 =>
    cases rx
    obtain ⟨its, rv, ⟨o, n, ho, hc, _, hda⟩, _⟩ := I.list h1
    simp only [PyData.shown, PyData.depth] at q hz hd
    obtain ⟨as, bs, hr, hb, hk⟩ := DdAll.tells I h2 rv (by simpa [PyData.showable] using hs) (fun t ht => Nat.le_trans (listText_mem_le ht) hz)
    have R : Reads s.heap (.ref a) (.list ds) _ := Reads.list ho hc hda (by simpa using hr)
    have hn := not_mem_of_deeper R (by simp only [PyData.depth]; omega) hb
    refine call_repr_slot (by omega) ⟨o, ho, hc⟩ F.slot_list_repr.toG ?_
    cases its with
    | nil =>
      cases hr
      simp only [PyData.shownAll, listText_nil] at q
      exact call_list_repr_empty ⟨o, ho, hc⟩ ho hda ⟨_, _, rfl, .str _, H, I.tok _, ⟨_, rfl⟩, q⟩
    | cons z l =>
      exact call_list_reprK ho hc hda hn (by simpa using hk.length_eq) (fun i y e => hk.item i y (by simpa using e)) hg (fun b _ => Clear.nil b) (by show X.A.units + 1 + _ < cLine; omega) (fun _ _ e => e)
        (fun g v tk kp => ⟨_, _, rfl, .str _, H, I.kept kp, ⟨_, rfl⟩, q⟩) hz
  | @tup a xs ds h1 h2 =>
    cases rx
    obtain ⟨its, rv, ⟨o, ho, hc, n, hda⟩, _⟩ := I.tuple h1
    simp only [PyData.shown, PyData.depth] at q hz hd
    obtain ⟨as, bs, hr, hb, hk⟩ := DdAll.tells I h2 rv (by simpa [PyData.showable] using hs) (fun t ht => Nat.le_trans (tupleText_mem_le ht) hz)
    have R : Reads s.heap (.ref a) (.tuple ds) _ := Reads.tuple ho hc hda (by simpa using hr)
    have hn := not_mem_of_deeper R (by simp only [PyData.depth]; omega) hb
    refine call_repr_slot (by omega) ⟨o, ho, hc⟩ F.slot_tuple_repr ?_
    exact call_tuple_reprK ho hc hda hn (by simpa using hk) hg (fun b _ => Clear.nil b) (by show X.A.units + 1 + _ < cLine; omega) (fun _ _ e => e)
        (fun g v tk kp => ⟨_, _, rfl, .str _, H, I.kept kp, ⟨_, rfl⟩, q⟩) hz
  | @dct a kvs ds h1 _ h2 =>
    cases rx
    obtain ⟨z, hy, vs, rel, o, es, ep, g1, g2, g3, g4, g5, g6⟩ := h1.ok I.hok
    simp only [PyData.shown, PyData.depth] at q hz hd
    obtain ⟨w1, w2⟩ := PyData.showableKv_split ds (by simpa [PyData.showable] using hs)
    obtain ⟨as, a2, bs, r1, r2, hb, k1, k2⟩ := DdKv.tells I h2 rel g5 w1 w2 (fun t ht => Nat.le_trans (dictText_mem_le ht) hz)
    have R : Reads s.heap (.ref a) (.dict ds) _ := Reads.dict g1 g2.1 g3 r1 r2
    have hn := not_mem_of_deeper R (by simp only [PyData.depth]; omega) hb
    refine call_repr_slot (by omega) ⟨o, g1, g2.1⟩ F.slot_dict_repr ?_
    rw [PyData.shownKv_eq] at q hz
    exact call_dict_reprK g1 g2.1 g3 hy hn (ReprEntriesK.of_two es.toList _ _ k1 k2) hg (fun b _ => Clear.nil b) (by show X.A.units + 1 + _ < cLine; omega) (fun _ _ e => e)
        (fun g v tk kp => ⟨_, _, rfl, .str _, H, I.kept kp, ⟨_, rfl⟩, q⟩) hz
end
end RG
end RGb
section RGc
/-! A def's promise that may use that no repr runs around it (FnG); the law's end over such promises. -/
namespace RG
open PySem PySem.Spec PyProof.Rows L2
structure FnG (P : Program) (w : World) (K : PySem.W.Frag) (mg : Str → Option Value) (base : Heap) (CX : CXT) (k : Nat) (f : Addr) (fd : FuncData) (ps : List Str) (sp : Sp) : Prop where
  many : ∀ vs H Q E, sp vs H Q E → vs.length = ps.length
  runs : ∀ (A : Around) (out : List Env) (s : Shared) (H : Hp) (ar : Args) (us : List Value) (vs : List V) (Q : VK) (E : XK),
    Room k A → A.guards = some [] → Env0 P w K mg base A out s H → BindsTo s fd ar (ps.zip us) → Vals vs us → sp vs H Q E →
      codeAny (model P w) A (.call (.ref f) ar) (CR CX out P w H s Q E) s
section
variable {P : Program} {w : World} {K : PySem.W.Frag} {mg : Str → Option Value} {base : Heap} {CX : CXT} {f : Addr} {fd : FuncData} {N ps : List Str} {k : Nat} {sp : Sp} {x qual : Str} {st : Stmt}
theorem FnG.of (F : FnOk P w K mg base CX k f fd ps sp) : FnG P w K mg base CX k f fd ps sp :=
  ⟨F.len, fun A out s H ar us vs Q E hr _ => F.run A out s H ar us vs Q E hr⟩
/-- a def of the text, by its body -/
theorem fnG_of (F : Fun K x qual st f fd) (S : FnScope N ps (defScope st)) (many : ∀ vs H Q E, sp vs H Q E → vs.length = ps.length)
    (body : ∀ (cd : Value) (A : Around) (out : List Env) (s : Shared) (H : Hp) (vs : List V) (Q : VK) (E : XK),
      Room k (A.deeper (envOfC qual (defScope st) s.heap.objs.size f cd)) → (A.deeper (envOfC qual (defScope st) s.heap.objs.size f cd)).guards = some [] → sp vs H Q E →
      ∃ t, PSs (cxOf CX P w K mg base N qual (defScope st) f cd A out s H E) (defBody st) t ∧ t { nx := fun _ H' => Q .non H', rt := Q } (start N vs) H) :
    FnG P w K mg base CX (k + 1) f fd ps sp := by
  obtain ⟨oc, od, kV, doc, pm, an, cd, ct, osl, rfl, lk, hcd⟩ := F.ex
  refine ⟨many, fun A out s H ar us vs Q E hr hg e0 hb hv hsp => ?_⟩
  have long := many _ _ _ _ hsp
  have inn : K.In s.heap := e0.mod.kin.keeps fun b o e => (e0.bs b o e).1
  have lim : s.heap.NoLimit := e0.mod.nolimit.keeps fun b o e => (e0.bs b o e).1
  refine codeAny_call_function hr.depth (inn _ _ lk) rfl S.co S.gen rfl (PySem.W.codeRec_of inn hcd) (hb _ _ _ _ ?_)
  refine wpAny_newFunctionEnv_cells S.kind (fun y hy => ?_) fun env he s1 z => ?_
  · obtain ⟨n, v⟩ := y
    have hn : n ∈ ps := (List.of_mem_zip hy).1
    rcases S.par n hn with q | q
    · exact Or.inl q
    · exact Or.inr ⟨q, PySem.W.cellsFrom_some _ _ _ (Or.inl q)⟩
  subst he
  refine ⟨lim.keeps z.toInCall.keep, codeAny_func ?_⟩
  obtain ⟨t, ht, hq⟩ := body cd A out s H vs Q E (hr.deeper _) hg hsp
  have J := inv_start (CX := CX) (E := E) S hr.hd e0 long hv z
  refine wpAny_mono (ht.run [] s1 (start N vs) H _ J hq) (fun fl s2 h2 => ?_) (fun _ _ h2 => h2)
  cases fl with
  | brk => exact h2.elim fun _ h3 => h3.elim fun _ h4 => h4.2.elim
  | cont => exact h2.elim fun _ h3 => h3.elim fun _ h4 => h4.2.elim
  | next =>
    obtain ⟨τ, G, J2, q2⟩ := h2
    exact ⟨V.non, G, J2.os, J2.bare, J2.base, J2.hok, rfl, q2⟩
  | ret u =>
    obtain ⟨v, τ, G, J2, rv, q2⟩ := h2
    exact ⟨v, G, J2.os, J2.bare, J2.base, J2.hok, rv, q2⟩
end
section
variable {P : Program} {w : World} {K : PySem.W.Frag} {mg : Str → Option Value} {base : Heap} {f : Addr} {fd : FuncData} {N ps : List Str} {k : Nat} {sp : Sp} {x qual : Str} {st : Stmt}
/-- .. out of which nothing is raised -/
theorem fnG0 (F : Fun K x qual st f fd) (S : FnScope N ps (defScope st)) (many : ∀ vs H Q E, sp vs H Q E → vs.length = ps.length)
    (body : ∀ (cd : Value) (A : Around) (out : List Env) (s : Shared) (H : Hp) (vs : List V) (Q : VK) (E : XK),
      Room k (A.deeper (envOfC qual (defScope st) s.heap.objs.size f cd)) → (A.deeper (envOfC qual (defScope st) s.heap.objs.size f cd)).guards = some [] → sp vs H Q E →
      ∃ t, PSs (cxOf CX0 P w K mg base N qual (defScope st) f cd A out s H E).nox (defBody st) t ∧ t { nx := fun _ H' => Q .non H', rt := Q } (start N vs) H) :
    FnG P w K mg base CX0 (k + 1) f fd ps sp :=
  fnG_of F S many fun cd A out s H vs Q E hr hg h =>
    let ⟨t, h1, h2⟩ := body cd A out s H vs Q E hr hg h
    ⟨t, h1.nox, h2⟩
end
/-- a def of the module by its name: what it promises -/
structure Cg (P : Program) (w : World) (K : PySem.W.Frag) (mg : Str → Option Value) (base : Heap) (k : Nat) (x : Str) (sp : Sp) : Prop where
  ex : ∃ (f : Addr) (fd : FuncData) (ps : List Str), FnG P w K mg base CX0 k f fd ps sp ∧ mg x = some (.ref f) ∧ PySem.W.keepIn K (.ref f) = true ∧ Binds K fd ps []
section
variable {X : Cx} {k j : Nat} {x : Str} {sp : Sp} {p pos : Pos} {e : Expr} {es : List Expr} {t : TA}
theorem pe_g (c : Cg X.prog X.w X.K X.mg X.base k x sp) (hr : Room j X.A) (hg : X.A.guards = some []) (hk : k ≤ j) (hx : Gl X x) (ha : PA X (e :: es) t)
    (h1 : (x == ("__debug__" : Str)) = false := by decide) (h2 : starEach (e :: es) X.env = (false, eval e X.env) :: starEach es X.env := by rfl) (h3 : (backTo pos (starEach es X.env)).any (·.1) = false := by rfl) :
    PE X (.Call (.Name x p) (e :: es) [] pos) (tCall sp [] E0 t) := by
  obtain ⟨f, fd, ps, F, hm, kp, b⟩ := c.ex
  refine ⟨fun pins s σ H Q I h => wpAny_Call_Name_kw (ld_glob I hx hm ?_ h1)⟩
  refine PySem.W.callWith_K (h₀ := X.base) I.ok.mod.kin kp (thn (ha.run pos pins s σ H _ I h) ?_) h2 h3
  rintro us s1 ⟨vs, G, J, r, q⟩
  refine ⟨J.kIn, ?_⟩
  rw [List.append_nil] at q
  have hl := (F.many _ _ _ _ q).symm.trans (Eq.refl vs.length)
  have bt := b s1 us J.kIn (by rw [List.append_nil, ← r.length]; exact F.many _ _ _ _ q)
  rw [List.append_nil] at bt
  refine wpAny_call (codeAny_mono (F.runs X.A X.stack s1 G _ us vs Q E0 (hr.mono hk) hg J.env0 bt r q) fun w2 s2 h => ?_)
  cases w2 with
  | error z => exact False.elim h
  | ok fl =>
    cases fl with
    | ret u => exact J.after h
    | next => exact False.elim h
    | brk => exact False.elim h
    | cont => exact False.elim h
end
end RG
end RGc
section RGd
namespace RG
open PySem PySem.Spec PyProof.Rows L2
/-- the law's def is called behind the top: H tracks the script, if it tracks anything -/
theorem top_run {P : Program} {w : World} {K : PySem.W.Frag} {mg mb : Str → Option Value} {k : Nat} {fa a : Addr} {fd : FuncData} {x : Str} {sp : Sp} {s : Shared} {H : Hp} {xs : List V} {os : Obj}
    (inn : K.In s.heap) (g1 : s.heap.Ns mainGlobals mg) (g2 : s.heap.Ns builtinsNs mb) (g3 : ∀ y : Str, y ≠ "__name__" → mb y = bootBuiltins y) (lim : s.heap.NoLimit) (hg : s.gens = #[])
    (ho : s.heap.get? a = some os) (hd : ∀ es ep, os.data ≠ .dict es ep) (hr : Room k callerA)
    (F : ∀ base : Heap, K.In base → base.Ns mainGlobals mg → FnG P w K mg base CX0 k fa fd [x] sp) (hb : ∀ (s : Shared) (u : Value), BindsTo s fd ⟨[u], []⟩ [(x, u)])
    (hH : ∀ b, H b = none ∨ (b = a ∧ H b = some (.frz os (.lst xs)) ∧ K.lookup a = none)) (ok : HOk P w H s.heap) (hsp : sp [.ref a] H (fun v _ => v = .bl true) fun _ _ _ => False) :
    codeAny (model P w) callerA (.call (.ref fa) ⟨[.ref a], []⟩) (fun r s' => r = .ok (.ret (.bool true)) ∧ OldK s.heap s'.heap ∧ s'.os = s.os ∧ AllBare s'.gens) s := by
  have clear : ∀ {b : Addr} {o : Obj} {es : Array DictEntry} {ep : Nat}, s.heap.get? b = some o → o.data = .dict es ep → H b = none := by
    intro b o es ep h1 h2
    rcases hH b with h | ⟨rfl, _, _⟩
    · exact h
    · rw [ho] at h1
      cases h1
      exact absurd h2 (hd _ _)
  have ns : ∀ {b : Addr} {m : Str → Option Value}, s.heap.Ns b m → (hidT s.heap H).Ns b m := by
    rintro b m ⟨o, es, ep, h1, h2, r⟩
    exact ⟨o, es, ep, hidT_get h1 (clear h1 h2), h2, r⟩
  have kin : K.In (hidT s.heap H) := by
    intro b o h1
    refine hidT_get (inn b o h1) ?_
    rcases hH b with h | ⟨rfl, _, h⟩
    · exact h
    · rw [h] at h1
      cases h1
  obtain ⟨mc, l1, l2⟩ := lim
  have e0 : Env0 P w K mg (hidT s.heap H) callerA [] s H :=
    ⟨rfl, ⟨kin, ns g1, ⟨mb, ns g2, g3⟩, ⟨mc, ns l1, l2⟩⟩, fun b o h => of_hidT h, Nat.le_of_eq (hidT_size _ _), trivial, (fun b hb => absurd hb (by simp [frs])), ok, AllBare.of_eq hg⟩
  refine codeAny_mono ((F _ kin (ns g1)).runs callerA [] s H ⟨[.ref a], []⟩ [.ref a] [.ref a] _ _ hr rfl e0 (hb s (.ref a)) (.cons rfl .nil) hsp) fun r s' h => ?_
  cases r with
  | error e => exact False.elim h
  | ok fl =>
    cases fl with
    | next => exact False.elim h
    | brk => exact False.elim h
    | cont => exact False.elim h
    | ret u =>
      obtain ⟨v, G, h1, h2, un, ok2, rv, q⟩ := h
      have q2 : v = .bl true := q
      subst q2
      obtain rfl : u = Value.bool true := rv
      refine ⟨rfl, OldK.of_keep fun b o h3 => ?_, h1, h2⟩
      rcases hH b with h | ⟨rfl, h, _⟩
      · exact un.keep b o h3 h (by intro z; cases z) (by simp)
      · rw [ho] at h3
        cases h3
        exact (ok2 b _ (un.frzs b _ _ h)).1
/-- the goal that the head leaves, from the law's promise -/
theorem walk_G {l : PySem.W.OpenLaw} {n k : Nat} {q : Program} {loose : List Str} {XP : (Str → Option Value) → Heap → Prop} {YP : World → Heap → Prop} {d : DefRec} {K : Params → PySem.W.Frag} {sp : PySem.W.Frag → Sp} {x : Str}
    (hn : l.most = some n) (hn2 : n ≤ sizeLine) (hdf : d.params.defaults = []) (hr : Room k callerA) (hY : ∀ (w : World) (h : Heap), YP w h → (K w.params).In h)
    (F : ∀ (w : World) (mg : Str → Option Value) (fa : Addr) (h : Heap), (K w.params).In h → h.Ns mainGlobals mg → mg d.name = some (.ref fa) →
      ∃ fd : FuncData, (∀ (s : Shared) (u : Value), BindsTo s fd ⟨[u], []⟩ [(x, u)]) ∧
        ∀ base : Heap, (K w.params).In base → base.Ns mainGlobals mg → FnG l.prog w (K w.params) mg base CX0 k fa fd [x] (sp (K w.params)))
    (hsp : ∀ (K : PySem.W.Frag) (H : Hp) (a : Addr) (ns : List Int), ns.length ≤ n → SqL K H a (ns.map V.int) → (∀ b o, H b = some o → ∃ ob zs, o = .frz ob (.lst zs)) → sp K [.ref a] H (fun v _ => v = .bl true) fun _ _ _ => False) :
    PySem.W.WalkO q loose XP YP l.row.toRowW d [] (fun f vs => PySem.call f vs) := by
  refine Att.attach_call hn hdf fun w s₀ s mg mb fa o pm cd doc a vs ns G Y h1 h2 h3 hmg ha hi hl hg => ?_
  have inn := hY w _ Y
  obtain ⟨fd, hb, hF⟩ := F w mg fa _ inn G.T.g hmg
  have rv := vals_ints hi
  have len : (ns.map V.int).length ≤ sizeLine := by
    rw [List.length_map]
    exact Nat.le_trans hl hn2
  cases e : (K w.params).lookup a with
  | none =>
    refine top_run (xs := ns.map V.int) (H := fun b => if b = a then some (.frz { cls := .type "list", data := .seq vs.toArray } (.lst (ns.map V.int))) else none) inn G.T.g G.T.b G.T.builtins G.T.nolimit hg ha (fun es ep z => by cases z) hr hF hb (fun b => ?_) (fun b u z => ?_) (hsp _ _ a ns hl ?_ ?_)
    · by_cases hba : b = a
      · exact Or.inr ⟨hba, if_pos hba, e⟩
      · exact Or.inl (if_neg hba)
    · by_cases hba : b = a
      · subst hba
        have z2 := (if_pos rfl).symm.trans z
        cases z2
        exact ⟨ha, len, vs, _, rv, ha⟩
      · have z2 := (if_neg hba).symm.trans z
        cases z2
    · exact Or.inl (Or.inr ⟨_, if_pos rfl⟩)
    · intro b o z
      by_cases hba : b = a
      · have z2 := (if_pos hba).symm.trans z
        cases z2
        exact ⟨_, _, rfl⟩
      · have z2 := (if_neg hba).symm.trans z
        cases z2
  | some ob =>
    have z := inn a ob e
    rw [ha] at z
    cases z
    refine top_run (xs := []) (H := fun _ => none) inn G.T.g G.T.b G.T.builtins G.T.nolimit hg ha (fun es ep z => by cases z) hr hF hb (fun b => Or.inl rfl) (fun b u z => by cases z) (hsp _ _ a ns hl (Or.inr ⟨_, vs.toArray, _, e, rfl, rfl, rfl, ?_, by simpa using rv⟩) (fun b o z => by cases z))
    rw [List.size_toArray, ← rv.length]
    exact len
end RG
end RGd
section RGe
/-! isinstance of data; lists of whole numbers among data -/
namespace RG
open PySem PySem.Spec PyProof.Rows L2
def tyName : PyData → String
  | .none => "NoneType"
  | .bool _ => "bool"
  | .int _ => "int"
  | .str _ => "str"
  | .list _ => "list"
  | .tuple _ => "tuple"
  | .dict _ => "dict"
def isKind (C : String) (d : PyData) : Bool := tyName d == C || (C == "int" && tyName d == "bool")
theorem Dd.ty {K : PySem.W.Frag} {H : Hp} {x : V} {d : PyData} (h : Dd K H x d) : TyX K H x (.type (tyName d)) := by
  cases h with
  | non => exact .base .non
  | bl b => exact .base (.bl b)
  | int i => exact .base (.int i)
  | str y => exact .base (.str y)
  | lst h1 _ =>
    rcases h1 with (h1 | ⟨o, h1⟩) | ⟨o, its, n, h1, h2, _⟩
    · exact .base (.lst h1)
    · exact .base (.frz h1)
    · exact .kList h1 h2
  | tup h1 _ =>
    rcases h1 with (h1 | ⟨o, h1⟩) | ⟨o, its, n, h1, h2, _⟩
    · exact .base (.tup h1)
    · exact .fTuple h1
    · exact .kTuple h1 h2
  | dct h1 _ _ =>
    rcases h1 with h1 | ⟨o, h1⟩
    · exact .base (.dK h1)
    · exact .fDict h1
def kinds : List String := ["int", "bool", "tuple", "list", "str", "dict"]
theorem kit_kind {K : PySem.W.Frag} (d : PyData) {C : String} (h : C ∈ kinds) : PySem.W.kitOne K (.type (tyName d)) (.type C) = some (isKind C d) := by
  have key : ∀ T ∈ ["NoneType", "bool", "int", "str", "list", "tuple", "dict"], ∀ C ∈ kinds, kitB T C = some (T == C || (C == "int" && T == "bool")) := by decide +kernel
  exact kit_ty (key (tyName d) (by cases d <;> simp [tyName]) C h)
section
variable {X : Cx}
/-- isinstance(x, C), x data -/
def rIsD (K : PySem.W.Frag) : List V → Hp → VK → Prop := fun vs H Q => ∃ (x : V) (d : PyData) (C : String), vs = [x, .ty C] ∧ Dd K H x d ∧ C ∈ kinds ∧ Q (.bl (isKind C d)) H
theorem cr_isD : CallR X (.builtin "isinstance") (rIsD X.K) := by
  intro pins s σ H vs us Q I r h
  obtain ⟨x, d, C, rfl, hx, hC, q⟩ := h
  exact call_isi pins s σ H _ us Q I r ⟨x, .ty C, _, _, _, rfl, .ty C, hx.ty, kit_kind d hC, q⟩
/-- a built-in class's name as a value -/
theorem pe_tint {pos : Pos} (hg : Gl X "int") (hm : X.mg "int" = none) : PE X (.Name "int" pos) (tC (.ty "int")) := pe_bltn (u := .type "int") hg hm (by decide +kernel) rfl
theorem pe_tbool {pos : Pos} (hg : Gl X "bool") (hm : X.mg "bool" = none) : PE X (.Name "bool" pos) (tC (.ty "bool")) := pe_bltn (u := .type "bool") hg hm (by decide +kernel) rfl
theorem pe_ttuple {pos : Pos} (hg : Gl X "tuple") (hm : X.mg "tuple" = none) : PE X (.Name "tuple" pos) (tC (.ty "tuple")) := pe_bltn (u := .type "tuple") hg hm (by decide +kernel) rfl
theorem pe_tlist {pos : Pos} (hg : Gl X "list") (hm : X.mg "list" = none) : PE X (.Name "list" pos) (tC (.ty "list")) := pe_bltn (u := .type "list") hg hm (by decide +kernel) rfl
theorem pe_tstr {pos : Pos} (hg : Gl X "str") (hm : X.mg "str" = none) : PE X (.Name "str" pos) (tC (.ty "str")) := pe_bltn (u := .type "str") hg hm (by decide +kernel) rfl
theorem pe_tdict {pos : Pos} (hg : Gl X "dict") (hm : X.mg "dict" = none) : PE X (.Name "dict" pos) (tC (.ty "dict")) := pe_bltn (u := .type "dict") hg hm (by decide +kernel) rfl
end
/-! the built-in names -/
theorem b_isinstance : bootBuiltins "isinstance" = some (.builtin "isinstance") := by decide +kernel
theorem b_len : bootBuiltins "len" = some (.builtin "len") := by decide +kernel
theorem b_all : bootBuiltins "all" = some (.builtin "all") := by decide +kernel
theorem b_any : bootBuiltins "any" = some (.builtin "any") := by decide +kernel
theorem b_sorted : bootBuiltins "sorted" = some (.builtin "sorted") := by decide +kernel
theorem b_abs : bootBuiltins "abs" = some (.builtin "abs") := by decide +kernel
theorem b_min : bootBuiltins "min" = some (.builtin "min") := by decide +kernel
theorem b_max : bootBuiltins "max" = some (.builtin "max") := by decide +kernel
theorem b_repr : bootBuiltins "repr" = some (.builtin "repr") := by decide +kernel
theorem b_sum : bootBuiltins "sum" = some (.builtin "sum") := by decide +kernel
theorem b_int : bootBuiltins "int" = some (.type "int") := by decide +kernel
theorem b_bool : bootBuiltins "bool" = some (.type "bool") := by decide +kernel
theorem b_str : bootBuiltins "str" = some (.type "str") := by decide +kernel
theorem b_tuple : bootBuiltins "tuple" = some (.type "tuple") := by decide +kernel
theorem b_list : bootBuiltins "list" = some (.type "list") := by decide +kernel
theorem b_dict : bootBuiltins "dict" = some (.type "dict") := by decide +kernel
theorem b_set : bootBuiltins "set" = some (.type "set") := by decide +kernel
end RG
end RGe
section RGf
/-! comprehensions that leave all that stood; heaps -/
namespace RG
open PySem PySem.Spec PyProof.Rows L2
theorem same_new {H : Hp} {p : Addr} {o : HO} (h : H p = none) : Same H (upd H p o) := fun b u e => by
  rw [upd_ne (ne_of_none e h)]
  exact e
theorem same_mut {H G : Hp} {p : Addr} {o : HO} (e : Same H G) (h : H p = none) : Same H (upd G p o) := fun b u q => by
  rw [upd_ne (ne_of_none q h)]
  exact e b u q
theorem same_free {H G : Hp} {p : Addr} (e : Same H G) (h : G p = none) : H p = none := e.free h
theorem take_snoc {α : Type} {ys : List α} {i : Nat} {y : α} (h : ys[i]? = some y) : ys.take i ++ [y] = ys.take (i + 1) := by
  rw [List.take_succ, h]
  rfl
/-- one turn of a comprehension without tests; σ: the def's slots -/
theorem lc_step {te : TE} {j : Nat} {σ : L2.St} {H G : Hp} {D : Addr} {x y : V} {ys : List V} {i : Nat} {Pn : Hp → Prop} (hD : H D = none) (hz : ys.length < sizeLine) (hy : ys[i]? = some y)
    (e : Same H G) (g : G D = some (.lst (ys.take i))) (h : ∀ Q : VK, (∀ G', Same G G' → Q y G') → te ((σ.set j none).set j (some x)) G Q)
    (n : ∀ G', Same H G' → G' D = some (.lst (ys.take (i + 1))) → Pn G') :
    gName j x (wipe σ [j]) G fun σ2 H2 => wipe σ2 [j] = wipe σ [j] ∧ tYes σ2 H2 fun b H3 =>
      if b = true then te σ2 H3 fun y H4 => ∃ acc, H4 D = some (.lst acc) ∧ acc.length < sizeLine ∧ Pn (upd H4 D (.lst (acc ++ [y]))) else Pn H3 := by
  refine ⟨?_, ?_⟩
  · show ((σ.set j none).set j (some x)).set j none = σ.set j none
    rw [List.set_set, List.set_set]
  · show (if true = true then (te ((σ.set j none).set j (some x)) G fun y H4 => ∃ acc, H4 D = some (.lst acc) ∧ acc.length < sizeLine ∧ Pn (upd H4 D (.lst (acc ++ [y])))) else Pn G)
    rw [if_pos rfl]
    refine h _ fun G' e2 => ⟨_, e2 _ _ g, ?_, ?_⟩
    · rw [List.length_take]
      omega
    · refine n _ (same_mut (e.trans e2) hD) ?_
      rw [upd_same, take_snoc hy]
/-- [e for x in t], t a tuple: each e leaves what stands and is ys' item -/
theorem comp_tup {K : PySem.W.Frag} {a D : Addr} {xs ys : List V} {te : TE} {j : Nat} {σ : L2.St} {H : Hp} {Qd : Hp → Prop} (hD : H D = none) (ha : SqT K H a xs) (hl : ys.length = xs.length) (hz : xs.length < sizeLine)
    (each : ∀ (i : Nat) (x y : V), xs[i]? = some x → ys[i]? = some y → ∀ G, Same H G → ∀ Q : VK, (∀ G', Same G G' → Q y G') → te ((σ.set j none).set j (some x)) G Q)
    (done : ∀ G, Same H G → G D = some (.lst ys) → Qd G) :
    ∃ W : Nat → Nat → Hp → Prop, (∃ m, W 0 m (upd H D (.lst []))) ∧ ∀ i m G, W i m G →
      ((Itt K a).stop i G ∧ Qd G) ∨ ((Itt K a).go i G ∧ ∃ Nx : Hp → Prop, (∀ H', Nx H' → ∃ m', m' < m ∧ W (i + 1) m' H') ∧ ∀ x H', (Itt K a).yld i G x H' → gName j x (wipe σ [j]) H' fun σ2 H2 => wipe σ2 [j] = wipe σ [j] ∧ tYes σ2 H2 fun b H3 =>
        if b = true then te σ2 H3 fun y H4 => ∃ acc, H4 D = some (.lst acc) ∧ acc.length < sizeLine ∧ Nx (upd H4 D (.lst (acc ++ [y]))) else Nx H3) := by
  refine lc_tup (xs := xs) (fun i G => Same H G ∧ G D = some (.lst (ys.take i))) ⟨same_new hD, by rw [upd_same]; rfl⟩ (fun i G _ h => sqt_same h.1 ha) (fun i x G hi h => ?_) fun G h => done G h.1 (by rw [h.2, ← hl, List.take_length])
  have hlt : i < ys.length := by
    rw [hl]
    exact (List.getElem?_eq_some_iff.mp hi).1
  have hy : ys[i]? = some ys[i] := List.getElem?_eq_getElem hlt
  exact lc_step hD (by omega) hy h.1 h.2 (each i x _ hi hy G h.1) fun G' e1 e2 => ⟨e1, e2⟩
/-- [e for x in xs], xs a list -/
theorem comp_list {K : PySem.W.Frag} {a D : Addr} {xs ys : List V} {te : TE} {j : Nat} {σ : L2.St} {H : Hp} {Qd : Hp → Prop} (hD : H D = none) (ha : SqL K H a xs) (hl : ys.length = xs.length) (hz : xs.length < sizeLine)
    (each : ∀ (i : Nat) (x y : V), xs[i]? = some x → ys[i]? = some y → ∀ G, Same H G → ∀ Q : VK, (∀ G', Same G G' → Q y G') → te ((σ.set j none).set j (some x)) G Q)
    (done : ∀ G, Same H G → G D = some (.lst ys) → Qd G) :
    ∃ W : Nat → Nat → Hp → Prop, (∃ m, W 0 m (upd H D (.lst []))) ∧ ∀ i m G, W i m G →
      ((Itl K a).stop i G ∧ Qd G) ∨ ((Itl K a).go i G ∧ ∃ Nx : Hp → Prop, (∀ H', Nx H' → ∃ m', m' < m ∧ W (i + 1) m' H') ∧ ∀ x H', (Itl K a).yld i G x H' → gName j x (wipe σ [j]) H' fun σ2 H2 => wipe σ2 [j] = wipe σ [j] ∧ tYes σ2 H2 fun b H3 =>
        if b = true then te σ2 H3 fun y H4 => ∃ acc, H4 D = some (.lst acc) ∧ acc.length < sizeLine ∧ Nx (upd H4 D (.lst (acc ++ [y]))) else Nx H3) := by
  refine lc_list (xs := xs) (fun i G => Same H G ∧ G D = some (.lst (ys.take i))) ⟨same_new hD, by rw [upd_same]; rfl⟩ (fun i G _ h => sql_same h.1 ha) (fun i x G hi h => ?_) fun G h => done G h.1 (by rw [h.2, ← hl, List.take_length])
  have hlt : i < ys.length := by
    rw [hl]
    exact (List.getElem?_eq_some_iff.mp hi).1
  have hy : ys[i]? = some ys[i] := List.getElem?_eq_getElem hlt
  exact lc_step hD (by omega) hy h.1 h.2 (each i x _ hi hy G h.1) fun G' e1 e2 => ⟨e1, e2⟩
/-- [e for x in range(lo, lo + n)] -/
theorem comp_range {D : Addr} {lo : Int} {n : Nat} {ys : List V} {te : TE} {j : Nat} {σ : L2.St} {H : Hp} {Qd : Hp → Prop} (hD : H D = none) (hl : ys.length = n) (hz : n < sizeLine)
    (each : ∀ (i : Nat) (y : V), i < n → ys[i]? = some y → ∀ G, Same H G → ∀ Q : VK, (∀ G', Same G G' → Q y G') → te ((σ.set j none).set j (some (.int (lo + i)))) G Q)
    (done : ∀ G, Same H G → G D = some (.lst ys) → Qd G) :
    ∃ W : Nat → Nat → Hp → Prop, (∃ m, W 0 m (upd H D (.lst []))) ∧ ∀ i m G, W i m G →
      ((Itr lo n).stop i G ∧ Qd G) ∨ ((Itr lo n).go i G ∧ ∃ Nx : Hp → Prop, (∀ H', Nx H' → ∃ m', m' < m ∧ W (i + 1) m' H') ∧ ∀ x H', (Itr lo n).yld i G x H' → gName j x (wipe σ [j]) H' fun σ2 H2 => wipe σ2 [j] = wipe σ [j] ∧ tYes σ2 H2 fun b H3 =>
        if b = true then te σ2 H3 fun y H4 => ∃ acc, H4 D = some (.lst acc) ∧ acc.length < sizeLine ∧ Nx (upd H4 D (.lst (acc ++ [y]))) else Nx H3) := by
  refine lc_range (fun i G => Same H G ∧ G D = some (.lst (ys.take i))) ⟨same_new hD, by rw [upd_same]; rfl⟩ (fun i G hi h => ?_) fun G h => done G h.1 (by rw [h.2, ← hl, List.take_length])
  have hlt : i < ys.length := by
    rw [hl]
    exact hi
  have hy : ys[i]? = some ys[i] := List.getElem?_eq_getElem hlt
  exact lc_step hD (by omega) hy h.1 h.2 (each i _ hi hy G h.1) fun G' e1 e2 => ⟨e1, e2⟩
end RG
end RGf
section RGg
/-! the pen of the laws: a dict of cells, a turn, a rest -/
namespace RG
open PySem PySem.Spec PyProof.Rows L2
def penKv (c : Addr) (t r : Int) : List (Key × V) := [(.inr "cells", .ref c), (.inr "turn", .int t), (.inr "rest", .int r)]
theorem ne_ct : ¬ (("cells" : Str) = "turn") := by decide +kernel
theorem ne_cr : ¬ (("cells" : Str) = "rest") := by decide +kernel
theorem ne_tr : ¬ (("turn" : Str) = "rest") := by decide +kernel
theorem inr_ne {a b : Str} (h : ¬ a = b) : ¬ ((Sum.inr a : Key) = Sum.inr b) := fun e => h (Sum.inr.inj e)
theorem pen_cells (c : Addr) (t r : Int) : valV (penKv c t r) (Sum.inr "cells" : Key) = some (.ref c) := valV_pos rfl
theorem pen_turn (c : Addr) (t r : Int) : valV (penKv c t r) (Sum.inr "turn" : Key) = some (.int t) := by
  unfold penKv
  rw [valV_neg (inr_ne ne_ct), valV_pos rfl]
theorem pen_rest (c : Addr) (t r : Int) : valV (penKv c t r) (Sum.inr "rest" : Key) = some (.int r) := by
  unfold penKv
  rw [valV_neg (inr_ne ne_cr), valV_neg (inr_ne ne_tr), valV_pos rfl]
theorem put_turn (c : Addr) (t r u : Int) : putK (penKv c t r) (Sum.inr "turn" : Key) (.int u) = penKv c u r := by
  have h1 := inr_ne ne_ct
  have h2 := inr_ne (fun e => ne_tr e.symm)
  simp [putK, penKv, h1, h2]
theorem put_rest (c : Addr) (t r u : Int) : putK (penKv c t r) (Sum.inr "rest" : Key) (.int u) = penKv c t u := by
  have h1 := inr_ne ne_cr
  have h2 := inr_ne ne_tr
  simp [putK, penKv, h1, h2]
/-- which pen: its place, its cells' place, the cells -/
structure PenI where
  p : Addr
  c : Addr
  ns : List Int
/-- a pen whose turn is at most B -/
structure Pen (H : Hp) (i : PenI) (B : Nat) : Prop where
  ex : ∃ (t : Nat) (r : Int), H i.p = some (.dK (penKv i.c (t : Int) r)) ∧ H i.c = some (.lst (i.ns.map V.int)) ∧ i.ns.length ≤ 63 ∧ t ≤ B ∧ 0 ≤ r
theorem Pen.o {H : Hp} {i : PenI} {B : Nat} (h : Pen H i B) : PenO H i.p := by
  obtain ⟨t, r, h1, _⟩ := h.ex
  exact ⟨_, h1, rfl⟩
theorem Pen.mono {H : Hp} {i : PenI} {B C : Nat} (h : Pen H i B) (e : B ≤ C) : Pen H i C := by
  obtain ⟨t, r, h1, h2, h3, h4, h5⟩ := h.ex
  exact ⟨t, r, h1, h2, h3, Nat.le_trans h4 e, h5⟩
theorem Pen.same {H G : Hp} {i : PenI} {B : Nat} (h : Pen H i B) (e : Same H G) : Pen G i B := by
  obtain ⟨t, r, h1, h2, h3, h4, h5⟩ := h.ex
  exact ⟨t, r, e _ _ h1, e _ _ h2, h3, h4, h5⟩
theorem Pen.cells {H : Hp} {i : PenI} {B : Nat} (h : Pen H i B) : H i.c = some (.lst (i.ns.map V.int)) := by
  obtain ⟨t, r, h1, h2, _⟩ := h.ex
  exact h2
/-- what isn't there yet is no part of the pen -/
theorem Pen.ne {H : Hp} {i : PenI} {B : Nat} {q : Addr} (h : Pen H i B) (e : H q = none) : q ≠ i.p ∧ q ≠ i.c := by
  obtain ⟨t, r, h1, h2, _⟩ := h.ex
  exact ⟨(ne_of_none h1 e).symm, (ne_of_none h2 e).symm⟩
theorem Pen.neL {H : Hp} {i : PenI} {B : Nat} {q : Addr} {xs : List V} (h : Pen H i B) (e : H q = some (.lst xs)) : q ≠ i.p := by
  obtain ⟨t, r, h1, _⟩ := h.ex
  exact ne_of e h1 (fun z => nomatch z)
theorem Pen.upd {H : Hp} {i : PenI} {B : Nat} {q : Addr} {o : HO} (h : Pen H i B) (n : q ≠ i.p ∧ q ≠ i.c) : Pen (L2.upd H q o) i B := by
  obtain ⟨t, r, h1, h2, h3⟩ := h.ex
  exact ⟨t, r, by rw [upd_ne n.1.symm]; exact h1, by rw [upd_ne n.2.symm]; exact h2, h3⟩
theorem Kb.refl (p : Addr) (H : Hp) : Kb p H H := fun _ _ h _ => h
theorem Kb.trans {p : Addr} {H G J : Hp} (a : Kb p H G) (b : Kb p G J) : Kb p H J := fun x o h n => b x o (a x o h n) n
theorem Kb.of {p : Addr} {H G : Hp} (a : Same H G) : Kb p H G := fun x o h _ => a x o h
theorem Kb.at {p : Addr} {H G : Hp} {o : HO} (a : Kb p H G) : Kb p H (L2.upd G p o) := fun x u h n => by
  rw [upd_ne n]
  exact a x u h n
theorem Kb.free {p q : Addr} {H G : Hp} (a : Kb p H G) (n : q ≠ p) (h : G q = none) : H q = none := by
  cases e : H q with
  | none => rfl
  | some o =>
    rw [a q o e n] at h
    cases h
/-- a thing that was not there may be written -/
theorem Kb.mut {p q : Addr} {H G : Hp} {o : HO} (a : Kb p H G) (h : H q = none) : Kb p H (L2.upd G q o) := fun x u e n => by
  rw [upd_ne (ne_of_none e h)]
  exact a x u e n
theorem Kb.new {p q : Addr} {H : Hp} {o : HO} (h : H q = none) : Kb p H (L2.upd H q o) := (Kb.refl p H).mut h
section
variable {G : Hp} {p c : Addr} {t r u : Int}
theorem gR (h : G p = some (.dK (penKv c t r))) : DGet G p (.str "rest") (some (.int r)) := pen_rest c t r ▸ DGet.k (k := Sum.inr "rest") h
theorem gT (h : G p = some (.dK (penKv c t r))) : DGet G p (.str "turn") (some (.int t)) := pen_turn c t r ▸ DGet.k (k := Sum.inr "turn") h
theorem gC (h : G p = some (.dK (penKv c t r))) : DGet G p (.str "cells") (some (.ref c)) := pen_cells c t r ▸ DGet.k (k := Sum.inr "cells") h
theorem pR (h : G p = some (.dK (penKv c t r))) : DPut G p (.str "rest") (.int u) (L2.upd G p (.dK (penKv c t u))) :=
  put_rest c t r u ▸ DPut.k (k := Sum.inr "rest") h (Nat.lt_of_le_of_lt (Nat.le_refl 3) (by decide))
theorem pT (h : G p = some (.dK (penKv c t r))) : DPut G p (.str "turn") (.int u) (L2.upd G p (.dK (penKv c u r))) :=
  put_turn c t r u ▸ DPut.k (k := Sum.inr "turn") h (Nat.lt_of_le_of_lt (Nat.le_refl 3) (by decide))
end
theorem rest_at {i m : Int} (h : 0 < m) : 0 ≤ i.fmod m ∧ i.fmod m < m := by
  rw [Int.fmod_eq_emod_of_nonneg _ (Int.le_of_lt h)]
  exact ⟨Int.emod_nonneg _ (by omega), Int.emod_lt_of_pos _ h⟩
theorem part_at {i m : Int} (h : 0 < m) (hi : 0 ≤ i) : 0 ≤ i.fdiv m := by
  rw [Int.fdiv_eq_ediv_of_nonneg _ (Int.le_of_lt h)]
  exact Int.ediv_nonneg hi (by omega)
/-- an item of a list by a number within it -/
theorem atI_in {α : Type} {xs : List α} {i : Int} (h0 : 0 ≤ i) (h1 : i < xs.length) : ∃ v, atI xs i = some v ∧ xs[i.toNat]? = some v := by
  have h2 : i.toNat < xs.length := by omega
  have h3 : xs[i.toNat]? = some xs[i.toNat] := List.getElem?_eq_getElem h2
  have h4 := atI_nat h3
  rw [Int.toNat_of_nonneg h0] at h4
  exact ⟨_, h4, h3⟩
/-- a draw: one turn more at the most -/
def spDraw : Sp := fun vs H Q _ => ∃ (i : PenI) (m : Int) (B : Nat), vs = [.ref i.p, .int m] ∧ Pen H i B ∧ B < 2 ^ 60 ∧ 0 < m ∧ m < 1073741824 ∧
  ∀ (d : Int) (H' : Hp), 0 ≤ d → d < m → Kb i.p H H' → Pen H' i (B + 1) → Q (.int d) H'
end RG
namespace RG
open PySem PySem.Spec PyProof.Rows L2
/-- the built-in names that the text doesn't bind -/
structure Bt (mg : Str → Option Value) : Prop where
  isinstance : mg "isinstance" = none
  int : mg "int" = none
  bool : mg "bool" = none
  str : mg "str" = none
  tuple : mg "tuple" = none
  list : mg "list" = none
  dict : mg "dict" = none
  set : mg "set" = none
  len : mg "len" = none
  all : mg "all" = none
  any : mg "any" = none
  sum : mg "sum" = none
  abs : mg "abs" = none
  range : mg "range" = none
  sorted : mg "sorted" = none
  min : mg "min" = none
  max : mg "max" = none
  repr : mg "repr" = none
  zip : mg "zip" = none
  enumerate : mg "enumerate" = none
  reversed : mg "reversed" = none
/-- a new pen of a script -/
def spPen (K : PySem.W.Frag) : Sp := fun vs H Q _ => ∃ (a : Addr) (ns : List Int), vs = [.ref a] ∧ SqL K H a (ns.map V.int) ∧ ns.length ≤ 63 ∧ ∀ (i : PenI) (H' : Hp), Same H H' → Pen H' i 0 → Q (.ref i.p) H'
theorem penMade {c : Addr} {t r : Int} : mergeK [] (penKv c t r) = penKv c t r := by
  have h1 := inr_ne ne_ct
  have h2 := inr_ne ne_cr
  have h3 := inr_ne ne_tr
  simp [mergeK, putK, penKv, h1, h2, h3]
theorem cut_front (xs : List V) (k : Nat) : cutV xs none (some (k : Int)) = xs.take k := by
  unfold cutV
  rw [HT.sIx_nat, HT.sIx_none, List.drop_zero, Nat.sub_zero]
  rcases Nat.le_total k xs.length with h | h
  · rw [Nat.min_eq_left h]
  · rw [Nat.min_eq_right h, List.take_length, List.take_of_length_le h]
theorem cut_back (xs : List V) (k : Nat) : cutV xs (some (k : Int)) none = xs.drop k := by
  unfold cutV
  rw [HT.sIx_nat, HT.sIx_none]
  rcases Nat.le_total k xs.length with h | h
  · rw [Nat.min_eq_left h, List.take_of_length_le (by rw [List.length_drop]; exact Nat.le_refl _)]
  · rw [Nat.min_eq_right h, Nat.sub_self, List.take_zero, List.drop_eq_nil_of_le h]
theorem erase_perm {α : Type} : ∀ {xs : List α} {k : Nat} {y : α}, xs[k]? = some y → (y :: xs.eraseIdx k).Perm xs
  | [], _, _, h => by simp at h
  | x :: xs, 0, y, h => by
    simp at h
    subst h
    exact List.Perm.refl _
  | x :: xs, k + 1, y, h => by
    have h2 := erase_perm (xs := xs) (k := k) (y := y) (by simpa using h)
    exact (List.Perm.swap x y _).trans (h2.cons x)
theorem erase_len {α : Type} {xs : List α} {k : Nat} {y : α} (h : xs[k]? = some y) : (xs.eraseIdx k).length + 1 = xs.length := (erase_perm h).length_eq
theorem seq_in {d : Int} {n : Nat} (h0 : 0 ≤ d) (h1 : d < n) : seqIndex? d n = some d.toNat := by
  have e : ixN n d = some d.toNat := by
    unfold ixN
    rw [if_pos h0, if_pos h1]
  exact (ixN_seq e).1
/-- some[draw]: some item of a list or tuple -/
def spPick (K : PySem.W.Frag) : Sp := fun vs H Q _ => ∃ (i : PenI) (B : Nat) (a : Addr) (xs : List V), vs = [.ref i.p, .ref a] ∧ Pen H i B ∧ B < 2 ^ 60 ∧ (SqL K H a xs ∨ SqT K H a xs) ∧ 0 < xs.length ∧ xs.length < 1000000 ∧
  ∀ (x : V) (H' : Hp), x ∈ xs → Kb i.p H H' → Pen H' i (B + 1) → Q x H'
/-- the items in some order, a new list -/
def spShuf (K : PySem.W.Frag) : Sp := fun vs H Q _ => ∃ (i : PenI) (B : Nat) (a : Addr) (xs : List V), vs = [.ref i.p, .ref a] ∧ Pen H i B ∧ B < 2 ^ 50 ∧ (SqL K H a xs ∨ SqT K H a xs) ∧ xs.length < 1000000 ∧
  ∀ (l : Addr) (ys : List V) (H' : Hp), ys.Perm xs → H l = none → Kb i.p H H' → Pen H' i (B + xs.length) → H' l = some (.lst ys) → Q (.ref l) H'
theorem swapped_perm {α : Type} {xs : List α} {i j : Nat} {a b : α} (hi : xs[i]? = some a) (hj : xs[j]? = some b) : ((xs.set i b).set j a).Perm xs := by
  obtain ⟨h1, e1⟩ := List.getElem?_eq_some_iff.mp hi
  obtain ⟨h2, e2⟩ := List.getElem?_eq_some_iff.mp hj
  have h := (Array.swap_perm (xs := xs.toArray) (i := i) (j := j) (by simpa using h1) (by simpa using h2)).toList
  rw [Array.toList_swap] at h
  simpa [e1, e2] using h
theorem back_ints : ∀ vs : List V, (∀ v ∈ vs, ∃ k, v = V.int k) → ∃ ks : List Int, vs = ks.map V.int
  | [], _ => ⟨[], rfl⟩
  | v :: vs, h => by
    obtain ⟨k, rfl⟩ := h v List.mem_cons_self
    obtain ⟨ks, rfl⟩ := back_ints vs fun v hv => h v (List.mem_cons_of_mem _ hv)
    exact ⟨k :: ks, rfl⟩
theorem perm_ints {ns : List Int} {vs : List V} (h : vs.Perm (ns.map V.int)) : ∃ ks : List Int, vs = ks.map V.int ∧ ks.Perm ns := by
  obtain ⟨ks, rfl⟩ := back_ints vs fun v hv => by
    obtain ⟨k, _, e⟩ := List.mem_map.mp (h.mem_iff.mp hv)
    exact ⟨k, e.symm⟩
  refine ⟨ks, rfl, ?_⟩
  have h2 := h.map fun v => match v with | V.int k => k | _ => 0
  simpa [List.map_map, Function.comp_def] using h2
def places (n : Nat) : List Int := (List.range n).map fun k => ((k : Nat) : Int)
theorem places_len (n : Nat) : (places n).length = n := by
  unfold places
  rw [List.length_map, List.length_range]
theorem rg_places (n : Nat) : rgV 0 (n : Int) = (places n).map V.int := by
  unfold rgV places
  rw [List.map_map, Int.sub_zero, Int.toNat_natCast]
  refine List.map_congr_left fun k _ => ?_
  show V.int (0 + ((k : Nat) : Int)) = V.int ((k : Nat) : Int)
  rw [Int.zero_add]
/-- an arrangement of so many places, a tuple -/
def spArr : Sp := fun vs H Q _ => ∃ (i : PenI) (B n : Nat), vs = [.ref i.p, .int (n : Int)] ∧ Pen H i B ∧ B < 2 ^ 40 ∧ 2 ≤ n ∧ n < 1000 ∧
  ∀ (t : Addr) (ks : List Int) (H' : Hp), ks.Perm (places n) → Kb i.p H H' → Pen H' i (B + n + 3) → H' t = some (.tup (ks.map V.int)) → Q (.ref t) H'
end RG
end RGg
section RGh
/-! t[::-1] of a tuple; slices and sums of tuples as what they hold -/
namespace RG
open PySem PySem.Spec PyProof.Rows L2
section
variable {prog : Program} {w : World} {A : Around} {E : Value → Shared → Prop} {s : Shared}
theorem rev_bounds (n : Nat) : Builtin.Slice.sliceAdjust none none (-1) (n : Int) = ((n : Int) - 1, -1) := rfl
theorem rev_many (n : Nat) : Builtin.Slice.slicePlaces ((n : Int) - 1) (-1) (-1) = n := by
  unfold Builtin.Slice.slicePlaces
  rw [if_neg (by decide)]
  by_cases h : (n : Int) - 1 > -1
  · rw [if_pos h]
    have e : ((n : Int) - 1 - -1 - 1) / (- -1) + 1 = (n : Int) := by
      have e2 : (- -1 : Int) = 1 := rfl
      rw [e2, Int.ediv_one]
      omega
    rw [e, Int.toNat_natCast]
  · rw [if_neg h]
    omega
theorem fm_some {α β : Type} {f : α → Option β} {g : α → β} : ∀ {l : List α}, (∀ k ∈ l, f k = some (g k)) → l.filterMap f = l.map g
  | [], _ => rfl
  | a :: l, h => by
    rw [List.filterMap_cons, h a List.mem_cons_self, List.map_cons, fm_some fun k hk => h k (List.mem_cons_of_mem _ hk)]
theorem rev_items (xs : List Value) : ((List.range xs.length).filterMap fun (k : Nat) => xs.toArray[(((xs.length : Nat) : Int) - 1 + (k : Int) * -1).toNat]?) = xs.reverse := by
  refine List.ext_getElem? fun i => ?_
  have e : ((List.range xs.length).filterMap fun (k : Nat) => xs.toArray[(((xs.length : Nat) : Int) - 1 + (k : Int) * -1).toNat]?) = (List.range xs.length).map fun k => xs.getD (xs.length - 1 - k) .none := by
    refine fm_some fun k hk => ?_
    have hk2 := List.mem_range.mp hk
    have e1 : (((xs.length : Nat) : Int) - 1 + (k : Int) * -1).toNat = xs.length - 1 - k := by omega
    have h2 : xs.length - 1 - k < xs.length := by omega
    rw [e1, List.getElem?_toArray, List.getElem?_eq_getElem h2]
    show some _ = some _
    rw [List.getD_eq_getElem?_getD, List.getElem?_eq_getElem h2]
    rfl
  rw [e, List.getElem?_map]
  by_cases hi : i < xs.length
  · rw [List.getElem?_range hi, List.getElem?_reverse hi]
    have h2 : xs.length - 1 - i < xs.length := by omega
    show some (xs.getD (xs.length - 1 - i) .none) = _
    rw [List.getD_eq_getElem?_getD, List.getElem?_eq_getElem h2]
    rfl
  · rw [List.getElem?_eq_none (by rw [List.length_range]; omega), List.getElem?_eq_none (by rw [List.length_reverse]; omega)]
    rfl
theorem applied_rev {sl : Addr} {vs : Value} {xs : List Value} {R : Int × Int × Nat → Shared → Prop} (hs : s.heap.IsSliceOf sl .none .none vs) (ps : IsPart vs (some (-1))) (r : R ((xs.length : Int) - 1, -1, xs.length) s) :
    wpAny (model prog w) A (Builtin.Slice.sliceApplied (.ref sl) (pure ((xs.toArray.size : Nat) : Int))) R E s := by
  obtain ⟨so, so1, so2, so3⟩ := id hs
  unfold Builtin.Slice.sliceApplied Builtin.Slice.sliceFields
  refine wpAny_bind (wpAny_bind (wpAny_field so1 so3 (x := .none) rfl ?_))
  refine wpAny_bind (wpAny_field so1 so3 (x := .none) rfl ?_)
  refine wpAny_bind (wpAny_field so1 so3 (x := vs) rfl (wpAny_pure ?_))
  refine wpAny_bind (HT.slicePart_ ps ?_)
  show wpAny _ _ (if ((-1 : Int) == 0) = true then _ else _) _ _ s
  rw [if_neg (by decide)]
  refine wpAny_bind (HT.slicePart_ .none (wpAny_bind (HT.slicePart_ .none (wpAny_bind (wpAny_pure ?_)))))
  show wpAny _ _ (match Builtin.Slice.sliceAdjust none none (-1) ((xs.toArray.size : Nat) : Int) with | (lo, hi) => pure (lo, (-1 : Int), Builtin.Slice.slicePlaces lo hi (-1))) _ _ s
  rw [rev_bounds]
  show wpAny _ _ (pure (((xs.toArray.size : Nat) : Int) - 1, (-1 : Int), Builtin.Slice.slicePlaces (((xs.toArray.size : Nat) : Int) - 1) (-1) (-1))) _ _ s
  rw [List.size_toArray, rev_many]
  exact wpAny_pure r
/-- t[::-1] at the library's level -/
theorem get_rev {t sl : Addr} {xs : List Value} {vs : Value} {Q : Value → Shared → Prop} (ht : IsTup s.heap t xs.toArray) (hs : s.heap.IsSliceOf sl .none .none vs) (ps : IsPart vs (some (-1))) (hz : xs.length ≤ sizeLine)
    (k : Q (.ref s.heap.objs.size) { s with heap := s.heap.push { cls := .type "tuple", data := .seq xs.reverse.toArray } }) : wpAny (model prog w) A (getItem (.ref t) (.ref sl)) Q E s := by
  have fits : sizeOk (.seq xs.reverse.toArray) := by
    show xs.reverse.toArray.size ≤ sizeLine
    rw [List.size_toArray, List.length_reverse]
    exact hz
  obtain ⟨so, so1, so2, so3⟩ := id hs
  have isSl : s.TypeIs (.ref sl) "slice" := ⟨so, so1, so2⟩
  unfold getItem
  try with_reducible refine wpAny_holding ?_
  first
    | apply wpAny_bind; refine wpAny_pure ?_
    | skip
  apply wpAny_bind
  refine wpAny_sequenceKey ht.typeIs (by decide) ?_
  apply wpAny_bind
  refine wpAny_callSpecial?_slot (name := Str.ofString "__getitem__") ht.typeIs PyProof.Rows.slot_tuple_getitem ?_
  refine wpAny_call_entry PyProof.Rows.slot_tuple_getitem ht.typeIs entry_tuple_getitem ?_ (args_tuple_getitem _ _)
  show wpAny _ _ (Builtin.Tuple.tupleItemsOf (.ref t) >>= _) _ _ s
  apply wpAny_bind
  refine tupleItemsOf_ ht ?_
  apply wpAny_bind
  refine wpAny_typeOf isSl ?_
  rw [if_pos (by decide)]
  refine wpAny_bind (applied_rev hs ps ?_)
  have no : ¬ (((xs.length : Int) - 1 == 0 && (-1 : Int) == 1 && xs.length == xs.toArray.size) = true) := by
    intro q
    rw [Bool.and_eq_true, Bool.and_eq_true] at q
    exact absurd (eq_of_beq q.1.2) (by decide)
  show wpAny _ _ (if ((xs.length : Int) - 1 == 0 && (-1 : Int) == 1 && xs.length == xs.toArray.size) = true then _ else _) _ _ s
  rw [if_neg no, rev_items]
  first
    | exact wpAny_bind (m := Builtin.Tuple.tupleExact _) (wpAny_newObj_type (wpAny_pure ⟨_, rfl, wpAny_pure k⟩) fits)
    | exact wpAny_bind (m := Builtin.Tuple.tupleExact _) (wpAny_newObj_type (wpAny_bind (wpAny_pure (wpAny_pure ⟨_, rfl, wpAny_pure k⟩))) fits)
    | exact wpAny_bind (wpAny_bind (m := Builtin.Tuple.tupleExact _) (wpAny_newObj_type (wpAny_pure (wpAny_pure ⟨_, rfl, wpAny_pure k⟩)) fits))
    | exact wpAny_bind (wpAny_bind (m := Builtin.Tuple.tupleExact _) (wpAny_newObj_type (wpAny_pure ⟨_, rfl, wpAny_pure k⟩) fits))
end
section
variable {X : Cx}
def tRevT (K : PySem.W.Frag) (te : TE) : TE := fun σ H Q => te σ H fun x H1 => ∃ a xs, x = .ref a ∧ SqT K H1 a xs ∧ ∀ p, H1 p = none → Q (.ref p) (upd H1 p (.tup xs.reverse))
theorem pe_revT {e : Expr} {te : TE} {k : Nat} {p1 p2 p3 pos : Pos} (he : PE X e te) : PE X (.Subscript e (.Slice none none (some (.UnaryOp .USub (.Constant (.int 1) k p1) p2)) p3) pos) (tRevT X.K te) := by
  refine ⟨fun pins s σ H Q I h => Subscript_ (thn (he.run pins s σ H _ I h) ?_)⟩
  rintro v s1 ⟨x, H1, I1, r1, a, xs, rfl, hx, q⟩
  cases r1
  have step : PO X (some (.UnaryOp .USub (.Constant (.int 1) k p1) p2)) (tPart (tUn (rU fun i => .int (-i)) (tC (.int 1)))) := po_some (pe_un un_neg pe_int)
  refine wpAny_Slice (thn (po_none.run pins s1 σ H1 (fun o G => o = none ∧ G = H1) I1 ⟨rfl, rfl⟩) ?_)
  rintro vl s2 ⟨l, G2, I2, pl, el, e2⟩
  subst el e2
  refine thn (po_none.run pins s2 σ G2 (fun o G => o = none ∧ G = G2) I2 ⟨rfl, rfl⟩) ?_
  rintro vu s3 ⟨u, G3, I3, pu, eu, e3⟩
  subst eu e3
  refine thn (step.run pins s3 σ G3 (fun o G => o = some (-1) ∧ G = G3) I3 ⟨1, rfl, -1, rfl, rfl, rfl⟩) ?_
  rintro vs s4 ⟨o, G4, I4, ps, eo, e4⟩
  subst eo e4
  cases pl
  cases pu
  have I5 : Inv X pins σ G4 { s4 with heap := s4.heap.push { cls := .type "slice", data := .fields #[.none, .none, vs] } } := I4.kept (t' := s4.toks) fun b ob z => Heap.get?_push_of_some _ z
  obtain ⟨its, r, ht, hz⟩ := I5.tuple hx
  have hlen := r.length
  show wpAny (model X.prog X.w) X.A (subscriptTail e (.Slice none none (some (.UnaryOp .USub (.Constant (.int 1) k p1) p2)) p3) (.ref a) (.ref s4.heap.objs.size)) (EP X pins σ Q) X.xe { s4 with heap := s4.heap.push { cls := .type "slice", data := .fields #[.none, .none, vs] } }
  refine tail_any (ops := [.ref a, .ref s4.heap.objs.size]) ht.typeIs (PyProof.Rows.slot_tuple_getitem.lookup) ?_ (by with_unfolding_all rfl)
  refine get_rev ht (Heap.IsSliceOf.new _ .none .none vs) ps (by omega) ?_
  refine ⟨.ref _, _, I5.laid (t' := s4.toks) (o := .tup xs.reverse) (fun b ob z => Heap.get?_push_of_some _ z) (Nat.le_refl _) ?_, rfl, q _ (I5.hok.fresh (Nat.le_refl _))⟩
  exact ⟨by rw [List.length_reverse]; exact hz, _, r.reverse, ⟨_, Heap.get?_push_size _ rfl, rfl, _, rfl⟩⟩
/-- t[lo:hi] of a tuple: some tuple that holds the cut; all that stood stands -/
def rSlS (K : PySem.W.Frag) : V → Option Int → Option Int → Hp → VK → Prop := fun x lo hi H Q => ∃ a xs, x = .ref a ∧ SqT K H a xs ∧ ∀ p H', Same H H' → SqT K H' p (cutV xs lo hi) → Q (.ref p) H'
theorem sl_tupS : SlR X (rSlS X.K) := by
  intro pins s σ H x v vl vu lo hi sl Q I rx hs pl pu h
  obtain ⟨a, xs, rfl, hx, q⟩ := h
  refine sl_tupA pins s σ H _ v vl vu lo hi sl Q I rx hs pl pu ⟨a, xs, rfl, hx, fun e => q a H (Same.refl H) ?_, fun _ p hp => q p _ (same_new hp) (SqT.of upd_same)⟩
  have e2 : cutV xs lo hi = xs := by
    unfold cutV
    rw [e.1, e.2, List.drop_zero, Nat.sub_zero, List.take_length]
  rw [e2]
  exact hx
/-- t + u of tuples: some tuple that holds both -/
def rCatS (K : PySem.W.Frag) : R2 := fun x y H Q => ∃ a b xs ys, x = .ref a ∧ y = .ref b ∧ SqT K H a xs ∧ SqT K H b ys ∧ xs.length + ys.length ≤ sizeLine ∧ ∀ p H', Same H H' → SqT K H' p (xs ++ ys) → Q (.ref p) H'
theorem op_catS : OpR X (binaryOp .Add) (rCatS X.K) := by
  intro pins s σ H x y v u Q I rx ry h
  obtain ⟨a, b, xs, ys, rfl, rfl, ha, hb, hz, q⟩ := h
  refine op_catA pins s σ H _ _ v u Q I rx ry ⟨a, b, xs, ys, rfl, rfl, ha, hb, hz, fun e => q b H (Same.refl H) ?_, fun _ e => q a H (Same.refl H) ?_, fun _ _ p hp => q p _ (same_new hp) (SqT.of upd_same)⟩
  · rw [e, List.nil_append]
    exact hb
  · rw [e, List.append_nil]
    exact ha
end
end RG
end RGh
section RGi
/-! how long data's text is; lists of ints; comprehensions with a test -/
namespace RG
open PySem PySem.Spec PyProof.Rows L2
/-- signs of all texts, with their commas -/
def pl (ds : List PyData) : Nat := (ds.map fun d => d.shown.length + 2).sum
theorem pl_piled : ∀ ds : List PyData, piled (PyData.shownAll ds) = pl ds
  | [] => rfl
  | d :: ds => by
    simp only [PyData.shownAll, piled_cons, pl_piled ds, pl, List.map_cons, List.sum_cons]
theorem pl_nil : pl [] = 0 := rfl
theorem pl_cons (d : PyData) (ds : List PyData) : pl (d :: ds) = d.shown.length + 2 + pl ds := by simp [pl]
theorem pl_append (ds es : List PyData) : pl (ds ++ es) = pl ds + pl es := by simp [pl]
theorem join_le (ts : List Str) : (Str.join ", " ts).length ≤ piled ts := by
  cases ts with
  | nil => exact Nat.le_refl 0
  | cons t ts =>
    have := join_length_add (t :: ts) (by simp)
    omega
theorem shown_tuple (ds : List PyData) : (PyData.tuple ds).shown.length ≤ 3 + pl ds := by
  simp only [PyData.shown, tupleText, strLen_append]
  have h := join_le (PyData.shownAll ds)
  rw [pl_piled] at h
  have h1 : (("(" : Str)).length = 1 := by decide +kernel
  have h2 : ((if (PyData.shownAll ds).length == 1 then ",)" else ")" : String) : Str).length ≤ 2 := by
    split <;> decide +kernel
  omega
theorem shown_list (ds : List PyData) : (PyData.list ds).shown.length ≤ 3 + pl ds := by
  simp only [PyData.shown]
  have h := (textFrom_len (PyData.shownAll ds) 0 "[").1
  unfold listText
  rw [strLen_append]
  have h0 := pl_piled ds
  have h1 : (("[" : Str)).length = 1 := by decide +kernel
  have h2 : (("]" : Str)).length = 1 := by decide +kernel
  cases hts : PyData.shownAll ds with
  | nil =>
    show ("[" : Str).length + _ ≤ _
    omega
  | cons t ts =>
    have e : textFrom 0 "[" (t :: ts) = textFrom 1 ("[" ++ t) ts := rfl
    rw [hts, piled_cons] at h0
    rw [e, textFrom_length_pos ts 1 _ (by decide), strLen_append]
    omega
/-- the texts of data that fit -/
structure Fit (W D : Nat) (d : PyData) : Prop where
  sh : d.showable = true
  le : d.shown.length ≤ W
  dp : d.depth ≤ D
structure Fits (W D : Nat) (ds : List PyData) : Prop where
  sh : PyData.showableAll ds = true
  le : pl ds ≤ W
  dp : PyData.depthAll ds ≤ D
theorem Fit.mono {W D W' D' : Nat} {d : PyData} (h : Fit W D d) (e : W ≤ W') (f : D ≤ D') : Fit W' D' d := ⟨h.sh, Nat.le_trans h.le e, Nat.le_trans h.dp f⟩
theorem Fits.mono {W D W' D' : Nat} {d : List PyData} (h : Fits W D d) (e : W ≤ W') (f : D ≤ D') : Fits W' D' d := ⟨h.sh, Nat.le_trans h.le e, Nat.le_trans h.dp f⟩
theorem Fits.nil {D : Nat} : Fits 0 D [] := ⟨rfl, Nat.le_refl 0, Nat.zero_le _⟩
theorem Fits.cons {W V D : Nat} {d : PyData} {ds : List PyData} (h : Fit W D d) (t : Fits V D ds) : Fits (W + 2 + V) D (d :: ds) :=
  ⟨by simp only [PyData.showableAll, h.sh, t.sh, Bool.and_self], by rw [pl_cons]; have := h.le; have := t.le; omega, by simp only [PyData.depthAll]; exact Nat.max_le.mpr ⟨h.dp, t.dp⟩⟩
theorem Fits.head {W D : Nat} {d : PyData} {ds : List PyData} (h : Fits W D (d :: ds)) : Fit W D d := by
  have h1 := h.sh
  have h2 := h.le
  have h3 := h.dp
  simp only [PyData.showableAll, Bool.and_eq_true] at h1
  rw [pl_cons] at h2
  simp only [PyData.depthAll] at h3
  exact ⟨h1.1, by omega, by omega⟩
theorem Fits.tail {W D : Nat} {d : PyData} {ds : List PyData} (h : Fits W D (d :: ds)) : Fits W D ds := by
  have h1 := h.sh
  have h2 := h.le
  have h3 := h.dp
  simp only [PyData.showableAll, Bool.and_eq_true] at h1
  rw [pl_cons] at h2
  simp only [PyData.depthAll] at h3
  exact ⟨h1.2, by omega, by omega⟩
theorem Fits.mem {W D : Nat} : ∀ {ds : List PyData} {d : PyData}, Fits W D ds → d ∈ ds → Fit W D d
  | _ :: _, _, h, m => by
    rcases List.mem_cons.mp m with rfl | m
    · exact h.head
    · exact Fits.mem h.tail m
theorem Fits.append {W V D : Nat} : ∀ {ds es : List PyData}, Fits W D ds → Fits V D es → Fits (W + V) D (ds ++ es)
  | [], es, _, h2 => h2.mono (Nat.le_add_left ..) (Nat.le_refl _)
  | d :: ds, es, h1, h2 => by
    have h3 := Fits.append h1.tail h2
    have h4 := h1.head
    have h5 := h1.le
    refine ⟨?_, ?_, ?_⟩
    · rw [List.cons_append]
      simp only [PyData.showableAll, h4.sh, h3.sh, Bool.and_self]
    · rw [pl_append]
      have := h2.le
      omega
    · rw [List.cons_append]
      simp only [PyData.depthAll]
      exact Nat.max_le.mpr ⟨h4.dp, h3.dp⟩
theorem Fits.take {W D : Nat} : ∀ {ds : List PyData} (k : Nat), Fits W D ds → Fits W D (ds.take k)
  | [], k, h => by rw [List.take_nil]; exact h
  | d :: ds, 0, h => (Fits.nil (D := D)).mono (Nat.zero_le _) (Nat.le_refl _)
  | d :: ds, k + 1, h => by
    have h1 := Fits.take k h.tail
    have h2 := h.head
    have h3 := h.le
    rw [pl_cons] at h3
    have h4 : pl (ds.take k) ≤ pl ds := by
      have e := congrArg pl (List.take_append_drop k ds)
      rw [pl_append] at e
      omega
    refine ⟨?_, ?_, ?_⟩
    · rw [List.take_succ_cons]
      simp only [PyData.showableAll, h2.sh, h1.sh, Bool.and_self]
    · rw [List.take_succ_cons, pl_cons]
      omega
    · rw [List.take_succ_cons]
      simp only [PyData.depthAll]
      exact Nat.max_le.mpr ⟨h2.dp, h1.dp⟩
theorem Fits.drop {W D : Nat} : ∀ {ds : List PyData} (k : Nat), Fits W D ds → Fits W D (ds.drop k)
  | [], k, h => by rw [List.drop_nil]; exact h
  | d :: ds, 0, h => h
  | d :: ds, k + 1, h => Fits.drop k h.tail
theorem Fits.tuple {W D : Nat} {ds : List PyData} (h : Fits W D ds) : Fit (3 + W) (D + 1) (.tuple ds) :=
  ⟨by simp only [PyData.showable, h.sh], Nat.le_trans (shown_tuple ds) (Nat.add_le_add_left h.le 3), by simp only [PyData.depth]; exact Nat.succ_le_succ h.dp⟩
theorem Fits.list {W D : Nat} {ds : List PyData} (h : Fits W D ds) : Fit (3 + W) (D + 1) (.list ds) :=
  ⟨by simp only [PyData.showable, h.sh], Nat.le_trans (shown_list ds) (Nat.add_le_add_left h.le 3), by simp only [PyData.depth]; exact Nat.succ_le_succ h.dp⟩
theorem fit_none : Fit 4 0 .none := ⟨rfl, by simp only [PyData.shown]; decide +kernel, Nat.le_refl 0⟩
theorem fit_bool (b : Bool) : Fit 5 0 (.bool b) := ⟨rfl, by simp only [PyData.shown]; cases b <;> decide +kernel, Nat.le_refl 0⟩
theorem fit_int {a : Int} {k : Nat} (h0 : 0 < k) (h1 : k ≤ 500) (h : a.natAbs < 10 ^ k) : Fit (k + 1) 0 (.int a) := by
  refine ⟨?_, ?_, Nat.le_refl 0⟩
  · simp only [PyData.showable, decide_eq_true_eq]
    by_cases h2 : a.natAbs = 0
    · rw [h2]
      decide
    · rw [Nat.log2_lt h2]
      refine Nat.lt_of_lt_of_le h (Nat.le_trans (Nat.pow_le_pow_right (by decide) h1) ?_)
      decide +kernel
  · simp only [PyData.shown]
    rw [PySem.ofString_length]
    exact int_text_length_le10 h0 h
theorem DdAll.append {K : PySem.W.Frag} {H : Hp} : ∀ {vs ws : List V} {ds es : List PyData}, DdAll K H vs ds → DdAll K H ws es → DdAll K H (vs ++ ws) (ds ++ es)
  | _, _, _, _, .nil, h => h
  | _, _, _, _, .cons h t, u => .cons h (DdAll.append t u)
theorem DdAll.take {K : PySem.W.Frag} {H : Hp} : ∀ {vs : List V} {ds : List PyData} (k : Nat), DdAll K H vs ds → DdAll K H (vs.take k) (ds.take k)
  | _, _, 0, _ => by
    rw [List.take_zero, List.take_zero]
    exact .nil
  | _, _, k + 1, .nil => by
    rw [List.take_nil, List.take_nil]
    exact .nil
  | _, _, k + 1, .cons h t => by
    rw [List.take_succ_cons, List.take_succ_cons]
    exact .cons h (DdAll.take k t)
theorem DdAll.drop {K : PySem.W.Frag} {H : Hp} : ∀ {vs : List V} {ds : List PyData} (k : Nat), DdAll K H vs ds → DdAll K H (vs.drop k) (ds.drop k)
  | _, _, 0, h => h
  | _, _, k + 1, .nil => by
    rw [List.drop_nil, List.drop_nil]
    exact .nil
  | _, _, k + 1, .cons h t => DdAll.drop k t
theorem dd_cut {K : PySem.W.Frag} {H : Hp} {xs : List V} {ds : List PyData} {W D : Nat} (h : DdAll K H xs ds) (f : Fits W D ds) (lo hi : Option Int) : ∃ es, DdAll K H (cutV xs lo hi) es ∧ Fits W D es ∧ es.length ≤ ds.length := by
  refine ⟨(ds.drop (HT.sIx xs.length 0 lo)).take (HT.sIx xs.length xs.length hi - HT.sIx xs.length 0 lo), (h.drop _).take _, (f.drop _).take _, ?_⟩
  rw [List.length_take, List.length_drop]
  omega
theorem DdAll.mem {K : PySem.W.Frag} {H : Hp} : ∀ {vs : List V} {ds : List PyData} {v : V}, DdAll K H vs ds → v ∈ vs → ∃ d ∈ ds, Dd K H v d
  | _, _, _, .cons h t, m => by
    rcases List.mem_cons.mp m with rfl | m
    · exact ⟨_, List.mem_cons_self, h⟩
    · obtain ⟨d, h1, h2⟩ := DdAll.mem t m
      exact ⟨d, List.mem_cons_of_mem _ h1, h2⟩
theorem DdAll.ints {K : PySem.W.Frag} {H : Hp} : ∀ ns : List Int, DdAll K H (ns.map V.int) (ns.map PyData.int)
  | [] => .nil
  | n :: ns => .cons (.int n) (DdAll.ints ns)
/-! ### lists of ints -/
theorem eqv_ints : ∀ ns ms : List Int, PyData.eqvAll (ns.map PyData.int) (ms.map PyData.int) = decide (ns = ms)
  | [], [] => rfl
  | [], m :: ms => by simp [PyData.eqvAll]
  | n :: ns, [] => by simp [PyData.eqvAll]
  | n :: ns, m :: ms => by
    simp only [List.map_cons, PyData.eqvAll, PyData.eqv, eqv_ints ns ms]
    by_cases h1 : n = m
    · by_cases h2 : ns = ms <;> simp [h1, h2]
    · simp [h1]
theorem lay_ints : ∀ ns : List Int, PyData.canLayAll0 (ns.map PyData.int) = true
  | [] => rfl
  | n :: ns => by simp only [List.map_cons, PyData.canLayAll0, PyData.canLay0, lay_ints ns, Bool.and_self]
theorem flat_ints : ∀ ns : List Int, PyData.depthAll (ns.map PyData.int) = 0
  | [] => rfl
  | n :: ns => by simp only [List.map_cons, PyData.depthAll, PyData.depth, flat_ints ns]; rfl
theorem shaped_ints (ns : List Int) : SeqAt.shaped (.list (ns.map PyData.int)) = true := by
  unfold SeqAt.shaped
  simp only [PyData.canLay0, lay_ints, PyData.depth, flat_ints, Bool.true_and]
  decide
theorem shaped_intsT (ns : List Int) : SeqAt.shaped (.tuple (ns.map PyData.int)) = true := by
  unfold SeqAt.shaped
  simp only [PyData.canLay0, lay_ints, PyData.depth, flat_ints, Bool.true_and]
  decide
theorem dp_ints {K : PySem.W.Frag} {H : Hp} : ∀ ns : List Int, DpAll K H (ns.map V.int) (ns.map PyData.int)
  | [] => .nil
  | n :: ns => .cons (.int n) (dp_ints ns)
/-! ### a comprehension over a tuple with a test -/
/-- what is kept: the items whose test holds -/
def keptV (ys : List V) (bs : List Bool) : List V := ((ys.zip bs).filter (·.2)).map (·.1)
theorem kept_snoc {ys : List V} {bs : List Bool} {i : Nat} {y : V} {b : Bool} (hy : ys[i]? = some y) (hb : bs[i]? = some b) :
    keptV (ys.take (i + 1)) (bs.take (i + 1)) = if b = true then keptV (ys.take i) (bs.take i) ++ [y] else keptV (ys.take i) (bs.take i) := by
  have hl : (ys.take i).length = (bs.take i).length := by
    have h1 := (List.getElem?_eq_some_iff.mp hy).1
    have h2 := (List.getElem?_eq_some_iff.mp hb).1
    rw [List.length_take, List.length_take]
    omega
  unfold keptV
  rw [← take_snoc hy, ← take_snoc hb, List.zip_append hl, List.filter_append, List.map_append]
  cases b <;> simp
theorem kept_len (ys : List V) (bs : List Bool) : (keptV ys bs).length ≤ ys.length := by
  unfold keptV
  rw [List.length_map]
  refine Nat.le_trans (List.length_filter_le _ _) ?_
  rw [List.length_zip]
  exact Nat.min_le_left _ _
theorem comp_tupT {K : PySem.W.Frag} {a D : Addr} {xs ys : List V} {bs : List Bool} {te : TE} {tt : TT} {j : Nat} {σ : L2.St} {H : Hp} {Qd : Hp → Prop} (hD : H D = none) (ha : SqT K H a xs) (hl : ys.length = xs.length) (hb : bs.length = xs.length) (hz : xs.length < sizeLine)
    (test : ∀ (i : Nat) (x : V) (b : Bool), xs[i]? = some x → bs[i]? = some b → ∀ G, Same H G → ∀ Q : Bool → Hp → Prop, (∀ G', Same G G' → Q b G') → tt ((σ.set j none).set j (some x)) G Q)
    (each : ∀ (i : Nat) (x y : V), xs[i]? = some x → ys[i]? = some y → ∀ G, Same H G → ∀ Q : VK, (∀ G', Same G G' → Q y G') → te ((σ.set j none).set j (some x)) G Q)
    (done : ∀ G, Same H G → G D = some (.lst (keptV ys bs)) → Qd G) :
    ∃ W : Nat → Nat → Hp → Prop, (∃ m, W 0 m (upd H D (.lst []))) ∧ ∀ i m G, W i m G →
      ((Itt K a).stop i G ∧ Qd G) ∨ ((Itt K a).go i G ∧ ∃ Nx : Hp → Prop, (∀ H', Nx H' → ∃ m', m' < m ∧ W (i + 1) m' H') ∧ ∀ x H', (Itt K a).yld i G x H' → gName j x (wipe σ [j]) H' fun σ2 H2 => wipe σ2 [j] = wipe σ [j] ∧ tt σ2 H2 fun b H3 =>
        if b = true then te σ2 H3 fun y H4 => ∃ acc, H4 D = some (.lst acc) ∧ acc.length < sizeLine ∧ Nx (upd H4 D (.lst (acc ++ [y]))) else Nx H3) := by
  refine lc_tup (xs := xs) (fun i G => Same H G ∧ G D = some (.lst (keptV (ys.take i) (bs.take i)))) ⟨same_new hD, by rw [upd_same]; rfl⟩ (fun i G _ h => sqt_same h.1 ha) (fun i x G hi h => ?_) fun G h => done G h.1 ?_
  · have hlt : i < xs.length := (List.getElem?_eq_some_iff.mp hi).1
    have hy : ys[i]? = some ys[i] := List.getElem?_eq_getElem (by omega)
    have hbi : bs[i]? = some bs[i] := List.getElem?_eq_getElem (by omega)
    have sn := kept_snoc hy hbi
    refine ⟨?_, ?_⟩
    · show ((σ.set j none).set j (some x)).set j none = σ.set j none
      rw [List.set_set, List.set_set]
    · refine test i x _ hi hbi G h.1 _ fun G1 e1 => ?_
      refine ite2 (fun hbt => ?_) fun hbf => ?_
      · rw [if_pos hbt] at sn
        refine each i x _ hi hy G1 (h.1.trans e1) _ fun G2 e2 => ?_
        refine ⟨_, e2 _ _ (e1 _ _ h.2), Nat.lt_of_le_of_lt (kept_len _ _) (by rw [List.length_take]; omega), same_mut ((h.1.trans e1).trans e2) hD, ?_⟩
        rw [upd_same, sn]
      · rw [if_neg hbf] at sn
        exact ⟨h.1.trans e1, by rw [sn]; exact e1 _ _ h.2⟩
  · rw [h.2, ← hl, List.take_length, hl, ← hb, List.take_length]
end RG
end RGi
section RGj
/-! A call while some lists and dicts of the caller's are out of sight: they stand as they were. -/
namespace RG
open PySem PySem.Spec PyProof.Rows L2
def plain : HO → Prop
  | .lst _ => True
  | .dK _ => True
  | _ => False
/-- H without the things of ps -/
def hid (ps : List (Addr × HO)) (H : Hp) : Hp := fun b => if b ∈ ps.map (·.1) then none else H b
/-- .. and back again -/
def back (ps : List (Addr × HO)) (H : Hp) : Hp := fun b => match ps.lookup b with
  | some o => some o
  | none => H b
theorem hid_in {ps : List (Addr × HO)} {H : Hp} {b : Addr} (h : b ∈ ps.map (·.1)) : hid ps H b = none := if_pos h
theorem hid_out {ps : List (Addr × HO)} {H : Hp} {b : Addr} (h : b ∉ ps.map (·.1)) : hid ps H b = H b := if_neg h
theorem hid_some {ps : List (Addr × HO)} {H : Hp} {b : Addr} {o : HO} (h : hid ps H b = some o) : H b = some o ∧ b ∉ ps.map (·.1) := by
  by_cases e : b ∈ ps.map (·.1)
  · rw [hid_in e] at h
    cases h
  · rw [hid_out e] at h
    exact ⟨h, e⟩
theorem look_in : ∀ {ps : List (Addr × HO)} {b : Addr}, b ∈ ps.map (·.1) → ∃ o, ps.lookup b = some o ∧ (b, o) ∈ ps
  | (a, o) :: ps, b, h => by
    by_cases e : b = a
    · subst e
      exact ⟨o, by simp [List.lookup], List.mem_cons_self⟩
    · have h2 : b ∈ ps.map (·.1) := (List.mem_cons.mp h).resolve_left e
      obtain ⟨u, h3, h4⟩ := look_in h2
      refine ⟨u, ?_, List.mem_cons_of_mem _ h4⟩
      have e2 : (b == a) = false := by simpa using e
      simp only [List.lookup, e2]
      exact h3
theorem look_out : ∀ {ps : List (Addr × HO)} {b : Addr}, b ∉ ps.map (·.1) → ps.lookup b = none
  | [], _, _ => rfl
  | (a, o) :: ps, b, h => by
    have e : b ≠ a := fun e => h (by rw [e]; exact List.mem_cons_self)
    have e2 : (b == a) = false := by simpa using e
    simp only [List.lookup, e2]
    exact look_out fun q => h (List.mem_cons_of_mem _ q)
theorem back_out {ps : List (Addr × HO)} {H : Hp} {b : Addr} (h : b ∉ ps.map (·.1)) : back ps H b = H b := by
  unfold back
  rw [look_out h]
/-- a thing that leans on its own object alone -/
theorem plain_at {P : Program} {w : World} {H H' : Hp} {h h' : Heap} {a : Addr} {o : HO} (p : plain o) (x : ObjOk P w H h a o) (e : ∀ u, h.get? a = some u → h'.get? a = some u) : ObjOk P w H' h' a o := by
  cases o with
  | lst xs =>
    obtain ⟨z, its, n, r, g⟩ := x
    exact ⟨z, its, n, r, e _ g⟩
  | dK kvs =>
    obtain ⟨z, y, vs, r, ob, es, ep, g, c⟩ := x
    exact ⟨z, y, vs, r, ob, es, ep, e _ g, c⟩
  | _ => exact p.elim
section
variable {X : Cx} {pins : List (Addr × Obj)} {σ : L2.St} {H H' : Hp} {s s' : Shared}
theorem plain_obj {P : Program} {w : World} {H : Hp} {h : Heap} {a : Addr} {o : HO} (p : plain o) (x : ObjOk P w H h a o) : ∃ u, h.get? a = some u ∧ ∀ v, u.data ≠ .cell v := by
  cases o with
  | lst xs =>
    obtain ⟨z, its, n, r, g⟩ := x
    exact ⟨_, g, fun v q => nomatch q⟩
  | dK kvs =>
    obtain ⟨z, y, vs, r, ob, es, ep, g, c1, c2, _⟩ := x
    exact ⟨_, g, fun v q => by rw [c2] at q; cases q⟩
  | _ => exact p.elim
theorem inv_hid {ps : List (Addr × HO)} (I : Inv X pins σ H s) (hp : ∀ p ∈ ps, H p.1 = some p.2 ∧ plain p.2) :
    ∃ pins', (∀ p ∈ ps, ∃ u, (p.1, u) ∈ pins' ∧ s.heap.get? p.1 = some u) ∧ (∀ q ∈ pins, q ∈ pins') ∧ Inv X pins' σ (hid ps H) s := by
  have objs : ∀ p ∈ ps, ∃ u, s.heap.get? p.1 = some u ∧ ∀ v, u.data ≠ .cell v := fun p h => plain_obj (hp p h).2 (I.hok _ _ (hp p h).1)
  let ex : List (Addr × Obj) := ps.filterMap fun p => (s.heap.get? p.1).map fun u => (p.1, u)
  have mem : ∀ p ∈ ps, ∃ u, (p.1, u) ∈ ex ∧ s.heap.get? p.1 = some u := fun p h => by
    obtain ⟨u, h1, _⟩ := objs p h
    exact ⟨u, List.mem_filterMap.mpr ⟨p, h, by rw [h1]; rfl⟩, h1⟩
  have out : ∀ q ∈ ex, ∃ p ∈ ps, p.1 = q.1 ∧ s.heap.get? p.1 = some q.2 := fun q h => by
    obtain ⟨p, h1, h2⟩ := List.mem_filterMap.mp h
    obtain ⟨u, h3, h4⟩ := Option.map_eq_some_iff.mp h2
    subst h4
    exact ⟨p, h1, rfl, h3⟩
  have keep : ∀ {b : Addr} {o : HO}, H b = some o → ¬ plain o → hid ps H b = some o := fun {b o} h n => by
    rw [hid_out]
    · exact h
    · intro m
      obtain ⟨p, h1, h2⟩ := List.mem_map.mp m
      obtain ⟨h3, h4⟩ := hp p h1
      rw [h2, h] at h3
      cases h3
      exact n h4
  refine ⟨pins ++ ex, fun p h => ?_, fun q h => List.mem_append_left _ h, ?_⟩
  · obtain ⟨u, h1, h2⟩ := mem p h
    exact ⟨u, List.mem_append_right _ h1, h2⟩
  refine ⟨I.ok, I.os, I.bare, ?_, I.loc, I.cell, ?_, ?_, ?_, ?_, I.len⟩
  · refine ⟨I.base.keep, I.base.slot, fun b o h1 h2 h3 => ?_, I.base.there, fun b xs h => keep (I.base.tups b xs h) (fun z => z), fun b o u h => keep (I.base.frzs b o u h) (fun z => z), fun b qs h => ?_⟩
    · have := I.base.free b o h1 h2 h3
      unfold hid
      split
      · rfl
      · exact this
    · obtain ⟨more, h2⟩ := I.base.tbls b qs h
      exact ⟨more, keep h2 (fun z => z)⟩
  · unfold hid
    split
    · rfl
    · exact I.free
  · intro x c h
    unfold hid
    split
    · rfl
    · exact I.freeC x c h
  · intro p h
    have old : ∀ p ∈ X.pn ++ pins, s.heap.get? p.1 = some p.2 ∧ hid ps H p.1 = none ∧ p.1 ≠ X.env.locals ∧ p.1 ∉ X.fs ∧ ∀ v, p.2.data ≠ .cell v := fun p h => by
      obtain ⟨h1, h2, h3⟩ := I.pin p h
      refine ⟨h1, ?_, h3⟩
      unfold hid
      split
      · rfl
      · exact h2
    rcases List.mem_append.mp h with h | h
    · exact old p (List.mem_append_left _ h)
    · rcases List.mem_append.mp h with h | h
      · exact old p (List.mem_append_right _ h)
      · obtain ⟨q, h1, h2, h3⟩ := out p h
        obtain ⟨g1, g2⟩ := hp q h1
        obtain ⟨u, g3, g4⟩ := objs q h1
        rw [h3] at g3
        cases g3
        rw [h2] at h3 g1
        refine ⟨h3, hid_in (List.mem_map.mpr ⟨q, h1, h2⟩), fun e => ?_, fun e => ?_, g4⟩
        · rw [e, I.free] at g1
          cases g1
        · have z : H p.1 = none := by
            obtain ⟨_, o, ho, _⟩ := I.ok.funs.mem e
            exact I.base.free p.1 o ho (I.ok.frf p.1 e) fun z => I.ok.exfs p.1 z e
          rw [z] at g1
          cases g1
  · intro b o h
    obtain ⟨h1, h2⟩ := hid_some h
    exact (I.hok b o h1).stay (fun _ _ _ e => e) (fun c e => keep e (fun z => z)) fun c xs e => keep e (fun z => z)
end
section
variable {P : Program} {w : World} {fs : List Addr} {ps : List (Addr × HO)} {H G : Hp} {h h' : Heap}
theorem back_in {b : Addr} (hp : ∀ p ∈ ps, H p.1 = some p.2 ∧ plain p.2) (m : b ∈ ps.map (·.1)) : ∃ o, back ps G b = some o ∧ H b = some o ∧ plain o := by
  obtain ⟨o, h1, h2⟩ := look_in m
  refine ⟨o, ?_, (hp _ h2).1, (hp _ h2).2⟩
  unfold back
  rw [h1]
theorem un_back (u : Un fs [] (hid ps H) G h h') (hp : ∀ p ∈ ps, H p.1 = some p.2 ∧ plain p.2) : Un fs [] H (back ps G) h h' := by
  have none_of : ∀ {b : Addr}, H b = none → hid ps H b = none ∧ b ∉ ps.map (·.1) := fun {b} e => by
    have n : b ∉ ps.map (·.1) := fun m => by
      obtain ⟨p, h1, h2⟩ := List.mem_map.mp m
      have := (hp p h1).1
      rw [h2, e] at this
      cases this
    exact ⟨by rw [hid_out n]; exact e, n⟩
  have keep : ∀ {b : Addr} {o : HO}, H b = some o → ¬ plain o → hid ps H b = some o ∧ b ∉ ps.map (·.1) := fun {b o} e n => by
    have n2 : b ∉ ps.map (·.1) := fun m => by
      obtain ⟨o2, _, h2, h3⟩ := back_in (G := G) hp m
      rw [e] at h2
      cases h2
      exact n h3
    exact ⟨by rw [hid_out n2]; exact e, n2⟩
  refine ⟨fun b o e n hb hx => u.keep b o e (none_of n).1 hb hx, fun b o e n hb hx => u.slot b o e (none_of n).1 hb hx, fun b o e n hx => ?_, u.there, fun b xs e => ?_, fun b o v e => ?_, fun b qs e => ?_⟩
  · rw [back_out (none_of n).2]
    exact u.free b o e (none_of n).1 hx
  · obtain ⟨h1, h2⟩ := keep e (fun z => z)
    rw [back_out h2]
    exact u.tups b xs h1
  · obtain ⟨h1, h2⟩ := keep e (fun z => z)
    rw [back_out h2]
    exact u.frzs b o v h1
  · obtain ⟨h1, h2⟩ := keep e (fun z => z)
    obtain ⟨more, h3⟩ := u.tbls b qs h1
    exact ⟨more, by rw [back_out h2]; exact h3⟩
theorem ok_back (u : Un fs [] (hid ps H) G h h') (hp : ∀ p ∈ ps, H p.1 = some p.2 ∧ plain p.2) (nf : ∀ b ∈ fs, H b = none) (k1 : HOk P w H h) (k2 : HOk P w G h') : HOk P w (back ps G) h' := by
  have gone : ∀ {b : Addr}, b ∈ ps.map (·.1) → ∃ o ob, back ps G b = some o ∧ H b = some o ∧ plain o ∧ h.get? b = some ob ∧ h'.get? b = some ob ∧ G b = none := fun {b} m => by
    obtain ⟨o, h1, h2, h3⟩ := back_in (G := G) hp m
    obtain ⟨ob, h4, _⟩ := plain_obj h3 (k1 b o h2)
    have h5 : b ∉ fs := fun z => by
      rw [nf b z] at h2
      cases h2
    exact ⟨o, ob, h1, h2, h3, h4, u.keep b ob h4 (hid_in m) h5 (by simp), u.free b ob h4 (hid_in m) (by simp)⟩
  have out : ∀ {b : Addr} {o : HO}, G b = some o → back ps G b = some o := fun {b o} e => by
    rw [back_out]
    · exact e
    · intro m
      obtain ⟨_, _, _, _, _, _, _, h1⟩ := gone m
      rw [h1] at e
      cases e
  intro b o e
  by_cases m : b ∈ ps.map (·.1)
  · obtain ⟨o2, ob, h1, h2, h3, h4, h5, h6⟩ := gone m
    rw [h1] at e
    cases e
    exact plain_at h3 (k1 b _ h2) fun v hv => by
      rw [h4] at hv
      cases hv
      exact h5
  · rw [back_out m] at e
    exact (k2 b o e).stay (fun _ _ _ z => z) (fun c z => out z) fun c xs z => out z
end
/-- f(..) while some things are out of sight -/
def tCallH (sp : Sp) (t : TA) : TE := fun σ H Q => t σ H fun vs H1 => ∃ ps : List (Addr × HO), (∀ p ∈ ps, H1 p.1 = some p.2 ∧ plain p.2) ∧ sp vs (hid ps H1) (fun v G => (∀ p ∈ ps, G p.1 = none) → Q v (back ps G)) E0
section
variable {X : Cx} {k j : Nat} {x : Str} {sp : Sp} {p pos : Pos} {e : Expr} {es : List Expr} {t : TA}
theorem pe_gH (c : Cg X.prog X.w X.K X.mg X.base k x sp) (hr : Room j X.A) (hg : X.A.guards = some []) (hk : k ≤ j) (hx : Gl X x) (ha : PA X (e :: es) t)
    (h1 : (x == ("__debug__" : Str)) = false := by decide) (h2 : starEach (e :: es) X.env = (false, eval e X.env) :: starEach es X.env := by rfl) (h3 : (backTo pos (starEach es X.env)).any (·.1) = false := by rfl) :
    PE X (.Call (.Name x p) (e :: es) [] pos) (tCallH sp t) := by
  obtain ⟨f, fd, pms, F, hm, kp, b⟩ := c.ex
  refine ⟨fun pins s σ H Q I h => wpAny_Call_Name_kw (ld_glob I hx hm ?_ h1)⟩
  refine PySem.W.callWith_K (h₀ := X.base) I.ok.mod.kin kp (thn (ha.run pos pins s σ H _ I h) ?_) h2 h3
  rintro us s1 ⟨vs, G, J, r, ps, hp, q⟩
  refine ⟨J.kIn, ?_⟩
  have bt := b s1 us J.kIn (by rw [List.append_nil, ← r.length]; exact F.many _ _ _ _ q)
  rw [List.append_nil] at bt
  obtain ⟨pins2, _, _, J2⟩ := inv_hid J hp
  refine wpAny_call (codeAny_mono (F.runs X.A X.stack s1 _ _ us vs _ E0 (hr.mono hk) hg J2.env0 bt r q) fun w2 s2 h => ?_)
  cases w2 with
  | error z => exact False.elim h
  | ok fl =>
    cases fl with
    | ret u =>
      obtain ⟨v, G2, os, bare, un, hok, rv, q2⟩ := h
      refine J.after ⟨v, back ps G2, os, bare, un_back un hp, ok_back un hp J.stkFree J.hok hok, rv, q2 fun p h => ?_⟩
      obtain ⟨ob, h4, _⟩ := plain_obj (hp p h).2 (J.hok _ _ (hp p h).1)
      exact un.free p.1 ob h4 (hid_in (List.mem_map.mpr ⟨p, h, rfl⟩)) (by simp)
    | next => exact False.elim h
    | brk => exact False.elim h
    | cont => exact False.elim h
end
/-! one list put aside -/
def rem (s : Addr) (H : Hp) : Hp := fun b => if b = s then none else H b
theorem rem_at {s : Addr} {H : Hp} : rem s H s = none := if_pos rfl
theorem rem_ne {s b : Addr} {H : Hp} (h : b ≠ s) : rem s H b = H b := if_neg h
theorem rem_upd {s : Addr} {H : Hp} {o : HO} : rem s (upd H s o) = rem s H := by
  funext b
  by_cases h : b = s
  · rw [h, rem_at, rem_at]
  · rw [rem_ne h, rem_ne h, upd_ne h]
theorem rem_none {s : Addr} {H : Hp} (h : H s = none) : rem s H = H := by
  funext b
  by_cases e : b = s
  · rw [e, rem_at, h]
  · rw [rem_ne e]
theorem hid1 {s : Addr} {o : HO} {H : Hp} : hid [(s, o)] H = rem s H := by
  funext b
  by_cases e : b = s
  · rw [e, rem_at]
    exact hid_in (by simp)
  · rw [rem_ne e]
    exact hid_out (by simpa using e)
theorem back1 {s : Addr} {o : HO} {H : Hp} : back [(s, o)] H = upd H s o := by
  funext b
  by_cases e : b = s
  · subst e
    rw [upd_same]
    unfold back
    simp [List.lookup]
  · rw [upd_ne e]
    exact back_out (by simpa using e)
theorem same_rem {s : Addr} {H : Hp} : Same (rem s H) H := fun b o h => by
  by_cases e : b = s
  · rw [e, rem_at] at h
    cases h
  · rw [rem_ne e] at h
    exact h
/-- what was kept is kept behind the list's back -/
theorem rem_kb {p s : Addr} {H G : Hp} (e : Kb p H G) : Kb p (rem s H) (rem s G) := fun b o h n => by
  by_cases z : b = s
  · rw [z, rem_at] at h
    cases h
  · rw [rem_ne z] at h ⊢
    exact e b o h n
theorem rem_same {s : Addr} {H G : Hp} (e : Same H G) : Same (rem s H) (rem s G) := fun b o h => by
  by_cases z : b = s
  · rw [z, rem_at] at h
    cases h
  · rw [rem_ne z] at h ⊢
    exact e b o h
/-- one list put aside at a call -/
theorem callH1 {sp : Sp} {vs : List V} {H1 : Hp} {Q : VK} {s : Addr} {xs : List V} (h : H1 s = some (.lst xs)) (q : sp vs (rem s H1) (fun v G => G s = none → Q v (upd G s (.lst xs))) E0) :
    ∃ ps : List (Addr × HO), (∀ p ∈ ps, H1 p.1 = some p.2 ∧ plain p.2) ∧ sp vs (hid ps H1) (fun v G => (∀ p ∈ ps, G p.1 = none) → Q v (back ps G)) E0 := by
  refine ⟨[(s, .lst xs)], fun p hp => ?_, ?_⟩
  · rw [List.mem_singleton] at hp
    subst hp
    exact ⟨h, trivial⟩
  · rw [hid1]
    simpa only [back1, List.mem_singleton, forall_eq] using q
end RG
end RGj
section RGk
/-! dict([(k, k) for k in range(n)]); small texts -/
namespace RG
open PySem PySem.Spec PyProof.Rows L2
theorem new_ex {G : Hp} {t : Addr} {o : HO} (h : G t = none) : ∃ G', G' = L2.upd G t o ∧ Same G G' ∧ G' t = some o := ⟨_, rfl, same_new h, upd_same⟩
/-- the pairs (0, 0), (1, 1), .. -/
def twins (n : Nat) : List (Key × V) := (List.range n).map fun k => (Sum.inl ((k : Nat) : Int), V.int ((k : Nat) : Int))
theorem twins_snoc (n : Nat) : twins (n + 1) = twins n ++ [(Sum.inl (n : Int), V.int (n : Int))] := by
  unfold twins
  rw [List.range_succ, List.map_append]
  rfl
def TwinsP (H : Hp) (D : Addr) (i : Nat) (G : Hp) : Prop := Same H G ∧ ∃ ps : List Addr, ps.length = i ∧ G D = some (.lst (ps.map V.ref)) ∧ Paired (fun p kv => G p = some (.tup [kV kv.1, kv.2])) ps (twins i)
theorem comp_twins {K : PySem.W.Frag} {D : Addr} {n : Nat} {te : TE} {j : Nat} {σ : L2.St} {H : Hp} {Qd : Hp → Prop} (hD : H D = none) (hz : n < sizeLine)
    (each : ∀ (i : Nat), i < n → ∀ G, Same H G → ∀ Q : VK, (∀ p, G p = none → Q (.ref p) (upd G p (.tup [.int (i : Int), .int (i : Int)]))) → te ((σ.set j none).set j (some (.int (0 + i)))) G Q)
    (done : ∀ (G : Hp) (ps : List Addr), Same H G → G D = some (.lst (ps.map V.ref)) → Paired (fun p kv => SqT K G p [kV kv.1, kv.2]) ps (twins n) → Qd G) :
    ∃ W : Nat → Nat → Hp → Prop, (∃ m, W 0 m (upd H D (.lst []))) ∧ ∀ i m G, W i m G →
      ((Itr 0 n).stop i G ∧ Qd G) ∨ ((Itr 0 n).go i G ∧ ∃ Nx : Hp → Prop, (∀ H', Nx H' → ∃ m', m' < m ∧ W (i + 1) m' H') ∧ ∀ x H', (Itr 0 n).yld i G x H' → gName j x (wipe σ [j]) H' fun σ2 H2 => wipe σ2 [j] = wipe σ [j] ∧ tYes σ2 H2 fun b H3 =>
        if b = true then te σ2 H3 fun y H4 => ∃ acc, H4 D = some (.lst acc) ∧ acc.length < sizeLine ∧ Nx (upd H4 D (.lst (acc ++ [y]))) else Nx H3) := by
  refine lc_range (TwinsP H D) ⟨same_new hD, [], rfl, upd_same, .nil⟩ (fun i G hi h => ?_) fun G h => ?_
  · obtain ⟨e, ps, hl, hd, pp⟩ := h
    refine ⟨?_, ?_⟩
    · show ((σ.set j none).set j (some (V.int (0 + i)))).set j none = σ.set j none
      rw [List.set_set, List.set_set]
    · show (if true = true then (te ((σ.set j none).set j (some (V.int (0 + i)))) G fun y H4 => ∃ acc, H4 D = some (.lst acc) ∧ acc.length < sizeLine ∧ TwinsP H D (i + 1) (upd H4 D (.lst (acc ++ [y])))) else TwinsP H D (i + 1) G)
      rw [if_pos rfl]
      refine each i hi G e _ fun p hp => ?_
      have hpD : D ≠ p := fun z => by rw [← z, hd] at hp; cases hp
      refine ⟨_, by rw [upd_ne hpD]; exact hd, by rw [List.length_map]; omega, same_mut (e.trans (same_new hp)) hD, ps ++ [p], by rw [List.length_append, hl]; rfl, by rw [upd_same, List.map_append]; rfl, ?_⟩
      rw [twins_snoc]
      refine Paired.snoc (Paired.mapP pp fun q kv z => ?_) ?_
      · have hq : q ≠ D := fun e2 => by rw [e2, hd] at z; cases z
        have hq2 : q ≠ p := fun e2 => by rw [e2, hp] at z; cases z
        rw [upd_ne hq, upd_ne hq2]
        exact z
      · rw [upd_ne hpD.symm, upd_same]
        rfl
  · obtain ⟨e, ps, hl, hd, pp⟩ := h
    exact done G ps e hd (Paired.mapP pp fun p kv z => SqT.of z)
/-- small entries -/
def small (kv : Key × V) : Prop := ∃ a b : Int, kv = (Sum.inl a, V.int b) ∧ a.natAbs < 1000 ∧ b.natAbs < 1000
theorem small_put {kvs : List (Key × V)} {k : Key} {v : V} (h : ∀ kv ∈ kvs, small kv) (hk : small (k, v)) : ∀ kv ∈ putK kvs k v, small kv := by
  intro kv m
  unfold putK at m
  split at m
  · obtain ⟨q, m1, rfl⟩ := List.mem_map.mp m
    split
    · rename_i e
      rw [e]
      exact hk
    · exact h q m1
  · rcases List.mem_append.mp m with m | m
    · exact h kv m
    · rw [List.mem_singleton] at m
      rw [m]
      exact hk
theorem put_len (kvs : List (Key × V)) (k : Key) (v : V) : (putK kvs k v).length ≤ kvs.length + 1 := by
  unfold putK
  split
  · rw [List.length_map]
    exact Nat.le_succ _
  · rw [List.length_append]
    exact Nat.le_refl _
theorem small_merge : ∀ {more kvs : List (Key × V)}, (∀ kv ∈ kvs, small kv) → (∀ kv ∈ more, small kv) → (∀ kv ∈ mergeK kvs more, small kv) ∧ (mergeK kvs more).length ≤ kvs.length + more.length
  | [], kvs, h, _ => ⟨h, Nat.le_refl _⟩
  | kv :: more, kvs, h, h2 => by
    have h3 := small_merge (more := more) (small_put h (h2 kv List.mem_cons_self)) fun q hq => h2 q (List.mem_cons_of_mem _ hq)
    refine ⟨h3.1, Nat.le_trans h3.2 ?_⟩
    have := put_len kvs kv.1 kv.2
    rw [List.length_cons]
    omega
theorem small_twins {n : Nat} (h : n ≤ 1000) : ∀ kv ∈ twins n, small kv := by
  intro kv m
  obtain ⟨k, hk, rfl⟩ := List.mem_map.mp m
  have := List.mem_range.mp hk
  exact ⟨_, _, rfl, by omega, by omega⟩
theorem twins_len (n : Nat) : (twins n).length = n := by
  unfold twins
  rw [List.length_map, List.length_range]
theorem small_noPen {kvs : List (Key × V)} (h : ∀ kv ∈ kvs, small kv) : isPen kvs = false := by
  cases kvs with
  | nil => rfl
  | cons kv kvs =>
    obtain ⟨a, b, rfl, _⟩ := h _ List.mem_cons_self
    rfl
theorem dict_len (ts : List Str) : (dictText ts).length ≤ piled ts + 2 := by
  unfold dictText
  rw [strLen_append, strLen_append]
  have h := join_le ts
  have h1 : (("{" : Str)).length = 1 := by decide +kernel
  have h2 : (("}" : Str)).length = 1 := by decide +kernel
  omega
theorem small_data {K : PySem.W.Frag} {H : Hp} : ∀ {kvs : List (Key × V)}, (∀ kv ∈ kvs, small kv) → ∃ ds, DdKv K H kvs ds ∧ PyData.showableKv ds = true ∧ piled (PyData.shownKv ds) ≤ 12 * kvs.length ∧ PyData.depthKv ds = 0
  | [], _ => ⟨[], .nil, rfl, Nat.le_refl 0, rfl⟩
  | kv :: kvs, h => by
    obtain ⟨a, b, rfl, ha, hb⟩ := h _ List.mem_cons_self
    obtain ⟨ds, h1, h2, h3, h4⟩ := small_data (K := K) (H := H) fun q hq => h q (List.mem_cons_of_mem _ hq)
    have fa := fit_int (k := 3) (by decide) (by decide) ha
    have fb := fit_int (k := 3) (by decide) (by decide) hb
    refine ⟨(.int a, .int b) :: ds, .cons (k := Sum.inl a) (.int b) h1, ?_, ?_, ?_⟩
    · simp only [PyData.showableKv, fa.sh, fb.sh, h2, Bool.and_self]
    · simp only [PyData.shownKv, piled_cons, strLen_append, List.length_cons]
      have e1 := fa.le
      have e2 := fb.le
      have h1 : ((": " : Str)).length = 2 := by decide +kernel
      omega
    · simp only [PyData.depthKv, PyData.depth, h4]
      rfl
/-- a dict of small entries is data that fits -/
theorem small_dict {K : PySem.W.Frag} {H : Hp} {p : Addr} {kvs : List (Key × V)} {n : Nat} (h : ∀ kv ∈ kvs, small kv) (hl : kvs.length ≤ n) (hp : H p = some (.dK kvs)) : ∃ d, Dd K H (.ref p) d ∧ Fit (12 * n + 2) 1 d ∧ ∀ es, d ≠ .tuple es := by
  obtain ⟨ds, h1, h2, h3, h4⟩ := small_data (K := K) (H := H) h
  refine ⟨.dict ds, .dct (.inl hp) (small_noPen h) h1, ⟨by simpa only [PyData.showable] using h2, ?_, by simp only [PyData.depth, h4]; exact Nat.le_refl 1⟩, fun es e => by cases e⟩
  simp only [PyData.shown]
  have := dict_len (PyData.shownKv ds)
  omega
theorem tuple_fits {W D : Nat} {es : List PyData} (h : Fit W (D + 1) (.tuple es)) : Fits (W + 2) D es := by
  have h1 := h.sh
  have h2 := h.le
  have h3 := h.dp
  refine ⟨by simpa only [PyData.showable] using h1, ?_, ?_⟩
  · rw [← pl_piled]
    cases hts : PyData.shownAll es with
    | nil => exact Nat.zero_le _
    | cons t ts =>
      simp only [PyData.shown, tupleText, strLen_append, hts] at h2
      have := join_length_add (t :: ts) (by simp)
      omega
  · simp only [PyData.depth] at h3
    omega
theorem fits_ints : ∀ {ns : List Int}, (∀ k ∈ ns, k.natAbs < 1000) → Fits (6 * ns.length) 0 (ns.map PyData.int)
  | [], _ => Fits.nil
  | n :: ns, h => by
    have h1 := fit_int (k := 3) (by decide) (by decide) (h n List.mem_cons_self)
    have h2 := fits_ints fun k hk => h k (List.mem_cons_of_mem _ hk)
    have e1 := h1.le
    have e2 := h2.le
    refine ⟨?_, ?_, ?_⟩
    · rw [List.map_cons]
      simp only [PyData.showableAll, h1.sh, h2.sh, Bool.and_self]
    · rw [List.map_cons, pl_cons, List.length_cons]
      omega
    · rw [List.map_cons]
      simp only [PyData.depthAll]
      exact Nat.max_le.mpr ⟨h1.dp, h2.dp⟩
end RG
end RGk
section RGl
/-! enumerate of a tuple; min of a tuple of ints -/
namespace RG
open PySem PySem.Spec PyProof.Rows L2
section
variable {prog : Program} {w : World} {A : Around} {E : Value → Shared → Prop} {s : Shared}
/-- enumerate.__new__ of one thing that can be gone through -/
theorem enum_new1 {v : Value} {o : Obj} {G : Heap → Prop} (B : Begins v o G) :
    Meets (Builtin.«enumerate.__new__» ⟨[.type "enumerate", v], []⟩) (fun _ R s => G s.heap ∧
      R (.ok (.ret (.ref (s.heap.push o).objs.size))) { s with heap := (s.heap.push o).push { cls := .type "enumerate", data := .fields #[.none, .bool false, .ref s.heap.objs.size, rawInt 0, .none, .none] } }) :=
  .of_wp fun prog w A R s pre => by
    obtain ⟨hp, gs, dr, tk, os⟩ := s
    obtain ⟨pre1, fin⟩ := pre
    have isub := sub_enumerate
    have go : ∀ {A' : Around} {E : Value → Shared → Prop} {Q : Value → Shared → Prop}, Q (.ref hp.objs.size) ⟨hp.push o, gs, dr, tk, os⟩ → wpAny (model prog w) A' (pyIter v) Q E ⟨hp, gs, dr, tk, os⟩ :=
      fun q => B.iter prog w _ _ ⟨hp, gs, dr, tk, os⟩ _ pre1 q
    wp_walk using go
    refine wpAny_stack_any fun frames => wpAny_pure ?_
    split
    · rename_i c _ _ _ _ _
      cases (c == Value.type "enumerate")
      · wp_walk using go
        exact ⟨_, rfl, fin⟩
      · wp_walk using go
        exact ⟨_, rfl, fin⟩
    · wp_walk using go
      exact ⟨_, rfl, fin⟩
theorem call_enumT {t : Addr} {items : Array Value} {Q : Value → Shared → Prop} (ht : s.heap.IsTuple t items)
    (k : ∀ h', IsEnum h' (s.heap.objs.size + 1) s.heap.objs.size 0 .none → h'.IsTupleIter s.heap.objs.size t 0 → h'.objs.size = s.heap.objs.size + 2 →
      (∀ b o, s.heap.get? b = some o → h'.get? b = some o) → Q (.ref (s.heap.objs.size + 1)) { s with heap := h' }) : wpAny (model prog w) A (call (.type "enumerate") [.ref t]) Q E s := by
  refine callType_new F.called_enumerate (by decide) (F.typeCall_enumerate_1 _) (F.newCall_enumerate_1 _) (fun obj => F.args_object_init_2 obj _) F.entry_enumerate_new (enum_new1 (begins_tuple t items)) ⟨ht, ?_⟩
  have size1 : (s.heap.push { cls := .type "tuple_iterator", data := .fields #[.ref t, .int 0 0] }).objs.size = s.heap.objs.size + 1 := Heap.size_push ..
  show _ ∧ _
  rw [size1]
  have en : IsEnum ((s.heap.push { cls := .type "tuple_iterator", data := .fields #[.ref t, .int 0 0] }).push { cls := .type "enumerate", data := .fields #[.none, .bool false, .ref s.heap.objs.size, rawInt 0, .none, .none] }) (s.heap.objs.size + 1) s.heap.objs.size 0 .none := by
    have at1 := Heap.get?_push_size (s.heap.push { cls := .type "tuple_iterator", data := .fields #[.ref t, .int 0 0] }) (o := { cls := .type "enumerate", data := .fields #[.none, .bool false, .ref s.heap.objs.size, rawInt 0, .none, .none] }) rfl
    rw [size1] at at1
    exact at1
  exact ⟨⟨_, en, rfl⟩, k _ en ⟨_, Heap.get?_push_of_some _ (Heap.get?_push_size _ rfl), rfl, rfl⟩ (by rw [Heap.size_push, size1]) fun b o x => Heap.get?_push_of_some _ (Heap.get?_push_of_some _ x)⟩
/-- min of a tuple of ints -/
theorem min_tupI {t : Addr} {xs : Array (Int × Tok)} {Q : Value → Shared → Prop} (hh : A.handled = none) (ht : s.heap.IsTuple t (intItems xs)) (n0 : 0 < xs.size)
    (k : ∀ v h' tk, (intItems xs)[argBest (fun i j => decide (numAt xs i < numAt xs j)) (xs.size - 1)]? = some v → (∀ b o, s.heap.get? b = some o → h'.get? b = some o) → Q v { s with heap := h', toks := tk }) : wpAny (model prog w) A (call (.builtin "min") [.ref t]) Q E s := by
  have below : t < s.heap.objs.size := by
    obtain ⟨_, e, _⟩ := ht
    exact Heap.lt_size e
  refine call_min_walk (wpAny_pyIter_tuple ht ?_)
  refine ⟨_, _, _, _, _, _, _, rfl, Walks.tuple (A := A.in1) hh s.heap.objs.size t (Nat.ne_of_lt below) (intItems xs), ⟨⟨_, Heap.get?_push_size _ rfl, rfl, rfl⟩, ht.push _⟩, fun b hb => ?_, by simpa [intItems] using n0, CmpOf.ints_lt (numAt xs) (fun _ _ => intItems_at), fun v h' tk hP hk => ?_⟩
  · show b < (s.heap.push _).objs.size
    rw [Heap.size_push]
    rcases List.mem_cons.mp hb with rfl | hb
    · exact Nat.lt_succ_self _
    · rcases List.mem_cons.mp hb with rfl | hb
      · exact Nat.lt_succ_of_lt below
      · cases hb
  · exact k v h' tk (by simpa [intItems] using hP) fun b o e => hk b o (by simpa using Nat.ne_of_lt (Heap.lt_size e)) (Heap.get?_push_of_some _ e)
end
/-! the rule for enumerate(t), t a tuple -/
def ItE (K : PySem.W.Frag) (a : Addr) : It :=
  ⟨fun i H => ∃ (xs : List V) (x : V), SqT K H a xs ∧ xs[i]? = some x, fun i H v H' => ∃ T x, v = .ref T ∧ H T = none ∧ H' = upd H T (.tup [.int (i : Nat), x]) ∧ ∀ xs, SqT K H a xs → xs[i]? = some x,
    fun i H => ∃ xs : List V, SqT K H a xs ∧ xs.length = i⟩
theorem turn_enumT {P : Program} {w : World} {K : PySem.W.Frag} {elts : List Expr} {kk : Nat} {tpos : Pos} (a e it : Addr) :
    Turn P w K (.Tuple elts kk tpos) (ItE K a) [e, it] e (fun i h => (∃ old, IsEnum h e it ((i : Nat) : Int) old) ∧ h.IsTupleIter it a i ∧ e ≠ it) where
  mem := by simp
  obj := fun i h st b hb => by
    obtain ⟨⟨old, h1⟩, ⟨o, h2, h3, h4⟩, _⟩ := st
    rcases (show b = e ∨ b = it by simpa using hb) with rfl | rfl
    · exact ⟨_, h1, fun v q => nomatch q⟩
    · exact ⟨o, h2, fun v q => by rw [h4] at q; cases q⟩
  keep := fun i h h' st k => by
    obtain ⟨⟨old, h1⟩, h2, ne⟩ := st
    exact ⟨⟨old, k e (by simp) _ h1⟩, h2.at fun o q => k it (by simp) o q, ne⟩
  item := by
    intro X hP hw hK hc i pins s σ H E I hf st hg
    subst hP hw hK
    obtain ⟨⟨old, h1⟩, h2, ne⟩ := st
    obtain ⟨xs, x, hq, hx⟩ := hg
    obtain ⟨its, rv, p, _⟩ := I.tuple hq
    obtain ⟨u, hu, ru⟩ := rv.get hx
    have le := Heap.lt_size h1
    have lt : it < s.heap.objs.size := by
      obtain ⟨_, q, _⟩ := h2
      exact Heap.lt_size q
    have pt : s.heap.IsTuple a its.toArray := p
    have ha : a ≠ it := by
      rintro rfl
      obtain ⟨o1, q1, q2, _⟩ := pt
      obtain ⟨o2, q3, q4, _⟩ := h2
      rw [q1] at q3
      cases q3
      rw [q2] at q4
      exact absurd q4 (by decide)
    have hea : e ≠ a := by
      rintro rfl
      obtain ⟨o1, q1, q2, _⟩ := pt
      have q3 : s.heap.get? e = _ := h1
      rw [q1] at q3
      cases q3
      have q5 : Value.type "enumerate" = Value.type "tuple" := q2
      exact absurd q5 (by decide)
    have ef : e ∉ [it, a] := fun m => by
      rcases List.mem_cons.mp m with z | m
      · exact ne z
      · exact hea (List.mem_singleton.mp m)
    have small : i < its.toArray.size := by
      rw [List.size_toArray]
      exact (List.getElem?_eq_some_iff.mp hu).1
    refine wpAny_pyNext_enum_itemD (Draws.tuple (A := X.A.in1) (show X.A.in1.handled = none from I.ok.hd hc) it a ha its.toArray) h1 ⟨h2, pt⟩ small ne ef fun y h' tk hy ho st' hT hsz hk => ?_
    obtain rfl : y = u := by
      have hy2 : its.toArray[i]? = some y := hy
      rw [List.getElem?_toArray, hu] at hy2
      exact (Option.some.inj hy2).symm
    refine ⟨_, rfl, wpAny_letOwnedTupleGo_enum (s := { s with heap := h', toks := tk + 1 }) ho fun g he' sb => ?_⟩
    have hT2 : g.get? s.heap.objs.size = some { cls := .type "tuple", data := .seq #[.int i tk, y] } := (sb.2 _ (Nat.ne_of_gt le)).trans hT
    have new : ObjOk X.prog X.w (upd H s.heap.objs.size (.tup [.int (i : Nat), x])) g s.heap.objs.size (.tup [.int (i : Nat), x]) :=
      ⟨show 2 ≤ sizeLine by decide, [.int i tk, y], .cons ⟨_, rfl⟩ (.cons ru .nil), ⟨_, hT2, rfl, _, rfl⟩⟩
    have J : Inv X pins σ (upd H s.heap.objs.size (.tup [.int (i : Nat), x])) { s with heap := g, toks := tk + 1 } :=
      I.turnedNew (ch := [e, it]) (fun b ob hb q => (sb.2 b (fun z => hb (by simp [z]))).trans (hk b ob (fun z => hb (by simp [z])) (fun z => hb (by simp [z])) q)) hf (Nat.le_refl _) new
    refine ⟨.ref s.heap.objs.size, _, J, rfl, ⟨_, x, rfl, I.hok.fresh (Nat.le_refl _), rfl, fun ys hy => by rw [I.tuple_inj hy hq]; exact hx⟩, ⟨⟨y, ?_⟩, st'.1.at fun o q => (sb.2 it (Ne.symm ne)).trans q, ne⟩, fun b hb => ?_⟩
    · rw [show ((i + 1 : Nat) : Int) = (i : Int) + 1 by omega]
      exact he'
    · have hb2 : b < s.heap.objs.size := by
        rcases (show b = e ∨ b = it by simpa using hb) with z | z
        · rw [z]; exact le
        · rw [z]; exact lt
      rw [upd_ne (Nat.ne_of_lt hb2)]
      exact (hf b hb).1
  done := by
    intro X hP hw hK hc i pins s σ H E I hf st hg
    subst hP hw hK
    obtain ⟨⟨old, h1⟩, h2, ne⟩ := st
    obtain ⟨xs, hq, hx⟩ := hg
    obtain ⟨its, rv, p, _⟩ := I.tuple hq
    have pt : s.heap.IsTuple a its.toArray := p
    obtain ⟨f0, f1, f2, f3, f4, f5⟩ := hf it (by simp)
    have ll := rv.length
    have ha : a ≠ it := by
      rintro rfl
      obtain ⟨o1, q1, q2, _⟩ := pt
      obtain ⟨o2, q3, q4, _⟩ := h2
      rw [q1] at q3
      cases q3
      rw [q2] at q4
      exact absurd q4 (by decide)
    have nn : its.toArray.size = i := by
      rw [List.size_toArray]
      omega
    refine wpAny_pyNext_enum_endD (Draws.tuple (A := X.A.in1) (show X.A.in1.handled = none from I.ok.hd hc) it a ha its.toArray) h1 (by rw [nn]; exact ⟨h2, pt⟩) fun h' eb => ⟨rfl, I.turned (t' := s.toks) (fun b o hb q => eb b o hb q) f0 f1 f3 f4 f5⟩
  self := fun A i s Q E st h => by
    obtain ⟨⟨_, h1⟩, _⟩ := st
    exact wpAny_pyIter_enum h1 h
def iEnumT (K : PySem.W.Frag) (ta : TA) : TI := fun σ H R => ta σ H fun vs H1 => ∃ a xs, vs = [.ref a] ∧ SqT K H1 a xs ∧ R (ItE K a) H1
theorem pi_enumT {X : Cx} {e : Expr} {ta : TA} {p pos tpos : Pos} {elts : List Expr} {kk : Nat} (hg : Gl X "enumerate") (hm : X.mg "enumerate" = none) (ha : PA X [e] ta)
    (hs : starEach [e] X.env = [(false, eval e X.env)] := by rfl) : PI X (.Tuple elts kk tpos) (.Call (.Name "enumerate" p) [e] [] pos) (iEnumT X.K ta) := by
  refine ⟨fun pins s σ H R I h => Call_ (ld_blt I hg hm boot_enumerate (PyProof.Rows.callWith_type1 (thn (ha.run pos pins s σ H _ I h) ?_) hs rfl))⟩
  rintro us s1 ⟨vs, H1, J, r, a, xs, rfl, hq, q⟩
  obtain rfl := Vals.ref1 r
  obtain ⟨its, rv, pt, _⟩ := J.tuple hq
  refine call_enumT (items := its.toArray) pt fun h' en ti sz keep => wpAny_pyIter_enum en ?_
  have J2 : Inv X pins σ H1 { s1 with heap := h' } := J.kept (t' := s1.toks) keep
  refine ⟨s1.heap.objs.size + 1, [s1.heap.objs.size + 1, s1.heap.objs.size], _, _, H1, rfl, J2, turn_enumT a (s1.heap.objs.size + 1) s1.heap.objs.size, ⟨⟨.none, en⟩, ti, Nat.succ_ne_self _⟩, fun b hb => ?_, q⟩
  have up : s1.heap.objs.size ≤ b := by
    rcases (show b = s1.heap.objs.size + 1 ∨ b = s1.heap.objs.size by simpa using hb) with z | z
    · rw [z]
      exact Nat.le_succ _
    · rw [z]
      exact Nat.le_refl _
  exact J.fpOk up (J.hok.fresh up)
/-- for k, x in enumerate(t) -/
theorem for_enumT {K : PySem.W.Frag} {a : Addr} {xs : List V} {g : TG} {tb : TS} {D : Ends} {σ : L2.St} {H : Hp} (Pv : Nat → L2.St → Hp → Prop) (h0 : Pv 0 σ H) (hl : ∀ i σ H, i ≤ xs.length → Pv i σ H → SqT K H a xs)
    (hs : ∀ i x σ H T, xs[i]? = some x → Pv i σ H → H T = none → g (.ref T) σ (upd H T (.tup [.int (i : Nat), x])) fun σ2 H2 => tb { D with nx := Pv (i + 1), ct := Pv (i + 1), bk := D.nx } σ2 H2) (hd : ∀ σ H, Pv xs.length σ H → D.nx σ H) :
    ∃ W : Nat → Nat → L2.St → Hp → Prop, (∃ m, W 0 m σ H) ∧ ∀ i m σ H, W i m σ H →
      ((ItE K a).stop i H ∧ D.nx σ H) ∨ ((ItE K a).go i H ∧ ∃ N : L2.St → Hp → Prop, (∀ σ' H', N σ' H' → ∃ m', m' < m ∧ W (i + 1) m' σ' H') ∧ ∀ x H', (ItE K a).yld i H x H' → g x σ H' fun σ2 H2 => tb { D with nx := N, ct := N, bk := D.nx } σ2 H2) := by
  refine ⟨fun i m σ H => m = xs.length - i ∧ i ≤ xs.length ∧ Pv i σ H, ⟨xs.length, rfl, Nat.zero_le _, h0⟩, ?_⟩
  rintro i m σ H ⟨rfl, hi, p⟩
  have q := hl i σ H hi p
  by_cases hlt : i < xs.length
  · refine .inr ⟨⟨xs, xs[i], q, List.getElem?_eq_getElem hlt⟩, Pv (i + 1), fun σ' H' p' => ⟨xs.length - (i + 1), by omega, rfl, hlt, p'⟩, fun x H' y => ?_⟩
    obtain ⟨T, z, rfl, hT, rfl, y⟩ := y
    exact hs i z σ H T (y xs q) p hT
  · obtain rfl : i = xs.length := by omega
    exact .inl ⟨⟨xs, q, rfl⟩, hd σ H p⟩
section
variable {X : Cx}
def rMinT (K : PySem.W.Frag) : List V → Hp → VK → Prop := fun vs H Q => ∃ (a : Addr) (ns : List Int), vs = [V.ref a] ∧ SqT K H a (ns.map V.int) ∧ 0 < ns.length ∧ ∀ m, m ∈ ns → (∀ y ∈ ns, m ≤ y) → Q (.int m) H
theorem cr_minT (hc : X.calm = true) : CallR X (.builtin "min") (rMinT X.K) := by
  intro pins s σ H vs us Q I r h
  obtain ⟨a, ns, rfl, hs, n0, q⟩ := h
  obtain ⟨its, rv, pt, _⟩ := I.tuple hs
  rw [Vals.ref1 r]
  have hi := rv.ints
  obtain ⟨xs, e⟩ := hi.allInts.items
  have hn : numsOf (intItems xs).toList = ns := by rw [← e]; exact hi.numsOf
  rw [nums_intItems] at hn
  subst hn
  have pt2 : s.heap.IsTuple a (intItems xs) := by rw [← e]; exact pt
  have len : 0 < xs.size := by simpa using n0
  refine min_tupI (I.ok.hd hc) pt2 len fun v h' tk hv keep => ?_
  obtain ⟨t, rfl⟩ := intItems_at hv
  obtain ⟨b1, b2⟩ := argBest_lt (numAt xs) (xs.size - 1)
  refine ⟨.int _, H, I.kept keep, ⟨_, rfl⟩, q _ ?_ fun y hy => ?_⟩
  · rw [numAt_eq]
    exact PySem.getD_mem (by rw [List.length_map, Array.length_toList]; omega)
  · obtain ⟨j, hj, rfl⟩ := mem_getD hy
    rw [List.length_map, Array.length_toList] at hj
    rw [← numAt_eq]
    exact b2 j (by omega)
end
end RG
end RGl
section RGm
/-! arrangements as maps of places: going on, the rounds' lengths -/
namespace RG
open PySem PySem.Spec PyProof.Rows L2
def goes (p : Nat → Nat) : Nat → Nat → Nat
  | 0, x => x
  | m + 1, x => p (goes p m x)
theorem goes_add (p : Nat → Nat) (a b x : Nat) : goes p (a + b) x = goes p a (goes p b x) := by
  induction a with
  | zero => rw [Nat.zero_add]; rfl
  | succ a ih => rw [Nat.succ_add]; show p _ = p _; rw [ih]
theorem goes_one (p : Nat → Nat) (x : Nat) : goes p 1 x = p x := rfl
theorem goes_next (p : Nat → Nat) (m x : Nat) : goes p (m + 1) x = goes p m (p x) := goes_add p m 1 x
theorem goes_mul (p : Nat → Nat) (a b x : Nat) : goes (goes p a) b x = goes p (b * a) x := by
  induction b with
  | zero => rw [Nat.zero_mul]; rfl
  | succ b ih =>
    show goes p a (goes (goes p a) b x) = _
    rw [ih, ← goes_add, Nat.succ_mul, Nat.add_comm]
structure IsP (n : Nat) (p : Nat → Nat) : Prop where
  lt : ∀ x, x < n → p x < n
  inj : ∀ x y, x < n → y < n → p x = p y → x = y
  sur : ∀ y, y < n → ∃ x, x < n ∧ p x = y
theorem IsP.id (n : Nat) : IsP n fun x => x := ⟨fun _ h => h, fun _ _ _ _ h => h, fun y h => ⟨y, h, rfl⟩⟩
theorem IsP.comp {n : Nat} {p q : Nat → Nat} (hp : IsP n p) (hq : IsP n q) : IsP n fun x => q (p x) := by
  refine ⟨fun x h => hq.lt _ (hp.lt x h), fun x y hx hy h => hp.inj x y hx hy (hq.inj _ _ (hp.lt x hx) (hp.lt y hy) h), fun y h => ?_⟩
  obtain ⟨z, h1, rfl⟩ := hq.sur y h
  obtain ⟨x, h2, rfl⟩ := hp.sur z h1
  exact ⟨x, h2, rfl⟩
theorem IsP.pow {n : Nat} {p : Nat → Nat} (hp : IsP n p) : ∀ m, IsP n (goes p m)
  | 0 => IsP.id n
  | m + 1 => (IsP.pow hp m).comp hp
theorem IsP.back {n : Nat} {p r : Nat → Nat} (hp : IsP n p) (h : ∀ k, k < n → r (p k) = k) : IsP n r := by
  refine ⟨fun y hy => ?_, fun x y hx hy e => ?_, fun y hy => ⟨p y, hp.lt y hy, h y hy⟩⟩
  · obtain ⟨x, hx, rfl⟩ := hp.sur y hy
    rw [h x hx]
    exact hx
  · obtain ⟨a, ha, rfl⟩ := hp.sur x hx
    obtain ⟨b, hb, rfl⟩ := hp.sur y hy
    rw [h a ha, h b hb] at e
    rw [e]
theorem IsP.same {n : Nat} {p q : Nat → Nat} (hp : IsP n p) (h : ∀ k, k < n → q k = p k) : IsP n q := by
  refine ⟨fun x hx => by rw [h x hx]; exact hp.lt x hx, fun x y hx hy e => hp.inj x y hx hy (by rw [← h x hx, ← h y hy]; exact e), fun y hy => ?_⟩
  obtain ⟨x, hx, e⟩ := hp.sur y hy
  exact ⟨x, hx, by rw [h x hx]; exact e⟩
theorem least {P : Nat → Prop} : ∀ m, P m → ∃ k, P k ∧ k ≤ m ∧ ∀ j, j < k → ¬ P j := by
  intro m
  induction m using Nat.strongRecOn with
  | _ m ih =>
    intro h
    by_cases e : ∃ j, j < m ∧ P j
    · obtain ⟨j, h1, h2⟩ := e
      obtain ⟨k, h3, h4, h5⟩ := ih j h1 h2
      exact ⟨k, h3, by omega, h5⟩
    · exact ⟨m, h, Nat.le_refl m, fun j hj q => e ⟨j, hj, q⟩⟩
/-- how long the round of x is -/
structure Len (p : Nat → Nat) (n x m : Nat) : Prop where
  pos : 0 < m
  le : m ≤ n
  home : goes p m x = x
  first : ∀ j, 0 < j → j < m → goes p j x ≠ x
theorem IsP.len {n : Nat} {p : Nat → Nat} (hp : IsP n p) {x : Nat} (hx : x < n) : ∃ m, Len p n x m := by
  have ex : ∃ m, 0 < m ∧ m ≤ n ∧ goes p m x = x := by
    refine Classical.byContradiction fun no => ?_
    have nd : ((List.range (n + 1)).map fun k => goes p k x).Nodup := by
      unfold List.Nodup
      rw [List.pairwise_map]
      have rg : (List.range (n + 1)).Pairwise fun a b => a < b ∧ b < n + 1 := by
        refine (List.pairwise_iff_getElem).mpr fun i j hi hj hij => ?_
        rw [List.getElem_range, List.getElem_range]
        rw [List.length_range] at hj
        exact ⟨hij, hj⟩
      refine rg.imp fun {a b} h => ?_
      intro e
      refine no ⟨b - a, by omega, by omega, ?_⟩
      have e2 : goes p a (goes p (b - a) x) = goes p a x := by
        rw [← goes_add, show a + (b - a) = b by omega]
        exact e.symm
      exact (hp.pow a).inj _ _ ((hp.pow (b - a)).lt x hx) hx e2
    have le := nd.length_le_of_subset (l₂ := List.range n) fun y hy => by
      obtain ⟨k, _, rfl⟩ := List.mem_map.mp hy
      exact List.mem_range.mpr ((hp.pow k).lt x hx)
    rw [List.length_map, List.length_range, List.length_range] at le
    omega
  obtain ⟨m, h1, h2, h3⟩ := ex
  obtain ⟨k, ⟨h4, h5⟩, h6, h7⟩ := least (P := fun m => 0 < m ∧ goes p m x = x) m ⟨h1, h3⟩
  exact ⟨k, h4, by omega, h5, fun j j0 jk e => h7 j jk ⟨j0, e⟩⟩
theorem goes_home {p : Nat → Nat} {m x : Nat} (h : goes p m x = x) : ∀ k, goes p (k * m) x = x
  | 0 => by rw [Nat.zero_mul]; rfl
  | k + 1 => by rw [Nat.succ_mul, goes_add, h, goes_home h k]
theorem goes_rest {p : Nat → Nat} {m x : Nat} (h : goes p m x = x) (a : Nat) : goes p a x = goes p (a % m) x := by
  have e := Nat.mod_add_div a m
  rw [show goes p a x = goes p (a % m + a / m * m) x by rw [Nat.mul_comm (a / m) m, e], goes_add, goes_home h]
/-- all rounds' lengths go into this -/
def whole12 : Nat := 27720
theorem goes_whole {n : Nat} {p : Nat → Nat} (hp : IsP n p) (h : n ≤ 12) {x : Nat} (hx : x < n) : goes p whole12 x = x := by
  obtain ⟨m, L⟩ := hp.len hx
  have d : whole12 % m = 0 := by
    have h1 := L.pos
    have h2 := L.le
    have : ∀ k, k < 13 → 0 < k → whole12 % k = 0 := by decide
    exact this m (by omega) h1
  rw [goes_rest L.home, d]
  rfl
/-- a whole number of times, as a number of steps -/
def tw (t : Int) : Nat := (t % 27720).toNat
theorem tw_lt (t : Int) : tw t < 27720 := by
  unfold tw
  omega
theorem tw_eq {n : Nat} {p : Nat → Nat} (hp : IsP n p) (h : n ≤ 12) {x : Nat} (hx : x < n) {a : Nat} {t : Int} (e : ((a : Int) - t) % 27720 = 0) : goes p a x = goes p (tw t) x := by
  rw [goes_rest (goes_whole hp h hx) a]
  unfold whole12 tw
  congr 1
  omega
theorem tw_add {n : Nat} {p : Nat → Nat} (hp : IsP n p) (h : n ≤ 12) {x : Nat} (hx : x < n) (s t : Int) : goes p (tw s) (goes p (tw t) x) = goes p (tw (s + t)) x := by
  rw [← goes_add]
  refine tw_eq hp h hx ?_
  unfold tw
  omega
theorem tw_mul {n : Nat} {p : Nat → Nat} (hp : IsP n p) (h : n ≤ 12) {x : Nat} (hx : x < n) (s t : Int) : goes (goes p (tw s)) (tw t) x = goes p (tw (s * t)) x := by
  rw [goes_mul]
  refine tw_eq hp h hx ?_
  have e1 : ((tw s : Nat) : Int) = s % 27720 := by unfold tw; omega
  have e2 : ((tw t : Nat) : Int) = t % 27720 := by unfold tw; omega
  rw [Int.natCast_mul, e1, e2, Int.mul_comm s t, Int.sub_emod, ← Int.mul_emod, Int.sub_self]
  rfl
/-- the numbers of a map of places -/
def arV (p : Nat → Nat) (n : Nat) : List V := (List.range n).map fun k => V.int ((p k : Nat) : Int)
theorem arV_len (p : Nat → Nat) (n : Nat) : (arV p n).length = n := by
  unfold arV
  rw [List.length_map, List.length_range]
theorem arV_get {p : Nat → Nat} {n k : Nat} (h : k < n) : (arV p n)[k]? = some (V.int ((p k : Nat) : Int)) := by
  unfold arV
  rw [List.getElem?_map, List.getElem?_range h]
  rfl
theorem arV_at {p : Nat → Nat} {n k : Nat} (h : k < n) : atI (arV p n) ((k : Nat) : Int) = some (V.int ((p k : Nat) : Int)) := atI_nat (arV_get h)
theorem arV_congr {p q : Nat → Nat} {n : Nat} (h : ∀ k, k < n → p k = q k) : arV p n = arV q n := by
  unfold arV
  refine List.map_congr_left fun k hk => ?_
  rw [h k (List.mem_range.mp hk)]
def arI (p : Nat → Nat) (n : Nat) : List Int := (List.range n).map fun k => ((p k : Nat) : Int)
theorem arV_ints (p : Nat → Nat) (n : Nat) : arV p n = (arI p n).map V.int := by
  unfold arV arI
  rw [List.map_map]
  rfl
theorem arI_len (p : Nat → Nat) (n : Nat) : (arI p n).length = n := by
  unfold arI
  rw [List.length_map, List.length_range]
theorem arI_inj {p q : Nat → Nat} {n : Nat} : arI p n = arI q n ↔ ∀ k, k < n → p k = q k := by
  constructor
  · intro h k hk
    have e : (arI p n)[k]? = (arI q n)[k]? := by rw [h]
    unfold arI at e
    rw [List.getElem?_map, List.getElem?_map, List.getElem?_range hk] at e
    have e2 : ((p k : Nat) : Int) = ((q k : Nat) : Int) := by simpa using e
    omega
  · intro h
    unfold arI
    refine List.map_congr_left fun k hk => ?_
    rw [h k (List.mem_range.mp hk)]
theorem arV_id (n : Nat) : rgV 0 (n : Int) = arV (fun k => k) n := by
  rw [rg_places]
  unfold places arV
  rw [List.map_map]
  rfl
/-- an arrangement's numbers are those of a map -/
theorem perm_ar {ks : List Int} {n : Nat} (h : ks.Perm (places n)) : ∃ p, ks.map V.int = arV p n ∧ IsP n p := by
  have hl : ks.length = n := by rw [h.length_eq, places_len]
  have get : ∀ k, k < n → ∃ j : Nat, j < n ∧ ks[k]? = some ((j : Nat) : Int) := fun k hk => by
    have h1 : k < ks.length := by omega
    have h2 : ks[k] ∈ places n := h.mem_iff.mp (List.getElem_mem h1)
    obtain ⟨j, h3, h4⟩ := List.mem_map.mp h2
    exact ⟨j, List.mem_range.mp h3, by rw [List.getElem?_eq_getElem h1, h4]⟩
  have pt : ∀ k, k < n → ks[k]? = some (((ks.getD k 0).toNat : Nat) : Int) ∧ (ks.getD k 0).toNat < n := fun k hk => by
    obtain ⟨j, h1, h2⟩ := get k hk
    have : ks.getD k 0 = (j : Int) := by rw [List.getD_eq_getElem?_getD, h2]; rfl
    rw [this, Int.toNat_natCast]
    exact ⟨h2, h1⟩
  have nd : ks.Nodup := h.nodup_iff.mpr (by
    unfold places List.Nodup
    rw [List.pairwise_map]
    exact List.nodup_range.imp fun h e => h (by omega))
  refine ⟨fun k => (ks.getD k 0).toNat, ?_, fun k hk => (pt k hk).2, fun a b ha hb e => ?_, fun y hy => ?_⟩
  · refine List.ext_getElem? fun k => ?_
    by_cases hk : k < n
    · rw [arV_get hk, List.getElem?_map, (pt k hk).1]
      rfl
    · rw [List.getElem?_eq_none (by rw [List.length_map]; omega), List.getElem?_eq_none (by rw [arV_len]; omega)]
  · have e1 := (pt a ha).1
    have e2 := (pt b hb).1
    have e' : (ks.getD a 0).toNat = (ks.getD b 0).toNat := e
    rw [e', ← e2] at e1
    exact (List.getElem?_inj (by omega) nd).mp e1
  · have h1 : ((y : Nat) : Int) ∈ ks := h.mem_iff.mpr (List.mem_map.mpr ⟨y, List.mem_range.mpr hy, rfl⟩)
    obtain ⟨k, hk, e⟩ := List.getElem_of_mem h1
    have hk2 : k < n := by omega
    refine ⟨k, hk2, ?_⟩
    have e2 := (pt k hk2).1
    rw [List.getElem?_eq_getElem hk, e] at e2
    have := Option.some.inj e2
    show (ks.getD k 0).toNat = y
    omega
end RG
end RGm
section RGn
/-! the rounds of an arrangement, by their least places -/
namespace RG
open PySem PySem.Spec PyProof.Rows L2
def rLenTS (K : PySem.W.Frag) : List V → Hp → VK → Prop := fun xs H Q => ∃ p ys, xs = [V.ref p] ∧ (SqL K H p ys ∨ SqT K H p ys) ∧ Q (V.int (ys.length : Nat)) H
theorem cr_lenTS {X : Cx} : CallR X (.builtin "len") (rLenTS X.K) := call_len_seq
/-- a tuple stands where a list is written anew -/
theorem sqt_put {K : PySem.W.Frag} {G : Hp} {D q : Addr} {xs ys zs : List V} (hd : G D = some (.lst xs)) (h : SqT K G q ys) : SqT K (upd G D (.lst zs)) q ys := by
  rcases h with z | z
  · refine .inl ?_
    rcases z with z | ⟨ob, z⟩
    · refine .inl ?_
      rw [upd_ne (ne_of z hd (fun e => nomatch e))]
      exact z
    · refine .inr ⟨ob, ?_⟩
      rw [upd_ne (ne_of z hd (fun e => nomatch e))]
      exact z
  · exact .inr z
theorem paired_at {α β : Type} {F : α → β → Prop} : ∀ {xs : List α} {ys : List β} {i : Nat} {x : α}, Paired F xs ys → xs[i]? = some x → ∃ y, ys[i]? = some y ∧ F x y
  | _, _, _, _, .nil, h => by simp at h
  | _, _, 0, _, .cons f _, h => by
    simp at h
    subst h
    exact ⟨_, rfl, f⟩
  | _, _, i + 1, _, .cons _ t, h => by
    obtain ⟨y, h1, h2⟩ := paired_at (i := i) t (by simpa using h)
    exact ⟨y, by simpa using h1, h2⟩
theorem paired_len {α β : Type} {F : α → β → Prop} : ∀ {xs : List α} {ys : List β}, Paired F xs ys → xs.length = ys.length
  | _, _, .nil => rfl
  | _, _, .cons _ t => congrArg Nat.succ (paired_len t)
theorem yes_ {k : Bool → Hp → Prop} {σ : L2.St} {H : Hp} (h : k true H) : tYes σ H k := h
theorem iteT' {b : Bool} {A B : Prop} (e : b = true) (h : A) : if b = true then A else B := by
  rw [if_pos e]
  exact h
theorem iteF' {b : Bool} {A B : Prop} (e : b = false) (h : B) : if b = true then A else B := by
  rw [e]
  exact iteF h
theorem Len.uniq {p : Nat → Nat} {n x a b : Nat} (h : Len p n x a) (g : Len p n x b) : a = b := by
  rcases Nat.lt_trichotomy a b with e | e | e
  · exact absurd h.home (g.first a h.pos e)
  · exact e
  · exact absurd g.home (h.first b g.pos e)
open Classical in
noncomputable def lenOf (p : Nat → Nat) (n x : Nat) : Nat := if h : ∃ m, Len p n x m then Classical.choose h else 0
theorem IsP.lenOf {n : Nat} {p : Nat → Nat} (hp : IsP n p) {x : Nat} (hx : x < n) : Len p n x (lenOf p n x) := by
  unfold RG.lenOf
  rw [dif_pos (hp.len hx)]
  exact Classical.choose_spec (hp.len hx)
theorem Len.is {p : Nat → Nat} {n x m : Nat} (h : Len p n x m) : RG.lenOf p n x = m := by
  have e : ∃ m, Len p n x m := ⟨m, h⟩
  unfold RG.lenOf
  rw [dif_pos e]
  exact (Classical.choose_spec e).uniq h
/-- a round is told from here on -/
def headB (p : Nat → Nat) (s m : Nat) : Bool := decide (1 < m) && decide (∀ j, j < m → s ≤ goes p j s)
theorem headB_iff {p : Nat → Nat} {s m : Nat} : headB p s m = true ↔ 1 < m ∧ ∀ j, j < m → s ≤ goes p j s := by
  unfold headB
  rw [Bool.and_eq_true, decide_eq_true_eq, decide_eq_true_eq]
noncomputable def heads (p : Nat → Nat) (n : Nat) : List Nat := (List.range n).filter fun s => headB p s (lenOf p n s)
theorem heads_mem {p : Nat → Nat} {n s : Nat} : s ∈ heads p n ↔ s < n ∧ 1 < lenOf p n s ∧ ∀ j, j < lenOf p n s → s ≤ goes p j s := by
  unfold heads
  rw [List.mem_filter, List.mem_range, headB_iff]
theorem heads_cover {n : Nat} {p : Nat → Nat} (hp : IsP n p) {x : Nat} (hx : x < n) (h : p x ≠ x) : ∃ s, s ∈ heads p n ∧ ∃ j, j < lenOf p n s ∧ goes p j s = x := by
  obtain ⟨m, M⟩ := hp.len hx
  obtain ⟨s, ⟨a, ha, hs⟩, _, lo⟩ := least (P := fun v => ∃ a, a < m ∧ goes p a x = v) x ⟨0, M.pos, rfl⟩
  have low : ∀ b, b < m → s ≤ goes p b x := fun b hb => Nat.le_of_not_lt fun q => lo _ q ⟨b, hb, rfl⟩
  have hsn : s < n := by rw [← hs]; exact (hp.pow a).lt x hx
  have L := hp.lenOf hsn
  have back : goes p (m - a) s = x := by rw [← hs, ← goes_add, show m - a + a = m by omega]; exact M.home
  refine ⟨s, heads_mem.mpr ⟨hsn, ?_, fun j _ => ?_⟩, (m - a) % lenOf p n s, Nat.mod_lt _ L.pos, ?_⟩
  · refine Nat.lt_of_not_le fun q => h ?_
    have one : lenOf p n s = 1 := by
      have := L.pos
      omega
    have fix := L.home
    rw [one] at fix
    have all := goes_home fix (m - a)
    rw [Nat.mul_one, back] at all
    rw [all]
    exact fix
  · have e : goes p j s = goes p ((j + a) % m) x := by rw [← goes_rest M.home, goes_add, hs]
    rw [e]
    exact low _ (Nat.mod_lt _ M.pos)
  · rw [← goes_rest L.home]
    exact back
/-- going on along a round: where the place at j comes to -/
theorem ring_turn {n : Nat} {p : Nat → Nat} (hp : IsP n p) (h : n ≤ 12) {s m j : Nat} (hs : s < n) (L : Len p n s m) (t : Int) : goes p (((j : Int) + t) % (m : Int)).toNat s = goes p (tw t) (goes p j s) := by
  have d : (m : Int) ∣ 27720 := by
    have h1 := L.pos
    have h2 := L.le
    have all : ∀ k : Nat, k < 13 → 0 < k → ((k : Nat) : Int) ∣ 27720 := by decide
    exact all m (by omega) h1
  have m0 : (m : Int) ≠ 0 := by
    have := L.pos
    omega
  rw [← goes_add, goes_rest L.home (tw t + j)]
  congr 1
  have e1 : ((tw t : Nat) : Int) = t % 27720 := by
    unfold tw
    omega
  have e2 : (((tw t + j) % m : Nat) : Int) = ((j : Int) + t) % (m : Int) := by
    rw [Int.natCast_emod, Int.natCast_add, e1, Int.add_emod, Int.emod_emod_of_dvd t d, ← Int.add_emod, Int.add_comm]
  rw [← e2, Int.toNat_natCast]
/-! a comprehension over enumerate(a list) -/
theorem lc_enumL {K : PySem.W.Frag} {a : Addr} {xs : List V} {g : TG} {tt : TT} {te : TE} {vs : List Nat} {σ : L2.St} {H1 : Hp} {D : Addr} {Qd : Hp → Prop} (Pv : Nat → Hp → Prop) (h0 : Pv 0 (upd H1 D (.lst []))) (hl : ∀ i H, i ≤ xs.length → Pv i H → SqL K H a xs)
    (hs : ∀ i x H T, xs[i]? = some x → Pv i H → H T = none → g (.ref T) (wipe σ vs) (upd H T (.tup [.int (i : Nat), x])) fun σ2 H2 => wipe σ2 vs = wipe σ vs ∧ tt σ2 H2 fun b H3 =>
      if b = true then te σ2 H3 fun y H4 => ∃ acc, H4 D = some (.lst acc) ∧ acc.length < sizeLine ∧ Pv (i + 1) (upd H4 D (.lst (acc ++ [y]))) else Pv (i + 1) H3) (hd : ∀ H, Pv xs.length H → Qd H) :
    ∃ W : Nat → Nat → Hp → Prop, (∃ m, W 0 m (upd H1 D (.lst []))) ∧ ∀ i m H, W i m H →
      ((Ite K a).stop i H ∧ Qd H) ∨ ((Ite K a).go i H ∧ ∃ Nx : Hp → Prop, (∀ H', Nx H' → ∃ m', m' < m ∧ W (i + 1) m' H') ∧ ∀ x H', (Ite K a).yld i H x H' → g x (wipe σ vs) H' fun σ2 H2 => wipe σ2 vs = wipe σ vs ∧ tt σ2 H2 fun b H3 =>
        if b = true then te σ2 H3 fun y H4 => ∃ acc, H4 D = some (.lst acc) ∧ acc.length < sizeLine ∧ Nx (upd H4 D (.lst (acc ++ [y]))) else Nx H3) := by
  refine ⟨fun i m H => m = xs.length - i ∧ i ≤ xs.length ∧ Pv i H, ⟨xs.length, rfl, Nat.zero_le _, h0⟩, ?_⟩
  rintro i m H ⟨rfl, hi, p⟩
  have q := hl i H hi p
  by_cases hlt : i < xs.length
  · refine .inr ⟨⟨xs, xs[i], q, List.getElem?_eq_getElem hlt⟩, Pv (i + 1), fun H' p' => ⟨xs.length - (i + 1), by omega, rfl, hlt, p'⟩, fun x H' y => ?_⟩
    obtain ⟨T, z, rfl, hT, rfl, y⟩ := y
    exact hs i z H T (y xs q) p hT
  · obtain rfl : i = xs.length := by omega
    exact .inl ⟨⟨xs, q, Nat.le_refl _⟩, hd H p⟩
end RG
end RGn
section RGo
/-! whether an arrangement is even: pairs that stand the other way about, and rounds -/
namespace RG
open PySem PySem.Spec PyProof.Rows L2
def xorL : List Bool → Bool
  | [] => false
  | b :: bs => b.xor (xorL bs)
theorem xorL_append : ∀ as bs : List Bool, xorL (as ++ bs) = (xorL as).xor (xorL bs)
  | [], bs => by simp [xorL]
  | a :: as, bs => by
    show a.xor (xorL (as ++ bs)) = (a.xor (xorL as)).xor (xorL bs)
    rw [xorL_append as bs, Bool.xor_assoc]
theorem xorL_perm {as bs : List Bool} (h : as.Perm bs) : xorL as = xorL bs := by
  induction h with
  | nil => rfl
  | cons x _ ih =>
    show x.xor _ = x.xor _
    rw [ih]
  | swap x y l =>
    show y.xor (x.xor _) = x.xor (y.xor _)
    rw [← Bool.xor_assoc, ← Bool.xor_assoc, Bool.xor_comm y x]
  | trans _ _ h1 h2 => rw [h1, h2]
theorem xorL_two {α : Type} (f g : α → Bool) : ∀ xs : List α, xorL (xs.map fun x => (f x).xor (g x)) = (xorL (xs.map f)).xor (xorL (xs.map g))
  | [] => rfl
  | x :: xs => by
    show ((f x).xor (g x)).xor (xorL (xs.map fun x => (f x).xor (g x))) = ((f x).xor (xorL (xs.map f))).xor ((g x).xor (xorL (xs.map g)))
    rw [xorL_two f g xs]
    cases f x <;> cases g x <;> cases xorL (xs.map f) <;> cases xorL (xs.map g) <;> rfl
theorem xorL_none {α : Type} {f : α → Bool} : ∀ {xs : List α}, (∀ x ∈ xs, f x = false) → xorL (xs.map f) = false
  | [], _ => rfl
  | x :: xs, h => by
    show (f x).xor (xorL (xs.map f)) = false
    rw [h x List.mem_cons_self, xorL_none fun y hy => h y (List.mem_cons_of_mem _ hy)]
    rfl
theorem fewer {α : Type} [DecidableEq α] : ∀ ns : List α, ¬ ns.Nodup → ∃ ps : List α, ps.length + 1 ≤ ns.length ∧ ∀ k ∈ ns, k ∈ ps
  | [], h => absurd List.nodup_nil h
  | n :: ns, h => by
    by_cases e : n ∈ ns
    · refine ⟨ns, Nat.le_refl _, fun k hk => ?_⟩
      rcases List.mem_cons.mp hk with rfl | hk
      · exact e
      · exact hk
    · have h2 : ¬ ns.Nodup := fun q => h (List.nodup_cons.mpr ⟨e, q⟩)
      obtain ⟨ps, h3, h4⟩ := fewer ns h2
      refine ⟨n :: ps, by simp only [List.length_cons]; omega, fun k hk => ?_⟩
      rcases List.mem_cons.mp hk with rfl | hk
      · exact List.mem_cons_self
      · exact List.mem_cons_of_mem _ (h4 k hk)
/-- a map of a list onto itself -/
theorem perm_onto {α : Type} [DecidableEq α] {l m : List α} (hl : l.Nodup) (len : m.length = l.length) (sub : ∀ x ∈ l, x ∈ m) (back : ∀ x ∈ m, x ∈ l) : m.Perm l := by
  have hm : m.Nodup := Decidable.byContradiction fun no => by
    obtain ⟨ps, h1, h2⟩ := fewer m no
    have := hl.length_le_of_subset fun x hx => h2 x (sub x hx)
    omega
  exact (List.perm_ext_iff_of_nodup hm hl).mpr fun x => ⟨back x, sub x⟩
/-- all i < j < n -/
def pairsTo (n : Nat) : List (Nat × Nat) := (List.range n).flatMap fun j => (List.range j).map fun i => (i, j)
theorem pairs_mem {n : Nat} {x : Nat × Nat} : x ∈ pairsTo n ↔ x.1 < x.2 ∧ x.2 < n := by
  obtain ⟨i, j⟩ := x
  unfold pairsTo
  simp only [List.mem_flatMap, List.mem_range, List.mem_map, Prod.mk.injEq]
  constructor
  · rintro ⟨b, hb, a, ha, rfl, rfl⟩
    exact ⟨ha, hb⟩
  · rintro ⟨h1, h2⟩
    exact ⟨j, h2, i, h1, rfl, rfl⟩
theorem pairs_nodup (n : Nat) : (pairsTo n).Nodup := by
  induction n with
  | zero => exact List.nodup_nil
  | succ n ih =>
    have e : pairsTo (n + 1) = pairsTo n ++ (List.range n).map fun i => (i, n) := by
      unfold pairsTo
      rw [List.range_succ, List.flatMap_append]
      simp
    rw [e]
    refine List.nodup_append.mpr ⟨ih, ?_, fun x hx y hy e2 => ?_⟩
    · unfold List.Nodup
      rw [List.pairwise_map]
      exact List.nodup_range.imp fun h e3 => h (Prod.mk.inj e3).1
    · subst e2
      have h1 := pairs_mem.mp hx
      obtain ⟨i, _, rfl⟩ := List.mem_map.mp hy
      exact Nat.lt_irrefl _ h1.2
/-- odd: how many pairs stand the other way about -/
def sg (p : Nat → Nat) (n : Nat) : Bool := xorL ((pairsTo n).map fun x => decide (p x.2 < p x.1))
theorem sg_congr {p q : Nat → Nat} {n : Nat} (h : ∀ k, k < n → p k = q k) : sg p n = sg q n := by
  unfold sg
  congr 1
  refine List.map_congr_left fun x hx => ?_
  have := pairs_mem.mp hx
  rw [h x.1 (by omega), h x.2 (by omega)]
theorem sg_id (n : Nat) : sg (fun x => x) n = false := xorL_none fun x hx => by
  have := pairs_mem.mp hx
  exact decide_eq_false (show ¬ x.2 < x.1 by omega)
/-- where a pair comes to, in order -/
def pairAt (p : Nat → Nat) (x : Nat × Nat) : Nat × Nat := if p x.1 < p x.2 then (p x.1, p x.2) else (p x.2, p x.1)
theorem pairs_onto {n : Nat} {p : Nat → Nat} (hp : IsP n p) : ((pairsTo n).map (pairAt p)).Perm (pairsTo n) := by
  refine perm_onto (pairs_nodup n) (by rw [List.length_map]) (fun y hy => ?_) fun y hy => ?_
  · obtain ⟨h1, h2⟩ := pairs_mem.mp hy
    obtain ⟨a, ha, ea⟩ := hp.sur y.1 (by omega)
    obtain ⟨b, hb, eb⟩ := hp.sur y.2 h2
    have ne : a ≠ b := fun e => by
      rw [e, eb] at ea
      omega
    rcases Nat.lt_or_gt_of_ne ne with lt | gt
    · refine List.mem_map.mpr ⟨(a, b), pairs_mem.mpr ⟨lt, hb⟩, ?_⟩
      unfold pairAt
      simp only [ea, eb]
      rw [if_pos h1]
    · refine List.mem_map.mpr ⟨(b, a), pairs_mem.mpr ⟨gt, ha⟩, ?_⟩
      unfold pairAt
      simp only [ea, eb]
      rw [if_neg (by omega)]
  · obtain ⟨x, hx, rfl⟩ := List.mem_map.mp hy
    obtain ⟨h1, h2⟩ := pairs_mem.mp hx
    have l1 := hp.lt x.1 (by omega)
    have l2 := hp.lt x.2 h2
    refine pairs_mem.mpr ?_
    unfold pairAt
    by_cases lt : p x.1 < p x.2
    · rw [if_pos lt]
      exact ⟨lt, l2⟩
    · rw [if_neg lt]
      refine ⟨?_, l1⟩
      have ne : p x.1 ≠ p x.2 := fun e => by
        have := hp.inj x.1 x.2 (by omega) h2 e
        omega
      show p x.2 < p x.1
      omega
theorem sg_comp {n : Nat} {p q : Nat → Nat} (hp : IsP n p) (hq : IsP n q) : sg (fun x => q (p x)) n = (sg p n).xor (sg q n) := by
  have e : sg q n = xorL ((pairsTo n).map fun x => decide (q (pairAt p x).2 < q (pairAt p x).1)) := by
    unfold sg
    rw [← xorL_perm ((pairs_onto hp).map fun x => decide (q x.2 < q x.1)), List.map_map]
    rfl
  rw [e]
  unfold sg
  rw [← xorL_two]
  congr 1
  refine List.map_congr_left fun x hx => ?_
  obtain ⟨h1, h2⟩ := pairs_mem.mp hx
  have ne : p x.1 ≠ p x.2 := fun e => by
    have := hp.inj x.1 x.2 (by omega) h2 e
    omega
  have ne2 : q (p x.1) ≠ q (p x.2) := fun e => ne (hq.inj _ _ (hp.lt x.1 (by omega)) (hp.lt x.2 h2) e)
  unfold pairAt
  by_cases lt : p x.1 < p x.2
  · rw [if_pos lt, decide_eq_false (show ¬ p x.2 < p x.1 by omega), Bool.false_xor]
  · rw [if_neg lt, decide_eq_true (show p x.2 < p x.1 by omega), Bool.true_xor]
    by_cases lq : q (p x.2) < q (p x.1)
    · rw [decide_eq_true lq, decide_eq_false (show ¬ q (p x.1) < q (p x.2) by omega)]
      rfl
    · rw [decide_eq_false lq, decide_eq_true (show q (p x.1) < q (p x.2) by omega)]
      rfl
theorem sg_back {n : Nat} {p r : Nat → Nat} (hp : IsP n p) (h : ∀ k, k < n → r (p k) = k) : sg r n = sg p n := by
  have e := sg_comp hp (hp.back h)
  rw [sg_congr (q := fun x => x) h, sg_id] at e
  cases h1 : sg p n <;> cases h2 : sg r n <;> rw [h1, h2] at e <;> first | rfl | cases e
/-! exchanges -/
def sw (a b : Nat) (x : Nat) : Nat := if x = a then b else if x = b then a else x
theorem sw_is {n a b : Nat} (ha : a < n) (hb : b < n) : IsP n (sw a b) := by
  have two : ∀ x, sw a b (sw a b x) = x := fun x => by
    unfold sw
    by_cases h1 : x = a
    · by_cases h2 : b = a
      · simp [h1, h2]
      · simp [h1, h2]
    · by_cases h2 : x = b
      · simp [h2]
      · simp [h1, h2]
  have lt : ∀ x, x < n → sw a b x < n := fun x hx => by
    unfold sw
    split
    · exact hb
    · split
      · exact ha
      · exact hx
  exact ⟨lt, fun x y _ _ e => by rw [← two x, ← two y, e], fun y hy => ⟨sw a b y, lt y hy, two y⟩⟩
theorem sw_comm (a b x : Nat) : sw a b x = sw b a x := by
  unfold sw
  by_cases h1 : x = a
  · rw [if_pos h1]
    by_cases h2 : x = b
    · rw [if_pos h2]
      omega
    · rw [if_neg h2, if_pos h1]
  · rw [if_neg h1, if_neg h1]
theorem sw_odd0 : ∀ n, n < 13 → ∀ b, b < n → ∀ a, a < b → sg (sw a b) n = true := by decide +kernel
theorem sw_odd {n a b : Nat} (h : n ≤ 12) (ha : a < n) (hb : b < n) (ne : a ≠ b) : sg (sw a b) n = true := by
  rcases Nat.lt_or_gt_of_ne ne with lt | gt
  · exact sw_odd0 n (by omega) b hb a lt
  · rw [sg_congr (q := sw b a) fun k _ => sw_comm a b k]
    exact sw_odd0 n (by omega) a ha b gt
/-! a round, exchange by exchange -/
/-- the first places of a round moved on, the last of them to the first -/
def cyc (g : Nat → Nat) : Nat → Nat → Nat
  | 0, x => x
  | k + 1, x => cyc g k (sw (g k) (g (k + 1)) x)
theorem cyc_is {n : Nat} {g : Nat → Nat} (h : ∀ j, g j < n) : ∀ k, IsP n (cyc g k)
  | 0 => IsP.id n
  | k + 1 => (sw_is (h k) (h (k + 1))).comp (cyc_is h k)
theorem cyc_odd {n : Nat} {g : Nat → Nat} (n12 : n ≤ 12) (h : ∀ j, g j < n) (L : Nat) (ne : ∀ i j, i < L → j < L → g i = g j → i = j) : ∀ k, k < L → sg (cyc g k) n = decide (k % 2 = 1)
  | 0, _ => sg_id n
  | k + 1, hk => by
    have e := sg_comp (sw_is (h k) (h (k + 1))) (cyc_is h k)
    have o := sw_odd n12 (h k) (h (k + 1)) (fun e => by
      have := ne k (k + 1) (by omega) hk e
      omega)
    rw [o, cyc_odd n12 h L ne k (by omega), Bool.true_xor] at e
    show sg (fun x => cyc g k (sw (g k) (g (k + 1)) x)) n = _
    rw [e]
    by_cases hk2 : k % 2 = 1
    · rw [decide_eq_true hk2, decide_eq_false (by omega)]
      rfl
    · rw [decide_eq_false hk2, decide_eq_true (by omega)]
      rfl
/-- what it does -/
theorem cyc_at {g : Nat → Nat} (L : Nat) (ne : ∀ i j, i < L → j < L → g i = g j → i = j) : ∀ k, k < L → (∀ j, j < k → cyc g k (g j) = g (j + 1)) ∧ cyc g k (g k) = g 0 ∧ ∀ x, (∀ j, j ≤ k → x ≠ g j) → cyc g k x = x
  | 0, _ => ⟨fun j hj => absurd hj (Nat.not_lt_zero j), rfl, fun _ _ => rfl⟩
  | k + 1, hk => by
    obtain ⟨h1, h2, h3⟩ := cyc_at L ne k (by omega)
    have nk : ∀ j, j < L → j ≠ k → g j ≠ g k := fun j hj n1 e => n1 (ne j k hj (by omega) e)
    have nk1 : ∀ j, j < L → j ≠ k + 1 → g j ≠ g (k + 1) := fun j hj n1 e => n1 (ne j (k + 1) hj hk e)
    refine ⟨fun j hj => ?_, ?_, fun x hx => ?_⟩
    · show cyc g k (sw (g k) (g (k + 1)) (g j)) = _
      unfold sw
      by_cases e : j = k
      · subst e
        rw [if_pos rfl]
        exact h3 _ fun i hi => (nk1 i (by omega) (by omega)).symm
      · rw [if_neg (nk j (by omega) e), if_neg (nk1 j (by omega) (by omega))]
        exact h1 j (by omega)
    · show cyc g k (sw (g k) (g (k + 1)) (g (k + 1))) = _
      unfold sw
      rw [if_neg (nk (k + 1) hk (by omega)), if_pos rfl]
      exact h2
    · show cyc g k (sw (g k) (g (k + 1)) x) = _
      unfold sw
      rw [if_neg (hx k (by omega)), if_neg (hx (k + 1) (Nat.le_refl _))]
      exact h3 x fun j hj => hx j (by omega)
/-- the places of a round -/
def InRing (p : Nat → Nat) (n s x : Nat) : Prop := ∃ j, j < lenOf p n s ∧ goes p j s = x
theorem ring_ne {n : Nat} {p : Nat → Nat} (hp : IsP n p) {s m : Nat} (hs : s < n) (L : Len p n s m) : ∀ i j, i < m → j < m → goes p i s = goes p j s → i = j := by
  have half : ∀ i j, i < j → j < m → goes p i s ≠ goes p j s := fun i j hij hj e => by
    have e2 : goes p i (goes p (j - i) s) = goes p i s := by
      rw [← goes_add, show i + (j - i) = j by omega]
      exact e.symm
    exact L.first (j - i) (by omega) (by omega) ((hp.pow i).inj _ _ ((hp.pow (j - i)).lt s hs) hs e2)
  intro i j hi hj e
  rcases Nat.lt_trichotomy i j with h | h | h
  · exact absurd e (half i j h hj)
  · exact h
  · exact absurd e.symm (half j i h hi)
/-- another head's round has none of its places -/
theorem ring_apart {n : Nat} {p : Nat → Nat} (hp : IsP n p) {s t x : Nat} (hs : s ∈ heads p n) (ht : t ∈ heads p n) (h1 : InRing p n s x) (h2 : InRing p n t x) : s = t := by
  have half : ∀ {s t x : Nat}, s ∈ heads p n → t ∈ heads p n → InRing p n s x → InRing p n t x → s ≤ t := fun {s t x} hs ht h1 h2 => by
    obtain ⟨h3, h4, h5⟩ := heads_mem.mp hs
    obtain ⟨g3, _, _⟩ := heads_mem.mp ht
    obtain ⟨i, hi, ei⟩ := h1
    obtain ⟨j, hj, ej⟩ := h2
    have Ls := hp.lenOf h3
    have Lt := hp.lenOf g3
    have e : t = goes p (lenOf p n t - j + i) s := by
      rw [goes_add, ei, ← ej, ← goes_add, show lenOf p n t - j + j = lenOf p n t by omega, Lt.home]
    have e2 := goes_rest Ls.home (lenOf p n t - j + i)
    have := h5 _ (Nat.mod_lt (lenOf p n t - j + i) Ls.pos)
    omega
  exact Nat.le_antisymm (half hs ht h1 h2) (half ht hs h2 h1)
/-- the rounds of these heads, one after the other -/
noncomputable def byRings (p : Nat → Nat) (n : Nat) : List Nat → Nat → Nat
  | [], x => x
  | s :: ss, x => byRings p n ss (cyc (fun j => goes p j s) (lenOf p n s - 1) x)
theorem ring_moves {n : Nat} {p : Nat → Nat} (hp : IsP n p) {s : Nat} (hs : s < n) (x : Nat) : (InRing p n s x → cyc (fun j => goes p j s) (lenOf p n s - 1) x = p x) ∧ (¬ InRing p n s x → cyc (fun j => goes p j s) (lenOf p n s - 1) x = x) := by
  have L := hp.lenOf hs
  have pos := L.pos
  obtain ⟨h1, h2, h3⟩ := cyc_at (g := fun j => goes p j s) (lenOf p n s) (ring_ne hp hs L) (lenOf p n s - 1) (by omega)
  refine ⟨fun h => ?_, fun h => h3 x fun j hj e => h ⟨j, by omega, e.symm⟩⟩
  obtain ⟨j, hj, rfl⟩ := h
  by_cases e : j = lenOf p n s - 1
  · subst e
    rw [h2]
    have home := L.home
    rw [show lenOf p n s = lenOf p n s - 1 + 1 by omega] at home
    exact home.symm
  · exact h1 j (by omega)
theorem byRings_at {n : Nat} {p : Nat → Nat} (hp : IsP n p) : ∀ ss : List Nat, ss.Nodup → (∀ s ∈ ss, s ∈ heads p n) → ∀ x, ((∃ s ∈ ss, InRing p n s x) → byRings p n ss x = p x) ∧ ((¬ ∃ s ∈ ss, InRing p n s x) → byRings p n ss x = x)
  | [], _, _, x => ⟨(fun ⟨_, h, _⟩ => nomatch h), fun _ => rfl⟩
  | s :: ss, nd, hd, x => by
    obtain ⟨n1, n2⟩ := List.nodup_cons.mp nd
    have hs := hd s List.mem_cons_self
    have hsn := (heads_mem.mp hs).1
    have L := hp.lenOf hsn
    have ih := byRings_at hp ss n2 fun t ht => hd t (List.mem_cons_of_mem _ ht)
    obtain ⟨m1, m2⟩ := ring_moves hp hsn x
    by_cases h : InRing p n s x
    · refine ⟨fun _ => ?_, fun no => absurd ⟨s, List.mem_cons_self, h⟩ no⟩
      show byRings p n ss _ = _
      rw [m1 h]
      refine (ih (p x)).2 ?_
      rintro ⟨t, ht, h2⟩
      have h3 : InRing p n s (p x) := by
        obtain ⟨j, hj, rfl⟩ := h
        refine ⟨(j + 1) % lenOf p n s, Nat.mod_lt _ L.pos, ?_⟩
        rw [← goes_rest L.home]
        rfl
      have e := ring_apart hp hs (hd t (List.mem_cons_of_mem _ ht)) h3 h2
      subst e
      exact n1 ht
    · have e : byRings p n (s :: ss) x = byRings p n ss x := by
        show byRings p n ss _ = _
        rw [m2 h]
      rw [e]
      refine ⟨fun ⟨t, ht, h2⟩ => ?_, fun no => (ih x).2 fun ⟨t, ht, h2⟩ => no ⟨t, List.mem_cons_of_mem _ ht, h2⟩⟩
      rcases List.mem_cons.mp ht with rfl | ht
      · exact absurd h2 h
      · exact (ih x).1 ⟨t, ht, h2⟩
theorem byRings_sg {n : Nat} {p : Nat → Nat} (hp : IsP n p) (n12 : n ≤ 12) : ∀ ss : List Nat, (∀ s ∈ ss, s < n) → IsP n (byRings p n ss) ∧ sg (byRings p n ss) n = xorL (ss.map fun s => decide (lenOf p n s % 2 = 0))
  | [], _ => ⟨IsP.id n, sg_id n⟩
  | s :: ss, h => by
    have hs := h s List.mem_cons_self
    obtain ⟨i1, i2⟩ := byRings_sg hp n12 ss fun t ht => h t (List.mem_cons_of_mem _ ht)
    have L := hp.lenOf hs
    have pos := L.pos
    have all : ∀ j, goes p j s < n := fun j => (hp.pow j).lt s hs
    have ci := cyc_is all (lenOf p n s - 1)
    refine ⟨ci.comp i1, ?_⟩
    have e := sg_comp ci i1
    rw [cyc_odd n12 all (lenOf p n s) (ring_ne hp hs L) (lenOf p n s - 1) (by omega), i2] at e
    show sg (fun x => byRings p n ss (cyc (fun j => goes p j s) (lenOf p n s - 1) x)) n = (decide (lenOf p n s % 2 = 0)).xor _
    rw [e]
    congr 1
    by_cases h2 : lenOf p n s % 2 = 0
    · rw [decide_eq_true h2, decide_eq_true (by omega)]
    · rw [decide_eq_false h2, decide_eq_false (by omega)]
theorem heads_nodup (p : Nat → Nat) (n : Nat) : (heads p n).Nodup := by
  unfold heads
  exact List.nodup_range.filter _
/-- odd by pairs, odd by rounds of even lengths -/
theorem sg_rings {n : Nat} {p : Nat → Nat} (hp : IsP n p) (n12 : n ≤ 12) : sg p n = xorL ((heads p n).map fun s => decide (lenOf p n s % 2 = 0)) := by
  rw [← (byRings_sg hp n12 (heads p n) fun s hs => (heads_mem.mp hs).1).2]
  refine sg_congr fun x hx => ?_
  obtain ⟨h1, h2⟩ := byRings_at hp (heads p n) (heads_nodup p n) (fun _ h => h) x
  by_cases fix : p x = x
  · by_cases e : ∃ s ∈ heads p n, InRing p n s x
    · rw [h1 e]
    · rw [h2 e, fix]
  · obtain ⟨s, hs, hj⟩ := heads_cover hp hx fix
    rw [h1 ⟨s, hs, hj⟩]
end RG
end RGo
section RGp
/-! math.lcm; how many are kept; a comprehension over a range with a test -/
namespace RG
open PySem PySem.Spec PyProof.Rows L2
section
variable {X : Cx}
def rLcm : List V → Hp → VK → Prop := fun vs H Q => ∃ a b : Nat, vs = [.int (a : Int), .int (b : Int)] ∧ a ≤ 27720 ∧ b ≤ 27720 ∧ Q (.int ((Nat.lcm a b : Nat) : Int)) H
theorem cr_lcm : CallR X (.builtin "math.lcm") rLcm := by
  intro pins s σ H vs us Q I r h
  obtain ⟨a, b, rfl, ha, hb, q⟩ := h
  obtain ⟨t, u, rfl⟩ := Vals.int2 r
  have e : ((Nat.lcm 1 (a : Int).natAbs).lcm (b : Int).natAbs) = Nat.lcm a b := by
    rw [Int.natAbs_natCast, Int.natAbs_natCast, Nat.lcm_one_left]
  refine PySem.W.mg_lcm_v (by rw [Int.natAbs_natCast]; omega) (by rw [Int.natAbs_natCast]; omega) (by rw [e]) ?_ ⟨.int _, H, I.tok _, ⟨_, rfl⟩, q⟩
  have le : Nat.lcm a b ≤ 27720 * 27720 := by
    refine Nat.le_trans ?_ (Nat.mul_le_mul ha hb)
    unfold Nat.lcm
    exact Nat.div_le_self _ _
  rw [Int.natAbs_natCast]
  have l2 : (Nat.lcm a b).log2 ≤ 30 := by
    by_cases z : Nat.lcm a b = 0
    · rw [z]
      decide
    · exact Nat.le_of_lt_succ ((Nat.log2_lt z).mpr (Nat.lt_of_le_of_lt le (by decide)))
  exact Nat.lt_of_le_of_lt l2 (by decide)
end
theorem pe_revTK {X : Cx} {K : PySem.W.Frag} {e : Expr} {te : TE} {k : Nat} {p1 p2 p3 pos : Pos} (hK : X.K = K) (he : PE X e te) : PE X (.Subscript e (.Slice none none (some (.UnaryOp .USub (.Constant (.int 1) k p1) p2)) p3) pos) (tRevT K te) := by
  subst hK
  exact pe_revT he
/-- how many are kept -/
theorem kept_count : ∀ (ys : List V) (bs : List Bool), bs.length = ys.length → decide (((keptV ys bs).length : Nat) % 2 = 0) = !xorL bs
  | [], [], _ => rfl
  | [], _ :: _, h => by simp at h
  | _ :: _, [], h => by simp at h
  | y :: ys, b :: bs, h => by
    have ih := kept_count ys bs (by simpa using h)
    unfold keptV at ih ⊢
    cases b with
    | false =>
      show _ = !(false.xor (xorL bs))
      rw [Bool.false_xor, ← ih]
      simp
    | true =>
      show _ = !(true.xor (xorL bs))
      rw [Bool.true_xor, ← ih]
      simp only [List.zip_cons_cons, List.filter_cons_of_pos, List.map_cons, List.length_cons]
      by_cases e : (((ys.zip bs).filter (·.2)).map (·.1)).length % 2 = 0
      · rw [decide_eq_true e, decide_eq_false (by omega)]
        rfl
      · rw [decide_eq_false e, decide_eq_true (by omega)]
        rfl
theorem comp_rangeT {D : Addr} {lo : Int} {n : Nat} {ys : List V} {bs : List Bool} {te : TE} {tt : TT} {j : Nat} {σ : L2.St} {H : Hp} {Qd : Hp → Prop} (hD : H D = none) (hl : ys.length = n) (hb : bs.length = n) (hz : n < sizeLine)
    (test : ∀ (i : Nat) (b : Bool), i < n → bs[i]? = some b → ∀ G, Same H G → ∀ Q : Bool → Hp → Prop, (∀ G', Same G G' → Q b G') → tt ((σ.set j none).set j (some (.int (lo + i)))) G Q)
    (each : ∀ (i : Nat) (y : V), i < n → ys[i]? = some y → ∀ G, Same H G → ∀ Q : VK, (∀ G', Same G G' → Q y G') → te ((σ.set j none).set j (some (.int (lo + i)))) G Q)
    (done : ∀ G, Same H G → G D = some (.lst (keptV ys bs)) → Qd G) :
    ∃ W : Nat → Nat → Hp → Prop, (∃ m, W 0 m (upd H D (.lst []))) ∧ ∀ i m G, W i m G →
      ((Itr lo n).stop i G ∧ Qd G) ∨ ((Itr lo n).go i G ∧ ∃ Nx : Hp → Prop, (∀ H', Nx H' → ∃ m', m' < m ∧ W (i + 1) m' H') ∧ ∀ x H', (Itr lo n).yld i G x H' → gName j x (wipe σ [j]) H' fun σ2 H2 => wipe σ2 [j] = wipe σ [j] ∧ tt σ2 H2 fun b H3 =>
        if b = true then te σ2 H3 fun y H4 => ∃ acc, H4 D = some (.lst acc) ∧ acc.length < sizeLine ∧ Nx (upd H4 D (.lst (acc ++ [y]))) else Nx H3) := by
  refine lc_range (fun i G => Same H G ∧ G D = some (.lst (keptV (ys.take i) (bs.take i)))) ⟨same_new hD, by rw [upd_same]; rfl⟩ (fun i G hi h => ?_) fun G h => done G h.1 ?_
  · have hy : ys[i]? = some ys[i] := List.getElem?_eq_getElem (by omega)
    have hbi : bs[i]? = some bs[i] := List.getElem?_eq_getElem (by omega)
    have sn := kept_snoc hy hbi
    refine ⟨?_, ?_⟩
    · show ((σ.set j none).set j (some (V.int (lo + i)))).set j none = σ.set j none
      rw [List.set_set, List.set_set]
    · refine test i _ hi hbi G h.1 _ fun G1 e1 => ?_
      refine ite2 (fun hbt => ?_) fun hbf => ?_
      · rw [if_pos hbt] at sn
        refine each i _ hi hy G1 (h.1.trans e1) _ fun G2 e2 => ?_
        refine ⟨_, e2 _ _ (e1 _ _ h.2), Nat.lt_of_le_of_lt (kept_len _ _) (by rw [List.length_take]; omega), same_mut ((h.1.trans e1).trans e2) hD, ?_⟩
        rw [upd_same, sn]
      · rw [if_neg hbf] at sn
        exact ⟨h.1.trans e1, by rw [sn]; exact e1 _ _ h.2⟩
  · rw [h.2, ← hl, List.take_length, hl, ← hb, List.take_length]
/-- the least number of times that brings all home -/
noncomputable def oftP (p : Nat → Nat) (n : Nat) : Nat := ((heads p n).map (lenOf p n)).foldl Nat.lcm 1
theorem lcm_fold {M : Nat} : ∀ (ms : List Nat) (a : Nat), a ∣ M → (∀ m ∈ ms, m ∣ M) → ms.foldl Nat.lcm a ∣ M
  | [], _, h, _ => h
  | m :: ms, a, h, g => lcm_fold ms (Nat.lcm a m) (Nat.lcm_dvd h (g m List.mem_cons_self)) fun x hx => g x (List.mem_cons_of_mem _ hx)
theorem fold_dvd : ∀ (ms : List Nat) (a : Nat), a ∣ ms.foldl Nat.lcm a ∧ ∀ m ∈ ms, m ∣ ms.foldl Nat.lcm a
  | [], a => ⟨Nat.dvd_refl a, fun _ h => nomatch h⟩
  | m :: ms, a => by
    obtain ⟨h1, h2⟩ := fold_dvd ms (Nat.lcm a m)
    refine ⟨Nat.dvd_trans (Nat.dvd_lcm_left a m) h1, fun x hx => ?_⟩
    rcases List.mem_cons.mp hx with rfl | hx
    · exact Nat.dvd_trans (Nat.dvd_lcm_right a x) h1
    · exact h2 x hx
theorem len_whole {n : Nat} {p : Nat → Nat} (hp : IsP n p) (n12 : n ≤ 12) {s : Nat} (hs : s < n) : lenOf p n s ∣ 27720 := by
  have L := hp.lenOf hs
  have h1 := L.pos
  have h2 := L.le
  have all : ∀ k : Nat, k < 13 → 0 < k → k ∣ 27720 := by decide
  exact all _ (by omega) h1
theorem oft_whole {n : Nat} {p : Nat → Nat} (hp : IsP n p) (n12 : n ≤ 12) : oftP p n ∣ 27720 := by
  refine lcm_fold _ _ (Nat.one_dvd _) fun m hm => ?_
  obtain ⟨s, hs, rfl⟩ := List.mem_map.mp hm
  exact len_whole hp n12 (heads_mem.mp hs).1
theorem oft_pos {n : Nat} {p : Nat → Nat} (hp : IsP n p) (n12 : n ≤ 12) : 0 < oftP p n := Nat.pos_of_dvd_of_pos (oft_whole hp n12) (by decide)
/-- a number of times brings all home just where the rounds' lengths go into it -/
theorem oft_home {n : Nat} {p : Nat → Nat} (hp : IsP n p) (k : Nat) : (∀ x, x < n → goes p k x = x) ↔ oftP p n ∣ k := by
  constructor
  · intro h
    refine lcm_fold _ _ (Nat.one_dvd _) fun m hm => ?_
    obtain ⟨s, hs, rfl⟩ := List.mem_map.mp hm
    have hsn := (heads_mem.mp hs).1
    have L := hp.lenOf hsn
    refine Nat.dvd_of_mod_eq_zero ?_
    refine Decidable.byContradiction fun no => ?_
    have e := h s hsn
    rw [goes_rest L.home] at e
    exact L.first _ (by omega) (Nat.mod_lt _ L.pos) e
  · intro h x hx
    by_cases fix : p x = x
    · have e := goes_home (p := p) (m := 1) (x := x) fix k
      rwa [Nat.mul_one] at e
    · obtain ⟨s, hs, j, hj, rfl⟩ := heads_cover hp hx fix
      have hsn := (heads_mem.mp hs).1
      have L := hp.lenOf hsn
      have d : lenOf p n s ∣ k := Nat.dvd_trans ((fold_dvd _ 1).2 _ (List.mem_map.mpr ⟨s, hs, rfl⟩)) h
      rw [← goes_add, Nat.add_comm, goes_add]
      have e : goes p k s = s := by
        obtain ⟨c, rfl⟩ := d
        rw [Nat.mul_comm]
        exact goes_home L.home c
      rw [e]
end RG
end RGp
section RGq
/-! names: texts of small letters -/
namespace RG
open PySem PySem.Spec PyProof.Rows L2
/-- small letters alone -/
def Low (z : Str) : Prop := ∀ c ∈ z.cps.toList, 97 ≤ c ∧ c ≤ 122
/-- a name -/
structure Nm (z : Str) : Prop where
  low : Low z
  pos : 1 ≤ z.length
  le : z.length ≤ 8
theorem Low.append {x y : Str} (a : Low x) (b : Low y) : Low (x ++ y) := by
  intro c hc
  have hc2 : c ∈ (x.cps ++ y.cps).toList := hc
  rw [Array.toList_append] at hc2
  rcases List.mem_append.mp hc2 with h | h
  · exact a c h
  · exact b c h
theorem Low.cut {z : Str} (a : Low z) (lo hi : Option Int) : Low (cutS z lo hi) := by
  intro c hc
  unfold cutS at hc
  have hc2 := List.mem_of_mem_take hc
  exact a c (List.mem_of_mem_drop hc2)
theorem Low.one {c : Nat} (h : 97 ≤ c ∧ c ≤ 122) : Low ⟨#[c]⟩ := by
  intro d hd
  have : d = c := by simpa using hd
  rw [this]
  exact h
theorem low_join : ∀ {ys : List Str}, (∀ y ∈ ys, Low y ∧ y.length = 1) → Low (Txt.join "" ys) ∧ (Txt.join "" ys).length = ys.length := by
  have e : ("" : Str) = ⟨#[]⟩ := by decide +kernel
  have go : ∀ ys : List Str, (∀ y ∈ ys, Low y ∧ y.length = 1) → Low (Str.join ⟨#[]⟩ ys) ∧ (Str.join ⟨#[]⟩ ys).length = ys.length := by
    intro ys
    induction ys with
    | nil =>
      intro _
      rw [PyProof.Rows.join_nil]
      exact ⟨(fun c hc => absurd hc (show c ∉ ([] : List Nat) from fun h => nomatch h)), rfl⟩
    | cons y ys ih =>
      intro h
      obtain ⟨h1, h2⟩ := h y List.mem_cons_self
      obtain ⟨h3, h4⟩ := ih fun z hz => h z (List.mem_cons_of_mem _ hz)
      rw [PyProof.Rows.join_nil_cons]
      refine ⟨h1.append h3, ?_⟩
      rw [strLen_append, h2, h4, List.length_cons]
      omega
  intro ys h
  rw [TL.join_eq, e]
  exact go ys h
def strV (xs : List Str) : List V := xs.map V.str
/-- some item of a list, a tuple, or a text -/
def spPickA (K : PySem.W.Frag) : Sp := fun vs H Q E => spPick K vs H Q E ∨ ∃ (i : PenI) (B : Nat) (z : Str), vs = [.ref i.p, .str z] ∧ Pen H i B ∧ B < 2 ^ 60 ∧ 0 < z.length ∧ z.length < 1000000 ∧
  ∀ (c : Nat) (H' : Hp), c ∈ z.cps.toList → Kb i.p H H' → Pen H' i (B + 1) → Q (.str ⟨#[c]⟩) H'
theorem pi_or {X : Cx} {tg e : Expr} {w1 w2 : TI} (h1 : PI X tg e w1) (h2 : PI X tg e w2) : PI X tg e (fun σ H R => w1 σ H R ∨ w2 σ H R) :=
  ⟨fun pins s σ H R I h => h.elim (h1.run pins s σ H R I) (h2.run pins s σ H R I)⟩
/-- a list or a tuple is gone through -/
theorem pi_lt {X : Cx} {tg e : Expr} {te : TE} (h : PE X e te) : PI X tg e (fun σ H R => iList X.K te σ H R ∨ iTup X.K te σ H R) := pi_or (pi_list h) (pi_tup h)
/-- ''.join(a text): the same text -/
def rJoinS : V → List V → Hp → VK → Prop := fun x xs H Q => ∃ z : Str, x = .str "" ∧ xs = [.str z] ∧ z.length ≤ 1000000 ∧ Q (.str z) H
theorem mt_joinS {X : Cx} (hc : X.calm = true) : MtR X "str.join" rJoinS := by
  intro pins s σ H x xs v us Q I rx rs h
  obtain ⟨z, rfl, rfl, hz, q⟩ := h
  obtain ⟨t, rfl⟩ := rx
  cases rs with
  | cons r1 rs =>
    cases rs
    obtain ⟨u, rfl⟩ := r1
    have e0 : ("" : Str) = ⟨#[]⟩ := by decide +kernel
    have ones : ((PyProof.Rows.signs z).map (·.length)).sum = z.cps.size := by
      have := signLens_sum z.cps.toList
      simpa [PyProof.Rows.signs] using this
    have hz2 : z.cps.size ≤ 1000000 := hz
    have ok : JoinOk "" (PyProof.Rows.signs z) = true := joinOk_of (by
      rw [ones, show (("" : Str)).length = 0 by decide +kernel]
      omega)
    refine SC.joinStr (I.ok.hd hc) ok fun h' k t' keep => ⟨.str z, H, I.kept keep, ?_, q⟩
    rw [TL.join_eq, e0, PyProof.Rows.join_nil_signs]
    exact ⟨t', rfl⟩
end RG
end RGq
section RGr
/-! anything within a tuple of texts; str of anything; comprehensions over a text, over a list with a test -/
namespace RG
open PySem PySem.Spec PyProof.Rows L2
open SeqAt in
theorem dict_eq_declines_str (l : Addr) (es : Array DictEntry) (n : Nat) (dd : Option Addr) (sl : Array (Option Value)) (b : Str) (u : Tok) :
    Meets (Builtin.«dict.__eq__» ⟨[.ref l, .str b u], []⟩) (fun _ R s => s.heap.get? l = some { cls := .type "dict", dict := dd, data := .dict es n, slots := sl } ∧ R (.ok (.ret .notImplemented)) s) :=
  .of_wp fun prog w A R s h => by obtain ⟨hp, g, d, tk, os⟩ := s; obtain ⟨hl, h⟩ := h; have f1 : isSubtype (.type "str") (.type "dict") = pure false := F.sub_str_dict; wp_walk using wpAny_loadPart' hl; exact ⟨_, rfl, h⟩
open SeqAt in
theorem str_eq_declines_dict (b : Str) (u : Tok) (l : Addr) (c : Value) (es : Array DictEntry) (n : Nat) (dd : Option Addr) (sl : Array (Option Value)) :
    Meets (Builtin.«str.__eq__» ⟨[.str b u, .ref l], []⟩) (fun _ R s => s.heap.get? l = some { cls := c, dict := dd, data := .dict es n, slots := sl } ∧ R (.ok (.ret .notImplemented)) s) :=
  .of_wp fun prog w A R s h => by obtain ⟨hp, g, d, tk, os⟩ := s; obtain ⟨hl, h⟩ := h; wp_walk using wpAny_loadPart' hl, wpAny_load hl; exact ⟨_, rfl, h⟩
section
variable {A : Around} {s : Shared}
theorem rc_str_dict {l : Addr} {o : Obj} {es : Array DictEntry} {n : Nat} (b : Str) (u : Tok) (ho : s.heap.get? l = some o) (hc : o.cls = .type "dict") (hd : o.data = .dict es n) (hu : A.units < cLine) : SeqAt.RcAt A s (.str b u) (.ref l) false := fun prog w E Q h => by
  obtain ⟨cls, dd, data, sl⟩ := o
  simp only at hc hd
  subst hc hd
  exact SeqAt.rc_eq_decline_or (k := false) (typeIs_str s b u) ⟨_, ho, rfl⟩ (by decide) F.sub_dict_str F.slot_str_eq F.slot_dict_eq_refl
    (fun _ hq => call_meets F.slot_str_eq (typeIs_str s b u) F.entry_str_eq (F.args_str_eq_2 _ _) (str_eq_declines_dict b u l (.type "dict") es n dd sl) ⟨ho, hq⟩)
    (fun _ hq => call_meets F.slot_dict_eq_refl ⟨_, ho, rfl⟩ F.entry_dict_eq (F.args_dict_eq_2 _ _) (dict_eq_declines_str l es n dd sl b u) ⟨ho, hq⟩)
    (fun _ hq => wpAny_of_eq (rfl : isSame (.str b u) (.ref l) = pure false) hq) (.inr hu) h
theorem eq_str_dict {l : Addr} {o : Obj} {es : Array DictEntry} {n : Nat} (b : Str) (u : Tok) (ho : s.heap.get? l = some o) (hc : o.cls = .type "dict") (hd : o.data = .dict es n) (hu : A.units < cLine) : SeqAt.EqAt A s (.str b u) (.ref l) false := fun prog w E Q h => by
  unfold eqBool
  refine wpAny_holding ?_
  refine wpAny_ite_split (fun hab => absurd (eq_of_beq hab) nofun) (fun _ => ?_)
  exact wpAny_bind (rc_str_dict b u ho hc hd hu prog w E _ (wpAny_truthy_bool h))
end
/-- whether data is just this text -/
def isT (y : Str) : PyData → Bool
  | .str z => y == z
  | _ => false
section
variable {X : Cx} {pins : List (Addr × Obj)} {σ : L2.St} {H : Hp} {s : Shared}
theorem eq_strD (I : Inv X pins σ H s) {x : V} {d : PyData} {v : Value} (h : Dd X.K H x d) (r : RelV x v) (y : Str) (t : Tok) {A : Around} (hu : A.units < cLine) : SeqAt.EqAt A s (.str y t) v (isT y d) := by
  cases h with
  | non => cases r; exact SeqAt.EqAt.str_none y t
  | bl b => cases r; exact SeqAt.EqAt.str_bool y t b
  | int i => obtain ⟨u, rfl⟩ := r; exact SeqAt.EqAt.str_int y t i u
  | str z => obtain ⟨u, rfl⟩ := r; exact SeqAt.EqAt.str_str y t z u
  | lst h1 _ =>
    cases r
    obtain ⟨its, _, pl, _⟩ := I.list h1
    exact SeqAt.EqAt.str_list y t pl.isList hu
  | tup h1 _ =>
    cases r
    obtain ⟨its, _, pl, _⟩ := I.tuple h1
    exact SeqAt.EqAt.str_tuple y t (show s.heap.IsTuple _ _ from pl) hu
  | dct h1 _ _ =>
    cases r
    obtain ⟨z, hy, vs, rel, o, es, ep, g1, g2, g3, g4, g5, g6⟩ := h1.ok I.hok
    exact eq_str_dict y t g1 g2.1 g3 hu
end
/-- x in (.., ..) of texts, x of any kind -/
def rInZ (K : PySem.W.Frag) (neg : Bool) : R2 := fun x y H Q => ∃ (p : Addr) (zs : List Str) (d : PyData), y = .ref p ∧ SqT K H p (strV zs) ∧ Dd K H x d ∧ Q (.bl (if neg then !zs.any (fun z => isT z d) else zs.any (fun z => isT z d))) H
def isTv (d : PyData) : Value → Bool
  | .str y _ => isT y d
  | _ => false
theorem strs_of : ∀ {zs : List Str} {us : List Value}, Vals (strV zs) us → ∀ d, (us.any (isTv d) = zs.any fun z => isT z d) ∧ ∀ u ∈ us, ∃ z t, u = .str z t
  | [], _, .nil, d => ⟨rfl, fun u h => nomatch h⟩
  | z :: zs, _, .cons (b := u) r t, d => by
    obtain ⟨k, rfl⟩ := r
    obtain ⟨h1, h2⟩ := strs_of t d
    refine ⟨by rw [List.any_cons, List.any_cons, h1]; rfl, fun u hu => ?_⟩
    rcases List.mem_cons.mp hu with rfl | hu
    · exact ⟨_, _, rfl⟩
    · exact h2 u hu
section
variable {X : Cx}
theorem op_inZ (hu : X.A.units + 64 < cLine) : OpR X (compareOp .In) (rInZ X.K false) := by
  intro pins s σ H x y v u Q I rx ry h
  obtain ⟨p, zs, d, rfl, hq, hd, q⟩ := h
  cases ry
  obtain ⟨its, r, pl, hz⟩ := I.tuple hq
  obtain ⟨e1, e2⟩ := strs_of r d
  refine SeqAt.in_tupleAt (isTv d) pl (fun w hw => ?_) ⟨.bl _, H, I, rfl, ?_⟩
  · obtain ⟨z, t, rfl⟩ := e2 w (by simpa using hw)
    exact eq_strD I hd rx z t (A := X.A.in1) (by show X.A.units + 1 < cLine; omega)
  · rw [show its.toArray.any (isTv d) = its.any (isTv d) by simp, e1]
    exact q
theorem op_notInZ (hu : X.A.units + 64 < cLine) : OpR X (compareOp .NotIn) (rInZ X.K true) := by
  intro pins s σ H x y v u Q I rx ry h
  obtain ⟨p, zs, d, rfl, hq, hd, q⟩ := h
  cases ry
  obtain ⟨its, r, pl, hz⟩ := I.tuple hq
  obtain ⟨e1, e2⟩ := strs_of r d
  refine SeqAt.notIn_tupleAt (isTv d) pl (fun w hw => ?_) ⟨.bl _, H, I, rfl, ?_⟩
  · obtain ⟨z, t, rfl⟩ := e2 w (by simpa using hw)
    exact eq_strD I hd rx z t (A := X.A.in1) (by show X.A.units + 1 < cLine; omega)
  · rw [show its.toArray.any (isTv d) = its.any (isTv d) by simp, e1]
    exact q
/-- str(x), x data without dicts -/
def strOfD : PyData → Str
  | .str z => z
  | d => d.shown
def rStrD (K : PySem.W.Frag) : List V → Hp → VK → Prop := fun vs H Q => ∃ (x : V) (d : PyData), vs = [x] ∧ Dd K H x d ∧ d.showable = true ∧ d.hasDict = false ∧ d.shown.length ≤ sizeLine ∧ d.depth ≤ 60 ∧ Q (.str (strOfD d)) H
theorem cr_strD (hg : X.A.guards = some []) (hu : X.A.units + 64 < cLine) : CallR X (.type "str") (rStrD X.K) := by
  intro pins s σ H vs us Q I r h
  obtain ⟨x, d, rfl, hx, hs, hn, hz, hd, q⟩ := h
  obtain ⟨u, rfl, rx⟩ := vals1 r
  have go : ∀ a, u = .ref a → (∀ z, d ≠ .str z) → wpAny (model X.prog X.w) X.A (call (.type "str") [u]) (EP X pins σ Q) X.xe s := fun a e ns => by
    subst e
    obtain ⟨as, bs, h1, _, _⟩ := hx.tells I rx hs hz
    refine str_of_reads h1 hs (fun e => by rw [hn] at e; cases e) hg (by omega) (fun _ _ e => e) (fun h' u tk kp => ⟨.str _, H, I.kept kp, ⟨_, rfl⟩, ?_⟩) hz
    have : strOfD d = d.shown := by
      cases d with
      | str z => exact absurd rfl (ns z)
      | _ => rfl
    rw [← this]
    exact q
  cases hx with
  | non =>
    cases rx
    exact PySem.P.str_of_none ⟨.str _, H, I.tok _, ⟨_, rfl⟩, by simpa only [strOfD, PyData.shown] using q⟩
  | bl b =>
    cases rx
    exact PySem.P.str_of_bool ⟨.str _, H, I.tok _, ⟨_, rfl⟩, by simpa only [strOfD, PyData.shown] using q⟩
  | int i =>
    obtain ⟨t, rfl⟩ := rx
    exact PySem.P.str_of_int (by simpa [PyData.showable] using hs) ⟨.str _, H, I.tok _, ⟨_, rfl⟩, by simpa only [strOfD, PyData.shown] using q⟩
  | str y =>
    obtain ⟨t, rfl⟩ := rx
    exact PySem.P.str_of_str ⟨.str _, H, I, ⟨_, rfl⟩, q⟩
  | lst h1 h2 => cases rx; exact go _ rfl fun _ => nofun
  | tup h1 h2 => cases rx; exact go _ rfl fun _ => nofun
  | dct h1 h0 h2 => cases rx; exact go _ rfl fun _ => nofun
end
/-- [e for c in z], z a text -/
theorem comp_str {z : Str} {D : Addr} {ys : List V} {te : TE} {j : Nat} {σ : L2.St} {H : Hp} {Qd : Hp → Prop} (hD : H D = none) (hl : ys.length = z.cps.size) (hz : z.cps.size < sizeLine)
    (each : ∀ (i c : Nat) (y : V), z.cps.toList[i]? = some c → ys[i]? = some y → ∀ G, Same H G → ∀ Q : VK, (∀ G', Same G G' → Q y G') → te ((σ.set j none).set j (some (.str ⟨#[c]⟩))) G Q)
    (done : ∀ G, Same H G → G D = some (.lst ys) → Qd G) :
    ∃ W : Nat → Nat → Hp → Prop, (∃ m, W 0 m (upd H D (.lst []))) ∧ ∀ i m G, W i m G →
      ((Its z).stop i G ∧ Qd G) ∨ ((Its z).go i G ∧ ∃ Nx : Hp → Prop, (∀ H', Nx H' → ∃ m', m' < m ∧ W (i + 1) m' H') ∧ ∀ x H', (Its z).yld i G x H' → gName j x (wipe σ [j]) H' fun σ2 H2 => wipe σ2 [j] = wipe σ [j] ∧ tYes σ2 H2 fun b H3 =>
        if b = true then te σ2 H3 fun y H4 => ∃ acc, H4 D = some (.lst acc) ∧ acc.length < sizeLine ∧ Nx (upd H4 D (.lst (acc ++ [y]))) else Nx H3) := by
  refine lc_it walk_str (fun i G => Same H G ∧ G D = some (.lst (ys.take i))) ⟨same_new hD, by rw [upd_same]; rfl⟩ (fun _ _ _ _ => trivial) (fun i x G G' hi h y => ?_) fun G h => done G h.1 (by rw [h.2, ← hl, List.take_length])
  obtain ⟨rfl, c, hc, rfl⟩ := y
  have hy : ys[i]? = some ys[i] := List.getElem?_eq_getElem (by omega)
  exact lc_step hD (by omega) hy h.1 h.2 (each i c _ (by rw [Array.getElem?_toList]; exact hc) hy G' h.1) fun G' e1 e2 => ⟨e1, e2⟩
/-- one turn of a comprehension with a test -/
theorem lc_stepT {te : TE} {tt : TT} {j : Nat} {σ : L2.St} {H G : Hp} {D : Addr} {x y : V} {ys : List V} {bs : List Bool} {i : Nat} {b : Bool} {Pn : Hp → Prop} (hD : H D = none) (hz : ys.length < sizeLine) (hy : ys[i]? = some y) (hb : bs[i]? = some b)
    (e : Same H G) (g : G D = some (.lst (keptV (ys.take i) (bs.take i))))
    (t : ∀ Q : Bool → Hp → Prop, (∀ G', Same G G' → Q b G') → tt ((σ.set j none).set j (some x)) G Q)
    (h : ∀ G1, Same G G1 → ∀ Q : VK, (∀ G', Same G1 G' → Q y G') → te ((σ.set j none).set j (some x)) G1 Q)
    (n : ∀ G', Same H G' → G' D = some (.lst (keptV (ys.take (i + 1)) (bs.take (i + 1)))) → Pn G') :
    gName j x (wipe σ [j]) G fun σ2 H2 => wipe σ2 [j] = wipe σ [j] ∧ tt σ2 H2 fun b H3 =>
      if b = true then te σ2 H3 fun y H4 => ∃ acc, H4 D = some (.lst acc) ∧ acc.length < sizeLine ∧ Pn (upd H4 D (.lst (acc ++ [y]))) else Pn H3 := by
  have sn := kept_snoc hy hb
  refine ⟨?_, ?_⟩
  · show ((σ.set j none).set j (some x)).set j none = σ.set j none
    rw [List.set_set, List.set_set]
  · refine t _ fun G1 e1 => ?_
    refine ite2 (fun hbt => ?_) fun hbf => ?_
    · rw [if_pos hbt] at sn
      refine h G1 e1 _ fun G2 e2 => ?_
      refine ⟨_, e2 _ _ (e1 _ _ g), Nat.lt_of_le_of_lt (kept_len _ _) (by rw [List.length_take]; omega), n _ (same_mut ((e.trans e1).trans e2) hD) ?_⟩
      rw [upd_same, sn]
    · rw [if_neg hbf] at sn
      exact n _ (e.trans e1) (by rw [sn]; exact e1 _ _ g)
/-- [e for c in z if ..] -/
theorem comp_strT {z : Str} {D : Addr} {ys : List V} {bs : List Bool} {te : TE} {tt : TT} {j : Nat} {σ : L2.St} {H : Hp} {Qd : Hp → Prop} (hD : H D = none) (hl : ys.length = z.cps.size) (hb : bs.length = z.cps.size) (hz : z.cps.size < sizeLine)
    (test : ∀ (i c : Nat) (b : Bool), z.cps.toList[i]? = some c → bs[i]? = some b → ∀ G, Same H G → ∀ Q : Bool → Hp → Prop, (∀ G', Same G G' → Q b G') → tt ((σ.set j none).set j (some (.str ⟨#[c]⟩))) G Q)
    (each : ∀ (i c : Nat) (y : V), z.cps.toList[i]? = some c → ys[i]? = some y → ∀ G, Same H G → ∀ Q : VK, (∀ G', Same G G' → Q y G') → te ((σ.set j none).set j (some (.str ⟨#[c]⟩))) G Q)
    (done : ∀ G, Same H G → G D = some (.lst (keptV ys bs)) → Qd G) :
    ∃ W : Nat → Nat → Hp → Prop, (∃ m, W 0 m (upd H D (.lst []))) ∧ ∀ i m G, W i m G →
      ((Its z).stop i G ∧ Qd G) ∨ ((Its z).go i G ∧ ∃ Nx : Hp → Prop, (∀ H', Nx H' → ∃ m', m' < m ∧ W (i + 1) m' H') ∧ ∀ x H', (Its z).yld i G x H' → gName j x (wipe σ [j]) H' fun σ2 H2 => wipe σ2 [j] = wipe σ [j] ∧ tt σ2 H2 fun b H3 =>
        if b = true then te σ2 H3 fun y H4 => ∃ acc, H4 D = some (.lst acc) ∧ acc.length < sizeLine ∧ Nx (upd H4 D (.lst (acc ++ [y]))) else Nx H3) := by
  refine lc_it walk_str (fun i G => Same H G ∧ G D = some (.lst (keptV (ys.take i) (bs.take i)))) ⟨same_new hD, by rw [upd_same]; rfl⟩ (fun _ _ _ _ => trivial) (fun i x G G' hi h y => ?_) fun G h => done G h.1 (by rw [h.2, ← hl, List.take_length, hl, ← hb, List.take_length])
  obtain ⟨rfl, c, hc, rfl⟩ := y
  have hy : ys[i]? = some ys[i] := List.getElem?_eq_getElem (by omega)
  have hbi : bs[i]? = some bs[i] := List.getElem?_eq_getElem (by omega)
  have hc2 : z.cps.toList[i]? = some c := by rw [Array.getElem?_toList]; exact hc
  exact lc_stepT hD (by omega) hy hbi h.1 h.2 (test i c _ hc2 hbi G' h.1) (fun G1 e1 => each i c _ hc2 hy G1 (h.1.trans e1)) fun G' e1 e2 => ⟨e1, e2⟩
/-- [e for x in xs if ..], xs a list -/
theorem comp_listT {K : PySem.W.Frag} {a D : Addr} {xs ys : List V} {bs : List Bool} {te : TE} {tt : TT} {j : Nat} {σ : L2.St} {H : Hp} {Qd : Hp → Prop} (hD : H D = none) (ha : SqL K H a xs) (hl : ys.length = xs.length) (hb : bs.length = xs.length) (hz : xs.length < sizeLine)
    (test : ∀ (i : Nat) (x : V) (b : Bool), xs[i]? = some x → bs[i]? = some b → ∀ G, Same H G → ∀ Q : Bool → Hp → Prop, (∀ G', Same G G' → Q b G') → tt ((σ.set j none).set j (some x)) G Q)
    (each : ∀ (i : Nat) (x y : V), xs[i]? = some x → ys[i]? = some y → ∀ G, Same H G → ∀ Q : VK, (∀ G', Same G G' → Q y G') → te ((σ.set j none).set j (some x)) G Q)
    (done : ∀ G, Same H G → G D = some (.lst (keptV ys bs)) → Qd G) :
    ∃ W : Nat → Nat → Hp → Prop, (∃ m, W 0 m (upd H D (.lst []))) ∧ ∀ i m G, W i m G →
      ((Itl K a).stop i G ∧ Qd G) ∨ ((Itl K a).go i G ∧ ∃ Nx : Hp → Prop, (∀ H', Nx H' → ∃ m', m' < m ∧ W (i + 1) m' H') ∧ ∀ x H', (Itl K a).yld i G x H' → gName j x (wipe σ [j]) H' fun σ2 H2 => wipe σ2 [j] = wipe σ [j] ∧ tt σ2 H2 fun b H3 =>
        if b = true then te σ2 H3 fun y H4 => ∃ acc, H4 D = some (.lst acc) ∧ acc.length < sizeLine ∧ Nx (upd H4 D (.lst (acc ++ [y]))) else Nx H3) := by
  refine lc_list (xs := xs) (fun i G => Same H G ∧ G D = some (.lst (keptV (ys.take i) (bs.take i)))) ⟨same_new hD, by rw [upd_same]; rfl⟩ (fun i G _ h => sql_same h.1 ha) (fun i x G hi h => ?_) fun G h => done G h.1 ?_
  · have hlt : i < xs.length := (List.getElem?_eq_some_iff.mp hi).1
    have hy : ys[i]? = some ys[i] := List.getElem?_eq_getElem (by omega)
    have hbi : bs[i]? = some bs[i] := List.getElem?_eq_getElem (by omega)
    exact lc_stepT hD (by omega) hy hbi h.1 h.2 (test i x _ hi hbi G h.1) (fun G1 e1 => each i x _ hi hy G1 (h.1.trans e1)) fun G' e1 e2 => ⟨e1, e2⟩
  · rw [h.2, ← hl, List.take_length, hl, ← hb, List.take_length]
end RG
end RGr
section RGs
/-! Expressions read as data: literals of any depth in one go. -/
namespace RG
open PySem PySem.Spec PyProof.Rows L2
/-- xs + ys of lists: a new list -/
def rCatL (K : PySem.W.Frag) : R2 := fun x y H Q => ∃ a b xs ys, x = .ref a ∧ y = .ref b ∧ SqL K H a xs ∧ SqL K H b ys ∧ xs.length + ys.length ≤ sizeLine ∧ ∀ p, H p = none → Q (.ref p) (upd H p (.lst (xs ++ ys)))
theorem op_catL {X : Cx} : OpR X (binaryOp .Add) (rCatL X.K) := by
  intro pins s σ H x y v u Q I rx ry h
  obtain ⟨a, b, xs, ys, rfl, rfl, ha, hb, hz, q⟩ := h
  cases rx
  cases ry
  obtain ⟨i1, r1, p1, _⟩ := I.list ha
  obtain ⟨i2, r2, p2, _⟩ := I.list hb
  have z1 := r1.length
  have z2 := r2.length
  obtain ⟨⟨c1, d1, t1, s1⟩, o1, e1, m1, f1⟩ := id p1.isList
  obtain ⟨⟨c2, d2, t2, s2⟩, o2, e2, m2, f2⟩ := id p2.isList
  simp only at e1 f1 e2 f2
  subst e1 f1 e2 f2
  have both : i1.toArray ++ i2.toArray = (i1 ++ i2).toArray := by simp
  refine concat_meets ⟨_, o1, rfl⟩ ⟨_, o2, rfl⟩ noFill_list_add seq_list_add PySem.F.slot_list_add PySem.F.entry_list_add (PySem.F.args_list_add_2 _ _) (list_addW a b i1.toArray i2.toArray m1 m2 d1 d2 s1 s2 (by rw [List.size_toArray, List.size_toArray]; omega)) ⟨o1, o2, ?_⟩
  rw [both]
  exact ⟨.ref _, _, I.lnew (t' := s.toks) (r1.append r2) (by rw [List.length_append]; omega), rfl, q _ I.fresh⟩
theorem kept_empty : ∀ (ys : List V) (bs : List Bool), bs.length = ys.length → (keptV ys bs).isEmpty = bs.all (!·)
  | [], [], _ => rfl
  | [], _ :: _, h => by simp at h
  | _ :: _, [], h => by simp at h
  | y :: ys, b :: bs, h => by
    have ih := kept_empty ys bs (by simpa using h)
    unfold keptV at ih ⊢
    cases b with
    | true => simp
    | false => simpa using ih
/-- xs == [], lists -/
def rEqNil (K : PySem.W.Frag) : R2 := fun x y H Q => ∃ a b xs, x = .ref a ∧ y = .ref b ∧ SqL K H a xs ∧ SqL K H b [] ∧ Q (.bl xs.isEmpty) H
theorem op_eqNil {X : Cx} (hu : X.A.units < cLine) : OpR X (compareOp .Eq) (rEqNil X.K) := by
  intro pins s σ H x y v u Q I rx ry h
  obtain ⟨a, b, xs, rfl, rfl, ha, hb, q⟩ := h
  cases rx
  cases ry
  obtain ⟨i1, r1, p1, _⟩ := I.list ha
  obtain ⟨i2, r2, p2, _⟩ := I.list hb
  cases r2
  cases r1 with
  | nil => exact SeqAt.RcAt.lists (e := fun _ => true) p1.isList p2.isList rfl hu (fun j h1 _ => absurd h1 (by simp)) X.prog X.w _ _ ⟨.bl true, H, I, rfl, q⟩
  | cons r t => exact SeqAt.RcAt.lists_lengths p1.isList p2.isList (by simp) hu X.prog X.w _ _ ⟨.bl false, H, I, rfl, q⟩
/-- what data an expression can be, by the slots and the heap -/
abbrev DR := L2.St → Hp → PyData → Prop
abbrev DRs := L2.St → Hp → List PyData → Prop
/-- the expression gives new or old data d; all that stood stands -/
def tD (K : PySem.W.Frag) (t : DR) : TE := fun σ H Q => ∃ d, t σ H d ∧ ∀ x H', Same H H' → Dd K H' x d → Q x H'
def tDs (K : PySem.W.Frag) (t : DRs) : TA := fun σ H Q => ∃ ds, t σ H ds ∧ ∀ xs H', Same H H' → DdAll K H' xs ds → Q xs H'
structure PD (X : Cx) (e : Expr) (t : DR) : Prop where
  pe : PE X e (tD X.K t)
  up : ∀ σ H H' d, Same H H' → t σ H d → t σ H' d
structure PDs (X : Cx) (es : List Expr) (t : DRs) : Prop where
  pa : PA X es (tDs X.K t)
  up : ∀ σ H H' d, Same H H' → t σ H d → t σ H' d
section
variable {X : Cx} {e : Expr} {es : List Expr} {te : TE} {t : DR} {ts : DRs} {pos : Pos}
theorem pd_of (he : PE X e te) (h : ∀ σ H Q d, t σ H d → (∀ x H', Same H H' → Dd X.K H' x d → Q x H') → te σ H Q) (up : ∀ σ H H' d, Same H H' → t σ H d → t σ H' d) : PD X e t :=
  ⟨⟨fun pins s σ H Q I q => he.run pins s σ H Q I (let ⟨d, h1, h2⟩ := q; h σ H Q d h1 h2)⟩, up⟩
theorem pd_int {i j} : PD X (.Constant (.int i) j pos) (fun _ _ d => d = .int i) := pd_of pe_int (fun _ H _ _ e h => by subst e; exact h _ _ (Same.refl H) (.int i)) fun _ _ _ _ _ h => h
theorem pd_str {x j} : PD X (.Constant (.str x) j pos) (fun _ _ d => d = .str x) := pd_of pe_str (fun _ H _ _ e h => by subst e; exact h _ _ (Same.refl H) (.str x)) fun _ _ _ _ _ h => h
theorem pd_bl {b j} : PD X (.Constant (.bool b) j pos) (fun _ _ d => d = .bool b) := pd_of pe_bl (fun _ H _ _ e h => by subst e; exact h _ _ (Same.refl H) (.bl b)) fun _ _ _ _ _ h => h
theorem pd_non {j} : PD X (.Constant .none j pos) (fun _ _ d => d = .none) := pd_of pe_non (fun _ H _ _ e h => by subst e; exact h _ _ (Same.refl H) .non) fun _ _ _ _ _ h => h
theorem pd_dnew : PD X (.Dict [] [] pos) (fun _ _ d => d = .dict []) := pd_of pe_dnewK (fun _ H _ _ e h => by subst e; exact fun p hp => h _ _ (same_new hp) (.dct (.inl upd_same) rfl .nil)) fun _ _ _ _ _ h => h
/-- a slot's data -/
def dVar (K : PySem.W.Frag) (i : Nat) : DR := fun σ H d => ∃ v, σ[i]? = some (some v) ∧ Dd K H v d
theorem pd_var {i : Nat} (he : PE X e (tVar i)) : PD X e (dVar X.K i) :=
  pd_of he (fun σ H Q d h k => let ⟨v, h1, h2⟩ := h; ⟨v, h1, k v H (Same.refl H) h2⟩) fun _ _ _ _ e h => let ⟨v, h1, h2⟩ := h; ⟨v, h1, h2.same e⟩
/-- a number reckoned of slots -/
def dInt (f : L2.St → Int → Prop) : DR := fun σ _ d => ∃ i, f σ i ∧ d = .int i
theorem pd_num {f : L2.St → Int → Prop} (he : PE X e te) (h : ∀ σ H Q i, f σ i → Q (.int i) H → te σ H Q) : PD X e (dInt f) :=
  pd_of he (fun σ H Q d q k => by obtain ⟨i, h1, rfl⟩ := q; exact h σ H Q i h1 (k _ _ (Same.refl H) (.int i))) fun _ _ _ _ _ h => h
theorem pd_neg {i j} {p1 p2 : Pos} : PD X (.UnaryOp .USub (.Constant (.int i) j p1) p2) (fun _ _ d => d = .int (-i)) := pd_of (pe_un un_neg pe_int) (fun _ H _ _ e h => by subst e; exact ⟨_, rfl, h _ _ (Same.refl H) (.int (-i))⟩) fun _ _ _ _ _ h => h
def dNil : DRs := fun _ _ ds => ds = []
def dCons (t : DR) (ts : DRs) : DRs := fun σ H ds => ∃ d es, t σ H d ∧ ts σ H es ∧ ds = d :: es
theorem pds_nil : PDs X [] dNil := ⟨⟨fun pos pins s σ H Q I q => pa_nil.run pos pins s σ H Q I (let ⟨ds, h1, h2⟩ := q; h2 _ _ (Same.refl H) (by rw [show ds = [] from h1]; exact .nil))⟩, fun _ _ _ _ _ h => h⟩
theorem pds_cons (ha : PD X e t) (hr : PDs X es ts) (hs : starEach (e :: es) X.env = (false, eval e X.env) :: starEach es X.env := by rfl) : PDs X (e :: es) (dCons t ts) := by
  refine ⟨⟨fun pos pins s σ H Q I q => (pa_cons ha.pe hr.pa hs).run pos pins s σ H Q I ?_⟩, ?_⟩
  · obtain ⟨_, ⟨d, es, h1, h2, rfl⟩, k⟩ := q
    exact ⟨d, h1, fun x G e1 d1 => ⟨es, hr.up _ _ _ _ e1 h2, fun xs G2 e2 d2 => k (x :: xs) G2 (e1.trans e2) (.cons (d1.same e2) d2)⟩⟩
  · rintro σ H H' _ e ⟨d, es, h1, h2, rfl⟩
    exact ⟨d, es, ha.up _ _ _ _ e h1, hr.up _ _ _ _ e h2, rfl⟩
def dTup (ts : DRs) : DR := fun σ H d => ∃ ds, ts σ H ds ∧ ds.length ≤ 1000 ∧ d = .tuple ds
def dLst (ts : DRs) : DR := fun σ H d => ∃ ds, ts σ H ds ∧ ds.length ≤ 1000 ∧ d = .list ds
theorem pd_tup {x1} (h : PDs X es ts) : PD X (.Tuple es x1 pos) (dTup ts) := by
  refine pd_of (pe_tup h.pa) (fun σ H Q d q k => ?_) ?_
  · obtain ⟨ds, h1, hz, rfl⟩ := q
    refine ⟨ds, h1, fun xs G e dd => ⟨?_, fun p hp => k _ _ (e.trans (same_new hp)) (.tup (SqT.of upd_same) (dd.same (same_new hp)))⟩⟩
    rw [dd.length]
    exact Nat.le_trans hz (by decide)
  · rintro σ H H' _ e ⟨ds, h1, hz, rfl⟩
    exact ⟨ds, h.up _ _ _ _ e h1, hz, rfl⟩
theorem pd_lst (h : PDs X es ts) : PD X (.List es pos) (dLst ts) := by
  refine pd_of (pe_lst h.pa) (fun σ H Q d q k => ?_) ?_
  · obtain ⟨ds, h1, hz, rfl⟩ := q
    refine ⟨ds, h1, fun xs G e dd => ⟨?_, fun p hp => k _ _ (e.trans (same_new hp)) (.lst (SqL.of upd_same) (dd.same (same_new hp)))⟩⟩
    rw [dd.length]
    exact Nat.le_trans hz (by decide)
  · rintro σ H H' _ e ⟨ds, h1, hz, rfl⟩
    exact ⟨ds, h.up _ _ _ _ e h1, hz, rfl⟩
/-- t[j] of a tuple's data, j written -/
def dAt (j : Nat) (t : DR) : DR := fun σ H d => ∃ ds, t σ H (.tuple ds) ∧ ds[j]? = some d
theorem pd_at {j k : Nat} {p1 : Pos} (h : PD X e t) : PD X (.Subscript e (.Constant (.int (j : Int)) k p1) pos) (dAt j t) := by
  refine pd_of (pe_ix ix_tup h.pe pe_int (fun _ _ => rfl)) (fun σ H Q d q k => ?_) ?_
  · obtain ⟨ds, h1, hj⟩ := q
    refine ⟨_, h1, fun x G e dd => ?_⟩
    cases dd with
    | @tup a xs ds h2 h3 =>
      have hlt := (List.getElem?_eq_some_iff.mp hj).1
      have hlt2 : j < xs.length := by rw [h3.length]; exact hlt
      have hx : xs[j]? = some xs[j] := List.getElem?_eq_getElem hlt2
      obtain ⟨d', h4, h5⟩ := h3.get hx
      rw [hj] at h4
      cases h4
      exact ⟨a, xs, _, _, rfl, rfl, h2, atI_nat hx, k _ _ e h5⟩
  · rintro σ H H' d e ⟨ds, h1, hj⟩
    exact ⟨ds, h.up _ _ _ _ e h1, hj⟩
/-- str(e) -/
def dStr (t : DR) : DR := fun σ H d => ∃ e, t σ H e ∧ e.showable = true ∧ e.hasDict = false ∧ e.shown.length ≤ sizeLine ∧ e.depth ≤ 60 ∧ d = .str (strOfD e)
theorem pd_strOf {p : Pos} (hg : X.A.guards = some []) (hu : X.A.units + 64 < cLine) (gl : Gl X "str") (hm : X.mg "str" = none) (h : PD X e t) (na : starEach [e] X.env = (false, eval e X.env) :: starEach [] X.env := by rfl) : PD X (.Call (.Name "str" p) [e] [] pos) (dStr t) := by
  refine pd_of (pe_callTy (cr_strD hg hu) gl hm b_str (pa_cons h.pe pa_nil na) (he := na)) (fun σ H Q d q k => ?_) ?_
  · obtain ⟨e, h1, q1, q2, q3, q4, rfl⟩ := q
    exact ⟨e, h1, fun x G e1 dd => ⟨x, e, rfl, dd, q1, q2, q3, q4, k _ _ e1 (.str _)⟩⟩
  · rintro σ H H' d e ⟨e1, h1, q⟩
    exact ⟨e1, h.up _ _ _ _ e h1, q⟩
/-- a[:u], a[u:] of a list's data, u a number from 0 on -/
def dTake (t : DR) (f : L2.St → Int → Prop) : DR := fun σ H d => ∃ ds k, t σ H (.list ds) ∧ f σ ((k : Nat) : Int) ∧ d = .list (ds.take k)
def dDrop (t : DR) (f : L2.St → Int → Prop) : DR := fun σ H d => ∃ ds k, t σ H (.list ds) ∧ f σ ((k : Nat) : Int) ∧ d = .list (ds.drop k)
theorem pd_take {u : Expr} {tu : TE} {f : L2.St → Int → Prop} {p2 : Pos} (ha : PD X e t) (hu : PE X u tu) (h : ∀ σ H Q i, f σ i → Q (.int i) H → tu σ H Q) : PD X (.Subscript e (.Slice none (some u) none p2) pos) (dTake t f) := by
  refine pd_of (pe_slice sl_list ha.pe po_none (po_some hu)) (fun σ H Q d q k => ?_) ?_
  · obtain ⟨ds, n, h1, h2, rfl⟩ := q
    refine ⟨_, h1, fun x G e1 d1 => h σ G _ _ h2 ⟨_, rfl, ?_⟩⟩
    cases d1 with
    | @lst a xs ds g1 g2 =>
      refine ⟨a, xs, rfl, g1, fun p hp => ?_⟩
      rw [cut_front]
      exact k _ _ (e1.trans (same_new hp)) (.lst (SqL.of upd_same) ((g2.take n).same (same_new hp)))
  · rintro σ H H' d e ⟨ds, n, h1, h2⟩
    exact ⟨ds, n, ha.up _ _ _ _ e h1, h2⟩
theorem pd_drop {u : Expr} {tu : TE} {f : L2.St → Int → Prop} {p2 : Pos} (ha : PD X e t) (hu : PE X u tu) (h : ∀ σ H Q i, f σ i → Q (.int i) H → tu σ H Q) : PD X (.Subscript e (.Slice (some u) none none p2) pos) (dDrop t f) := by
  refine pd_of (pe_slice sl_list ha.pe (po_some hu) po_none) (fun σ H Q d q k => ?_) ?_
  · obtain ⟨ds, n, h1, h2, rfl⟩ := q
    refine ⟨_, h1, fun x G e1 d1 => h σ G _ _ h2 ⟨_, rfl, ?_⟩⟩
    cases d1 with
    | @lst a xs ds g1 g2 =>
      refine ⟨a, xs, rfl, g1, fun p hp => ?_⟩
      rw [cut_back]
      exact k _ _ (e1.trans (same_new hp)) (.lst (SqL.of upd_same) ((g2.drop n).same (same_new hp)))
  · rintro σ H H' d e ⟨ds, n, h1, h2⟩
    exact ⟨ds, n, ha.up _ _ _ _ e h1, h2⟩
/-- tuple(a) of a list's data -/
def dTupL (t : DR) : DR := fun σ H d => ∃ ds, t σ H (.list ds) ∧ d = .tuple ds
theorem pd_tupL {p : Pos} (gl : Gl X "tuple") (hm : X.mg "tuple" = none) (h : PD X e t) (na : starEach [e] X.env = (false, eval e X.env) :: starEach [] X.env := by rfl) : PD X (.Call (.Name "tuple" p) [e] [] pos) (dTupL t) := by
  refine pd_of (pe_callTy call_tuple_of gl hm b_tuple (pa_cons h.pe pa_nil na) (he := na)) (fun σ H Q d q k => ?_) ?_
  · obtain ⟨ds, h1, rfl⟩ := q
    refine ⟨_, h1, fun x G e1 d1 => ?_⟩
    cases d1 with
    | @lst a xs ds g1 g2 => exact ⟨a, xs, rfl, .inl ⟨g1, fun p hp => k _ _ (e1.trans (same_new hp)) (.tup (SqT.of upd_same) (g2.same (same_new hp)))⟩⟩
  · rintro σ H H' d e ⟨ds, h1, q⟩
    exact ⟨ds, h.up _ _ _ _ e h1, q⟩
/-- a + b of lists' data -/
def dCat (t u : DR) : DR := fun σ H d => ∃ ds es, t σ H (.list ds) ∧ u σ H (.list es) ∧ ds.length + es.length ≤ 10000000 ∧ d = .list (ds ++ es)
theorem pd_cat {a b : Expr} {u : DR} (ha : PD X a t) (hb : PD X b u) : PD X (.BinOp a .Add b pos) (dCat t u) := by
  refine pd_of (pe_op op_catL ha.pe hb.pe) (fun σ H Q d q k => ?_) ?_
  · obtain ⟨ds, es, h1, h2, hz, rfl⟩ := q
    refine ⟨_, h1, fun x G e1 d1 => ⟨_, hb.up _ _ _ _ e1 h2, fun y G2 e2 d2 => ?_⟩⟩
    have d1 := d1.same e2
    cases d1 with
    | @lst a1 xs ds g1 g2 =>
      cases d2 with
      | @lst a2 ys es g3 g4 =>
        refine ⟨a1, a2, xs, ys, rfl, rfl, g1, g3, ?_, fun p hp => k _ _ ((e1.trans e2).trans (same_new hp)) (.lst (SqL.of upd_same) ((g2.append g4).same (same_new hp)))⟩
        rw [g2.length, g4.length]
        exact Nat.le_trans hz (by decide)
  · rintro σ H H' _ e ⟨ds, es, h1, h2, hz, rfl⟩
    exact ⟨ds, es, ha.up _ _ _ _ e h1, hb.up _ _ _ _ e h2, hz, rfl⟩
end
theorem wipe_two {j1 j2 : Nat} (hj : j1 ≠ j2) (σ : L2.St) (a b : Option V) : wipe (((wipe σ [j1, j2]).set j1 a).set j2 b) [j1, j2] = wipe σ [j1, j2] := by
  simp only [wipe]
  rw [List.set_set, List.set_set, List.set_comm a none hj, List.set_set, List.set_set]
/-- [e for i, x in enumerate(xs)] -/
theorem comp_enumL {K : PySem.W.Frag} {a D : Addr} {xs ys : List V} {te : TE} {j1 j2 : Nat} {σ : L2.St} {H : Hp} {Qd : Hp → Prop} (hj : j1 ≠ j2) (hD : H D = none) (ha : SqL K H a xs) (hl : ys.length = xs.length) (hz : xs.length < sizeLine)
    (each : ∀ (i : Nat) (x y : V), xs[i]? = some x → ys[i]? = some y → ∀ G, Same H G → ∀ Q : VK, (∀ G', Same G G' → Q y G') → te (((wipe σ [j1, j2]).set j1 (some (.int (i : Nat)))).set j2 (some x)) G Q)
    (done : ∀ G, Same H G → G D = some (.lst ys) → Qd G) :
    ∃ W : Nat → Nat → Hp → Prop, (∃ m, W 0 m (upd H D (.lst []))) ∧ ∀ i m G, W i m G →
      ((Ite K a).stop i G ∧ Qd G) ∨ ((Ite K a).go i G ∧ ∃ Nx : Hp → Prop, (∀ H', Nx H' → ∃ m', m' < m ∧ W (i + 1) m' H') ∧ ∀ x H', (Ite K a).yld i G x H' → gTup K 2 (gCons (gName j1) (gCons (gName j2) gNil)) x (wipe σ [j1, j2]) H' fun σ2 H2 => wipe σ2 [j1, j2] = wipe σ [j1, j2] ∧ tYes σ2 H2 fun b H3 =>
        if b = true then te σ2 H3 fun y H4 => ∃ acc, H4 D = some (.lst acc) ∧ acc.length < sizeLine ∧ Nx (upd H4 D (.lst (acc ++ [y]))) else Nx H3) := by
  refine lc_enumL (xs := xs) (fun i G => Same H G ∧ G D = some (.lst (ys.take i))) ⟨same_new hD, by rw [upd_same]; rfl⟩ (fun i G _ h => sql_same h.1 ha) (fun i x G t hi h ht => ?_) fun G h => done G h.1 (by rw [h.2, ← hl, List.take_length])
  have hlt : i < xs.length := (List.getElem?_eq_some_iff.mp hi).1
  have hy : ys[i]? = some ys[i] := List.getElem?_eq_getElem (by omega)
  have e3 : Same G (upd G t (.tup [.int (i : Nat), x])) := same_new ht
  refine ⟨t, _, rfl, SqT.of upd_same, rfl, ?_⟩
  refine ⟨_, _, rfl, _, _, rfl, rfl, ?_⟩
  refine ⟨?_, ?_⟩
  · exact wipe_two hj σ _ _
  · unfold tYes
    simp only [if_true]
    refine each i x _ hi hy _ (h.1.trans e3) _ fun G' e2 => ⟨_, e2 _ _ (e3 _ _ h.2), ?_, ?_⟩
    · rw [List.length_take]
      omega
    · refine ⟨same_mut ((h.1.trans e3).trans e2) hD, ?_⟩
      rw [upd_same, take_snoc hy]
end RG
end RGs
section RGt
/-! The size of what str and repr write: signs below 2^32, cells of rows. -/
namespace RG
open PySem PySem.Spec PyProof.Rows L2
def okc (t : Str) : Bool := t.cps.toList.all (fun c => decide (c < 4294967296))
theorem okc_app {x y : Str} (hx : okc x = true) (hy : okc y = true) : okc (x ++ y) = true := by
  unfold okc at *
  rw [List.all_eq_true] at *
  intro c hc
  have hc2 : c ∈ (x.cps ++ y.cps).toList := hc
  rw [Array.toList_append] at hc2
  rcases List.mem_append.mp hc2 with h | h
  · exact hx c h
  · exact hy c h
theorem okc_lit (s : String) : okc (Str.ofString s) = true := by
  rw [Str.ofString_eq_toList]
  unfold okc
  rw [List.all_eq_true]
  intro c hc
  simp only [List.mem_map] at hc
  obtain ⟨ch, _, rfl⟩ := hc
  have : ch.toNat < 4294967296 := by
    have h := ch.val.toNat_lt
    exact h
  simpa using this
theorem okc_one {c : Nat} (h : c < 4294967296) : okc ⟨#[c]⟩ = true := by
  unfold okc
  simpa using h
open Builtin Builtin.Str in
theorem reprChar_ok (q c : Nat) (hq : q < 4294967296) (hc : c < 4294967296) : ∀ d ∈ reprChar q c, d < 4294967296 := by
  have hx : ∀ w, ∀ d ∈ (List.replicate (w - ((Nat.toDigits 16 c).map Char.toNat).length) 48 ++ (Nat.toDigits 16 c).map Char.toNat), d < 4294967296 := by
    intro w d hd
    rcases List.mem_append.mp hd with h | h
    · rw [List.mem_replicate] at h
      rw [h.2]
      decide
    · obtain ⟨ch, _, rfl⟩ := List.mem_map.mp h
      exact ch.val.toNat_lt
  intro d hd
  unfold reprChar at hd
  dsimp only at hd
  repeat' split at hd
  all_goals simp only [List.mem_append, List.mem_cons, List.not_mem_nil, or_false] at hd
  · rcases hd with rfl | rfl
    · decide
    · exact hc
  · rcases hd with rfl | rfl <;> decide
  · rcases hd with rfl | rfl <;> decide
  · rcases hd with rfl | rfl <;> decide
  · rw [hd]; exact hc
  all_goals
    rcases hd with (rfl | rfl) | hd
    · decide
    · decide
    · exact hx _ d (by simpa only [List.mem_append] using hd)
theorem fold_ok (q : Nat) (hq : q < 4294967296) : ∀ (l : List Nat) (acc : Array Nat), (∀ c ∈ l, c < 4294967296) → (∀ c ∈ acc.toList, c < 4294967296) → ∀ c ∈ (l.foldl (fun out c => out ++ (Builtin.Str.reprChar q c).toArray) acc).toList, c < 4294967296
  | [], _, _, h => h
  | a :: l, acc, h1, h2 => by
    refine fold_ok q hq l _ (fun c hc => h1 c (List.mem_cons_of_mem _ hc)) fun c hc => ?_
    rw [Array.toList_append] at hc
    rcases List.mem_append.mp hc with h | h
    · exact h2 c h
    · exact reprChar_ok q a hq (h1 a List.mem_cons_self) c (by simpa using h)
theorem okc_repr {x : Str} (h : okc x = true) : okc (reprText x) = true := by
  have hq : reprQuote x < 4294967296 := by
    unfold reprQuote
    split <;> decide
  unfold okc at *
  rw [List.all_eq_true] at *
  intro c hc
  simp only [decide_eq_true_eq] at h ⊢
  have hc2 : c ∈ ((x.cps.foldl (fun out c => out ++ (Builtin.Str.reprChar (reprQuote x) c).toArray) #[reprQuote x]).push (reprQuote x)).toList := hc
  rw [Array.toList_push, List.mem_append, ← Array.foldl_toList] at hc2
  rcases hc2 with hc2 | hc2
  · refine fold_ok _ hq _ _ h (fun d hd => ?_) c hc2
    have : d = reprQuote x := by simpa using hd
    rw [this]
    exact hq
  · rw [List.mem_singleton] at hc2
    rw [hc2]
    exact hq
/-- a cell: what str and repr write of it has at most L signs -/
def cellB (L D : Nat) (d : PyData) : Bool := !d.hasDict && d.showable && decide (d.shown.length ≤ L) && decide (d.depth ≤ D) && okc d.shown && (match d with | .str z => okc z && decide (z.length ≤ L) | _ => true)
def itemB (L D : Nat) (d : PyData) : Bool := match d with | .tuple ds => ds.all (cellB L D) | _ => true
def rowB (L D : Nat) (d : PyData) : Bool := match d with | .list ds => ds.all (itemB L D) | _ => true
def topB (L D : Nat) (d : PyData) : Bool := match d with | .list ds => ds.all (rowB L D) | _ => true
structure Cell (L D : Nat) (d : PyData) : Prop where
  nd : d.hasDict = false
  fit : Fit L D d
  ok : okc d.shown = true
  st : ∀ z, d = .str z → okc z = true ∧ z.length ≤ L
theorem cell_iff {L D : Nat} {d : PyData} : cellB L D d = true ↔ Cell L D d := by
  unfold cellB
  simp only [Bool.and_eq_true, Bool.not_eq_true', decide_eq_true_eq]
  constructor
  · rintro ⟨⟨⟨⟨⟨h1, h2⟩, h3⟩, h4⟩, h5⟩, h6⟩
    refine ⟨h1, ⟨h2, h3, h4⟩, h5, fun z e => ?_⟩
    subst e
    simpa only [Bool.and_eq_true, decide_eq_true_eq] using h6
  · rintro ⟨h1, h2, h5, h6⟩
    refine ⟨⟨⟨⟨⟨h1, h2.sh⟩, h2.le⟩, h2.dp⟩, h5⟩, ?_⟩
    cases d with
    | str z => simpa only [Bool.and_eq_true, decide_eq_true_eq] using h6 z rfl
    | _ => rfl
theorem Cell.mono {L D L' D' : Nat} {d : PyData} (h : Cell L D d) (e : L ≤ L') (f : D ≤ D') : Cell L' D' d :=
  ⟨h.nd, h.fit.mono e f, h.ok, fun z q => ⟨(h.st z q).1, Nat.le_trans (h.st z q).2 e⟩⟩
theorem item_mono {L D L' D' : Nat} {d : PyData} (h : itemB L D d = true) (e : L ≤ L') (f : D ≤ D') : itemB L' D' d = true := by
  cases d with
  | tuple ds => exact List.all_eq_true.mpr fun x hx => cell_iff.mpr ((cell_iff.mp (List.all_eq_true.mp h x hx)).mono e f)
  | _ => rfl
theorem row_mono {L D L' D' : Nat} {d : PyData} (h : rowB L D d = true) (e : L ≤ L') (f : D ≤ D') : rowB L' D' d = true := by
  cases d with
  | list ds => exact List.all_eq_true.mpr fun x hx => item_mono (List.all_eq_true.mp h x hx) e f
  | _ => rfl
theorem top_mono {L D L' D' : Nat} {d : PyData} (h : topB L D d = true) (e : L ≤ L') (f : D ≤ D') : topB L' D' d = true := by
  cases d with
  | list ds => exact List.all_eq_true.mpr fun x hx => row_mono (List.all_eq_true.mp h x hx) e f
  | _ => rfl
theorem cell_int {i : Int} (h : i.natAbs < 10000000) : Cell 10 0 (.int i) :=
  ⟨rfl, (fit_int (k := 7) (by decide) (by decide) h).mono (by decide) (Nat.le_refl 0), by simp only [PyData.shown]; exact okc_lit _, fun _ e => nomatch e⟩
theorem cell_bool (b : Bool) : Cell 10 0 (.bool b) := cell_iff.mp (by cases b <;> decide +kernel)
theorem cell_none : Cell 10 0 .none := cell_iff.mp (by decide +kernel)
theorem cell_str {t : Str} {M : Nat} (h1 : okc t = true) (h2 : t.length ≤ M) : Cell (10 * M + 2) 0 (.str t) := by
  have h3 : (reprText t).length ≤ 10 * t.length + 2 := StrLaws.reprText_len t fun c hc => by
    have := List.all_eq_true.mp h1 c hc
    simpa using this
  refine ⟨rfl, ⟨rfl, by simp only [PyData.shown]; omega, Nat.le_refl 0⟩, by simp only [PyData.shown]; exact okc_repr h1, fun z e => ?_⟩
  cases e
  exact ⟨h1, by omega⟩
theorem cell_tup1 {L D : Nat} {d : PyData} (h : Cell L D d) : Cell (L + 5) (D + 1) (.tuple [d]) := by
  refine ⟨by simpa [PyData.hasDict, PyData.hasDictAll] using h.nd, ((Fits.nil.cons h.fit).tuple).mono (by omega) (Nat.le_refl _), ?_, fun _ e => nomatch e⟩
  simp only [PyData.shown, PyData.shownAll, tupleText, join_one]
  exact okc_app (okc_app (okc_lit _) h.ok) (okc_lit _)
theorem list_fits {W D : Nat} {es : List PyData} (h : Fit W (D + 1) (.list es)) : Fits W D es := by
  have h1 := h.sh
  have h2 := h.le
  have h3 := h.dp
  refine ⟨by simpa only [PyData.showable] using h1, ?_, ?_⟩
  · have h0 := pl_piled es
    cases hts : PyData.shownAll es with
    | nil =>
      rw [hts] at h0
      rw [← h0]
      exact Nat.zero_le _
    | cons t ts =>
      simp only [PyData.shown, hts] at h2
      unfold listText at h2
      have e : textFrom 0 "[" (t :: ts) = textFrom 1 ("[" ++ t) ts := rfl
      rw [hts, piled_cons] at h0
      rw [strLen_append, e, textFrom_length_pos ts 1 _ (by decide), strLen_append] at h2
      have h4 : (("[" : Str)).length = 1 := by decide +kernel
      have h5 : (("]" : Str)).length = 1 := by decide +kernel
      omega
  · simp only [PyData.depth] at h3
    omega
theorem fits_len {W D : Nat} : ∀ {es : List PyData}, Fits W D es → 2 * es.length ≤ W := by
  intro es h
  have h1 := h.le
  have : ∀ es : List PyData, 2 * es.length ≤ pl es := by
    intro es
    induction es with
    | nil => exact Nat.zero_le _
    | cons d ds ih => rw [pl_cons, List.length_cons]; omega
  have := this es
  omega
/-- what str writes of a cell -/
theorem cell_strOf {L D : Nat} {d : PyData} (h : Cell L D d) : okc (strOfD d) = true ∧ (strOfD d).length ≤ L := by
  cases d with
  | str z => exact h.st z rfl
  | _ => exact ⟨h.ok, h.fit.le⟩
end RG
end RGt
section RGu
/-! comprehensions of data -/
namespace RG
open PySem PySem.Spec PyProof.Rows L2
mutual
/-- no list in it -/
def noL : PyData → Bool
  | .list _ => false
  | .tuple ds => noLAll ds
  | .dict kvs => noLKv kvs
  | _ => true
def noLAll : List PyData → Bool
  | [] => true
  | d :: ds => noL d && noLAll ds
def noLKv : List (PyData × PyData) → Bool
  | [] => true
  | (_, d) :: ds => noL d && noLKv ds
end
theorem rd_rem {D a : Addr} {G : Hp} {o o' : HO} (g : G D = some o') (h : Rd G a o) (n : o ≠ o') (n2 : ∀ ob, HO.frz ob o ≠ o') : Rd (rem D G) a o := by
  rcases h with h | ⟨ob, h⟩
  · refine Or.inl ?_
    rw [rem_ne]
    · exact h
    · rintro rfl
      rw [g] at h
      exact n (Option.some.inj h).symm
  · refine Or.inr ⟨ob, ?_⟩
    rw [rem_ne]
    · exact h
    · rintro rfl
      rw [g] at h
      exact n2 ob (Option.some.inj h).symm
theorem sqt_rem {K : PySem.W.Frag} {D a : Addr} {G : Hp} {ys xs : List V} (g : G D = some (.lst ys)) (h : SqT K G a xs) : SqT K (rem D G) a xs := h.imp (fun h => rd_rem g h (fun e => nomatch e) (fun _ e => nomatch e)) id
mutual
theorem Dd.remL {K : PySem.W.Frag} {D : Addr} {G : Hp} {ys : List V} (g : G D = some (.lst ys)) : ∀ {v : V} {d : PyData}, Dd K G v d → noL d = true → Dd K (rem D G) v d
  | _, _, .non, _ => .non
  | _, _, .bl b, _ => .bl b
  | _, _, .int i, _ => .int i
  | _, _, .str x, _ => .str x
  | _, _, .lst _ _, e => by simp [noL] at e
  | _, _, .tup h t, e => .tup (sqt_rem g h) (DdAll.remL g t (by simpa [noL] using e))
  | _, _, .dct h n t, e => .dct (rd_rem g h (fun e => nomatch e) (fun _ e => nomatch e)) n (DdKv.remL g t (by simpa [noL] using e))
theorem DdAll.remL {K : PySem.W.Frag} {D : Addr} {G : Hp} {ys : List V} (g : G D = some (.lst ys)) : ∀ {vs : List V} {ds : List PyData}, DdAll K G vs ds → noLAll ds = true → DdAll K (rem D G) vs ds
  | _, _, .nil, _ => .nil
  | _, _, .cons h t, e => by
    simp only [noLAll, Bool.and_eq_true] at e
    exact .cons (Dd.remL g h e.1) (DdAll.remL g t e.2)
theorem DdKv.remL {K : PySem.W.Frag} {D : Addr} {G : Hp} {ys : List V} (g : G D = some (.lst ys)) : ∀ {kvs : List (Key × V)} {ds : List (PyData × PyData)}, DdKv K G kvs ds → noLKv ds = true → DdKv K (rem D G) kvs ds
  | _, _, .nil, _ => .nil
  | _, _, .cons h t, e => by
    simp only [noLKv, Bool.and_eq_true] at e
    exact .cons (Dd.remL g h e.1) (DdKv.remL g t e.2)
end
/-- [e for x in xs], each e new data, all that stood stands -/
theorem lc_dd1 {K : PySem.W.Frag} {a D : Addr} {xs : List V} {ds : List PyData} {te : TE} {j : Nat} {σ : L2.St} {H : Hp} {Qd : Hp → Prop} (hD : H D = none) (ha : SqL K H a xs) (hl : ds.length = xs.length) (hz : xs.length < sizeLine)
    (nl : ∀ d ∈ ds, noL d = true)
    (each : ∀ (i : Nat) (x : V) (d : PyData), xs[i]? = some x → ds[i]? = some d → ∀ G, Same H G → ∀ Q : VK, (∀ y G', Same G G' → Dd K G' y d → Q y G') → te ((σ.set j none).set j (some x)) G Q)
    (done : ∀ G, Same H G → Dd K G (.ref D) (.list ds) → Qd G) :
    ∃ W : Nat → Nat → Hp → Prop, (∃ m, W 0 m (upd H D (.lst []))) ∧ ∀ i m G, W i m G →
      ((Itl K a).stop i G ∧ Qd G) ∨ ((Itl K a).go i G ∧ ∃ Nx : Hp → Prop, (∀ H', Nx H' → ∃ m', m' < m ∧ W (i + 1) m' H') ∧ ∀ x H', (Itl K a).yld i G x H' → gName j x (wipe σ [j]) H' fun σ2 H2 => wipe σ2 [j] = wipe σ [j] ∧ tYes σ2 H2 fun b H3 =>
        if b = true then te σ2 H3 fun y H4 => ∃ acc, H4 D = some (.lst acc) ∧ acc.length < sizeLine ∧ Nx (upd H4 D (.lst (acc ++ [y]))) else Nx H3) := by
  refine lc_list (xs := xs) (fun i G => Same H G ∧ ∃ ys, G D = some (.lst ys) ∧ DdAll K (rem D G) ys (ds.take i)) ⟨same_new hD, [], upd_same, by rw [List.take_zero]; exact .nil⟩ (fun i G _ h => sql_same h.1 ha) (fun i x G hi h => ?_) fun G h => ?_
  · have hlt : i < xs.length := (List.getElem?_eq_some_iff.mp hi).1
    obtain ⟨d, hd⟩ : ∃ d, ds[i]? = some d := ⟨_, List.getElem?_eq_getElem (by omega)⟩
    obtain ⟨e, ys, g1, g2⟩ := h
    have yl := g2.length
    rw [List.length_take] at yl
    refine ⟨?_, ?_⟩
    · show ((σ.set j none).set j (some x)).set j none = σ.set j none
      rw [List.set_set, List.set_set]
    · unfold tYes
      simp only [if_true]
      refine each i x d hi hd G e _ fun y G' e2 dd => ⟨ys, e2 _ _ g1, by omega, same_mut (e.trans e2) hD, ys ++ [y], upd_same, ?_⟩
      rw [rem_upd, ← take_snoc hd]
      have s2 : Same (rem D G) (rem D G') := rem_same e2
      exact (g2.same s2).append (.cons (dd.remL (e2 _ _ g1) (nl d (List.mem_of_getElem? hd))) .nil)
  · obtain ⟨e, ys, g1, g2⟩ := h
    rw [← hl, List.take_length] at g2
    exact done G e (.lst (SqL.of g1) (g2.same same_rem))
/-- the same, the target a pair -/
theorem lc_dd2 {K : PySem.W.Frag} {a D : Addr} {xs : List V} {ds : List PyData} {te : TE} {j1 j2 : Nat} {σ : L2.St} {H : Hp} {Qd : Hp → Prop} (hj : j1 ≠ j2) (hD : H D = none) (ha : SqL K H a xs) (hl : ds.length = xs.length) (hz : xs.length < sizeLine)
    (nl : ∀ d ∈ ds, noL d = true)
    (R : Nat → V → V → Prop) (pair : ∀ (i : Nat) (x : V), xs[i]? = some x → ∃ t y z, x = .ref t ∧ SqT K H t [y, z] ∧ R i y z)
    (each : ∀ (i : Nat) (y z : V) (d : PyData), R i y z → ds[i]? = some d → ∀ G, Same H G → ∀ Q : VK, (∀ y G', Same G G' → Dd K G' y d → Q y G') → te (((wipe σ [j1, j2]).set j1 (some y)).set j2 (some z)) G Q)
    (done : ∀ G, Same H G → Dd K G (.ref D) (.list ds) → Qd G) :
    ∃ W : Nat → Nat → Hp → Prop, (∃ m, W 0 m (upd H D (.lst []))) ∧ ∀ i m G, W i m G →
      ((Itl K a).stop i G ∧ Qd G) ∨ ((Itl K a).go i G ∧ ∃ Nx : Hp → Prop, (∀ H', Nx H' → ∃ m', m' < m ∧ W (i + 1) m' H') ∧ ∀ x H', (Itl K a).yld i G x H' → gTup K 2 (gCons (gName j1) (gCons (gName j2) gNil)) x (wipe σ [j1, j2]) H' fun σ2 H2 => wipe σ2 [j1, j2] = wipe σ [j1, j2] ∧ tYes σ2 H2 fun b H3 =>
        if b = true then te σ2 H3 fun y H4 => ∃ acc, H4 D = some (.lst acc) ∧ acc.length < sizeLine ∧ Nx (upd H4 D (.lst (acc ++ [y]))) else Nx H3) := by
  refine lc_list (xs := xs) (fun i G => Same H G ∧ ∃ ys, G D = some (.lst ys) ∧ DdAll K (rem D G) ys (ds.take i)) ⟨same_new hD, [], upd_same, by rw [List.take_zero]; exact .nil⟩ (fun i G _ h => sql_same h.1 ha) (fun i x G hi h => ?_) fun G h => ?_
  · have hlt : i < xs.length := (List.getElem?_eq_some_iff.mp hi).1
    obtain ⟨d, hd⟩ : ∃ d, ds[i]? = some d := ⟨_, List.getElem?_eq_getElem (by omega)⟩
    obtain ⟨e, ys, g1, g2⟩ := h
    have yl := g2.length
    rw [List.length_take] at yl
    obtain ⟨t, y, z, rfl, ht, hR⟩ := pair i x hi
    refine ⟨t, _, rfl, sqt_same e ht, rfl, ?_⟩
    refine ⟨_, _, rfl, _, _, rfl, rfl, ?_⟩
    refine ⟨wipe_two hj σ _ _, ?_⟩
    unfold tYes
    simp only [if_true]
    refine each i y z d hR hd G e _ fun y G' e2 dd => ⟨ys, e2 _ _ g1, by omega, same_mut (e.trans e2) hD, ys ++ [y], upd_same, ?_⟩
    rw [rem_upd, ← take_snoc hd]
    have s2 : Same (rem D G) (rem D G') := rem_same e2
    exact (g2.same s2).append (.cons (dd.remL (e2 _ _ g1) (nl d (List.mem_of_getElem? hd))) .nil)
  · obtain ⟨e, ys, g1, g2⟩ := h
    rw [← hl, List.take_length] at g2
    exact done G e (.lst (SqL.of g1) (g2.same same_rem))
theorem putK_new {kvs : List (Key × V)} {k : Key} {v : V} (h : k ∉ kvs.map (·.1)) : putK kvs k v = kvs ++ [(k, v)] := by
  unfold putK
  rw [if_neg]
  intro e
  rw [List.any_eq_true] at e
  obtain ⟨kv, h1, h2⟩ := e
  exact h (List.mem_map.mpr ⟨kv, h1, of_decide_eq_true h2⟩)
theorem DdKv.snoc {K : PySem.W.Frag} {H : Hp} {k : Key} {v : V} {d : PyData} (h : Dd K H v d) : ∀ {kvs : List (Key × V)} {ds : List (PyData × PyData)}, DdKv K H kvs ds → DdKv K H (kvs ++ [(k, v)]) (ds ++ [(keyData k, d)])
  | _, _, .nil => .cons h .nil
  | _, _, .cons h2 t => .cons h2 (DdKv.snoc h t)
theorem keys_noPen {kvs : List (Key × V)} {ks : List Int} (h : kvs.map (·.1) = ks.map Sum.inl) : isPen kvs = false := by
  cases kvs with
  | nil => rfl
  | cons kv kvs =>
    cases ks with
    | nil => simp at h
    | cons k ks =>
      obtain ⟨a, b⟩ := kv
      simp only [List.map_cons, List.cons.injEq] at h
      have e : a = Sum.inl k := h.1
      subst e
      rfl
/-- the data of tuples of ints -/
def intsD (ns : List Int) : PyData := .tuple (ns.map PyData.int)
theorem intsD_dd {K : PySem.W.Frag} {H : Hp} {b : Addr} {ns : List Int} (h : SqT K H b (ns.map V.int)) : Dd K H (.ref b) (intsD ns) := .tup h (DdAll.ints ns)
theorem intsV_of {K : PySem.W.Frag} {H : Hp} : ∀ {ns : List Int} {xs : List V}, DdAll K H xs (ns.map PyData.int) → xs = ns.map V.int
  | [], _, .nil => rfl
  | n :: ns, _, .cons h t => by
    cases h
    rw [List.map_cons, intsV_of t]
theorem intsD_of {K : PySem.W.Frag} {H : Hp} {v : V} {ns : List Int} (h : Dd K H v (intsD ns)) : ∃ b, v = .ref b ∧ SqT K H b (ns.map V.int) := by
  cases h with
  | @tup a xs _ h1 h2 =>
    rw [intsV_of h2] at h1
    exact ⟨a, rfl, h1⟩
/-- {k: t for x in xs}, unlike ints, tuples of ints -/
theorem dc_ints {K : PySem.W.Frag} {a D : Addr} {xs : List V} {ks : List Int} {vals : List (List Int)} {tk tv : TE} {j : Nat} {σ : L2.St} {H : Hp} {Qd : Hp → Prop} (hD : H D = none) (ha : SqL K H a xs) (hk : ks.length = xs.length) (hl : vals.length = xs.length) (nd : ks.Nodup) (hz : xs.length < sizeLine)
    (key : ∀ (i : Nat) (x : V) (k : Int), xs[i]? = some x → ks[i]? = some k → ∀ G, Same H G → ∀ Q : VK, Q (.int k) G → tk ((σ.set j none).set j (some x)) G Q)
    (val : ∀ (i : Nat) (x : V) (ns : List Int), xs[i]? = some x → vals[i]? = some ns → ∀ G, Same H G → ∀ Q : VK, (∀ b G', Same G G' → SqT K G' b (ns.map V.int) → Q (.ref b) G') → tv ((σ.set j none).set j (some x)) G Q)
    (done : ∀ G, Same H G → Dd K G (.ref D) (.dict ((ks.zip vals).map fun p => (.int p.1, intsD p.2))) → Qd G) :
    ∃ W : Nat → Nat → Hp → Prop, (∃ m, W 0 m (upd H D (.dK []))) ∧ ∀ i m G, W i m G →
      ((Itl K a).stop i G ∧ Qd G) ∨ ((Itl K a).go i G ∧ ∃ Nx : Hp → Prop, (∀ H', Nx H' → ∃ m', m' < m ∧ W (i + 1) m' H') ∧ ∀ x H', (Itl K a).yld i G x H' → gName j x (wipe σ [j]) H' fun σ2 H2 => wipe σ2 [j] = wipe σ [j] ∧ tYes σ2 H2 fun b H3 =>
        if b = true then tk σ2 H3 fun y H4 => tv σ2 H4 fun z H5 => ∃ kvs k, y = kV k ∧ H5 D = some (.dK kvs) ∧ kvs.length < sizeLine ∧ Nx (upd H5 D (.dK (putK kvs k z))) else Nx H3) := by
  let Pv : Nat → Hp → Prop := fun i G => Same H G ∧ ∃ kvs, G D = some (.dK kvs) ∧ kvs.map (·.1) = (ks.take i).map Sum.inl ∧ DdKv K (rem D G) kvs (((ks.zip vals).take i).map fun p => (.int p.1, intsD p.2))
  refine ⟨fun i m G => m = xs.length - i ∧ i ≤ xs.length ∧ Pv i G, ⟨xs.length, by simp, Nat.zero_le _, same_new hD, [], upd_same, rfl, .nil⟩, ?_⟩
  rintro i m G ⟨rfl, hi, e, kvs, g1, g2, g3⟩
  have q := sql_same e ha
  by_cases hlt : i < xs.length
  · obtain ⟨x, hx⟩ : ∃ x, xs[i]? = some x := ⟨_, List.getElem?_eq_getElem hlt⟩
    obtain ⟨k, hk2⟩ : ∃ k, ks[i]? = some k := ⟨_, List.getElem?_eq_getElem (by omega)⟩
    obtain ⟨ns, hv⟩ : ∃ ns, vals[i]? = some ns := ⟨_, List.getElem?_eq_getElem (by omega)⟩
    have kl : kvs.length = i := by
      have := congrArg List.length g2
      rw [List.length_map, List.length_map, List.length_take] at this
      omega
    refine .inr ⟨⟨xs, x, q, hx⟩, Pv (i + 1), fun H' p' => ⟨xs.length - (i + 1), by omega, rfl, hlt, p'⟩, fun x' H' y => ?_⟩
    obtain ⟨rfl, y⟩ := y
    have hxx := y xs q
    rw [hx] at hxx
    obtain rfl := Option.some.inj hxx
    refine ⟨?_, ?_⟩
    · show ((σ.set j none).set j (some x)).set j none = σ.set j none
      rw [List.set_set, List.set_set]
    · unfold tYes
      simp only [if_true]
      refine key i x k hx hk2 H' e _ (val i x ns hx hv H' e _ fun b G' e2 sb => ⟨kvs, Sum.inl k, rfl, e2 _ _ g1, by omega, same_mut (e.trans e2) hD, kvs ++ [(Sum.inl k, .ref b)], ?_, ?_, ?_⟩)
      · rw [upd_same, putK_new]
        rw [g2]
        intro h
        obtain ⟨k', h1, h2⟩ := List.mem_map.mp h
        obtain rfl := Sum.inl.inj h2
        have h3 : (ks.take (i + 1)).Nodup := nd.sublist (List.take_sublist _ _)
        rw [← take_snoc hk2] at h3
        exact (List.nodup_append.mp h3).2.2 k' h1 k' List.mem_cons_self rfl
      · rw [List.map_append, g2, ← take_snoc hk2, List.map_append]
        rfl
      · rw [rem_upd]
        have hzip : (ks.zip vals)[i]? = some (k, ns) := by
          rw [List.getElem?_zip_eq_some]
          exact ⟨hk2, hv⟩
        rw [← take_snoc hzip, List.map_append]
        exact DdKv.snoc (intsD_dd (sb.imp (fun h => rd_rem (e2 _ _ g1) h (fun e => nomatch e) (fun _ e => nomatch e)) id)) (g3.same (rem_same e2))
  · obtain rfl : i = xs.length := by omega
    refine .inl ⟨⟨xs, q, Nat.le_refl _⟩, done G e (.dct (.inl g1) (keys_noPen g2) ?_)⟩
    have e3 : (ks.zip vals).take xs.length = ks.zip vals := List.take_of_length_le (by rw [List.length_zip]; omega)
    rw [e3] at g3
    exact g3.same same_rem
end RG
end RGu
section RGv
namespace RG
open PySem PySem.Spec PyProof.Rows L2
section
variable {X : Cx}
/-- xs[::-1] of a list: a new one -/
def tRevL (K : PySem.W.Frag) (te : TE) : TE := fun σ H Q => te σ H fun x H1 => ∃ a xs, x = .ref a ∧ SqL K H1 a xs ∧ ∀ p, H1 p = none → Q (.ref p) (upd H1 p (.lst xs.reverse))
theorem pick_rev (xs : List Value) : slicePick xs.toArray none none (some (-1)) = xs.reverse.toArray := by
  unfold slicePick
  congr 1
  rw [← rev_items xs]
  have e : sliceBounds none none (some (-1)) xs.toArray.size = (((xs.length : Nat) : Int) - 1, -1, -1) := by
    rw [List.size_toArray]
    rfl
  rw [e]
  have r : sliceRange (((xs.length : Nat) : Int) - 1) (-1) (-1) = (List.range xs.length).map fun (k : Nat) => (((xs.length : Nat) : Int) - 1 + (k : Int) * -1).toNat := by
    unfold sliceRange
    rw [if_neg (by decide)]
    have c : (if ((xs.length : Nat) : Int) - 1 > -1 then (((xs.length : Nat) : Int) - 1 - -1 - -1 - 1) / -(-1) else 0).toNat = xs.length := by
      by_cases h : ((xs.length : Nat) : Int) - 1 > -1
      · rw [if_pos h, show (-(-1) : Int) = 1 from rfl, Int.ediv_one]
        omega
      · rw [if_neg h]
        omega
    simp only [c]
    refine List.map_congr_left fun k _ => ?_
    congr 1
    omega
  rw [r, List.filterMap_map]
  rfl
theorem pe_revL {K : PySem.W.Frag} {e : Expr} {te : TE} {k : Nat} {p1 p2 p3 pos : Pos} (hK : X.K = K) (he : PE X e te) : PE X (.Subscript e (.Slice none none (some (.UnaryOp .USub (.Constant (.int 1) k p1) p2)) p3) pos) (tRevL K te) := by
  subst hK
  refine ⟨fun pins s σ H Q I h => Subscript_ (thn (he.run pins s σ H _ I h) ?_)⟩
  rintro v s1 ⟨x, H1, I1, r1, a, xs, rfl, hx, q⟩
  cases r1
  have step : PO X (some (.UnaryOp .USub (.Constant (.int 1) k p1) p2)) (tPart (tUn (rU fun i => .int (-i)) (tC (.int 1)))) := po_some (pe_un un_neg pe_int)
  refine wpAny_Slice (thn (po_none.run pins s1 σ H1 (fun o G => o = none ∧ G = H1) I1 ⟨rfl, rfl⟩) ?_)
  rintro vl s2 ⟨l, G2, I2, pl, el, e2⟩
  subst el e2
  refine thn (po_none.run pins s2 σ G2 (fun o G => o = none ∧ G = G2) I2 ⟨rfl, rfl⟩) ?_
  rintro vu s3 ⟨u, G3, I3, pu, eu, e3⟩
  subst eu e3
  refine thn (step.run pins s3 σ G3 (fun o G => o = some (-1) ∧ G = G3) I3 ⟨1, rfl, -1, rfl, rfl, rfl⟩) ?_
  rintro vs s4 ⟨o, G4, I4, ps, eo, e4⟩
  subst eo e4
  have I5 : Inv X pins σ G4 { s4 with heap := s4.heap.push { cls := .type "slice", data := .fields #[vl, vu, vs] } } := I4.kept (t' := s4.toks) fun b ob z => Heap.get?_push_of_some _ z
  obtain ⟨its, r, ht, hz⟩ := I5.list hx
  have hlen := r.length
  show wpAny (model X.prog X.w) X.A (subscriptTail e (.Slice none none (some (.UnaryOp .USub (.Constant (.int 1) k p1) p2)) p3) (.ref a) (.ref s4.heap.objs.size)) (EP X pins σ Q) X.xe { s4 with heap := s4.heap.push { cls := .type "slice", data := .fields #[vl, vu, vs] } }
  refine tail_any (ops := [.ref a, .ref s4.heap.objs.size]) ht.isList.typeIs (PySem.F.slot_list_getitem.lookup) ?_ (by with_unfolding_all rfl)
  refine wpAny_getItem_list_slice ht.isList (Heap.IsSliceOf.new _ vl vu vs) pl pu ps (by decide) ?_ (by rw [List.size_toArray] <;> omega)
  rw [pick_rev]
  refine ⟨.ref _, _, I5.laid (t' := s4.toks) (o := .lst xs.reverse) (fun b ob z => Heap.get?_push_of_some _ z) (Nat.le_refl _) ?_, rfl, q _ (I5.hok.fresh (Nat.le_refl _))⟩
  exact ⟨by rw [List.length_reverse]; exact hz, _, 0, r.reverse, Heap.get?_push_size _ rfl⟩
/-- {t: v}, t a tuple of ints and texts, a new one -/
def tDispT (tk tv : TE) : TE := fun σ H Q => ∀ p, H p = none → tPairs [(tk, tv)] σ (upd H p (.dT [])) fun ps H2 => ∃ x y, ps = [(x, y)] ∧ H2 p = some (.dT []) ∧ ∃ (b : Addr) (k : List Key), x = .ref b ∧ H2 b = some (.tup (k.map kV)) ∧ Q (.ref p) (upd H2 p (.dT [(k, y)]))
theorem pe_dispT {pos : Pos} {ke ve : Expr} {tk tv : TE} (hu : X.A.units < cLine) (hk : PE X ke tk) (hv : PE X ve tv) : PE X (.Dict [some ke] [ve] pos) (tDispT tk tv) := by
  refine ⟨fun pins s σ H Q I q => ?_⟩
  have hn := I.hok.fresh (Nat.le_refl s.heap.objs.size)
  have I1 := I.laid (a := s.heap.objs.size) (o := .dT []) (h' := s.heap.push { cls := .type "dict", data := .dict #[] }) (t' := s.toks) (fun _ _ q => Heap.get?_push_of_some _ q) (Nat.le_refl _) (dt_empty s.heap I.big)
  have P : PPs X pos [some ke] [ve] [(tk, tv)] := pps_cons hk hv pps_nil
  rw [arm_eval_Dict, zip_pairTrees [some ke] [ve] X.env pos rfl rfl, dictDisplay_pairs (pairTrees [some ke] [ve] X.env pos) (fun z => by cases z) (show 1 < 17 by exact Nat.lt_of_sub_pos (by decide))]
  refine wpAny_bind (wpAny_standAt (wpAny_bind (wpAny_subDictH (knd := tupleKind (mixKind X.prog X.w)) (Q := fun d s' => wpAny (model X.prog X.w) X.A (pure (Value.ref d)) (EP X pins σ Q) X.xe s') hu (show 1 ≤ 15 by decide) ?_)))
  refine thn (P.run pins _ σ _ _ I1 (q _ hn)) ?_
  rintro ws s2 ⟨ps, H2, I2, rel, x, y, rfl, e, b, k, rfl, eb, q2⟩
  obtain ⟨z, hd, xs, rx, dd⟩ := dt_of I2.hok e
  cases rx
  cases rel with
  | @cons _ w2 _ ws h t =>
    cases t
    obtain ⟨w1, w3⟩ := w2
    obtain ⟨r1, r2⟩ := h
    cases (show w1 = Value.ref b from r1)
    refine ⟨[(k, b, w3)], ⟨rfl, rfl, key_of I2.hok eb, True.intro⟩, dd, fun h' tk dd' hs => wpAny_pure ?_⟩
    obtain ⟨q, es, ep, hq, h2, h3, h4, _, h5⟩ := dd'
    refine ⟨.ref s.heap.objs.size, _, ?_, rfl, q2⟩
    refine (d_write I2 (by rw [e]; exact True.intro) hs ⟨q, hq⟩ (ob := .dT [(k, y)]) ⟨(show 1 ≤ sizeLine by decide), hd, [(k, b, w3)], ?_, q, es, ep, hq, h2, h3, h4, h5⟩)
    refine .cons ⟨rfl, ?_, r2⟩ .nil
    rw [upd_ne (ne_of eb e (fun z => nomatch z))]
    exact eb
end
theorem Cg.imp {P : Program} {w : World} {K : PySem.W.Frag} {mg : Str → Option Value} {base : Heap} {k : Nat} {x : Str} {sp sp' : Sp} (c : Cg P w K mg base k x sp) (h : ∀ vs H Q E, sp' vs H Q E → sp vs H Q E) : Cg P w K mg base k x sp' := by
  obtain ⟨f, fd, ps, F, h1, h2, h3⟩ := c.ex
  exact ⟨f, fd, ps, ⟨fun vs H Q E z => F.many vs H Q E (h _ _ _ _ z), fun A out s H ar us vs Q E a b c d e z => F.runs A out s H ar us vs Q E a b c d e (h _ _ _ _ z)⟩, h1, h2, h3⟩
end RG
end RGv
section RGw
/-! sorted(set(xs)), xs a list of ints -/
namespace RG
open PySem PySem.Spec PyProof.Rows L2
section
variable {P : Program} {w : World} {A : Around} {E : Value → Shared → Prop} {s : Shared}
theorem set_ints {l : Addr} {items : Array Value} (ns : List Int) {Q : Value → Shared → Prop} (hh : A.handled = none) (hl : s.heap.IsList l items) (hit : IntsAre items.toList ns) (hb : ns.length + 1 < scanBound)
    (h : ∀ (h' : Heap) (tk c : Nat), SetR w h' s.heap.objs.size (fun j => decide (j ∈ ns)) c → (∀ b o, s.heap.get? b = some o → h'.get? b = some o) → Q (.ref s.heap.objs.size) { s with heap := h', toks := tk }) :
    wpAny (model P w) A (call (.type "set") [.ref l]) Q E s := by
  have many : items.size = ns.length := by
    have q := IntsAre.length hit
    rwa [Array.length_toList] at q
  generalize eo0 : ({ cls := .type "set", dict := none, data := .set #[] 0 (.fresh 0 0 (!w.params.followText "set-order")) } : Obj) = o0
  obtain ⟨c, tl, hmro⟩ := PySem.F.called_set.mro
  have hmade := PySem.F.called_set.made
  have hsub := PySem.F.called_set.sub
  refine wpAny_call (codeAny_of_tree ?_)
  show wpAny _ _ (callAny (.type "set") _) _ _ _
  refine wpAny_pure ⟨Code.quiet_builtin _ (by decide +kernel), codeAny_builtin PySem.F.entry_type_call ?_⟩
  rw [Around.under_plain (weight_type_call_type "set" [.ref l] []) rfl]
  have h1 := PySem.F.called_set.notType
  have h2 := PySem.F.called_set.canCreate
  have hct := PySem.F.typeCall_set_1 (.ref l)
  repeat (any_goals (first | assumption | wp_step))
  refine codeAny_mono (code_set_led1 (.ref l) (E := E) (Q₁ := fun obj s₁ => obj = .ref s.heap.objs.size ∧ s₁ = { s with heap := s.heap.push o0 }) ⟨rfl, by rw [← eo0]⟩) fun r s₁ hr => ?_
  cases r with
  | error e => exact hr
  | ok fl =>
    cases fl with
    | ret obj =>
      obtain ⟨rfl, rfl⟩ := hr
      have hS : (s.heap.push o0).get? s.heap.objs.size = some o0 := Heap.get?_push_size _ (by rw [← eo0]; rfl)
      have hT : Shared.TypeIs { s with heap := s.heap.push o0 } (.ref s.heap.objs.size) "set" := ⟨_, hS, by rw [← eo0]⟩
      have hli := PySem.F.called_set.init.lookup
      have hbi := PySem.F.called_set.init.bind (.ref s.heap.objs.size)
      repeat (any_goals (first | assumption | wp_step))
      refine codeAny_mono (codeAny_call_builtin (R := wants (fun r s₂ => r = .none ∧ ∃ h' tk c, s₂ = { s with heap := h', toks := tk } ∧ SetR w h' s.heap.objs.size (fun j => decide (j ∈ ns)) c ∧
          (∀ b o, s.heap.get? b = some o → h'.get? b = some o)) E) PySem.F.called_set.init.plain PySem.F.entry_set_init (check_set_init_1 hT ?_)) fun r₂ s₂ hr₂ => ?_
      · have hlS : l < s.heap.objs.size := by
          obtain ⟨ol, hol, _⟩ := hl
          exact Heap.lt_size hol
        have hl1 : (s.heap.push o0).IsList l items := hl.push _
        obtain ⟨ol, hol, hcl, nl, hdl⟩ := hl1
        obtain ⟨ocls, odict, odata, oslots⟩ := ol
        simp only at hcl hdl
        subst hcl
        subst hdl
        have hl1 : (s.heap.push o0).IsList l items := hl.push _
        have z1 := PySem.F.sub_list_set
        have z2 := PySem.F.sub_list_frozenset
        have z3 : (Value.type "list" == Value.type "dict") = false := by decide
        subst eo0
        unfold Builtin.«set.__init__» noKeywords Builtin.Frozenset.updateFrom
        generalize hPI : pyIter = PI
        wp_walk
        subst hPI
        refine wpAny_pyIter_list hl1 ?_
        refine wpAny_bind (wpAny_runValue ?_)
        have z4 : A.in1.in1.in1.handled = none := by simp [hh]
        have big : ∀ o1 : Obj, (s.heap.push o1).objs.size = s.heap.objs.size + 1 := fun _ => Heap.size_push ..
        have ne : ∀ o1 : Obj, l ≠ (s.heap.push o1).objs.size := fun o1 => by
          rw [big o1]
          exact Nat.ne_of_lt (Nat.lt_succ_of_lt hlS)
        have out : ∀ o1 : Obj, s.heap.objs.size ∉ [(s.heap.push o1).objs.size, l] := fun o1 => by
          simp only [List.mem_cons, List.not_mem_nil, or_false, not_or]
          rw [big o1]
          exact ⟨Nat.ne_of_lt (Nat.lt_succ_self _), Nat.ne_of_gt hlS⟩
        have each : ∀ (i : Nat) (v : Value), items[i]? = some v → ∃ k t, ns[i]? = some k ∧ v = .int k t := fun i v hv => by
          have hi : i < ns.length := by rw [← many]; exact (Array.getElem?_eq_some_iff.mp hv).1
          obtain ⟨t, e⟩ := PyProof.Rows.IntsAre.int_at hit i v (by rw [Array.getElem?_toList]; exact hv)
          refine ⟨ns[i], t, List.getElem?_eq_getElem hi, ?_⟩
          rw [e, List.getD_eq_getElem?_getD, List.getElem?_eq_getElem hi]
          rfl
        refine set_update_ints ((Walks.list z4 _ l (ne _) items).toS) s.heap.objs.size (out _) ns many hb each (items.size - 0) 0 _ (by omega) (Nat.zero_le _) ⟨⟨_, Heap.get?_push_size _ rfl, rfl, rfl⟩, (hl1.push _)⟩ ⟨0, Nat.le_refl 0, ?_⟩ ?_
        · refine setR_new_at ?_
          exact Heap.get?_push_of_some _ hS
        · intro s' c' hm _ hS'
          obtain ⟨h', g2, d', tk', os'⟩ := s'
          cases (show g2 = s.gens from hm.gens)
          cases (show d' = s.drawn from hm.drawn)
          cases (show os' = s.os from hm.os)
          show wpAny _ _ _ _ _ _
          refine wpAny_pure ?_
          show wpAny _ _ (ret Value.none) _ _ _
          refine wpAny_pure ⟨rfl, h', tk', c', rfl, hS', fun b o e => ?_⟩
          have b0 : b < s.heap.objs.size := Heap.lt_size e
          refine hm.heap b o ?_ (Heap.get?_push_of_some _ (Heap.get?_push_of_some _ e))
          simp only [List.mem_cons, List.not_mem_nil, or_false, not_or]
          rw [big]
          exact ⟨Nat.ne_of_lt b0, Nat.ne_of_lt (Nat.lt_succ_of_lt b0)⟩
      · cases r₂ with
        | error e => exact hr₂
        | ok fl₂ =>
          cases fl₂ with
          | ret r =>
            obtain ⟨rfl, h', tk, c', rfl, hS', hk'⟩ := hr₂
            repeat (any_goals (first | assumption | wp_step))
            exact h _ _ _ hS' hk'
          | _ => exact hr₂.elim
    | _ => exact hr.elim
end
section
variable {X : Cx}
/-- set(xs), xs a list of ints -/
def rSetLI (K : PySem.W.Frag) (w : World) : List V → Hp → VK → Prop := fun vs H Q => ∃ (a : Addr) (ns : List Int), vs = [V.ref a] ∧ SqL K H a (ns.map V.int) ∧ ns.length ≤ 1000 ∧
  ∀ (p : Addr) (ms : List Int), ms.Nodup → (∀ k, k ∈ ms ↔ k ∈ ns) → H p = none → Q (.ref p) (upd H p (SetO w p (fun j => decide (j ∈ ns)) ms.length))
theorem cr_setLI (hc : X.calm = true) : CallR X (.type "set") (rSetLI X.K X.w) := by
  intro pins s σ H vs us Q I r h
  obtain ⟨a, ns, rfl, hs, hl, q⟩ := h
  obtain ⟨its, rv, pt, hz⟩ := I.list hs
  rw [Vals.ref1 r]
  have hi : IntsAre its.toArray.toList ns := by simpa using ints_back rv
  refine set_ints ns (I.ok.hd hc) pt.isList hi (by unfold scanBound; omega) fun g tk c R kp => ?_
  have R2 := R
  obtain ⟨o, es, ep, t, ho, hex, hdt, gd, nd, hm, hb, hf, hn, hr, hl2⟩ := R2
  have hlen : c = (es.toList.map keyOf).length := by
    rw [List.length_map, Array.length_toList]
    exact hn.symm
  subst hlen
  exact ⟨.ref _, upd H s.heap.objs.size (SetO X.w s.heap.objs.size (fun j => decide (j ∈ ns)) (es.toList.map keyOf).length), I.laid kp (Nat.le_refl _) (setO_new R), rfl,
    q _ (es.toList.map keyOf) nd (fun k => by rw [← hm k, decide_eq_true_eq]) (I.hok.fresh (Nat.le_refl _))⟩
end
end RG
end RGw
section RGx
/-! a def with parameters that are not written at the call -/
namespace RG
open PySem PySem.Spec PyProof.Rows L2
/-- a def of the module by its name, what its unwritten parameters are, and what it promises -/
structure CgD (P : Program) (w : World) (K : PySem.W.Frag) (mg : Str → Option Value) (base : Heap) (k : Nat) (x : Str) (sp : Sp) (dvs : List V) : Prop where
  ex : ∃ (f : Addr) (fd : FuncData) (ps : List Str) (ds : List Value), FnG P w K mg base CX0 k f fd ps sp ∧ mg x = some (.ref f) ∧ PySem.W.keepIn K (.ref f) = true ∧ Binds K fd ps ds ∧ Vals dvs ds
section
variable {X : Cx} {k j : Nat} {x : Str} {sp : Sp} {dvs : List V} {p pos : Pos} {e : Expr} {es : List Expr} {t : TA}
theorem pe_gD (c : CgD X.prog X.w X.K X.mg X.base k x sp dvs) (hr : Room j X.A) (hg : X.A.guards = some []) (hk : k ≤ j) (hx : Gl X x) (ha : PA X (e :: es) t)
    (h1 : (x == ("__debug__" : Str)) = false := by decide) (h2 : starEach (e :: es) X.env = (false, eval e X.env) :: starEach es X.env := by rfl) (h3 : (backTo pos (starEach es X.env)).any (·.1) = false := by rfl) :
    PE X (.Call (.Name x p) (e :: es) [] pos) (tCall sp dvs E0 t) := by
  obtain ⟨f, fd, ps, ds, F, hm, kp, b, rv⟩ := c.ex
  refine ⟨fun pins s σ H Q I h => wpAny_Call_Name_kw (ld_glob I hx hm ?_ h1)⟩
  refine PySem.W.callWith_K (h₀ := X.base) I.ok.mod.kin kp (thn (ha.run pos pins s σ H _ I h) ?_) h2 h3
  rintro us s1 ⟨vs, G, J, r, q⟩
  refine ⟨J.kIn, ?_⟩
  have hv : Vals (vs ++ dvs) (us ++ ds) := r.append rv
  have bt := b s1 us J.kIn (by rw [← hv.length]; exact F.many _ _ _ _ q)
  refine wpAny_call (codeAny_mono (F.runs X.A X.stack s1 G _ (us ++ ds) (vs ++ dvs) Q E0 (hr.mono hk) hg J.env0 bt hv q) fun w2 s2 h => ?_)
  cases w2 with
  | error z => exact False.elim h
  | ok fl =>
    cases fl with
    | ret u => exact J.after h
    | next => exact False.elim h
    | brk => exact False.elim h
    | cont => exact False.elim h
end
end RG
end RGx
section RGy
/-! [x for x in xs if ..], xs a list -/
namespace RG
open PySem PySem.Spec PyProof.Rows L2
theorem kept_cons (y : V) (ys : List V) (b : Bool) (bs : List Bool) : keptV (y :: ys) (b :: bs) = if b = true then y :: keptV ys bs else keptV ys bs := by
  unfold keptV
  rw [List.zip_cons_cons, List.filter_cons]
  cases b <;> rfl
/-- the kept ones, as data -/
theorem kept_dd {K : PySem.W.Frag} {H : Hp} {α : Type} {f : α → PyData} {p : α → Bool} : ∀ {ls : List α} {xs : List V}, DdAll K H xs (ls.map f) → DdAll K H (keptV xs (ls.map p)) ((ls.filter p).map f)
  | [], _, h => by
    cases h
    exact .nil
  | l :: ls, _, h => by
    have h : DdAll K H _ (f l :: ls.map f) := h
    cases h with
    | cons h1 h2 =>
      rw [List.map_cons, kept_cons, List.filter_cons]
      have ih := kept_dd (p := p) h2
      cases p l with
      | true => exact .cons h1 ih
      | false => exact ih
theorem kept_map {α : Type} {f : α → V} {p : α → Bool} : ∀ ls : List α, keptV (ls.map f) (ls.map p) = (ls.filter p).map f
  | [] => rfl
  | l :: ls => by
    rw [List.map_cons, List.map_cons, kept_cons, List.filter_cons, kept_map ls]
    cases p l <;> rfl
end RG
end RGy
section RGz
/-! sorted(t), t a tuple of texts -/
namespace RG
open PySem PySem.Spec PyProof.Rows L2
def ltSv (u v : Value) : Bool := decide ((strOf u).cps.toList < (strOf v).cps.toList)
theorem swo_strs : SrtO.Swo ltSv := by
  refine ⟨fun x y h => ?_, fun x y z h1 h2 => ?_⟩
  · have a := of_decide_eq_true (p := (strOf x).cps.toList < (strOf y).cps.toList) h
    exact decide_eq_false (p := (strOf y).cps.toList < (strOf x).cps.toList) (List.lt_asymm a)
  · have a := of_decide_eq_false (p := (strOf y).cps.toList < (strOf x).cps.toList) h1
    have b := of_decide_eq_false (p := (strOf z).cps.toList < (strOf y).cps.toList) h2
    refine decide_eq_false (p := (strOf z).cps.toList < (strOf x).cps.toList) ?_
    rw [List.not_lt] at a b ⊢
    exact List.le_trans a b
section
variable {prog : Program} {w : World} {A : Around} {E : Value → Shared → Prop} {s : Shared}
theorem strs_sortable {a : Addr} {vs : List Value} {ss : List Str} (hS : StrsAre vs ss) (h2 : 2 ≤ vs.length) : SrtO.SortableO prog w A s a vs ltSv := by
  intro h' _
  refine ⟨oneType', fun Q E hq => ?_, ?_⟩
  · match vs, hS, h2 with
    | v1 :: v2 :: rest, hS, _ =>
      rw [keyKind_strs hS]
      exact wpAny_pure hq
    | [], _, h => exact absurd h (by decide)
    | [v], _, h => exact absurd h (by simp)
  · intro p q hm hm'
    obtain ⟨x, t, e⟩ := hS.all _ hm
    obtain ⟨y, u, e'⟩ := hS.all _ hm'
    show wpAny (model prog w) A (keyLt' oneType' p.1 q.1) (fun r s' => s' = _ ∧ r = ltSv p.1 q.1) (fun _ _ => False) _
    rw [e, e', keyLt'_oneType]
    exact oneLt_str ⟨rfl, rfl⟩
end
theorem strs_out {vs out : List Value} {ss : List Str} (hS : StrsAre vs ss) (hs : SrtO.Srtd ltSv out) (hb : SrtO.Stb ltSv out vs) : StrsAre out (out.map strOf) ∧ (out.map strOf).Perm ss := by
  refine ⟨strsAre_map out fun v hv => hS.all v (hb.perm.mem_iff.mp hv), ?_⟩
  have q := hb.perm.map strOf
  rw [hS.strs] at q
  exact q
section
variable {X : Cx}
theorem strs_back : ∀ {ns : List Str} {us : List Value}, Vals (ns.map V.str) us → StrsAre us ns
  | [], _, .nil => .nil
  | n :: ns, _, .cons r t => by
    obtain ⟨k, rfl⟩ := r
    exact .cons n k (strs_back t)
theorem strs_forth : ∀ {ns : List Str} {us : List Value}, StrsAre us ns → Vals (ns.map V.str) us
  | _, _, .nil => .nil
  | _, _, .cons n k t => .cons ⟨k, rfl⟩ (strs_forth t)
def rSortTS (K : PySem.W.Frag) : List V → Hp → VK → Prop := fun vs H Q => ∃ (a : Addr) (ns : List Str), vs = [V.ref a] ∧ SqT K H a (strV ns) ∧
  ∀ (ms : List Str) (p : Addr), ms.Perm ns → H p = none → Q (.ref p) (upd H p (.lst (strV ms)))
theorem cr_sortTS : CallR X (.builtin "sorted") (rSortTS X.K) := by
  intro pins s σ H vs us Q I r h
  obtain ⟨a, ns, rfl, hs, q⟩ := h
  obtain ⟨its, rv, pt, hz⟩ := I.tuple hs
  rw [Vals.ref1 r]
  have hi := strs_back rv
  have hl := rv.length
  unfold strV at hl hz
  rw [List.length_map] at hl hz
  refine sorted_tup swo_strs (show s.heap.IsTuple a its.toArray from pt) (by omega) (fun h2 g b _ => strs_sortable hi h2) fun out h1 h2 => ?_
  obtain ⟨k1, k2⟩ := strs_out hi h1 h2
  obtain ⟨ep, he⟩ := PyProof.Rows.sortedAll_at s.heap its out.toArray
  have h3 : ((out.map strOf).map V.str).length ≤ sizeLine := by
    rw [List.length_map, k2.length_eq]
    exact hz
  exact ⟨.ref _, upd H (s.heap.objs.size + 1) (.lst ((out.map strOf).map V.str)),
    I.laid (t' := s.toks) (fun _ _ => PyProof.Rows.sortedAll_old) (Nat.le_succ _) ⟨h3, out, ep, strs_forth k1, he⟩, rfl, q _ _ k2 (I.hok.fresh (Nat.le_succ _))⟩
end
end RG
end RGz
section RLa
/-! sorted(xs, key=lambda x: x[0]) -/
namespace RG
open PySem PySem.Spec PyProof.Rows L2
def lamBody (x : Str) (k : Nat) (p1 p2 p3 : Pos) : Expr := .Subscript (.Name x p1) (.Constant (.int 0) k p2) p3
structure LamOk (scope : Scope) (x : Str) : Prop where
  kind : scope.kind = .function
  co : scope.isCoroutine = false
  gen : scope.isGenerator = false
  loc : scope.names.lookup x = some .local
  cell : ∀ y ∈ scope.names, y.2 ≠ .cell
section
variable {prog : Program} {w : World} {A : Around} {s : Shared}
theorem lam_first {f c' t : Addr} {q x z : Str} {params : Arguments} {scope : Scope} {pm ctv : Value} {k : Nat} {p1 p2 p3 : Pos} {tk : Tok} {rest : List Value} {cl : List (Str × Addr)} (L : LamOk scope x) (hd : (x == ("__debug__" : Str)) = false)
    (hroom : A.depth < recursionLimit) (hN : s.heap.NoLimit) (ho : s.heap.get? f = some (PySem.W.kla_obj "<lambda>" q params (lamBody x k p1 p2 p3) scope cl pm c' ctv)) (hcd : s.heap.CodeRec (.ref c') q)
    (hb : bindArgs (PySem.W.kla_fn "<lambda>" q params (lamBody x k p1 p2 p3) scope cl pm (.ref c') ctv) ⟨[.ref t], []⟩ = pure [(x, .ref t)]) (hT : s.heap.IsTuple t (Value.str z tk :: rest).toArray) :
    wpAny (model prog w) A (call (.ref f) [.ref t]) (PySem.W.KeyPure (.str z) s) (fun _ _ => False) s := by
  refine wpAny_call ?_
  refine PySem.W.kla_callFunE hroom ho rfl L.co L.gen rfl hcd ?_
  rw [hb]
  refine wpAny_pure (wpAny_newFunctionEnv L.cell (fun y hy => ?_) (fun h₁ hns hsb => ⟨?_, ?_⟩) L.kind)
  · rw [List.mem_singleton] at hy
    rw [hy]
    exact L.loc
  · exact hN.fresh _ hsb
  · refine PySem.W.kla_codeExpr ?_
    have keep : ∀ b o, s.heap.get? b = some o → h₁.get? b = some o := fun b o e => hsb.extBut b o (Nat.ne_of_lt (Heap.lt_size e)) (Heap.get?_push_of_some _ e)
    refine Subscript_Constant ?_
    refine wpAny_Name (wpAny_loadName_local (v := .ref t) L.kind L.loc hns (by simp [List.lookup]) ?_) hd
    refine wpAny_Constant_int ?_
    have hT1 : h₁.IsTuple t (Value.str z tk :: rest).toArray := by
      obtain ⟨o, e1, e2⟩ := hT
      exact ⟨o, keep t o e1, e2⟩
    refine ⟨"tuple", _, PyProof.Rows.slot_tuple_getitem.lookup, hT1.typeIs, ?_⟩
    refine PyProof.Rows.getItem_tuple (j := 0) (x := .str z tk) hT1 (by decide) (by decide) ?_ (by simp) ?_
    · simp [seqIndex?]
    · exact ⟨_, _, rfl, keep, .str z tk⟩
end

/-- tuples whose first thing is a text: the texts and where they are -/
def Fsts (K : PySem.W.Frag) (H : Hp) (bs : List (Str × Addr)) : Prop := ∀ b ∈ bs, ∃ rest, SqT K H b.2 (.str b.1 :: rest)
def leS (a b : Str × Addr) : Bool := decide (a.1.cps.toList ≤ b.1.cps.toList)
def tSortK (K : PySem.W.Frag) (P : Addr) (q : Str) (te : TE) : TE := fun σ H Q => te σ H fun x H1 => ∃ (a : Addr) (bs : List (Str × Addr)), x = .ref a ∧ SqL K H1 a (bs.map fun b => V.ref b.2) ∧ Fsts K H1 bs ∧ bs.length ≤ 1000 ∧ LamX.TabS H1 P q ∧
  ∀ (p : Addr) (H2 : Hp), LamX.ExtN H1 H2 → LamX.TabS H2 P q → (∀ o, H1 p = some o → ∃ ps, o = .tbl ps) → H2 p = some (.lst ((bs.mergeSort leS).map fun b => V.ref b.2)) → Q (.ref p) H2
theorem vals_refs : ∀ {bs : List (Str × Addr)} {us : List Value}, Vals (bs.map fun b => V.ref b.2) us → us = bs.map fun b => Value.ref b.2
  | [], _, .nil => rfl
  | b :: bs, _, .cons r t => by
    cases r
    rw [vals_refs t]
    rfl
theorem refs_vals : ∀ bs : List (Str × Addr), Vals (bs.map fun b => V.ref b.2) (bs.map fun b => Value.ref b.2)
  | [] => .nil
  | b :: bs => .cons rfl (refs_vals bs)
theorem eachIs_map {β : Type} {R : Value → β → Prop} {f : β → Value} : ∀ {bs : List β}, (∀ b ∈ bs, R (f b) b) → PySem.W.EachIs R (bs.map f) bs
  | [], _ => .nil
  | b :: bs, h => .cons (h b List.mem_cons_self) (eachIs_map fun c hc => h c (List.mem_cons_of_mem _ hc))
theorem eachIs_eq {β : Type} {f : β → Value} {R : Value → β → Prop} (hR : ∀ v b, R v b → v = f b) : ∀ {vs : List Value} {bs : List β}, PySem.W.EachIs R vs bs → vs = bs.map f
  | _, _, .nil => rfl
  | _, _, .cons h t => by
    rw [hR _ _ h, eachIs_eq hR t]
    rfl
theorem nt_lst {xs : List V} (ps : Array Value) : HO.lst xs ≠ .tbl ps := fun z => by cases z
theorem nt_tup {xs : List V} (ps : Array Value) : HO.tup xs ≠ .tbl ps := fun z => by cases z
theorem nt_frz {o : Obj} {u : HO} (ps : Array Value) : HO.frz o u ≠ .tbl ps := fun z => by cases z
theorem sql_n {K : PySem.W.Frag} {H G : Hp} {a : Addr} {xs : List V} (e : LamX.ExtN H G) (h : SqL K H a xs) : SqL K G a xs :=
  h.imp (fun z => z.imp (fun z => e _ _ z nt_lst) fun ⟨o, z⟩ => ⟨o, e _ _ z nt_frz⟩) id
theorem sqt_n {K : PySem.W.Frag} {H G : Hp} {a : Addr} {xs : List V} (e : LamX.ExtN H G) (h : SqT K H a xs) : SqT K G a xs :=
  h.imp (fun z => z.imp (fun z => e _ _ z nt_tup) fun ⟨o, z⟩ => ⟨o, e _ _ z nt_frz⟩) id
section
variable {X : Cx}
theorem pe_sortK {e : Expr} {te : TE} {c P : Addr} {x : Str} {k : Nat} {p p1 p2 p3 pos kpos lpos : Pos} {params : Arguments} {scope : Scope} (hg : Gl X "sorted") (hm : X.mg "sorted" = none) (he : PE X e te) (TB : LamX.TabB X.base X.mg c P) (hcode : X.env.code = .ref c) (hdef : defaultsOf params X.env = ([], []))
    (L : LamOk scope x) (hfree : ∀ y ∈ scope.names, y.2 ≠ .free) (hd : (x == ("__debug__" : Str)) = false) (hr : Room 2 X.A)
    (hb : ∀ (q : Str) (cl : List (Str × Addr)) (pm cv ctv u : Value), bindArgs (PySem.W.kla_fn "<lambda>" q params (lamBody x k p1 p2 p3) scope cl pm cv ctv) ⟨[u], []⟩ = pure [(x, u)])
    (h1 : backTo pos (starEach [e] X.env) = (false, eval e X.env) :: backTo pos (starEach [] X.env) := by rfl) (h2 : (backTo pos (starEach [e] X.env)).any (·.1) = false := by rfl) :
    PE X (.Call (.Name "sorted" p) [e] [⟨some "key", .Lambda params (lamBody x k p1 p2 p3) scope lpos, kpos⟩] pos) (tSortK X.K P (X.env.qual ++ "<lambda>") te) := by
  refine ⟨fun pins s σ H Q I h => ?_⟩
  refine wpAny_Call_Name_kw (ld_blt I hg hm PyProof.Rows.Boot.«sorted» ?_)
  refine PyProof.Rows.callWith_kw ?_ h1 h2
  rw [h1]
  refine Calls.spliced_cons (thn (he.run pins s σ H _ I h) fun v s1 ⟨v', H1, I1, r1, a, bs, ev, hs, hf, hl, hT, q⟩ => Calls.spliced_nil ?_)
  subst ev
  cases r1
  show wpAny _ _ (evalAll ((do let v ← eval (.Lambda params (lamBody x k p1 p2 p3) scope lpos) X.env; standAt pos; pure v) :: [])) _ _ _
  refine wpAny_evalAll_cons (wpAny_bind (LamX.lam_make2 (T := [(P, X.env.qual ++ "<lambda>")]) I1 TB hcode List.mem_cons_self (fun p hp _ => ?_) (fun p hp => ?_) hdef (fun y hy e => absurd e (hfree y hy)) fun f c' pm ctv H2 s2 I2 eN T2 hfo hfn hfr hco => wpAny_bind (wpAny_standAt (wpAny_pure (wpAny_evalAll_nil ?_)))))
  · rw [List.mem_singleton] at hp
    rw [hp]
  · rw [List.mem_singleton] at hp
    rw [hp]
    exact hT
  · have hs2 := sql_n eN hs
    obtain ⟨its, rv, pl, hz⟩ := I2.list hs2
    have eits := vals_refs rv
    subst eits
    have hk : X.A.units + 2 < cLine := by have := hr.un; omega
    refine PySem.W.sorted_key_data (b := false) (β := Str × Addr) (R := fun v b => v = .ref b.2 ∧ b ∈ bs) (fun b => .str b.1) pl.isList (eachIs_map fun b hb => ⟨rfl, hb⟩) (PySem.W.AllAlike.of fun _ _ => rfl) (PySem.W.Sortable.others fun _ => ⟨fun z => (by cases z), fun xs z => (by cases z)⟩) (Nat.le_trans hl (by decide)) (fun b _ => hk) (ksk_s1 _ _) (fun _ => ksk_l1 _ _) (fun _ => ksk_t1 _ _) (fun v b ⟨ev, hbm⟩ _ h tk kp => ?_) fun out cc h' tk kp fresh hD hlen eo => ?_
    · subst ev
      obtain ⟨rest, ht⟩ := hf b hbm
      obtain ⟨its2, rv2, pt, hz2⟩ := I2.tuple (sqt_n eN ht)
      cases rv2 with
      | @cons _ u0 _ us r0 rr =>
        obtain ⟨t0, rfl⟩ := r0
        obtain ⟨oc, vs, tq, e1, e2, e3⟩ : ∃ (oc : Obj) (vs : Array Value) (t : Tok), s2.heap.get? c' = some oc ∧ oc.data = .fields vs ∧ vs[1]? = some (.str (X.env.qual ++ "<lambda>") t) := by
          have x : ObjOk X.prog X.w H2 s2.heap c' (LamX.CodeO c' (X.env.qual ++ "<lambda>")) := I2.hok c' _ hco
          exact x.1
        have pt2 : h.IsTuple b.2 (Value.str b.1 t0 :: us).toArray := by
          obtain ⟨o, q1, q2⟩ := (show s2.heap.IsTuple b.2 (Value.str b.1 t0 :: us).toArray from pt)
          exact ⟨o, kp _ _ q1, q2⟩
        have hdp : X.A.in1.in1.depth < recursionLimit := by have := hr.in1.in1.dp; omega
        refine lam_first (s := { s2 with heap := h, toks := tk }) L hd hdp (I2.nolimit.keeps kp) (kp _ _ hfo) ⟨c', oc, vs, tq, rfl, kp _ _ e1, e2, e3⟩ (hb _ _ _ _ _ _) pt2
    · have hk2 : PySem.W.dataLe false (fun b : Str × Addr => PyData.str b.1) = leS := PySem.W.dataLe_str (fun b : Str × Addr => b.1)
      rw [hk2] at eo
      have eout := eachIs_eq (f := fun b : Str × Addr => Value.ref b.2) (fun v b h => h.1) eo
      have n2 : H2 (s2.heap.objs.size + 1) = none := I2.hok.fresh (Nat.le_succ _)
      have n1 : ∀ o, H1 (s2.heap.objs.size + 1) = some o → ∃ ps, o = .tbl ps := fun o z => by
        refine Classical.byContradiction fun no => ?_
        have z2 := eN _ o z fun ps e => no ⟨ps, e⟩
        rw [n2] at z2
        cases z2
      have hlen2 : ((bs.mergeSort leS).map fun b => V.ref b.2).length ≤ sizeLine := by
        rw [List.length_map, List.length_mergeSort]
        exact Nat.le_trans hl (by decide)
      refine ⟨.ref _, upd H2 (s2.heap.objs.size + 1) (.lst ((bs.mergeSort leS).map fun b => V.ref b.2)), I2.laid (t' := tk) kp (Nat.le_succ _) ⟨hlen2, out, cc, by rw [eout]; exact refs_vals _, hD⟩, rfl, q _ _ ?_ ?_ n1 upd_same⟩
      · exact fun b o z n => by
          have z2 := eN b o z n
          rw [upd_ne (ne_of_none z2 n2)]
          exact z2
      · exact (T2 _ List.mem_cons_self).ext fun b o z => by
          rw [upd_ne (ne_of_none z n2)]
          exact z
end
end RG
end RLa
section RLb
/-! the walk to the statement where a def makes a lambda: one table of code objects -/
namespace RG
open PySem PySem.Spec PyProof.Rows L2
theorem top_tab {P : Program} {w : World} {K : PySem.W.Frag} {mg mb : Str → Option Value} {k : Nat} {fa a c T : Addr} {fd : FuncData} {x : Str} {sp : Sp} {s : Shared} {H : Hp} {xs : List V} {vs : List Value}
    (inn : K.In s.heap) (g1 : s.heap.Ns mainGlobals mg) (g2 : s.heap.Ns builtinsNs mb) (g3 : ∀ y : Str, y ≠ "__name__" → mb y = bootBuiltins y) (lim : s.heap.NoLimit) (hg : s.gens = #[])
    (bm : ∃ (q : Addr) (ob : Obj), mg "__builtins__" = some (.ref q) ∧ q ≠ builtinsNs ∧ s.heap.get? q = some ob ∧ ob.cls = .type "module" ∧ ob.dict = some builtinsNs ∧ ob.data = .plain)
    (ho : s.heap.get? a = some { cls := .type "list", data := .seq vs.toArray }) (hr : Room k callerA) (tT : s.heap.get? T = some { cls := .none, data := .fields #[] }) (nT : K.lookup T = none) (C : PySem.W.CodeHd s.heap c T)
    (F : ∀ base : Heap, K.In base → base.Ns mainGlobals mg → LamX.TabB base mg c T → FnG P w K mg base CX0 k fa fd [x] sp) (hb : ∀ (s : Shared) (u : Value), BindsTo s fd ⟨[u], []⟩ [(x, u)])
    (hT : H T = some (.tbl #[])) (hH : ∀ b, b ≠ T → H b = none ∨ (b = a ∧ H b = some (.frz { cls := .type "list", data := .seq vs.toArray } (.lst xs)) ∧ K.lookup a = none)) (ok : HOk P w H s.heap) (hsp : sp [.ref a] H (fun v _ => v = .bl true) fun _ _ _ => False) :
    codeAny (model P w) callerA (.call (.ref fa) ⟨[.ref a], []⟩) (fun r s' => r = .ok (.ret (.bool true)) ∧ OldK s.heap s'.heap ∧ s'.os = s.os ∧ AllBare s'.gens) s := by
  have off : ∀ {b : Addr} {o : Obj}, s.heap.get? b = some o → (∀ zs n, o.data ≠ .seq zs n) → o.data ≠ .fields #[] → H b = none := by
    intro b o e n1 n2
    by_cases hbT : b = T
    · subst hbT
      rw [tT] at e
      cases e
      exact absurd rfl n2
    · rcases hH b hbT with z | ⟨rfl, _, _⟩
      · exact z
      · rw [ho] at e
        cases e
        exact absurd rfl (n1 _ _)
  have offD : ∀ {b : Addr} {o : Obj} {es : Array DictEntry} {ep : Nat}, s.heap.get? b = some o → o.data = .dict es ep → H b = none := by
    intro b o es ep e d
    refine off e (fun zs n z => ?_) fun z => ?_
    · rw [d] at z; cases z
    · rw [d] at z; cases z
  have ns : ∀ {b : Addr} {m : Str → Option Value}, s.heap.Ns b m → (hidT s.heap H).Ns b m := by
    rintro b m ⟨o, es, ep, q1, q2, r⟩
    exact ⟨o, es, ep, hidT_get q1 (offD q1 q2), q2, r⟩
  have kin : K.In (hidT s.heap H) := by
    intro b o e
    refine hidT_get (inn b o e) ?_
    by_cases hbT : b = T
    · rw [hbT, nT] at e
      cases e
    · rcases hH b hbT with z | ⟨rfl, _, z⟩
      · exact z
      · rw [z] at e
        cases e
  obtain ⟨mc, l1, l2⟩ := lim
  have tab : LamX.TabB (hidT s.heap H) mg c T := by
    refine ⟨?_, ?_, fun z => ?_⟩
    · obtain ⟨o, us, file, tf, flags, tg, inF, text, tt, e1, r1, r2, r3, r4, r5, r6, r7, r8, hne⟩ := C
      refine ⟨o, us, file, tf, flags, tg, inF, text, tt, hidT_get e1 (off e1 (fun zs n z => ?_) fun z => ?_), r1, r2, r3, r4, r5, r6, r7, r8, hne⟩
      · rw [r2] at z
        cases z
      · rw [r2] at z
        cases z
        simp at r3
    · obtain ⟨q, ob, b1, b2, b3, b4, b5, b6⟩ := bm
      refine ⟨q, ob, b1, b2, fun e => ?_, fun e => ?_, hidT_get b3 (off b3 (fun zs n z => ?_) fun z => ?_), b4, b5, b6⟩
      · obtain ⟨o, es, ep, y1, y2, _⟩ := g1
        rw [e, y1] at b3
        cases b3
        rw [y2] at b6
        cases b6
      · rw [e, tT] at b3
        cases b3
        cases b6
      · rw [b6] at z; cases z
      · rw [b6] at z; cases z
    · obtain ⟨o, es, ep, y1, y2, _⟩ := g1
      rw [z, tT] at y1
      cases y1
      cases y2
  have e0 : Env0 P w K mg (hidT s.heap H) callerA [] s H :=
    ⟨rfl, ⟨kin, ns g1, ⟨mb, ns g2, g3⟩, ⟨mc, ns l1, l2⟩⟩, fun b o h => of_hidT h, Nat.le_of_eq (hidT_size _ _), trivial, (fun b hb => absurd hb (by simp [frs])), ok, AllBare.of_eq hg⟩
  refine codeAny_mono ((F _ kin (ns g1) tab).runs callerA [] s H ⟨[.ref a], []⟩ [.ref a] [.ref a] _ _ hr rfl e0 (hb s (.ref a)) (.cons rfl .nil) hsp) fun r s' h => ?_
  cases r with
  | error e => exact False.elim h
  | ok fl =>
    cases fl with
    | next => exact False.elim h
    | brk => exact False.elim h
    | cont => exact False.elim h
    | ret u =>
      obtain ⟨v, G, h1, h2, un, ok2, rv, q⟩ := h
      have q2 : v = .bl true := q
      subst q2
      obtain rfl : u = Value.bool true := rv
      obtain ⟨more, zT⟩ := un.tbls T #[] hT
      have grown : s'.heap.get? T = some { cls := .none, data := .fields (#[] ++ more) } := ok2 T _ zT
      have old : ∀ b o, b ≠ T → s.heap.get? b = some o → s'.heap.get? b = some o := fun b o nb e => by
        rcases hH b nb with z | ⟨rfl, z, _⟩
        · exact un.keep b o e z (by intro y; cases y) (by simp)
        · rw [ho] at e
          cases e
          exact (ok2 b _ (un.frzs b _ _ z)).1
      refine ⟨rfl, ⟨fun b o e => ?_, fun b o e => ?_⟩, h1, h2⟩
      · by_cases nb : b = T
        · subst nb
          rw [tT] at e
          cases e
          exact .inr (.inl ⟨(C.tab tT).isCodeTable, rfl, #[], more, rfl, grown⟩)
        · exact .inl (old b o nb e)
      · by_cases nb : b = T
        · subst nb
          exact ⟨_, grown⟩
        · exact ⟨o, old b o nb e⟩
theorem walk_GT {l : PySem.W.OpenLaw} {n k : Nat} {q : Program} {loose : List Str} {XP : (Str → Option Value) → Heap → Prop} {YP : World → Heap → Prop} {d : DefRec} {sp : PySem.W.Frag → Addr → Addr → Sp} {x : Str}
    (hn : l.most = some n) (hn2 : n ≤ sizeLine) (hdf : d.params.defaults = []) (hr : Room k callerA)
    (F : ∀ (w : World) (mg : Str → Option Value) (fa : Addr) (h : Heap), YP w h → h.Ns mainGlobals mg → mg d.name = some (.ref fa) →
      ∃ (K : PySem.W.Frag) (c T : Addr) (fd : FuncData), K.In h ∧ h.get? T = some { cls := .none, data := .fields #[] } ∧ K.lookup T = none ∧ PySem.W.CodeHd h c T ∧ (∀ (s : Shared) (u : Value), BindsTo s fd ⟨[u], []⟩ [(x, u)]) ∧
        ∀ base : Heap, K.In base → base.Ns mainGlobals mg → LamX.TabB base mg c T → FnG l.prog w K mg base CX0 k fa fd [x] (sp K c T))
    (hsp : ∀ (K : PySem.W.Frag) (c T : Addr) (H : Hp) (a : Addr) (ns : List Int), ns.length ≤ n → SqL K H a (ns.map V.int) → H T = some (.tbl #[]) → sp K c T [.ref a] H (fun v _ => v = .bl true) fun _ _ _ => False) :
    PySem.W.WalkO q loose XP YP l.row.toRowW d [] (fun f vs => PySem.call f vs) := by
  refine Att.attach_call hn hdf fun w s₀ s mg mb fa o pm cd doc a vs ns G Y h1 h2 h3 hmg ha hi hl hg => ?_
  obtain ⟨K, c, T, fd, inn, tT, nT, C, hb, hF⟩ := F w mg fa _ Y G.T.g hmg
  have rv := vals_ints hi
  have len : (ns.map V.int).length ≤ sizeLine := by
    rw [List.length_map]
    exact Nat.le_trans hl hn2
  have aT : a ≠ T := fun z => by
    rw [z, tT] at ha
    cases ha
  cases e : K.lookup a with
  | none =>
    refine top_tab (xs := ns.map V.int) (H := fun b => if b = a then some (.frz { cls := .type "list", data := .seq vs.toArray } (.lst (ns.map V.int))) else if b = T then some (.tbl #[]) else none) inn G.T.g G.T.b G.T.builtins G.T.nolimit hg G.T.bmain ha hr tT nT C hF hb ((if_neg (Ne.symm aT)).trans (if_pos rfl)) (fun b nb => ?_) (fun b u z => ?_) (hsp _ _ _ _ a ns hl ?_ ((if_neg (Ne.symm aT)).trans (if_pos rfl)))
    · by_cases hba : b = a
      · exact Or.inr ⟨hba, if_pos hba, e⟩
      · exact Or.inl ((if_neg hba).trans (if_neg nb))
    · by_cases hba : b = a
      · subst hba
        have z2 := (if_pos rfl).symm.trans z
        cases z2
        exact ⟨ha, len, vs, _, rv, ha⟩
      · have z2 := (if_neg hba).symm.trans z
        by_cases hbT : b = T
        · have z3 := (if_pos hbT).symm.trans z2
          cases z3
          rw [hbT]
          exact tT
        · have z3 := (if_neg hbT).symm.trans z2
          cases z3
    · exact Or.inl (Or.inr ⟨_, if_pos rfl⟩)
  | some ob =>
    have z := inn a ob e
    rw [ha] at z
    cases z
    refine top_tab (xs := []) (H := fun b => if b = T then some (.tbl #[]) else none) inn G.T.g G.T.b G.T.builtins G.T.nolimit hg G.T.bmain ha hr tT nT C hF hb (if_pos rfl) (fun b nb => Or.inl (if_neg nb)) (fun b u z => ?_) (hsp _ _ _ _ a ns hl (Or.inr ⟨_, vs.toArray, _, e, rfl, rfl, rfl, ?_, by simpa using rv⟩) (if_pos rfl))
    · by_cases hbT : b = T
      · have z3 := (if_pos hbT).symm.trans z
        cases z3
        rw [hbT]
        exact tT
      · have z3 := (if_neg hbT).symm.trans z
        cases z3
    · rw [List.size_toArray, ← rv.length]
      exact len
end RG
end RLb
section RLc
/-! defs that methods call; heaps in which only tables of code objects change; data of tuples alone -/
namespace RG
open PySem PySem.Spec PyProof.Rows L2
structure CgO (P : Program) (w : World) (K : PySem.W.Frag) (mg : Str → Option Value) (base : Heap) (k : Nat) (x : Str) (sp : Sp) : Prop where
  ex : ∃ (f : Addr) (fd : FuncData) (ps : List Str), FnOk P w K mg base CX0 k f fd ps sp ∧ mg x = some (.ref f) ∧ PySem.W.keepIn K (.ref f) = true ∧ Binds K fd ps []
theorem CgO.g {P : Program} {w : World} {K : PySem.W.Frag} {mg : Str → Option Value} {base : Heap} {k : Nat} {x : Str} {sp : Sp} (c : CgO P w K mg base k x sp) : Cg P w K mg base k x sp := by
  obtain ⟨f, fd, ps, F, r⟩ := c.ex
  exact ⟨f, fd, ps, FnG.of F, r⟩
section
variable {X : Cx} {k j : Nat} {x : Str} {sp : Sp} {p pos : Pos} {e : Expr} {es : List Expr} {t : TA}
theorem pe_o (c : CgO X.prog X.w X.K X.mg X.base k x sp) (hr : Room j X.A) (hk : k ≤ j) (hx : Gl X x) (ha : PA X (e :: es) t)
    (h1 : (x == ("__debug__" : Str)) = false := by decide) (h2 : starEach (e :: es) X.env = (false, eval e X.env) :: starEach es X.env := by rfl) (h3 : (backTo pos (starEach es X.env)).any (·.1) = false := by rfl) :
    PE X (.Call (.Name x p) (e :: es) [] pos) (tCall sp [] E0 t) := by
  obtain ⟨f, fd, ps, F, hm, kp, b⟩ := c.ex
  exact pe_call F (hr.mono hk) hx hm kp b .nil pass0 ha h1 h2 h3
end
/-! only tables change -/
theorem rd_n {H G : Hp} {a : Addr} {kvs : List (Key × V)} (e : LamX.ExtN H G) (h : Rd H a (.dK kvs)) : Rd G a (.dK kvs) :=
  h.imp (fun z => e _ _ z fun ps q => by cases q) fun ⟨o, z⟩ => ⟨o, e _ _ z nt_frz⟩
mutual
theorem Dd.n {K : PySem.W.Frag} {H G : Hp} (e : LamX.ExtN H G) : ∀ {v : V} {d : PyData}, Dd K H v d → Dd K G v d
  | _, _, .non => .non
  | _, _, .bl b => .bl b
  | _, _, .int i => .int i
  | _, _, .str x => .str x
  | _, _, .lst h t => .lst (sql_n e h) (DdAll.n e t)
  | _, _, .tup h t => .tup (sqt_n e h) (DdAll.n e t)
  | _, _, .dct h n t => .dct (rd_n e h) n (DdKv.n e t)
theorem DdAll.n {K : PySem.W.Frag} {H G : Hp} (e : LamX.ExtN H G) : ∀ {vs : List V} {ds : List PyData}, DdAll K H vs ds → DdAll K G vs ds
  | _, _, .nil => .nil
  | _, _, .cons h t => .cons (Dd.n e h) (DdAll.n e t)
theorem DdKv.n {K : PySem.W.Frag} {H G : Hp} (e : LamX.ExtN H G) : ∀ {kvs : List (Key × V)} {ds : List (PyData × PyData)}, DdKv K H kvs ds → DdKv K G kvs ds
  | _, _, .nil => .nil
  | _, _, .cons h t => .cons (Dd.n e h) (DdKv.n e t)
end
theorem extN_same {H G : Hp} (e : Same H G) : LamX.ExtN H G := fun b o z _ => e b o z
theorem pen_n {H G : Hp} {i : PenI} {B : Nat} (e : LamX.ExtN H G) (h : Pen H i B) : Pen G i B := by
  obtain ⟨t, r, h1, h2, h3⟩ := h.ex
  exact ⟨t, r, e _ _ h1 fun ps q => (by cases q), e _ _ h2 nt_lst, h3⟩
/-! all but one dict stays -/
theorem sql_d {K : PySem.W.Frag} {p : Addr} {H G : Hp} {a : Addr} {xs : List V} {kvs : List (Key × V)} (e : Kb p H G) (hp : H p = some (.dK kvs)) (h : SqL K H a xs) : SqL K G a xs :=
  h.imp (fun z => z.imp (fun z => e _ _ z fun q => by rw [q, hp] at z; cases z) fun ⟨o, z⟩ => ⟨o, e _ _ z fun q => by rw [q, hp] at z; cases z⟩) id
theorem sqt_d {K : PySem.W.Frag} {p : Addr} {H G : Hp} {a : Addr} {xs : List V} {kvs : List (Key × V)} (e : Kb p H G) (hp : H p = some (.dK kvs)) (h : SqT K H a xs) : SqT K G a xs :=
  h.imp (fun z => z.imp (fun z => e _ _ z fun q => by rw [q, hp] at z; cases z) fun ⟨o, z⟩ => ⟨o, e _ _ z fun q => by rw [q, hp] at z; cases z⟩) id
/-! data of tuples, numbers and texts alone -/
mutual
def flatT : PyData → Bool
  | .none | .bool _ | .int _ | .str _ => true
  | .tuple ds => flatTs ds
  | _ => false
def flatTs : List PyData → Bool
  | [] => true
  | d :: ds => flatT d && flatTs ds
end
mutual
theorem Dd.d {K : PySem.W.Frag} {p : Addr} {H G : Hp} {kvs : List (Key × V)} (e : Kb p H G) (hp : H p = some (.dK kvs)) : ∀ {v : V} {d : PyData}, Dd K H v d → flatT d = true → Dd K G v d
  | _, _, .non, _ => .non
  | _, _, .bl b, _ => .bl b
  | _, _, .int i, _ => .int i
  | _, _, .str x, _ => .str x
  | _, _, .lst h t, f => by cases f
  | _, _, .tup h t, f => .tup (sqt_d e hp h) (DdAll.d e hp t f)
  | _, _, .dct h n t, f => by cases f
theorem DdAll.d {K : PySem.W.Frag} {p : Addr} {H G : Hp} {kvs : List (Key × V)} (e : Kb p H G) (hp : H p = some (.dK kvs)) : ∀ {vs : List V} {ds : List PyData}, DdAll K H vs ds → flatTs ds = true → DdAll K G vs ds
  | _, _, .nil, _ => .nil
  | _, _, .cons h t, f => by
    simp only [flatTs, Bool.and_eq_true] at f
    exact .cons (Dd.d e hp h f.1) (DdAll.d e hp t f.2)
end
end RG
end RLc
namespace T
open PySem PySem.Spec PyProof.Rows L2 RG
def top (i : Nat) : Stmt := PySem.Challenge.pw_recutkeys_k35_sifting.main.body.getD i (.Pass ⟨0, 0, 0, 0⟩)
abbrev s_law_draw : Stmt := top 10
abbrev N_law_draw : List Str := ["pen", "many", "digit", "turn", "cell", "primes", "prime", "drawn"]
theorem sc_law_draw : FnScope N_law_draw ["pen", "many"] (defScope s_law_draw) := ⟨rfl, rfl, rfl, by decide +kernel, rfl, by decide +kernel, by decide +kernel⟩
section
variable {P : Program} {w : World} {K : PySem.W.Frag} {mg : Str → Option Value} {base : Heap} {f : Addr} {fd : FuncData}
theorem ok_law_draw (F : Fun K "_law_draw" "_law_draw" s_law_draw f fd) (T : Bt mg) : FnG P w K mg base CX0 1 f fd ["pen", "many"] spDraw := by
  refine fnG0 F sc_law_draw (fun vs H Q E h => ?_) (fun cdv A outer s H vs Q E hr hg h => ?_)
  · obtain ⟨x, m, B, rfl, _⟩ := h
    rfl
  · obtain ⟨⟨p, c, ns⟩, m, B, rfl, hpen, hB, m0, m1, k⟩ := h
    have nd := sc_law_draw.nd
    have hu := hu_of hr
    have hu0 : (A.deeper (envOfC "_law_draw" (defScope s_law_draw) s.heap.objs.size f cdv)).units < cLine := Nat.lt_of_succ_lt hu
    refine ⟨_, (pss_cons (ps_if (pt_cmpR op_gt (pe_dget hu (pv 0) pe_str (fun _ _ => rfl)) pe_int (nomark _))
        (pss_cons (ps_set (i := 2) nd rfl (Or.inl rfl) (pe_op op_modN (pe_dget hu (pv 0) pe_str (fun _ _ => rfl)) (pv 1)))
        (pss_cons (ps_dput hu (pv 0) pe_str (pe_op op_fdivN (pe_dget hu (pv 0) pe_str (fun _ _ => rfl)) (pv 1)) rfl)
        (pss_one (ps_ret (pv 2)))))
        pss_nil)
      (pss_cons (ps_set (i := 3) nd rfl (Or.inl rfl) (pe_dget hu (pv 0) pe_str (fun _ _ => rfl)))
      (pss_cons (ps_dput hu (pv 0) pe_str (pe_op op_add (pv 3) pe_int) rfl)
      (pss_cons (ps_set (i := 4) nd rfl (Or.inl rfl) (pe_op op_add (pe_op op_mul pe_int (pv 3)) pe_int))
      (C8.pss_cut (ps_if (pt_cmpR (op_neNil hu0) (pe_dget hu (pv 0) pe_str (fun _ _ => rfl)) (pe_lst pa_nil) (nomark _))
        (pss_one (ps_set (i := 4) nd rfl (Or.inl rfl) (pe_ix ix_list (pe_dget hu (pv 0) pe_str (fun _ _ => rfl)) (pe_op op_modN (pv 3) (pe_callB call_len_seq (by rfl) T.len b_len (pa_cons (pe_dget hu (pv 0) pe_str (fun _ _ => rfl)) pa_nil))) (fun _ _ => rfl))))
        pss_nil)
      (C8.pss_cut (ps_if (PW.pt (pw_and (pt_cmpR op_lt (pv 3) (pe_callB call_len_seq (by rfl) T.len b_len (pa_cons (pe_dget hu (pv 0) pe_str (fun _ _ => rfl)) pa_nil)) (nomark _)) (pw_and1 (pt_cmpR op_ge (pe_callB call_abs (by rfl) T.abs b_abs (pa_cons (pv 4) pa_nil)) (pe_op op_pow pe_int pe_int) (nomark _)))))
        (pss_cons (ps_dput hu (pv 0) pe_str (pe_op op_fdivN (pe_op op_sub (pe_callB call_abs (by rfl) T.abs b_abs (pa_cons (pv 4) pa_nil)) (pe_op op_pow pe_int pe_int)) (pv 1)) rfl)
        (pss_one (ps_ret (pe_op op_modN (pe_op op_sub (pe_callB call_abs (by rfl) T.abs b_abs (pa_cons (pv 4) pa_nil)) (pe_op op_pow pe_int pe_int)) (pv 1)))))
        pss_nil)
      (pss_cons (ps_set (i := 5) nd rfl (Or.inl rfl) (pe_lst (pa_cons pe_int (pa_cons pe_int (pa_cons pe_int (pa_cons pe_int (pa_cons pe_int pa_nil)))))))
      (pss_cons (ps_set (i := 6) nd rfl (Or.inl rfl) (pe_ix ix_list (pv 5) (pe_op op_mod (pv 3) pe_int) (fun _ _ => rfl)))
      (pss_cons (ps_set (i := 7) nd rfl (Or.inl rfl) (pe_op op_modN (pe_op op_add (pe_op op_add (pe_op op_mul (pe_op op_modN (pv 4) (pv 6)) pe_int) (pe_op op_mul (pe_op op_mul pe_int (pv 3)) (pv 3))) pe_int) (pv 6)))
      (pss_cons (ps_set (i := 7) nd rfl (Or.inl rfl) (pe_op op_modN (pe_op op_mul (pv 7) (pe_op op_add (pv 7) pe_int)) (pe_ix ix_list (pv 5) (pe_op op_mod (pe_op op_add (pv 3) pe_int) pe_int) (fun _ _ => rfl))))
      (pss_one (ps_ret (pe_op op_modN (pe_op op_fdiv (pe_op op_mod (pe_op op_mul (pv 7) (pv 7)) pe_int) pe_int) (pv 1)))))))))))))), ?_⟩
    obtain ⟨t, r, hp, hc, hlen, ht, hr0⟩ := hpen.ex
    simp only at hp hc hlen k
    refine ⟨_, rfl, p, _, rfl, gR hp, _, _, rfl, rfl, _, rfl, ?_⟩
    by_cases hpos : r > 0
    · rw [decide_eq_true hpos]
      refine iteT ?_
      refine ⟨_, rfl, p, _, rfl, gR hp, _, rfl, _, _, rfl, rfl, by omega, ?_⟩
      refine ⟨_, rfl, p, _, rfl, gR hp, _, rfl, _, _, rfl, rfl, ⟨by omega, by omega⟩, _, rfl, p, _, rfl, pR hp, _, rfl, ?_⟩
      have h1 := rest_at (i := r) m0
      refine k _ _ h1.1 h1.2 (Kb.refl p H).at ⟨t, _, upd_same, ?_, hlen, by omega, part_at m0 hr0⟩
      rw [upd_ne (ne_of hc hp (fun z => nomatch z))]
      exact hc
    · rw [decide_eq_false hpos]
      refine iteF ?_
      have hcp : c ≠ p := ne_of hc hp (fun z => nomatch z)
      -- turn, the pen's turn
      refine ⟨_, rfl, p, _, rfl, gT hp, ?_⟩
      refine ⟨_, rfl, _, _, rfl, rfl, _, rfl, p, _, rfl, pT hp, ?_⟩
      -- cell
      refine ⟨_, rfl, _, _, rfl, rfl, .inl ⟨by decide, by decide⟩, _, _, rfl, rfl, ?_⟩
      have hp1 : ∀ (G : Hp), G p = some (.dK (penKv c ((t : Int) + 1) r)) → G p = some (.dK (penKv c ((t : Int) + 1) r)) := fun _ h => h
      refine ⟨fun σ G => ∃ cell : Int, σ = [some (.ref p), some (.int m), none, some (.int t), some (.int cell), none, none, none] ∧ Kb p H G ∧ G p = some (.dK (penKv c ((t : Int) + 1) r)), ?_, ?_⟩
      · refine ⟨_, rfl, p, _, rfl, gC upd_same, (by decide), fun l hl => ?_⟩
        have hlp : l ≠ p := fun e => by
          rw [e, upd_same] at hl
          cases hl
        have hlc : l ≠ c := fun e => by
          rw [e, upd_ne hcp, hc] at hl
          cases hl
        refine ⟨c, l, _, rfl, rfl, .inl ⟨SqL.of (by rw [upd_ne hlc.symm, upd_ne hcp]; exact hc), SqL.of upd_same⟩, _, rfl, ?_⟩
        have keep : Kb p H (upd (upd H p (.dK (penKv c ((t : Int) + 1) r))) l (.lst [])) := by
          refine (Kb.refl p H).at.mut ?_
          rw [upd_ne hlp] at hl
          exact hl
        have hpl : (upd (upd H p (.dK (penKv c ((t : Int) + 1) r))) l (.lst [])) p = some (.dK (penKv c ((t : Int) + 1) r)) := by
          rw [upd_ne hlp.symm, upd_same]
        cases ns with
        | nil => exact ⟨_, rfl, keep, hpl⟩
        | cons n0 ns =>
          refine iteT ?_
          have hcl : (upd (upd H p (.dK (penKv c ((t : Int) + 1) r))) l (.lst [])) c = some (.lst ((n0 :: ns).map V.int)) := keep _ _ hc hcp
          have hpos2 : (0 : Int) < (((n0 :: ns).map V.int).length : Nat) := by simp
          have h1 := rest_at (i := t) hpos2
          obtain ⟨v, h2, h3⟩ := atI_in h1.1 h1.2
          have h4 : ∃ z : Int, v = V.int z := by
            rw [List.getElem?_map] at h3
            obtain ⟨z, _, e⟩ := Option.map_eq_some_iff.mp h3
            exact ⟨z, e.symm⟩
          obtain ⟨z, rfl⟩ := h4
          refine ⟨_, rfl, p, _, rfl, gC hpl, _, rfl, _, rfl, p, _, rfl, gC hpl, c, _, rfl, .inl (SqL.of hcl), _, _, rfl, rfl, by omega, c, _, _, _, rfl, rfl, SqL.of hcl, h2, ?_⟩
          exact ⟨z, rfl, keep, hpl⟩
      · rintro _ G ⟨cell, rfl, keep, hp1⟩
        have hc1 := keep _ _ hc hcp
        refine ⟨fun σ J => σ = [some (.ref p), some (.int m), none, some (.int t), some (.int cell), none, none, none] ∧ J = G, ?_, ?_⟩
        · refine ⟨_, rfl, _, rfl, p, _, rfl, gC hp1, c, _, rfl, .inl (SqL.of hc1), _, _, rfl, rfl, _, rfl, ?_⟩
          by_cases h1 : (t : Int) < ((ns.map V.int).length : Nat)
          · rw [decide_eq_true h1]
            refine iteT ?_
            refine ⟨_, rfl, _, rfl, _, _, rfl, rfl, ⟨by decide, by decide, by decide⟩, _, _, rfl, rfl, _, rfl, ?_⟩
            refine ite2 (fun h2 => ?_) fun _ => ⟨rfl, rfl⟩
            have h2 := of_decide_eq_true h2
            refine ⟨_, rfl, _, rfl, _, _, rfl, rfl, ⟨by decide, by decide, by decide⟩, _, _, rfl, rfl, _, rfl, _, _, rfl, rfl, ⟨by omega, by omega⟩, _, rfl, p, _, rfl, pR hp1, ?_⟩
            refine ⟨_, rfl, _, rfl, _, _, rfl, rfl, ⟨by decide, by decide, by decide⟩, _, _, rfl, rfl, _, rfl, _, _, rfl, rfl, by omega, ?_⟩
            have h3 := rest_at (i := (if cell < 0 then -cell else cell) - 10 ^ (18 : Int).toNat) m0
            refine k _ _ h3.1 h3.2 keep.at ⟨t + 1, _, by rw [upd_same]; rfl, by rw [upd_ne hcp]; exact hc1, hlen, by omega, part_at m0 (by omega)⟩
          · rw [decide_eq_false h1]
            exact ⟨rfl, rfl⟩
        · rintro _ J ⟨rfl, e⟩
          rw [e]
          refine ⟨by decide, fun l hl => ?_⟩
          have hlp : l ≠ p := fun e => by
            rw [e, hp1] at hl
            cases hl
          have hlc : l ≠ c := fun e => by
            rw [e, hc1] at hl
            cases hl
          have hL : (upd G l (.lst [.int 2147483647, .int 2147483629, .int 2147483587, .int 2147483579, .int 2147483563])) l = some (.lst [.int 2147483647, .int 2147483629, .int 2147483587, .int 2147483579, .int 2147483563]) := upd_same
          have prime : ∀ i : Int, ∃ z : Int, atI [V.int 2147483647, .int 2147483629, .int 2147483587, .int 2147483579, .int 2147483563] (i % 5) = some (.int z) ∧ 0 < z ∧ z < 2147483648 := fun i => by
            have h1 : i % 5 = 0 ∨ i % 5 = 1 ∨ i % 5 = 2 ∨ i % 5 = 3 ∨ i % 5 = 4 := by omega
            rcases h1 with e | e | e | e | e <;> rw [e]
            · exact ⟨2147483647, rfl, by decide, by decide⟩
            · exact ⟨2147483629, rfl, by decide, by decide⟩
            · exact ⟨2147483587, rfl, by decide, by decide⟩
            · exact ⟨2147483579, rfl, by decide, by decide⟩
            · exact ⟨2147483563, rfl, by decide, by decide⟩
          obtain ⟨z, hz, z0, z1⟩ := prime t
          obtain ⟨y, hy, y0, y1⟩ := prime ((t : Int) + 3)
          -- prime = primes[turn % 5]
          refine ⟨_, rfl, _, rfl, _, _, rfl, rfl, (by show (0 : Int) < 5; decide), l, _, _, _, rfl, rfl, SqL.of hL, hz, ?_⟩
          have r1 := rest_at (i := cell) z0
          -- drawn
          refine ⟨_, rfl, _, rfl, _, _, rfl, rfl, by omega, _, _, rfl, rfl, .inr ⟨by decide, by decide⟩, _, rfl, _, _, rfl, rfl, .inl ⟨by decide, by decide⟩, _, rfl, _, _, rfl, rfl, .inr ⟨by omega, by omega⟩, _, _, rfl, rfl, _, _, rfl, rfl, _, rfl, _, _, rfl, rfl, by omega, ?_⟩
          generalize hX : (cell.fmod z * 69621 + 40692 * (t : Int) * (t : Int) + 11) = X
          have r2 := rest_at (i := X) z0
          refine ⟨_, rfl, _, rfl, _, _, rfl, rfl, _, _, rfl, rfl, .inl ⟨by omega, by omega⟩, _, rfl, _, rfl, _, _, rfl, rfl, _, _, rfl, rfl, (by show (0 : Int) < 5; decide), l, _, _, _, rfl, rfl, SqL.of hL, hy, _, _, rfl, rfl, by omega, ?_⟩
          generalize hY : X.fmod z * (X.fmod z + 48271) = Y
          have r3 := rest_at (i := Y) y0
          refine ⟨_, rfl, _, rfl, _, _, rfl, rfl, .inl ⟨by omega, by omega⟩, _, _, rfl, rfl, (by show (0 : Int) < 2147483549; decide), _, _, rfl, rfl, ⟨by decide, by decide⟩, _, rfl, _, _, rfl, rfl, by omega, ?_⟩
          generalize hZ : (Y.fmod y * Y.fmod y % 2147483549) / 64 = Z
          have r4 := rest_at (i := Z) m0
          refine k _ _ r4.1 r4.2 (keep.mut (keep.free hlp hl)) ⟨t + 1, r, by rw [upd_ne hlp.symm, hp1]; rfl, by rw [upd_ne hlc.symm]; exact hc1, hlen, by omega, hr0⟩
end
abbrev s_law_pen : Stmt := top 9
abbrev N_law_pen : List Str := ["script"]
theorem sc_law_pen : FnScope N_law_pen ["script"] (defScope s_law_pen) := ⟨rfl, rfl, rfl, by decide +kernel, rfl, by decide +kernel, by decide +kernel⟩
section
variable {P : Program} {w : World} {K : PySem.W.Frag} {mg : Str → Option Value} {base : Heap} {f : Addr} {fd : FuncData}
theorem ok_law_pen (F : Fun K "_law_pen" "_law_pen" s_law_pen f fd) (T : Bt mg) : FnG P w K mg base CX0 1 f fd ["script"] (spPen K) := by
  refine fnG0 F sc_law_pen (fun vs H Q E h => ?_) (fun cdv A outer s H vs Q E hr hg h => ?_)
  · obtain ⟨x, ns, rfl, _⟩ := h
    rfl
  · obtain ⟨a, ns, rfl, ha, hl, k⟩ := h
    refine ⟨_, (pss_one (ps_ret (pe_disp (pps_cons pe_str (pe_callTy call_list_of (by rfl) T.list b_list (pa_cons (pe_slice sl_list (pv 0) po_none (po_some pe_int)) pa_nil)) (pps_cons pe_str pe_int (pps_cons pe_str pe_int pps_nil))) (by rfl) (by rfl) (fun z => by cases z) (by decide)))), ?_⟩
    intro p hp
    refine ⟨_, rfl, 63, rfl, a, _, rfl, sql_same (same_new hp) ha, fun q hq => ?_⟩
    have ec : cutV (ns.map V.int) none (some 63) = ns.map V.int := by
      rw [show (63 : Int) = ((63 : Nat) : Int) from rfl, cut_front, List.take_of_length_le (by rw [List.length_map]; exact hl)]
    rw [ec]
    refine ⟨q, _, rfl, .inl (SqL.of upd_same), fun c hc => ?_⟩
    have hqp : q ≠ p := fun e => by
      rw [e, upd_same] at hq
      cases hq
    have hcq : c ≠ q := fun e => by
      rw [e, upd_same] at hc
      cases hc
    have hcp : c ≠ p := fun e => by
      rw [e, upd_ne hqp.symm, upd_same] at hc
      cases hc
    refine ⟨by rw [upd_ne hcp.symm, upd_ne hqp.symm, upd_same], penKv c 0 0, rfl, (show 3 ≤ 15 by decide), ?_⟩
    rw [penMade]
    have e1 : Same H (upd (upd (upd H p (.dK [])) q (.lst (ns.map V.int))) c (.lst (ns.map V.int))) := by
      have h1 : H q = none := by rw [upd_ne hqp] at hq; exact hq
      have h2 : H c = none := by rw [upd_ne hcq, upd_ne hcp] at hc; exact hc
      exact same_mut (same_mut (same_new hp) h1) h2
    exact k ⟨p, c, ns⟩ _ (same_mut e1 hp) ⟨0, 0, upd_same, by rw [upd_ne hcp, upd_same], hl, Nat.le_refl 0, Int.le_refl 0⟩
end
-- new
abbrev s_law_pick : Stmt := top 11
abbrev N_law_pick : List Str := ["pen", "some"]
theorem sc_law_pick : FnScope N_law_pick ["pen", "some"] (defScope s_law_pick) := ⟨rfl, rfl, rfl, by decide +kernel, rfl, by decide +kernel, by decide +kernel⟩
/-- pairs (mark, place) -/
def PairsV (K : PySem.W.Frag) (H : Hp) (ts : List Addr) (ps : List (Int × Int)) : Prop := Paired (fun t p => SqT K H t [.int p.1, .int p.2]) ts ps
theorem PairsV.same {K : PySem.W.Frag} {H G : Hp} {ts : List Addr} {ps : List (Int × Int)} (h : PairsV K H ts ps) (e : Same H G) : PairsV K G ts ps := Paired.mapP h fun _ _ z => sqt_same e z
theorem PairsV.kb {K : PySem.W.Frag} {H G : Hp} {ts : List Addr} {ps : List (Int × Int)} {p : Addr} (h : PairsV K H ts ps) (e : Kb p H G) (hp : PenO H p) : PairsV K G ts ps := Paired.mapP h fun _ _ z => sqt_kb e hp z
/-- asks: some of the watched marks, rising as they are, each with a place -/
def spAsks (K : PySem.W.Frag) : Sp := fun vs H Q _ => ∃ (i : PenI) (B n : Nat) (a : Addr) (ws : List Int), vs = [.ref i.p, .int (n : Int), .ref a] ∧ Pen H i B ∧ B < 2 ^ 40 ∧ 1 ≤ n ∧ n ≤ 1000 ∧ SqT K H a (ws.map V.int) ∧ ws.length ≤ 12 ∧
  ∀ (t : Addr) (ts : List Addr) (ps : List (Int × Int)) (H' : Hp), Kb i.p H H' → Pen H' i (B + 2 * ws.length) → SqT K H' t (ts.map V.ref) → PairsV K H' ts ps → (ps.map (·.1)).Sublist ws → (∀ p ∈ ps, 0 ≤ p.2 ∧ p.2 < (n : Int)) → Q (.ref t) H'
section
variable {P : Program} {w : World} {K : PySem.W.Frag} {mg : Str → Option Value} {base : Heap} {f : Addr} {fd : FuncData}
theorem ok_law_pick (F : Fun K "_law_pick" "_law_pick" s_law_pick f fd) (T : Bt mg) (C1 : Cg P w K mg base 1 "_law_draw" spDraw) : FnG P w K mg base CX0 2 f fd ["pen", "some"] (spPickA K) := by
  refine fnG0 F sc_law_pick (fun vs H Q E h => ?_) (fun cdv A outer s H vs Q E hr hg h => ?_)
  · rcases h with ⟨i, B, a, xs, rfl, _⟩ | ⟨i, B, z, rfl, _⟩
    · rfl
    · rfl
  · refine ⟨_, (pss_one (ps_ret (pe_ix ix_seq (pv 1) (pe_g C1 hr hg (by decide) rfl (pa_cons (pv 0) (pa_cons (pe_callB (call_len_seq.or call_len_str) (by rfl) T.len b_len (pa_cons (pv 1) pa_nil)) pa_nil))) (fun _ _ => rfl)))), ?_⟩
    rcases h with ⟨i, B, a, xs, rfl, hp, hB, ha, h0, h1, k⟩ | ⟨i, B, z, rfl, hp, hB, h0, h1, k⟩
    · refine ⟨_, rfl, _, rfl, _, rfl, .inl ⟨a, xs, rfl, ha, i, _, B, rfl, hp, hB, by omega, by omega, fun d G d0 d1 kb pn => ?_⟩⟩
      obtain ⟨v, h2, h3⟩ := atI_in d0 d1
      have hv := k v G (List.mem_of_getElem? h3) kb pn
      rcases ha with ha | ha
      · exact .inl ⟨a, xs, d, v, rfl, rfl, sql_kb kb hp.o ha, h2, hv⟩
      · exact .inr (.inl ⟨a, xs, d, v, rfl, rfl, sqt_kb kb hp.o ha, h2, hv⟩)
    · have zl : z.cps.toList.length = z.length := by
        rw [Array.length_toList]
        rfl
      refine ⟨_, rfl, _, rfl, _, rfl, .inr ⟨z, rfl, Nat.le_trans (Nat.le_of_lt h1) (by decide), i, _, B, rfl, hp, hB, by omega, by omega, fun d G d0 d1 kb pn => ?_⟩⟩
      obtain ⟨v, h2, h3⟩ := atI_in (xs := z.cps.toList) d0 (by rw [zl]; exact d1)
      exact .inr (.inr ⟨z, d, v, rfl, rfl, Nat.le_trans (Nat.le_of_lt h1) (by decide), h2, k v G (List.mem_of_getElem? h3) kb pn⟩)
end
-- new
/-- v is the tuple of the places to which p brings -/
def Ar (K : PySem.W.Frag) (H : Hp) (v : V) (n : Nat) (p : Nat → Nat) : Prop := ∃ a, v = .ref a ∧ SqT K H a (arV p n)
theorem Ar.same {K : PySem.W.Frag} {H G : Hp} {v : V} {n : Nat} {p : Nat → Nat} (h : Ar K H v n p) (e : Same H G) : Ar K G v n p := by
  obtain ⟨a, h1, h2⟩ := h
  exact ⟨a, h1, sqt_same e h2⟩
theorem Ar.congr {K : PySem.W.Frag} {H : Hp} {v : V} {n : Nat} {p q : Nat → Nat} (h : Ar K H v n p) (e : ∀ k, k < n → p k = q k) : Ar K H v n q := by
  obtain ⟨a, h1, h2⟩ := h
  exact ⟨a, h1, by rw [← arV_congr e]; exact h2⟩
def spBehind (K : PySem.W.Frag) : Sp := fun vs H Q _ => ∃ (x y : V) (n : Nat) (p q : Nat → Nat), vs = [x, y] ∧ Ar K H x n p ∧ Ar K H y n q ∧ (∀ k, k < n → p k < n) ∧ n ≤ 12 ∧
  ∀ v H', Same H H' → Ar K H' v n (fun k => q (p k)) → Q v H'
def spUndone (K : PySem.W.Frag) : Sp := fun vs H Q _ => ∃ (x : V) (n : Nat) (p : Nat → Nat), vs = [x] ∧ Ar K H x n p ∧ IsP n p ∧ n ≤ 12 ∧
  ∀ v r H', Same H H' → (∀ k, k < n → r (p k) = k) → Ar K H' v n r → Q v H'
theorem ixN_nat {n k : Nat} (h : k < n) : ixN n ((k : Nat) : Int) = some k := by
  unfold ixN
  rw [if_pos (by omega), if_pos (by omega), Int.toNat_natCast]
/-- what a list holds, read as a map -/
def readAt (bs : List V) (y : Nat) : Nat := match bs[y]? with
  | some (.int i) => i.toNat
  | _ => 0
theorem read_back {n : Nat} {p : Nat → Nat} {bs : List V} (hp : IsP n p) (hl : bs.length = n) (h : ∀ j, j < n → bs[p j]? = some (V.int (j : Nat))) : bs = arV (readAt bs) n ∧ ∀ k, k < n → readAt bs (p k) = k := by
  have rd : ∀ k, k < n → readAt bs (p k) = k := fun k hk => by
    unfold readAt
    rw [h k hk]
    exact Int.toNat_natCast k
  refine ⟨List.ext_getElem? fun y => ?_, rd⟩
  by_cases hy : y < n
  · obtain ⟨x, hx, rfl⟩ := hp.sur y hy
    rw [arV_get hy, h x hx, rd x hx]
  · rw [List.getElem?_eq_none (by omega), List.getElem?_eq_none (by rw [arV_len]; omega)]
abbrev s_behind : Stmt := top 1
abbrev N_behind : List Str := ["one", "other", "place"]
theorem sc_behind : FnScope N_behind ["one", "other"] (defScope s_behind) := ⟨rfl, rfl, rfl, by decide +kernel, rfl, by decide +kernel, by decide +kernel⟩
abbrev s_undone : Stmt := top 2
abbrev N_undone : List Str := ["one", "back", "start", "end"]
theorem sc_undone : FnScope N_undone ["one"] (defScope s_undone) := ⟨rfl, rfl, rfl, by decide +kernel, rfl, by decide +kernel, by decide +kernel⟩
abbrev s_law_behind : Stmt := top 14
abbrev N_law_behind : List Str := ["one", "other", "place"]
theorem sc_law_behind : FnScope N_law_behind ["one", "other"] (defScope s_law_behind) := ⟨rfl, rfl, rfl, by decide +kernel, rfl, by decide +kernel, by decide +kernel⟩
abbrev s_law_undone : Stmt := top 15
abbrev N_law_undone : List Str := ["one", "found", "k"]
theorem sc_law_undone : FnScope N_law_undone ["one"] (defScope s_law_undone) := ⟨rfl, rfl, rfl, by decide +kernel, rfl, by decide +kernel, by decide +kernel⟩
section
variable {P : Program} {w : World} {K : PySem.W.Frag} {mg : Str → Option Value} {base : Heap} {f : Addr} {fd : FuncData}
theorem ok_behind (F : Fun K "behind" "behind" s_behind f fd) (T : Bt mg) : FnG P w K mg base CX0 1 f fd ["one", "other"] (spBehind K) := by
  refine fnG0 F sc_behind (fun vs H Q E h => ?_) (fun cdv A outer s H vs Q E hr hg h => ?_)
  · obtain ⟨x, y, n, p, q, rfl, _⟩ := h
    rfl
  · obtain ⟨x, y, n, p, q, rfl, ⟨a, rfl, ha⟩, ⟨b, rfl, hb⟩, lt, n12, k⟩ := h
    have nd := sc_behind.nd
    refine ⟨_, (pss_one (ps_ret (pe_callTy call_tuple_of (by rfl) T.tuple b_tuple (pa_cons (pe_lc (own := [("place", 2)]) (g := gName 2) rfl nd (pi_tup (pv 0)) (blkOk_by (own := [("place", 2)]) (N := N_behind) (sc := defScope s_behind) (by decide +kernel)) (fun _ _ _ _ _ => (pg_name (i := 2) nd rfl (Or.inl rfl))) (fun _ _ _ _ _ => pts_nil) (fun _ _ _ _ _ => (pe_callTy call_int1 (by rfl) T.int b_int (pa_cons (pe_ix (r := rIxT K) ix_tup (pv 1) (pv 2) (fun _ _ => rfl)) pa_nil)))) pa_nil)))), ?_⟩
    refine ⟨_, rfl, a, rfl, ⟨_, ha⟩, fun D hD => ?_⟩
    refine comp_tup (K := K) (ys := arV (fun k => q (p k)) n) hD ha (by rw [arV_len, arV_len]) (Nat.lt_of_le_of_lt (by rw [arV_len]; exact n12) (by decide : 12 < sizeLine)) (fun i x y hi hy G e1 Q hq => ?_) fun G e1 hG => ?_
    · have hin : i < n := by
        have := (List.getElem?_eq_some_iff.mp hi).1
        rwa [arV_len] at this
      rw [arV_get hin] at hi hy
      cases hi
      cases hy
      exact ⟨_, rfl, _, rfl, b, _, _, _, rfl, rfl, sqt_same e1 hb, arV_at (lt i hin), .inl ⟨_, rfl, hq G (Same.refl G)⟩⟩
    · refine ⟨D, _, rfl, .inl ⟨SqL.of hG, fun t ht => ?_⟩⟩
      exact k _ _ (same_mut e1 (e1.free ht)) ⟨t, rfl, SqT.of upd_same⟩
theorem ok_law_behind (F : Fun K "_law_behind" "_law_behind" s_law_behind f fd) (T : Bt mg) : FnG P w K mg base CX0 1 f fd ["one", "other"] (spBehind K) := by
  refine fnG0 F sc_law_behind (fun vs H Q E h => ?_) (fun cdv A outer s H vs Q E hr hg h => ?_)
  · obtain ⟨x, y, n, p, q, rfl, _⟩ := h
    rfl
  · obtain ⟨x, y, n, p, q, rfl, ⟨a, rfl, ha⟩, ⟨b, rfl, hb⟩, lt, n12, k⟩ := h
    have nd := sc_law_behind.nd
    refine ⟨_, (pss_one (ps_ret (pe_callTy call_tuple_of (by rfl) T.tuple b_tuple (pa_cons (pe_lc (own := [("place", 2)]) (g := gName 2) rfl nd (pi_tup (pv 0)) (blkOk_by (own := [("place", 2)]) (N := N_law_behind) (sc := defScope s_law_behind) (by decide +kernel)) (fun _ _ _ _ _ => (pg_name (i := 2) nd rfl (Or.inl rfl))) (fun _ _ _ _ _ => pts_nil) (fun _ _ _ _ _ => (pe_ix (r := rIxT K) ix_tup (pv 1) (pv 2) (fun _ _ => rfl)))) pa_nil)))), ?_⟩
    refine ⟨_, rfl, a, rfl, ⟨_, ha⟩, fun D hD => ?_⟩
    refine comp_tup (K := K) (ys := arV (fun k => q (p k)) n) hD ha (by rw [arV_len, arV_len]) (Nat.lt_of_le_of_lt (by rw [arV_len]; exact n12) (by decide : 12 < sizeLine)) (fun i x y hi hy G e1 Q hq => ?_) fun G e1 hG => ?_
    · have hin : i < n := by
        have := (List.getElem?_eq_some_iff.mp hi).1
        rwa [arV_len] at this
      rw [arV_get hin] at hi hy
      cases hi
      cases hy
      exact ⟨_, rfl, _, rfl, b, _, _, _, rfl, rfl, sqt_same e1 hb, arV_at (lt i hin), hq G (Same.refl G)⟩
    · refine ⟨D, _, rfl, .inl ⟨SqL.of hG, fun t ht => ?_⟩⟩
      exact k _ _ (same_mut e1 (e1.free ht)) ⟨t, rfl, SqT.of upd_same⟩
theorem ok_undone (F : Fun K "undone" "undone" s_undone f fd) (T : Bt mg) : FnG P w K mg base CX0 1 f fd ["one"] (spUndone K) := by
  refine fnG0 F sc_undone (fun vs H Q E h => ?_) (fun cdv A outer s H vs Q E hr hg h => ?_)
  · obtain ⟨x, n, p, rfl, _⟩ := h
    rfl
  · obtain ⟨x, n, p, rfl, ⟨a, rfl, ha⟩, hp, n12, k⟩ := h
    have nd := sc_undone.nd
    refine ⟨_, (pss_cons (ps_set (i := 1) nd rfl (Or.inl rfl) (pe_op op_rep (pe_lst (pa_cons pe_int pa_nil)) (pe_callB call_len_seq (by rfl) T.len b_len (pa_cons (pv 0) pa_nil))))
      (pss_cons (ps_for PassesOwn.never rfl (pi_enumT (by rfl) T.enumerate (pa_cons (pv 0) pa_nil)) (pg_tup (by rfl) (pgs_cons (pg_name (i := 2) nd rfl (Or.inl rfl)) (pgs_cons (pg_name (i := 3) nd rfl (Or.inl rfl)) pgs_nil)))
        (pss_one (ps_asg (pv 2) (pg_sub (pv 1) (pv 3) set_list))))
      (pss_one (ps_ret (pe_callTy call_tuple_of (by rfl) T.tuple b_tuple (pa_cons (pv 1) pa_nil)))))), ?_⟩
    refine ⟨(show 1 ≤ sizeLine by decide), fun z hz => ?_⟩
    have e1 : Same H (upd H z (.lst [.int 0])) := same_new hz
    have hz1 : (upd H z (.lst [.int 0])) z = some (.lst [.int 0]) := upd_same
    refine ⟨_, rfl, a, _, rfl, .inr (sqt_same e1 ha), z, _, _, rfl, rfl, hz1, by omega, ?_, ?_, fun l hl => ?_⟩
    · rw [arV_len]
      omega
    · rw [arV_len, Int.toNat_natCast]
      exact Nat.le_trans (show 1 * n ≤ 100 by omega) (by decide)
    have s0 : Same H (upd (upd H z (.lst [.int 0])) l (.lst (List.replicate ((arV p n).length : Int).toNat [.int 0]).flatten)) := e1.trans (same_new hl)
    have g0 : (upd (upd H z (.lst [.int 0])) l (.lst (List.replicate ((arV p n).length : Int).toNat [.int 0]).flatten)) l = some (.lst (List.replicate ((arV p n).length : Int).toNat [.int 0]).flatten) := upd_same
    have hl0 : H l = none := e1.free hl
    have b0 : (List.replicate ((arV p n).length : Int).toNat [V.int 0]).flatten.length = n := by
      rw [arV_len, Int.toNat_natCast]
      simp
    change (tSeq _ _ : TS) _ _ (upd (upd H z (.lst [.int 0])) l (.lst (List.replicate ((arV p n).length : Int).toNat [.int 0]).flatten))
    generalize upd (upd H z (.lst [.int 0])) l (.lst (List.replicate ((arV p n).length : Int).toNat [.int 0]).flatten) = G0 at s0 g0 ⊢
    generalize (List.replicate ((arV p n).length : Int).toNat [V.int 0]).flatten = bs0 at g0 b0
    refine ⟨_, rfl, a, _, rfl, sqt_same s0 ha, ?_⟩
    refine for_enumT (xs := arV p n) (fun i σ G => ∃ y2 y3 bs, σ = [some (.ref a), some (.ref l), y2, y3] ∧ Same H G ∧ G l = some (.lst bs) ∧ bs.length = n ∧ ∀ j, j < i → bs[p j]? = some (.int (j : Nat))) ⟨_, _, bs0, rfl, s0, g0, b0, fun j hj => absurd hj (Nat.not_lt_zero j)⟩ (fun i σ G _ q => ?_) (fun i x σ G t hx q ht => ?_) fun σ G q => ?_
    · obtain ⟨_, _, _, _, q, _⟩ := q
      exact sqt_same q ha
    · obtain ⟨y2, y3, bs, rfl, q1, q2, q3, q4⟩ := q
      have hin : i < n := by
        have := (List.getElem?_eq_some_iff.mp hx).1
        rwa [arV_len] at this
      rw [arV_get hin] at hx
      cases hx
      have tl : t ≠ l := fun e => by rw [e, q2] at ht; cases ht
      refine ⟨t, _, rfl, SqT.of upd_same, rfl, ?_⟩
      refine ⟨_, _, rfl, _, _, rfl, rfl, _, rfl, _, rfl, _, rfl, l, _, _, _, rfl, rfl, by rw [upd_ne tl.symm]; exact q2, ixN_nat (by rw [q3]; exact hp.lt i hin), ?_⟩
      refine ⟨_, _, _, rfl, same_mut (q1.trans (same_new ht)) hl0, upd_same, by rw [List.length_set]; exact q3, fun j hj => ?_⟩
      rcases Nat.lt_succ_iff_lt_or_eq.mp hj with hj | rfl
      · have ne : p i ≠ p j := fun e => by
          have := hp.inj i j hin (by omega) e
          omega
        rw [List.getElem?_set_ne ne]
        exact q4 j hj
      · rw [List.getElem?_set_self (by rw [q3]; exact hp.lt j hin)]
    · obtain ⟨y2, y3, bs, rfl, q1, q2, q3, q4⟩ := q
      rw [arV_len] at q4
      obtain ⟨r1, r2⟩ := read_back hp q3 q4
      refine ⟨_, rfl, l, _, rfl, .inl ⟨SqL.of q2, fun t ht => ?_⟩⟩
      rw [r1]
      exact k _ _ _ (same_mut q1 (q1.free ht)) r2 ⟨t, rfl, SqT.of upd_same⟩
theorem ok_law_undone (F : Fun K "_law_undone" "_law_undone" s_law_undone f fd) (T : Bt mg) : FnG P w K mg base CX0 1 f fd ["one"] (spUndone K) := by
  refine fnG0 F sc_law_undone (fun vs H Q E h => ?_) (fun cdv A outer s H vs Q E hr hg h => ?_)
  · obtain ⟨x, n, p, rfl, _⟩ := h
    rfl
  · obtain ⟨x, n, p, rfl, ⟨a, rfl, ha⟩, hp, n12, k⟩ := h
    have nd := sc_law_undone.nd
    refine ⟨_, (pss_cons (ps_set (i := 1) nd rfl (Or.inl rfl) (pe_op op_rep (pe_lst (pa_cons pe_int pa_nil)) (pe_callB call_len_seq (by rfl) T.len b_len (pa_cons (pv 0) pa_nil))))
      (pss_cons (ps_for PassesOwn.never rfl (pi_range1 (by rfl) T.range (pa_cons (pe_callB call_len_seq (by rfl) T.len b_len (pa_cons (pv 0) pa_nil)) pa_nil)) (pg_name (i := 2) nd rfl (Or.inl rfl))
        (pss_one (ps_asg (pv 2) (pg_sub (pv 1) (pe_ix ix_tup (pv 0) (pv 2) (fun _ _ => rfl)) set_list))))
      (pss_one (ps_ret (pe_callTy call_tuple_of (by rfl) T.tuple b_tuple (pa_cons (pv 1) pa_nil)))))), ?_⟩
    refine ⟨(show 1 ≤ sizeLine by decide), fun z hz => ?_⟩
    have e1 : Same H (upd H z (.lst [.int 0])) := same_new hz
    have hz1 : (upd H z (.lst [.int 0])) z = some (.lst [.int 0]) := upd_same
    refine ⟨_, rfl, a, _, rfl, .inr (sqt_same e1 ha), z, _, _, rfl, rfl, hz1, by omega, ?_, ?_, fun l hl => ?_⟩
    · rw [arV_len]
      omega
    · rw [arV_len, Int.toNat_natCast]
      exact Nat.le_trans (show 1 * n ≤ 100 by omega) (by decide)
    have s0 : Same H (upd (upd H z (.lst [.int 0])) l (.lst (List.replicate ((arV p n).length : Int).toNat [.int 0]).flatten)) := e1.trans (same_new hl)
    have g0 : (upd (upd H z (.lst [.int 0])) l (.lst (List.replicate ((arV p n).length : Int).toNat [.int 0]).flatten)) l = some (.lst (List.replicate ((arV p n).length : Int).toNat [.int 0]).flatten) := upd_same
    have hl0 : H l = none := e1.free hl
    have b0 : (List.replicate ((arV p n).length : Int).toNat [V.int 0]).flatten.length = n := by
      rw [arV_len, Int.toNat_natCast]
      simp
    change (tSeq _ _ : TS) _ _ (upd (upd H z (.lst [.int 0])) l (.lst (List.replicate ((arV p n).length : Int).toNat [.int 0]).flatten))
    generalize upd (upd H z (.lst [.int 0])) l (.lst (List.replicate ((arV p n).length : Int).toNat [.int 0]).flatten) = G0 at s0 g0 ⊢
    generalize (List.replicate ((arV p n).length : Int).toNat [V.int 0]).flatten = bs0 at g0 b0
    refine ⟨_, rfl, a, _, rfl, .inr (sqt_same s0 ha), _, rfl, ?_, ?_, ?_⟩
    · rw [arV_len]; omega
    · rw [arV_len]; omega
    rw [arV_len]
    refine for_range (n := n) (fun i σ G => ∃ y2 bs, σ = [some (.ref a), some (.ref l), y2] ∧ Same H G ∧ G l = some (.lst bs) ∧ bs.length = n ∧ ∀ j, j < i → bs[p j]? = some (.int (j : Nat))) ⟨_, bs0, rfl, s0, g0, b0, fun j hj => absurd hj (Nat.not_lt_zero j)⟩ (fun i σ G hin q => ?_) fun σ G q => ?_
    · obtain ⟨y2, bs, rfl, q1, q2, q3, q4⟩ := q
      refine ⟨_, rfl, _, rfl, _, rfl, _, rfl, a, _, _, _, rfl, rfl, sqt_same q1 ha, by rw [Int.zero_add]; exact arV_at hin, l, _, _, _, rfl, rfl, q2, ixN_nat (by rw [q3]; exact hp.lt i hin), ?_⟩
      refine ⟨_, _, rfl, same_mut q1 hl0, upd_same, by rw [List.length_set]; exact q3, fun j hj => ?_⟩
      rcases Nat.lt_succ_iff_lt_or_eq.mp hj with hj | rfl
      · have ne : p i ≠ p j := fun e => by
          have := hp.inj i j hin (by omega) e
          omega
        rw [List.getElem?_set_ne ne]
        exact q4 j hj
      · rw [List.getElem?_set_self (by rw [q3]; exact hp.lt j hin), Int.zero_add]
    · obtain ⟨y2, bs, rfl, q1, q2, q3, q4⟩ := q
      obtain ⟨r1, r2⟩ := read_back hp q3 q4
      refine ⟨_, rfl, l, _, rfl, .inl ⟨SqL.of q2, fun t ht => ?_⟩⟩
      rw [r1]
      exact k _ _ _ (same_mut q1 (q1.free ht)) r2 ⟨t, rfl, SqT.of upd_same⟩
end
abbrev s_sieve_of : Stmt := top 5
abbrev N_sieve_of : List Str := ["tables", "place", "rows", "row"]
theorem sc_sieve_of : FnScope N_sieve_of ["tables"] (defScope s_sieve_of) := ⟨rfl, rfl, rfl, by decide +kernel, rfl, by decide +kernel, by decide +kernel⟩
/-- the scope of the comprehension that a def returns -/
def retLcScope (st : Stmt) : Scope := match defBody st with
  | .Return (some (.ListComp _ _ sc _)) _ :: _ => sc
  | _ => defScope st
def arrD (n : Nat) (p : Nat → Nat) : PyData := .tuple ((List.range n).map fun k => .int ((p k : Nat) : Int))
abbrev TB := Nat × List (Nat → Nat)
def tabD (n : Nat) (t : TB) : PyData := .tuple [.int (t.1 : Int), .list (t.2.map (arrD n))]
def tabsD (n : Nat) (ts : List TB) : PyData := .list (ts.map (tabD n))
def invN (n : Nat) (p : Nat → Nat) (y : Nat) : Nat := ((List.range n).find? (fun x => p x == y)).getD 0
def sievD (n : Nat) (t : TB) : PyData := .tuple [.int (t.1 : Int), .dict (t.2.map fun r => (.int ((r t.1 : Nat) : Int), arrD n (invN n r)))]
def sieveD (n : Nat) (ts : List TB) : PyData := .list (ts.map (sievD n))
structure GT (n : Nat) (t : TB) : Prop where
  lt : t.1 < n
  perm : ∀ r ∈ t.2, IsP n r
  nd : (t.2.map fun r => r t.1).Nodup
  same : ∀ r ∈ t.2, r t.1 = t.1 → ∀ k, k < n → r k = k
  has : ∃ r ∈ t.2, r t.1 = t.1
def spSieve (K : PySem.W.Frag) : Sp := fun vs H Q _ => ∃ (x : V) (n : Nat) (ts : List TB), vs = [x] ∧ Dd K H x (tabsD n ts) ∧ (∀ t ∈ ts, GT n t) ∧ n ≤ 12 ∧ ts.length ≤ 1000 ∧ ∀ v H', Same H H' → Dd K H' v (sieveD n ts) → Q v H'
/-- the numbers of an arrangement -/
def nums (n : Nat) (p : Nat → Nat) : List Int := (List.range n).map fun k => ((p k : Nat) : Int)
theorem arrD_nums (n : Nat) (p : Nat → Nat) : arrD n p = intsD (nums n p) := by
  unfold arrD intsD nums
  rw [List.map_map]
  rfl
theorem arV_nums (n : Nat) (p : Nat → Nat) : arV p n = (nums n p).map V.int := by
  unfold arV nums
  rw [List.map_map]
  rfl
theorem ar_of {K : PySem.W.Frag} {H : Hp} {v : V} {n : Nat} {p : Nat → Nat} (h : Dd K H v (arrD n p)) : Ar K H v n p := by
  rw [arrD_nums] at h
  obtain ⟨b, rfl, hb⟩ := intsD_of h
  exact ⟨b, rfl, by rw [arV_nums]; exact hb⟩
theorem ar_to {K : PySem.W.Frag} {H : Hp} {v : V} {n : Nat} {p : Nat → Nat} (h : Ar K H v n p) : Dd K H v (arrD n p) := by
  obtain ⟨a, rfl, ha⟩ := h
  rw [arrD_nums]
  rw [arV_nums] at ha
  exact intsD_dd ha
theorem arrD_congr {n : Nat} {p q : Nat → Nat} (h : ∀ k, k < n → p k = q k) : arrD n p = arrD n q := by
  unfold arrD
  congr 1
  refine List.map_congr_left fun k hk => ?_
  rw [h k (List.mem_range.mp hk)]
theorem invN_at {n : Nat} {p : Nat → Nat} (hp : IsP n p) {k : Nat} (hk : k < n) : invN n p (p k) = k := by
  unfold invN
  cases h : (List.range n).find? (fun x => p x == p k) with
  | none =>
    have := List.find?_eq_none.mp h k (List.mem_range.mpr hk)
    simp at this
  | some x =>
    have h1 := List.find?_some h
    have h2 := List.mem_range.mp (List.mem_of_find?_eq_some h)
    have h3 : p x = p k := by simpa using h1
    exact hp.inj x k h2 hk h3
theorem invN_is {n : Nat} {p r : Nat → Nat} (hp : IsP n p) (h : ∀ k, k < n → r (p k) = k) : ∀ y, y < n → r y = invN n p y := fun y hy => by
  obtain ⟨x, hx, rfl⟩ := hp.sur y hy
  rw [h x hx, invN_at hp hx]
theorem invN_perm {n : Nat} {p : Nat → Nat} (hp : IsP n p) : IsP n (invN n p) := hp.back fun _ hk => invN_at hp hk
theorem noL_arr (n : Nat) (p : Nat → Nat) : noL (arrD n p) = true := by
  have hi : ∀ l : List Nat, noLAll (l.map fun k => PyData.int ((p k : Nat) : Int)) = true := by
    intro l
    induction l with
    | nil => rfl
    | cons k l ih => simp only [List.map_cons, noLAll, noL, ih, Bool.and_self]
  simp only [arrD, noL, hi]
theorem dd_mapget {K : PySem.W.Frag} {H : Hp} {α : Type} {f : α → PyData} {ts : List α} {xs : List V} {i : Nat} {x : V} (h : DdAll K H xs (ts.map f)) (hx : xs[i]? = some x) : ∃ t, ts[i]? = some t ∧ Dd K H x (f t) := by
  obtain ⟨d, h1, h2⟩ := h.get hx
  rw [List.getElem?_map] at h1
  obtain ⟨t, h3, rfl⟩ := Option.map_eq_some_iff.mp h1
  exact ⟨t, h3, h2⟩
theorem tab_of {K : PySem.W.Frag} {H : Hp} {x : V} {n : Nat} {t : TB} (h : Dd K H x (tabD n t)) : ∃ (a b : Addr) (rs : List V), x = .ref a ∧ SqT K H a [.int (t.1 : Int), .ref b] ∧ SqL K H b rs ∧ DdAll K H rs (t.2.map (arrD n)) := by
  cases h with
  | @tup a xs _ h1 h2 =>
    cases h2 with
    | cons g1 g2 =>
      cases g2 with
      | cons g3 g4 =>
        cases g4
        cases g1
        cases g3 with
        | @lst b rs _ q1 q2 => exact ⟨a, b, rs, rfl, h1, q1, q2⟩
section
variable {P : Program} {w : World} {K : PySem.W.Frag} {mg : Str → Option Value} {base : Heap} {f : Addr} {fd : FuncData}
theorem ok_sieve_of (F : Fun K "sieve_of" "sieve_of" s_sieve_of f fd) (C1 : Cg P w K mg base 1 "undone" (spUndone K)) : FnG P w K mg base CX0 2 f fd ["tables"] (spSieve K) := by
  refine fnG0 F sc_sieve_of (fun vs H Q E h => ?_) (fun cdv A outer s H vs Q E hr hg h => ?_)
  · obtain ⟨x, n, ts, rfl, _⟩ := h
    rfl
  · obtain ⟨x, n, ts, rfl, hx, gt, n12, tl, k⟩ := h
    have nd := sc_sieve_of.nd
    refine ⟨_, (pss_one (ps_ret (pe_lc (own := [("place", 1), ("rows", 2)]) (g := gTup K 2 (gCons (gName 1) (gCons (gName 2) gNil))) rfl nd (pi_list (pv 0)) (blkOk_by (own := [("place", 1), ("rows", 2)]) (N := N_sieve_of) (sc := defScope s_sieve_of) (by decide +kernel)) (fun _ _ _ _ _ => (pg_tup rfl (pgs_cons (pg_name (i := 1) nd rfl (Or.inr rfl)) (pgs_cons (pg_name (i := 2) nd rfl (Or.inl rfl)) pgs_nil)))) (fun _ _ _ _ _ => pts_nil) (fun _ _ _ _ _ => (pe_tup (pa_cons (pv 1) (pa_cons (pe_dc (own := [("row", 3)]) (wi := iList K (tVar 2)) (g := gName 3) rfl nd (pi_list (pv 2)) (blkOk_by (own := [("row", 3)]) (N := N_sieve_of) (sc := retLcScope s_sieve_of) (by decide +kernel)) (fun _ _ _ _ _ => (pg_name (i := 3) nd rfl (Or.inl rfl))) (fun _ _ _ _ _ => pts_nil) (fun _ _ _ _ _ => (pe_ix (r := rIxT K) ix_tup (pv 3) (pv 1) (fun _ _ => rfl))) (fun _ _ _ _ _ => (pe_g C1 hr hg (by decide) rfl (pa_cons (pv 3) pa_nil)))) pa_nil))))))), ?_⟩
    cases hx with
    | @lst a xs _ h1 h2 =>
      have hl := h2.length
      rw [List.length_map] at hl
      refine ⟨_, rfl, a, rfl, ⟨xs, h1⟩, fun D hD => ?_⟩
      refine lc_dd2 (K := K) (ds := ts.map (sievD n)) (by decide) hD h1 (by rw [List.length_map, hl]) (Nat.lt_of_le_of_lt (by omega : xs.length ≤ 1000) (by decide)) (fun d hd => ?_) (fun i y z => ∃ t b rs, ts[i]? = some t ∧ y = .int (t.1 : Int) ∧ z = .ref b ∧ SqL K H b rs ∧ DdAll K H rs (t.2.map (arrD n))) (fun i x hi => ?_) (fun i y z d hR hd G e1 q hq => ?_) fun G e1 hG => k _ G e1 hG
      · obtain ⟨t, _, rfl⟩ := List.mem_map.mp hd
        have : ∀ rs : List (Nat → Nat), noLKv (rs.map fun r => (.int ((r t.1 : Nat) : Int), arrD n (invN n r))) = true := by
          intro rs
          induction rs with
          | nil => rfl
          | cons r rs ih => simp only [List.map_cons, noLKv, noL_arr, ih, Bool.and_self]
        simp only [sievD, noL, noLAll, this, Bool.and_self]
      · obtain ⟨t, h4, h3⟩ := dd_mapget h2 hi
        obtain ⟨a2, b2, rs, rfl, q1, q2, q3⟩ := tab_of h3
        exact ⟨a2, _, _, rfl, q1, t, b2, rs, h4, rfl, rfl, q2, q3⟩
      · obtain ⟨t, b, rs, h4, rfl, rfl, q2, q3⟩ := hR
        have g := gt t (List.mem_of_getElem? h4)
        have rl := q3.length
        rw [List.length_map] at rl
        rw [List.getElem?_map, h4] at hd
        obtain rfl := Option.some.inj hd
        have rn : t.2.length ≤ 12 := by
          have h5 := g.nd.length_le_of_subset (l₂ := List.range n) fun y hy => by
            obtain ⟨r, hr, rfl⟩ := List.mem_map.mp hy
            exact List.mem_range.mpr ((g.perm r hr).lt _ g.lt)
          rw [List.length_map, List.length_range] at h5
          omega
        have q2 := sql_same e1 q2
        have q3 := q3.same e1
        refine ⟨_, rfl, _, rfl, b, rfl, ⟨rs, q2⟩, fun D2 hD2 => ?_⟩
        refine dc_ints (K := K) (ks := t.2.map fun r => ((r t.1 : Nat) : Int)) (vals := t.2.map fun r => nums n (invN n r)) hD2 q2 (by rw [List.length_map, rl]) (by rw [List.length_map, rl]) ?_ (Nat.lt_of_le_of_lt (by omega : rs.length ≤ 12) (by decide)) (fun j x kk hx hk G2 e2 Q2 hQ2 => ?_) (fun j x ns hx hv G2 e2 Q2 hQ2 => ?_) fun G2 e2 dd => ?_
        · rw [show (t.2.map fun r => ((r t.1 : Nat) : Int)) = (t.2.map fun r => r t.1).map (fun k => ((k : Nat) : Int)) by rw [List.map_map]; rfl]
          exact g.nd.map _ fun a b hab h => hab (by omega)
        · obtain ⟨r, h6, h7⟩ := dd_mapget q3 hx
          rw [List.getElem?_map, h6] at hk
          obtain rfl := Option.some.inj hk
          obtain ⟨a3, rfl, h8⟩ := ar_of (h7.same e2)
          exact ⟨_, rfl, _, rfl, a3, _, _, _, rfl, rfl, h8, by rw [atI_nat (arV_get g.lt)], hQ2⟩
        · obtain ⟨r, h6, h7⟩ := dd_mapget q3 hx
          rw [List.getElem?_map, h6] at hv
          obtain rfl := Option.some.inj hv
          have hp := g.perm r (List.mem_of_getElem? h6)
          refine ⟨_, rfl, _, n, r, rfl, ar_of (h7.same e2), hp, n12, fun v r' G3 e3 hr' av => ?_⟩
          obtain ⟨b3, rfl, h9⟩ := av
          refine hQ2 b3 G3 e3 ?_
          rw [← arV_nums, ← arV_congr (invN_is hp hr')]
          exact h9
        · refine ⟨(show 2 ≤ sizeLine by decide), fun p hp => hq _ _ (e2.trans (same_new hp)) (.tup (SqT.of upd_same) (.cons (.int _) (.cons ?_ .nil)))⟩
          have e : (((t.2.map fun r => ((r t.1 : Nat) : Int)).zip (t.2.map fun r => nums n (invN n r))).map fun p => (PyData.int p.1, intsD p.2)) = t.2.map fun r => (.int ((r t.1 : Nat) : Int), arrD n (invN n r)) := by
            rw [List.zip_map', List.map_map]
            refine List.map_congr_left fun r _ => ?_
            show (PyData.int _, intsD _) = _
            rw [arrD_nums]
          rw [e] at dd
          exact dd.same (same_new hp)
end
abbrev s_sift : Stmt := top 6
abbrev N_sift : List Str := ["sieve", "one", "images", "place", "backs", "image"]
theorem sc_sift : FnScope N_sift ["sieve", "one"] (defScope s_sift) := ⟨rfl, rfl, rfl, by decide +kernel, rfl, by decide +kernel, by decide +kernel⟩
abbrev s_passes : Stmt := top 7
abbrev N_passes : List Str := ["sieve", "one", "images", "rest"]
theorem sc_passes : FnScope N_passes ["sieve", "one"] (defScope s_passes) := ⟨rfl, rfl, rfl, by decide +kernel, rfl, by decide +kernel, by decide +kernel⟩
abbrev s_sifts : Stmt := top 4
abbrev N_sifts : List Str := ["tables", "one"]
theorem sc_sifts : FnScope N_sifts ["tables", "one"] (defScope s_sifts) := ⟨rfl, rfl, rfl, by decide +kernel, rfl, by decide +kernel, by decide +kernel⟩
def stayB (n : Nat) (p : Nat → Nat) : Bool := (List.range n).all fun k => p k == k
/-- whether an arrangement sifts -/
def sifB (n : Nat) : List TB → (Nat → Nat) → Bool
  | [], one => stayB n one
  | t :: ts, one => match t.2.find? (fun r => r t.1 == one t.1) with
    | none => false
    | some r => sifB n ts fun k => invN n r (one k)
theorem stayB_congr {n : Nat} {p q : Nat → Nat} (h : ∀ k, k < n → p k = q k) : stayB n p = stayB n q := by
  unfold stayB
  rw [Bool.eq_iff_iff, List.all_eq_true, List.all_eq_true]
  constructor
  · intro h1 k hk
    rw [← h k (List.mem_range.mp hk)]
    exact h1 k hk
  · intro h1 k hk
    rw [h k (List.mem_range.mp hk)]
    exact h1 k hk
theorem sifB_congr {n : Nat} : ∀ {ts : List TB} {p q : Nat → Nat}, (∀ t ∈ ts, t.1 < n) → (∀ k, k < n → p k = q k) → sifB n ts p = sifB n ts q
  | [], _, _, _, h => stayB_congr h
  | t :: ts, p, q, h1, h => by
    unfold sifB
    rw [h t.1 (h1 t List.mem_cons_self)]
    cases t.2.find? (fun r => r t.1 == q t.1) with
    | none => rfl
    | some r => exact sifB_congr (fun u hu => h1 u (List.mem_cons_of_mem _ hu)) fun k hk => by rw [h k hk]
theorem stay_nums (n : Nat) (c : Nat → Nat) : decide (nums n c = places n) = stayB n c := by
  unfold nums places stayB
  rw [Bool.eq_iff_iff, decide_eq_true_eq, List.all_eq_true, List.map_inj_left]
  constructor
  · intro h k hk
    have := h k hk
    simp only [beq_iff_eq]
    omega
  · intro h k hk
    have := h k hk
    simp only [beq_iff_eq] at this
    rw [this]
/-- what a dict of rows undone has at a place -/
theorem sieve_at {K : PySem.W.Frag} {G : Hp} {n pl : Nat} {y : Nat} : ∀ {rows : List (Nat → Nat)} {kvs : List (Key × V)}, DdKv K G kvs (rows.map fun r => (.int ((r pl : Nat) : Int), arrD n (invN n r))) →
    (rows.find? (fun r => r pl == y) = none ∧ valV kvs (Sum.inl ((y : Nat) : Int)) = none) ∨ ∃ r v, rows.find? (fun r => r pl == y) = some r ∧ valV kvs (Sum.inl ((y : Nat) : Int)) = some v ∧ Dd K G v (arrD n (invN n r))
  | [], _, h => by
    rw [List.map_nil] at h
    cases h
    exact .inl ⟨rfl, rfl⟩
  | r :: rows, kvs, h => by
    rw [List.map_cons] at h
    generalize hkd : (PyData.int ((r pl : Nat) : Int), arrD n (invN n r)) = kd at h
    cases h with
    | @cons k v kvs d ds h1 h2 =>
      obtain ⟨e1, e2⟩ := Prod.mk.inj hkd
      have ek : k = Sum.inl ((r pl : Nat) : Int) := by
        cases k with
        | inl i =>
          have : PyData.int ((r pl : Nat) : Int) = .int i := e1
          rw [PyData.int.inj this]
        | inr x => exact absurd e1 (by intro h; cases h)
      subst ek
      subst e2
      by_cases e : r pl = y
      · refine .inr ⟨r, v, ?_, valV_pos (by rw [e]), h1⟩
        rw [List.find?_cons, e]
        simp
      · have ne : ¬ (Sum.inl ((r pl : Nat) : Int) : Key) = Sum.inl ((y : Nat) : Int) := fun h => e (by have := Sum.inl.inj h; omega)
        rw [List.find?_cons, show (r pl == y) = false by simpa using e, valV_neg ne]
        exact sieve_at h2
def spSift (K : PySem.W.Frag) : Sp := fun vs H Q _ => ∃ (x y : V) (n : Nat) (ts : List TB) (p : Nat → Nat), vs = [x, y] ∧ Dd K H x (sieveD n ts) ∧ Dd K H y (arrD n p) ∧ IsP n p ∧ (∀ t ∈ ts, GT n t) ∧ n ≤ 12 ∧ ts.length ≤ 1000 ∧
  ∀ (t : Addr) (l : Addr) (zs : List V) (z : V) (c : Nat → Nat) (H' : Hp), Same H H' → H' t = some (.tup [.ref l, z]) → SqL K H' l zs → Dd K H' z (arrD n c) → zs.length ≤ ts.length → sifB n ts p = (decide (zs.length = ts.length) && stayB n c) → Q (.ref t) H'
def spPass (K : PySem.W.Frag) : Sp := fun vs H Q _ => ∃ (x y : V) (n : Nat) (ts : List TB) (p : Nat → Nat), vs = [x, y] ∧ Dd K H x (sieveD n ts) ∧ Dd K H y (arrD n p) ∧ IsP n p ∧ (∀ t ∈ ts, GT n t) ∧ n ≤ 12 ∧ ts.length ≤ 1000 ∧
  ∀ H', Same H H' → Q (.bl (sifB n ts p)) H'
def spSifts (K : PySem.W.Frag) : Sp := fun vs H Q _ => ∃ (x y : V) (n : Nat) (ts : List TB) (p : Nat → Nat), vs = [x, y] ∧ Dd K H x (tabsD n ts) ∧ Dd K H y (arrD n p) ∧ IsP n p ∧ (∀ t ∈ ts, GT n t) ∧ n ≤ 12 ∧ ts.length ≤ 1000 ∧
  ∀ H', Same H H' → Q (.bl (sifB n ts p)) H'
theorem sieve_el {K : PySem.W.Frag} {H : Hp} {x : V} {n : Nat} {t : TB} (h : Dd K H x (sievD n t)) : ∃ (a b : Addr) (kvs : List (Key × V)), x = .ref a ∧ SqT K H a [.int (t.1 : Int), .ref b] ∧ Rd H b (.dK kvs) ∧ DdKv K H kvs (t.2.map fun r => (.int ((r t.1 : Nat) : Int), arrD n (invN n r))) := by
  cases h with
  | @tup a xs _ h1 h2 =>
    cases h2 with
    | cons g1 g2 =>
      cases g2 with
      | cons g3 g4 =>
        cases g4
        cases g1
        cases g3 with
        | @dct b kvs _ q1 _ q2 => exact ⟨a, b, kvs, rfl, h1, q1, q2⟩
section
variable {P : Program} {w : World} {K : PySem.W.Frag} {mg : Str → Option Value} {base : Heap} {f : Addr} {fd : FuncData}
theorem ok_sift (F : Fun K "sift" "sift" s_sift f fd) (C1 : Cg P w K mg base 1 "behind" (spBehind K)) : FnG P w K mg base CX0 2 f fd ["sieve", "one"] (spSift K) := by
  refine fnG0 F sc_sift (fun vs H Q E h => ?_) (fun cdv A outer s H vs Q E hr hg h => ?_)
  · obtain ⟨x, y, n, ts, p, rfl, _⟩ := h
    rfl
  · obtain ⟨x, y, n, ts, p, rfl, hx, hy, hp, gt, n12, tl, k⟩ := h
    have nd := sc_sift.nd
    have hu := hu_of hr
    refine ⟨_, (pss_cons (ps_set (i := 2) nd rfl (Or.inl rfl) (pe_lst pa_nil))
      (pss_cons (ps_for PassesOwn.never rfl (pi_list (pv 0)) (pg_tup (by rfl) (pgs_cons (pg_name (i := 3) nd rfl (Or.inl rfl)) (pgs_cons (pg_name (i := 4) nd rfl (Or.inl rfl)) pgs_nil)))
        (pss_cons (ps_set (i := 5) nd rfl (Or.inl rfl) (pe_ix ix_tup (pv 1) (pv 3) (fun _ _ => rfl)))
        (pss_cons (ps_if (pt_cmp (pc_dnotin hu (pv 5) (pv 4)))
          (pss_one ps_break)
          pss_nil)
        (pss_cons (ps_expr (pe_bm PySem.F.plainAttrs_list PySem.F.slot_list_append PySem.F.type_list_append mt_append (pv 2) (pa_cons (pv 5) pa_nil)))
        (pss_one (ps_if (pt_cmpR op_ne (pv 5) (pv 3) (nomark _))
          (pss_one (ps_set (i := 1) nd rfl (Or.inl rfl) (pe_g C1 hr hg (by decide) rfl (pa_cons (pv 1) (pa_cons (pe_dget hu (pv 4) (pv 5) (fun _ _ => rfl)) pa_nil)))))
          pss_nil))))))
      (pss_one (ps_ret (pe_tup (pa_cons (pv 2) (pa_cons (pv 1) pa_nil))))))), ?_⟩
    refine ⟨by decide, fun l hl => ?_⟩
    have e0 : Same H (upd H l (.lst [])) := same_new hl
    cases hx with
    | @lst a xs _ h1 h2 =>
      have hxl := h2.length
      rw [List.length_map] at hxl
      have base : Same H (rem l (upd H l (.lst []))) := by rw [rem_upd, rem_none hl]; exact Same.refl H
      refine ⟨_, rfl, a, rfl, ⟨xs, sql_same e0 h1⟩, ?_⟩
      refine for_list (xs := xs) (fun i σ G => ∃ y3 y4 y5 z c zs, σ = [some (.ref a), some z, some (.ref l), y3, y4, y5] ∧ Same H (rem l G) ∧ Same H G ∧ G l = some (.lst zs) ∧ zs.length = i ∧ Dd K (rem l G) z (arrD n c) ∧ IsP n c ∧ sifB n ts p = sifB n (ts.drop i) c)
        ⟨_, _, _, _, p, [], rfl, base, e0, upd_same, rfl, hy.same base, hp, rfl⟩ (fun i σ G _ z => ?_) (fun i x σ G hi z => ?_) fun σ G z => ?_
      · obtain ⟨_, _, _, _, _, _, _, _, e, _⟩ := z
        exact sql_same e h1
      · obtain ⟨y3, y4, y5, z, c, zs, rfl, eb, e, gl, zl, dz, hc, sf⟩ := z
        obtain ⟨t, h3, h4⟩ := dd_mapget h2 hi
        obtain ⟨a2, b2, kvs, rfl, q1, q2, q3⟩ := sieve_el h4
        have g := gt t (List.mem_of_getElem? h3)
        obtain ⟨az, rfl, hz⟩ := ar_of dz
        have hzG := sqt_same same_rem hz
        refine ⟨a2, _, rfl, sqt_same e q1, rfl, ?_⟩
        have il : i < ts.length := (List.getElem?_eq_some_iff.mp h3).1
        have dr : ts.drop i = t :: ts.drop (i + 1) := by
          rw [List.drop_eq_getElem_cons il]
          congr 1
          exact (List.getElem?_eq_some_iff.mp h3).2
        refine ⟨_, _, rfl, _, _, rfl, rfl, ?_⟩
        refine ⟨_, rfl, _, rfl, az, _, _, _, rfl, rfl, hzG, atI_nat (arV_get g.lt), ?_⟩
        have rdG : Rd G b2 (.dK kvs) := rd_same e q2
        refine ⟨_, rfl, _, rfl, b2, _, rfl, .inl ⟨kvs, Sum.inl ((c t.1 : Nat) : Int), rdG, rfl, rfl⟩, _, rfl, ?_⟩
        rcases sieve_at (y := c t.1) q3 with ⟨f1, f2⟩ | ⟨r, v, f1, f2, f3⟩
        · rw [f2]
          refine iteT ?_
          have bad : sifB n ts p = false := by
            rw [sf, dr]
            unfold sifB
            rw [f1]
          refine ⟨_, rfl, _, rfl, (show 2 ≤ sizeLine by decide), fun tt ht => ?_⟩
          have tl2 : tt ≠ l := fun q => by rw [q, gl] at ht; cases ht
          refine k tt l zs _ c _ (e.trans (same_new ht)) upd_same (SqL.of (by rw [upd_ne tl2.symm]; exact gl)) ((dz.same same_rem).same (same_new ht)) (by omega) ?_
          rw [bad, decide_eq_false (by omega), Bool.false_and]
        · rw [f2]
          refine iteF ?_
          have rm : r ∈ t.2 := List.mem_of_find?_eq_some f1
          have re : r t.1 = c t.1 := by
            have := List.find?_some f1
            simpa using this
          have sf2 : sifB n ts p = sifB n (ts.drop (i + 1)) fun k => invN n r (c k) := by
            rw [sf, dr]
            show sifB n (t :: ts.drop (i + 1)) c = _
            conv => lhs; unfold sifB
            rw [f1]
          refine ⟨_, rfl, .inl ⟨rfl, _, SqL.of gl⟩, _, rfl, l, zs, _, rfl, rfl, gl, Nat.lt_of_le_of_lt (by omega : zs.length ≤ 1000) (by decide), ?_⟩
          have gl2 : (upd G l (.lst (zs ++ [.int ((c t.1 : Nat) : Int)]))) l = some (.lst (zs ++ [.int ((c t.1 : Nat) : Int)])) := upd_same
          have rm2 : rem l (upd G l (.lst (zs ++ [.int ((c t.1 : Nat) : Int)]))) = rem l G := rem_upd
          have e2 : Same H (upd G l (.lst (zs ++ [.int ((c t.1 : Nat) : Int)]))) := same_mut e hl
          generalize upd G l (.lst (zs ++ [.int ((c t.1 : Nat) : Int)])) = G2 at gl2 rm2 e2 ⊢
          refine ⟨_, rfl, _, rfl, rfl, _, rfl, ?_⟩
          by_cases ec : c t.1 = t.1
          · refine iteF' (by simp only [V.int.injEq, Bool.not_eq_false', decide_eq_true_eq]; omega) ?_
            refine ⟨_, _, _, _, c, _, rfl, by rw [rm2]; exact eb, e2, gl2, by rw [List.length_append, zl]; rfl, by rw [rm2]; exact dz, hc, ?_⟩
            rw [sf2]
            refine sifB_congr (fun u hu => (gt u (List.mem_of_mem_drop hu)).lt) fun k hk => ?_
            have idr := g.same r rm (by rw [re, ec])
            have h9 := invN_at (g.perm r rm) (hc.lt k hk)
            rw [idr _ (hc.lt k hk)] at h9
            exact h9
          · refine iteT' (by simp only [V.int.injEq, Bool.not_eq_true', decide_eq_false_iff_not]; omega) ?_
            have f4 : Dd K G2 v (arrD n (invN n r)) := f3.same e2
            have hz2 : SqT K G2 az (arV c n) := sqt_same (by rw [← rm2]; exact same_rem) hz
            refine ⟨_, rfl, _, rfl, _, rfl, b2, v, rfl, .inl ⟨kvs, Sum.inl ((c t.1 : Nat) : Int), rd_same e2 q2, rfl, f2.symm⟩, _, _, n, c, invN n r, rfl, ⟨az, rfl, hz2⟩, ar_of f4, hc.lt, n12, fun v' G3 e3 av => ?_⟩
            have gl3 := e3 _ _ gl2
            refine ⟨_, _, _, _, (fun k => invN n r (c k)), _, rfl, ?_, e2.trans e3, gl3, by rw [List.length_append, zl]; rfl, (ar_to av).remL gl3 (noL_arr _ _), hc.comp (invN_perm (g.perm r rm)), sf2⟩
            have e4 : Same (rem l G2) (rem l G3) := rem_same e3
            rw [rm2] at e4
            exact eb.trans e4
      · obtain ⟨y3, y4, y5, z, c, zs, rfl, eb, e, gl, zl, dz, hc, sf⟩ := z
        refine ⟨_, rfl, _, rfl, (show 2 ≤ sizeLine by decide), fun t ht => ?_⟩
        have tl2 : t ≠ l := fun q => by rw [q, gl] at ht; cases ht
        rw [hxl] at zl sf
        rw [List.drop_length] at sf
        exact k t l zs z c _ (e.trans (same_new ht)) upd_same (SqL.of (by rw [upd_ne tl2.symm]; exact gl)) ((dz.same same_rem).same (same_new ht)) (by omega) (by rw [sf, decide_eq_true zl, Bool.true_and]; rfl)
theorem ok_passes (F : Fun K "passes" "passes" s_passes f fd) (T : Bt mg) (C1 : Cg P w K mg base 2 "sift" (spSift K)) : FnG P w K mg base CX0 3 f fd ["sieve", "one"] (spPass K) := by
  refine fnG0 F sc_passes (fun vs H Q E h => ?_) (fun cdv A outer s H vs Q E hr hg h => ?_)
  · obtain ⟨x, y, n, ts, p, rfl, _⟩ := h
    rfl
  · obtain ⟨x, y, n, ts, p, rfl, hx, hy, hp, gt, n12, tl, k⟩ := h
    have nd := sc_passes.nd
    have hu64 : (A.deeper (envOfC "passes" (defScope s_passes) s.heap.objs.size f cdv)).units + 64 < cLine := hr.units
    refine ⟨_, (pss_cons (ps_asg (pe_g C1 hr hg (by decide) rfl (pa_cons (pv 0) (pa_cons (pv 1) pa_nil))) (pg_tup (by rfl) (pgs_cons (pg_name (i := 2) nd rfl (Or.inl rfl)) (pgs_cons (pg_name (i := 3) nd rfl (Or.inl rfl)) pgs_nil))))
      (pss_one (ps_ret (pe_and (pe_cmpR op_eq (pe_callB call_len_seq (by rfl) T.len b_len (pa_cons (pv 2) pa_nil)) (pe_callB call_len_seq (by rfl) T.len b_len (pa_cons (pv 0) pa_nil)) (nomark _)) (pe_one (pe_cmpR (op_eqD hu64) (pv 3) (pe_tupRg rfl (by rfl) T.tuple (prg_1 (by rfl) T.range (pe_callB call_len_seq (by rfl) T.len b_len (pa_cons (pv 3) pa_nil)))) (nomark _))))))), ?_⟩
    refine ⟨_, rfl, _, rfl, x, y, n, ts, p, rfl, hx, hy, hp, gt, n12, tl, fun t l zs z c G e gt' gl dz zl sf => ?_⟩
    cases hx with
    | @lst ax xs _ h1 h2 =>
      have hxl := h2.length
      rw [List.length_map] at hxl
      obtain ⟨az, rfl, hz⟩ := ar_of dz
      refine ⟨t, _, rfl, SqT.of gt', rfl, ?_⟩
      refine ⟨_, _, rfl, _, _, rfl, rfl, ?_⟩
      refine ⟨_, rfl, l, zs, rfl, .inl gl, _, rfl, ax, xs, rfl, .inl (sql_same e h1), rfl, _, rfl, ?_⟩
      by_cases el : zs.length = ts.length
      · refine iteT' (by simp only [V.int.injEq, decide_eq_true_eq]; omega) ?_
        refine ⟨_, rfl, _, rfl, az, _, rfl, .inr hz, _, rfl, RgOk.of_le (by decide) (by have := arV_len c n; omega) (by decide) (by have := arV_len c n; omega), fun q hq => ?_⟩
        rw [arV_len, rg_places]
        have hzn : SqT K (upd G q (.tup ((places n).map V.int))) az ((nums n c).map V.int) := by rw [← arV_nums]; exact sqt_same (same_new hq) hz
        refine ⟨_, _, .tup hzn (dp_ints _), .tup (SqT.of upd_same) (dp_ints (places n)), shaped_intsT _, shaped_intsT _, ?_⟩
        have e3 : PyData.eqv (.tuple ((nums n c).map PyData.int)) (.tuple ((places n).map PyData.int)) = sifB n ts p := by
          show PyData.eqvAll _ _ = _
          rw [eqv_ints, stay_nums, sf, decide_eq_true el, Bool.true_and]
        rw [e3]
        exact k _ (e.trans (same_new hq))
      · refine iteF' (by simp only [V.int.injEq, decide_eq_false_iff_not]; omega) ?_
        rw [sf, decide_eq_false el, Bool.false_and] at k
        exact k G e
theorem ok_sifts (F : Fun K "sifts" "sifts" s_sifts f fd) (C1 : Cg P w K mg base 3 "passes" (spPass K)) (C2 : Cg P w K mg base 2 "sieve_of" (spSieve K)) : FnG P w K mg base CX0 4 f fd ["tables", "one"] (spSifts K) := by
  refine fnG0 F sc_sifts (fun vs H Q E h => ?_) (fun cdv A outer s H vs Q E hr hg h => ?_)
  · obtain ⟨x, y, n, ts, p, rfl, _⟩ := h
    rfl
  · obtain ⟨x, y, n, ts, p, rfl, hx, hy, hp, gt, n12, tl, k⟩ := h
    refine ⟨_, (pss_one (ps_ret (pe_g C1 hr hg (by decide) rfl (pa_cons (pe_g C2 hr hg (by decide) rfl (pa_cons (pv 0) pa_nil)) (pa_cons (pv 1) pa_nil))))), ?_⟩
    exact ⟨_, rfl, x, n, ts, rfl, hx, gt, n12, tl, fun v G e dv => ⟨_, rfl, v, y, n, ts, p, rfl, dv, hy.same e, hp, gt, n12, tl, fun G2 e2 => k G2 (e.trans e2)⟩⟩
end
abbrev s_law_sifts : Stmt := top 16
abbrev N_law_sifts : List Str := ["tables", "one", "place", "rows", "some", "row"]
theorem sc_law_sifts : FnScope N_law_sifts ["tables", "one"] (defScope s_law_sifts) := ⟨rfl, rfl, rfl, by decide +kernel, rfl, by decide +kernel, by decide +kernel⟩
theorem kept_cons (y : V) (ys : List V) (b : Bool) (bs : List Bool) : keptV (y :: ys) (b :: bs) = if b = true then y :: keptV ys bs else keptV ys bs := by
  unfold keptV
  cases b <;> simp
theorem kept_first {K : PySem.W.Frag} {G : Hp} {n pl y : Nat} : ∀ {rows : List (Nat → Nat)} {rs : List V}, DdAll K G rs (rows.map (arrD n)) →
    (rows.find? (fun r => r pl == y) = none ∧ keptV rs (rows.map fun r => r pl == y) = []) ∨ ∃ r v vs, rows.find? (fun r => r pl == y) = some r ∧ keptV rs (rows.map fun r => r pl == y) = v :: vs ∧ Dd K G v (arrD n r)
  | [], _, h => by
    rw [List.map_nil] at h
    cases h
    exact .inl ⟨rfl, rfl⟩
  | r :: rows, _, h => by
    rw [List.map_cons] at h
    cases h with
    | cons h1 h2 =>
      rw [List.map_cons, kept_cons, List.find?_cons]
      cases e : r pl == y with
      | true => exact .inr ⟨r, _, _, rfl, if_pos rfl, h1⟩
      | false =>
        rw [if_neg Bool.false_ne_true]
        exact kept_first h2
section
variable {P : Program} {w : World} {K : PySem.W.Frag} {mg : Str → Option Value} {base : Heap} {f : Addr} {fd : FuncData}
theorem ok_law_sifts (F : Fun K "_law_sifts" "_law_sifts" s_law_sifts f fd) (T : Bt mg) (C1 : Cg P w K mg base 1 "_law_behind" (spBehind K)) (C2 : Cg P w K mg base 1 "_law_undone" (spUndone K)) : FnG P w K mg base CX0 2 f fd ["tables", "one"] (spSifts K) := by
  refine fnG0 F sc_law_sifts (fun vs H Q E h => ?_) (fun cdv A outer s H vs Q E hr hg h => ?_)
  · obtain ⟨x, y, n, ts, p, rfl, _⟩ := h
    rfl
  · obtain ⟨x, y, n, ts, p, rfl, hx, hy, hp, gt, n12, tl, k⟩ := h
    have nd := sc_law_sifts.nd
    have hu0 : (A.deeper (envOfC "_law_sifts" (defScope s_law_sifts) s.heap.objs.size f cdv)).units < cLine := Nat.lt_of_succ_lt (hu_of hr)
    have hu64 : (A.deeper (envOfC "_law_sifts" (defScope s_law_sifts) s.heap.objs.size f cdv)).units + 64 < cLine := hr.units
    refine ⟨_, (pss_cons (ps_for PassesOwn.never rfl (pi_list (pv 0)) (pg_tup (by rfl) (pgs_cons (pg_name (i := 2) nd rfl (Or.inr rfl)) (pgs_cons (pg_name (i := 3) nd rfl (Or.inl rfl)) pgs_nil)))
        (pss_cons (ps_setLc (i := 4) rfl nd rfl rfl (sw_true rfl rfl rfl (by decide +kernel)) (own := [("row", 5)]) (g := gName 5) (pi_list (pv 3)) (blkOk_by (own := [("row", 5)]) (N := N_law_sifts) (sc := defScope s_law_sifts) (by decide +kernel)) (fun _ _ _ _ _ => (pg_name (i := 5) nd rfl (Or.inl rfl))) (fun _ _ _ _ _ => (pts_one (pt_cmpR op_eq (pe_ix (r := rIxT K) ix_tup (pv 5) (pv 2) (fun _ _ => rfl)) (pe_ix (r := rIxT K) ix_tup (pv 1) (pv 2) (fun _ _ => rfl)) (nomark _)))) (fun _ _ _ _ _ => (pv 5)))
        (pss_cons (ps_if (pt_cmpR (op_eqNil hu0) (pv 4) (pe_lst pa_nil) (nomark _))
          (pss_one (ps_ret pe_bl))
          pss_nil)
        (pss_one (ps_set (i := 1) nd rfl (Or.inr rfl) (pe_g C1 hr hg (by decide) rfl (pa_cons (pv 1) (pa_cons (pe_g C2 hr hg (by decide) rfl (pa_cons (pe_ix ix_list (pv 4) pe_int (fun _ _ => rfl)) pa_nil)) pa_nil))))))))
      (pss_one (ps_ret (pe_cmpR (op_eqD hu64) (pe_callTy call_list_of (by rfl) T.list b_list (pa_cons (pv 1) pa_nil)) (pe_listRg rfl (by rfl) T.list (prg_1 (by rfl) T.range (pe_callB call_len_seq (by rfl) T.len b_len (pa_cons (pv 1) pa_nil)))) (nomark _))))), ?_⟩
    cases hx with
    | @lst a xs _ h1 h2 =>
      have hxl := h2.length
      rw [List.length_map] at hxl
      refine ⟨_, rfl, a, rfl, ⟨xs, h1⟩, ?_⟩
      refine for_list (xs := xs) (fun i σ G => ∃ y2 y3 y4 y5 z c, σ = [some (.ref a), some z, y2, y3, y4, y5] ∧ Same H G ∧ Dd K G z (arrD n c) ∧ IsP n c ∧ sifB n ts p = sifB n (ts.drop i) c)
        ⟨_, _, _, _, _, p, rfl, Same.refl H, hy, hp, rfl⟩ (fun i σ G _ z => ?_) (fun i x σ G hi z => ?_) fun σ G z => ?_
      · obtain ⟨_, _, _, _, _, _, _, e, _⟩ := z
        exact sql_same e h1
      · obtain ⟨y2, y3, y4, y5, z, c, rfl, e, dz, hc, sf⟩ := z
        obtain ⟨t, h3, h4⟩ := dd_mapget h2 hi
        obtain ⟨a2, b2, rs, rfl, q1, q2, q3⟩ := tab_of h4
        have g := gt t (List.mem_of_getElem? h3)
        have rl := q3.length
        rw [List.length_map] at rl
        have rn : t.2.length ≤ 12 := by
          have h5 := g.nd.length_le_of_subset (l₂ := List.range n) fun y hy => by
            obtain ⟨r, hr, rfl⟩ := List.mem_map.mp hy
            exact List.mem_range.mpr ((g.perm r hr).lt _ g.lt)
          rw [List.length_map, List.length_range] at h5
          omega
        have il : i < ts.length := (List.getElem?_eq_some_iff.mp h3).1
        have dr : ts.drop i = t :: ts.drop (i + 1) := by
          rw [List.drop_eq_getElem_cons il]
          congr 1
          exact (List.getElem?_eq_some_iff.mp h3).2
        obtain ⟨az, rfl, hz⟩ := ar_of dz
        refine ⟨a2, _, rfl, sqt_same e q1, rfl, ?_⟩
        refine ⟨_, _, rfl, _, _, rfl, rfl, ?_⟩
        have q2 := sql_same e q2
        have q3 := q3.same e
        refine ⟨_, rfl, b2, rfl, ⟨rs, q2⟩, fun D hD => ?_⟩
        refine comp_listT (K := K) (ys := rs) (bs := t.2.map fun r => r t.1 == c t.1) hD q2 rfl (by rw [List.length_map, rl]) (Nat.lt_of_le_of_lt (by omega : rs.length ≤ 12) (by decide)) (fun j x b hx hb G2 e2 Q2 hQ2 => ?_) (fun j x y hx hy G2 e2 Q2 hQ2 => ?_) fun G2 e2 hG => ?_
        · obtain ⟨r, h6, h7⟩ := dd_mapget q3 hx
          rw [List.getElem?_map, h6] at hb
          obtain rfl := Option.some.inj hb
          obtain ⟨a3, rfl, h8⟩ := ar_of (h7.same e2)
          refine ⟨_, rfl, _, rfl, a3, _, _, _, rfl, rfl, h8, atI_nat (arV_get g.lt), _, rfl, _, rfl, az, _, _, _, rfl, rfl, sqt_same e2 hz, atI_nat (arV_get g.lt), rfl, _, rfl, ?_⟩
          have e9 : decide (V.int ((r t.1 : Nat) : Int) = V.int ((c t.1 : Nat) : Int)) = (r t.1 == c t.1) := by
            rw [Bool.eq_iff_iff, decide_eq_true_eq, beq_iff_eq, V.int.injEq]
            omega
          rw [e9]
          exact hQ2 G2 (Same.refl G2)
        · rw [hx] at hy
          obtain rfl := Option.some.inj hy
          exact ⟨_, rfl, hQ2 G2 (Same.refl G2)⟩
        · rcases kept_first q3 with ⟨f1, f2⟩ | ⟨r, v, vs, f1, f2, f3⟩
          · rw [f2] at hG
            refine ⟨_, rfl, by decide, fun p2 hp2 => ⟨D, p2, _, rfl, rfl, SqL.of (same_new hp2 _ _ hG), SqL.of upd_same, _, rfl, ?_⟩⟩
            refine iteT ?_
            have bad : sifB n ts p = false := by
              rw [sf, dr]
              unfold sifB
              rw [f1]
            rw [bad] at k
            exact k _ ((e.trans e2).trans (same_new hp2))
          · rw [f2] at hG
            have rm : r ∈ t.2 := List.mem_of_find?_eq_some f1
            have sf2 : sifB n ts p = sifB n (ts.drop (i + 1)) fun k => invN n r (c k) := by
              rw [sf, dr]
              show sifB n (t :: ts.drop (i + 1)) c = _
              conv => lhs; unfold sifB
              rw [f1]
            refine ⟨_, rfl, by decide, fun p2 hp2 => ⟨D, p2, _, rfl, rfl, SqL.of (same_new hp2 _ _ hG), SqL.of upd_same, _, rfl, ?_⟩⟩
            refine iteF ?_
            have e3 : Same G2 (upd G2 p2 (.lst [])) := same_new hp2
            generalize upd G2 p2 (.lst []) = G3 at e3 ⊢
            have eG3 := e2.trans e3
            refine ⟨_, rfl, _, rfl, D, _, _, _, rfl, rfl, SqL.of (e3 _ _ hG), (atI_nat (xs := v :: vs) (j := 0) (v := v) rfl), v, n, r, rfl, ar_of (f3.same eG3), g.perm r rm, n12, fun v1 r' G4 e4 hr' av => ?_⟩
            refine ⟨_, _, n, c, r', rfl, ⟨az, rfl, sqt_same (eG3.trans e4) hz⟩, av, hc.lt, n12, fun v2 G5 e5 av2 => ?_⟩
            refine ⟨_, _, _, _, _, (fun k => invN n r (c k)), rfl, e.trans (eG3.trans (e4.trans e5)), ?_, hc.comp (invN_perm (g.perm r rm)), sf2⟩
            have := ar_to av2
            rw [arrD_congr (fun k hk => invN_is (g.perm r rm) hr' (c k) (hc.lt k hk))] at this
            exact this
      · obtain ⟨y2, y3, y4, y5, z, c, rfl, e, dz, hc, sf⟩ := z
        rw [hxl, List.drop_length] at sf
        obtain ⟨az, rfl, hz⟩ := ar_of dz
        rw [arV_nums] at hz
        have ln : (nums n c).length = n := by unfold nums; rw [List.length_map, List.length_range]
        refine ⟨_, rfl, az, _, rfl, .inr hz, fun l1 hl1 => ?_⟩
        obtain ⟨G1, r1, s1, u1⟩ := new_ex (o := .lst ((nums n c).map V.int)) hl1
        rw [← r1]
        refine ⟨_, rfl, az, _, rfl, .inr (sqt_same s1 hz), _, rfl, RgOk.of_le (by decide) (by rw [List.length_map]; omega) (by decide) (by rw [List.length_map]; omega), fun q hq => ?_⟩
        rw [List.length_map, ln, rg_places]
        refine ⟨_, _, .lst (SqL.of (same_new hq _ _ u1)) (dp_ints _), .lst (SqL.of upd_same) (dp_ints (places n)), shaped_ints _, shaped_ints _, ?_⟩
        have e3 : PyData.eqv (.list ((nums n c).map PyData.int)) (.list ((places n).map PyData.int)) = sifB n ts p := by
          show PyData.eqvAll _ _ = _
          rw [eqv_ints, stay_nums, sf]
          rfl
        rw [e3]
        exact k _ ((e.trans s1).trans (same_new hq))
end
abbrev s_law_shuffled : Stmt := top 12
abbrev N_law_shuffled : List Str := ["pen", "some", "left", "found"]
theorem sc_law_shuffled : FnScope N_law_shuffled ["pen", "some"] (defScope s_law_shuffled) := ⟨rfl, rfl, rfl, by decide +kernel, rfl, by decide +kernel, by decide +kernel⟩
section
variable {P : Program} {w : World} {K : PySem.W.Frag} {mg : Str → Option Value} {base : Heap} {f : Addr} {fd : FuncData}
theorem ok_law_shuffled (F : Fun K "_law_shuffled" "_law_shuffled" s_law_shuffled f fd) (T : Bt mg) (C1 : Cg P w K mg base 1 "_law_draw" spDraw) : FnG P w K mg base CX0 2 f fd ["pen", "some"] (spShuf K) := by
  refine fnG0 F sc_law_shuffled (fun vs H Q E h => ?_) (fun cdv A outer s H vs Q E hr hg h => ?_)
  · obtain ⟨i, B, a, xs, rfl, _⟩ := h
    rfl
  · obtain ⟨i, B, a, xs, rfl, hp, hB, ha, h1, k⟩ := h
    have nd := sc_law_shuffled.nd
    have hu0 : (A.deeper (envOfC "_law_shuffled" (defScope s_law_shuffled) s.heap.objs.size f cdv)).units < cLine := Nat.lt_of_succ_lt (hu_of hr)
    refine ⟨_, (pss_cons (ps_par (i := 2) (j := 3) (by rfl) nd rfl rfl (by decide) rfl rfl (pa_cons (pe_callTy call_list_of (by rfl) T.list b_list (pa_cons (pv 1) pa_nil)) (pa_cons (pe_lst pa_nil) pa_nil)) (by rfl))
      (pss_cons (ps_while PassesOwn.never (pt_cmpR (op_neNil hu0) (pv 2) (pe_lst pa_nil) (nomark _))
        (pss_one (ps_expr (pe_bm PySem.F.plainAttrs_list PySem.F.slot_list_append PySem.F.type_list_append mt_append (pv 3) (pa_cons (pe_bm PySem.F.plainAttrs_list PySem.F.slot_list_pop PySem.F.type_list_pop mt_popAt (pv 2) (pa_cons (pe_g C1 hr hg (by decide) rfl (pa_cons (pv 0) (pa_cons (pe_callB call_len_seq (by rfl) T.len b_len (pa_cons (pv 2) pa_nil)) pa_nil))) pa_nil)) pa_nil)))))
      (pss_one (ps_ret (pv 3))))), ?_⟩
    refine ⟨_, rfl, a, xs, rfl, ha, fun l hl => ⟨by decide, fun q hq => ⟨_, _, rfl, ?_⟩⟩⟩
    have hlq : q ≠ l := fun e => by
      rw [e, upd_same] at hq
      cases hq
    have hq0 : H q = none := by rw [upd_ne hlq] at hq; exact hq
    have nl := hp.ne hl
    have nq := hp.ne hq0
    refine ⟨fun m σ G => ∃ (left found : List V), m = left.length ∧ σ = [some (.ref i.p), some (.ref a), some (.ref l), some (.ref q)] ∧ Kb i.p H G ∧ Pen G i (B + found.length) ∧ G l = some (.lst left) ∧ G q = some (.lst found) ∧ (found ++ left).Perm xs, ?_, ?_⟩
    · refine ⟨_, xs, [], rfl, rfl, ((Kb.new hl).mut hq0), (hp.upd nl).upd nq, by rw [upd_ne hlq.symm, upd_same], upd_same, by simp⟩
    · rintro m σ G ⟨left, found, rfl, rfl, kb, pn, h2, h3, h4⟩
      have h5 : found.length + left.length = xs.length := by
        have := h4.length_eq
        rw [List.length_append] at this
        exact this
      refine ⟨_, rfl, by decide, fun z hz => ?_⟩
      have zl : z ≠ l := fun e => by rw [e, h2] at hz; cases hz
      have zq : z ≠ q := fun e => by rw [e, h3] at hz; cases hz
      have nz := pn.ne hz
      have zH : H z = none := kb.free nz.1 hz
      have g2 : (upd G z (.lst [])) l = some (.lst left) := by rw [upd_ne zl.symm]; exact h2
      have g3 : (upd G z (.lst [])) q = some (.lst found) := by rw [upd_ne zq.symm]; exact h3
      refine ⟨l, z, left, rfl, rfl, .inl ⟨SqL.of g2, SqL.of upd_same⟩, _, rfl, ?_⟩
      cases left with
      | nil =>
        refine iteF ?_
        refine ⟨_, rfl, ?_⟩
        rw [List.append_nil] at h4
        refine k q found _ h4 hq0 (kb.mut zH) ((pn.upd nz).mono (by simp at h5; omega)) g3
      | cons y left =>
        refine iteT ?_
        refine ⟨fun σ' G' => ∃ (left' found' : List V), left'.length < (y :: left).length ∧ σ' = [some (.ref i.p), some (.ref a), some (.ref l), some (.ref q)] ∧ Kb i.p H G' ∧ Pen G' i (B + found'.length) ∧ G' l = some (.lst left') ∧ G' q = some (.lst found') ∧ (found' ++ left').Perm xs, ?_, ?_⟩
        · rintro σ' G' ⟨l', f', r1, r2⟩
          exact ⟨_, r1, l', f', rfl, r2⟩
        · refine ⟨_, rfl, .inl ⟨rfl, _, SqL.of g3⟩, _, rfl, .inl ⟨rfl, _, SqL.of g2⟩, _, rfl, _, rfl, l, _, rfl, .inl (SqL.of g2), i, _, B + found.length, rfl, pn.upd nz, by omega, by simp, by simp at h5; simp; omega, fun d G' d0 d1 kb2 pn2 => ?_⟩
          have k2 := kb2 _ _ g2 nl.1
          have k3 := kb2 _ _ g3 nq.1
          have d2 : d.toNat < (y :: left).length := by omega
          have hv : (y :: left)[d.toNat]? = some ((y :: left)[d.toNat]'d2) := List.getElem?_eq_getElem d2
          refine ⟨l, _, d, _, _, rfl, rfl, k2, by omega, by simp at h5 d1; omega, seq_in d0 d1, hv, ?_⟩
          have k4 : (upd G' l (.lst ((y :: left).eraseIdx d.toNat))) q = some (.lst found) := by rw [upd_ne hlq]; exact k3
          refine ⟨q, _, _, rfl, rfl, k4, (by simp at h5; exact Nat.lt_of_lt_of_le (by omega : found.length < 1000000) (by decide)), ?_⟩
          have le := erase_len hv
          refine ⟨(y :: left).eraseIdx d.toNat, found ++ [(y :: left)[d.toNat]'d2], by omega, rfl, ?_, ?_, ?_, upd_same, ?_⟩
          · exact (((kb.mut zH).trans kb2).mut hl).mut hq0
          · refine ((pn2.upd nl).upd nq).mono ?_
            rw [List.length_append]
            exact Nat.le_refl _
          · rw [upd_ne hlq.symm, upd_same]
          · rw [List.append_assoc]
            exact ((erase_perm hv).append_left found).trans h4
end
abbrev s_law_arrangement : Stmt := top 13
abbrev N_law_arrangement : List Str := ["pen", "places", "way", "found", "at", "far"]
theorem sc_law_arrangement : FnScope N_law_arrangement ["pen", "places"] (defScope s_law_arrangement) := ⟨rfl, rfl, rfl, by decide +kernel, rfl, by decide +kernel, by decide +kernel⟩
section
variable {P : Program} {w : World} {K : PySem.W.Frag} {mg : Str → Option Value} {base : Heap} {f : Addr} {fd : FuncData}
theorem ok_law_arrangement (F : Fun K "_law_arrangement" "_law_arrangement" s_law_arrangement f fd) (T : Bt mg) (C1 : Cg P w K mg base 1 "_law_draw" spDraw) (C2 : Cg P w K mg base 2 "_law_shuffled" (spShuf K)) : FnG P w K mg base CX0 3 f fd ["pen", "places"] spArr := by
  refine fnG0 F sc_law_arrangement (fun vs H Q E h => ?_) (fun cdv A outer s H vs Q E hr hg h => ?_)
  · obtain ⟨i, B, n, rfl, _⟩ := h
    rfl
  · obtain ⟨i, B, n, rfl, hp, hB, n2, n1, k⟩ := h
    have nd := sc_law_arrangement.nd
    refine ⟨_, (pss_cons (ps_set (i := 2) nd rfl (Or.inl rfl) (pe_g C1 hr hg (by decide) rfl (pa_cons (pv 0) (pa_cons pe_int pa_nil))))
      (pss_cons (ps_if (pt_cmpR op_eq (pv 2) pe_int (nomark _))
        (pss_one (ps_ret (pe_tupRg rfl (by rfl) T.tuple (prg_1 (by rfl) T.range (pv 1)))))
        pss_nil)
      (pss_cons (ps_set (i := 3) nd rfl (Or.inl rfl) (pe_listRg rfl (by rfl) T.list (prg_1 (by rfl) T.range (pv 1))))
      (pss_cons (ps_if (pt_cmpR op_eq (pv 2) pe_int (nomark _))
        (pss_cons (ps_set (i := 4) nd rfl (Or.inl rfl) (pe_g C1 hr hg (by decide) rfl (pa_cons (pv 0) (pa_cons (pv 1) pa_nil))))
        (pss_cons (ps_set (i := 5) nd rfl (Or.inl rfl) (pe_op op_modN (pe_op op_add (pe_op op_add (pv 4) pe_int) (pe_g C1 hr hg (by decide) rfl (pa_cons (pv 0) (pa_cons (pe_op op_sub (pv 1) pe_int) pa_nil)))) (pv 1)))
        (pss_cons (ps_asg (pe_tup (pa_cons (pe_ix ix_list (pv 3) (pv 5) (fun _ _ => rfl)) (pa_cons (pe_ix ix_list (pv 3) (pv 4) (fun _ _ => rfl)) pa_nil))) (pg_tup (by rfl) (pgs_cons (pg_sub (pv 3) (pv 4) set_list) (pgs_cons (pg_sub (pv 3) (pv 5) set_list) pgs_nil))))
        (pss_one (ps_ret (pe_callTy call_tuple_of (by rfl) T.tuple b_tuple (pa_cons (pv 3) pa_nil)))))))
        pss_nil)
      (pss_one (ps_ret (pe_callTy call_tuple_of (by rfl) T.tuple b_tuple (pa_cons (pe_g C2 hr hg (by decide) rfl (pa_cons (pv 0) (pa_cons (pv 3) pa_nil))) pa_nil)))))))), ?_⟩
    refine ⟨_, rfl, i, 5, B, rfl, hp, by omega, by decide, by decide, fun d G d0 d1 kb pn => ?_⟩
    refine ⟨_, rfl, rfl, _, rfl, ?_⟩
    have ok : RgOk 0 (n : Int) := RgOk.of_le (by decide) (by omega) (by decide) (by omega)
    refine ite2 (fun _ => ?_) (fun h0 => ?_)
    · refine ⟨_, rfl, _, rfl, ok, fun t ht => ?_⟩
      have nt := pn.ne ht
      rw [rg_places]
      exact k t (places n) _ (List.Perm.refl _) (kb.mut (kb.free nt.1 ht)) ((pn.upd nt).mono (by omega)) upd_same
    · refine ⟨_, rfl, _, rfl, ok, fun l hl => ?_⟩
      rw [rg_places]
      have nl := pn.ne hl
      have l0 := kb.free nl.1 hl
      have pn1 := pn.upd (o := .lst ((places n).map V.int)) nl
      have kb1 := kb.mut (o := .lst ((places n).map V.int)) l0
      have h1 : (upd G l (.lst ((places n).map V.int))) l = some (.lst ((places n).map V.int)) := upd_same
      generalize (upd G l (.lst ((places n).map V.int))) = G1 at pn1 kb1 h1
      refine ⟨_, rfl, rfl, _, rfl, ?_⟩
      refine ite2 (fun _ => ?_) (fun _ => ?_)
      · refine ⟨_, rfl, _, rfl, i, _, B + 1, rfl, pn1, by omega, by omega, by omega, fun at' G2 a0 a1 kb2 pn2 => ?_⟩
        refine ⟨_, rfl, _, _, rfl, rfl, _, rfl, _, rfl, _, _, rfl, rfl, i, _, B + 2, rfl, pn2, by omega, by omega, by omega, fun e G3 e0 e1 kb3 pn3 => ?_⟩
        refine ⟨_, _, rfl, rfl, _, rfl, _, _, rfl, rfl, by omega, ?_⟩
        have r1 := rest_at (i := at' + 1 + e) (m := (n : Int)) (by omega)
        have k3 : G3 l = some (.lst ((places n).map V.int)) := kb3 _ _ (kb2 _ _ h1 nl.1) nl.1
        have len : ((places n).map V.int).length = n := by rw [List.length_map, places_len]
        obtain ⟨v1, g1, g2⟩ := atI_in (xs := (places n).map V.int) r1.1 (by rw [len]; exact r1.2)
        obtain ⟨v2, g3, g4⟩ := atI_in (xs := (places n).map V.int) a0 (by rw [len]; exact a1)
        refine ⟨_, rfl, _, rfl, l, _, _, _, rfl, rfl, SqL.of k3, g1, _, rfl, _, rfl, l, _, _, _, rfl, rfl, SqL.of k3, g3, (show 2 ≤ sizeLine by decide), fun t ht => ?_⟩
        have ix : ∀ {z : Int}, 0 ≤ z → z < n → ixN ((places n).map V.int).length z = some z.toNat := fun {z} z0 z1 => by
          rw [len]
          unfold ixN
          rw [if_pos z0, if_pos z1]
        have tl : t ≠ l := fun e => by rw [e, k3] at ht; cases ht
        refine ⟨t, _, rfl, SqT.of upd_same, rfl, ?_⟩
        refine ⟨_, _, rfl, _, rfl, _, rfl, l, _, _, _, rfl, rfl, by rw [upd_ne tl.symm]; exact k3, ix a0 a1, ?_⟩
        refine ⟨_, _, rfl, _, rfl, _, rfl, l, _, _, _, rfl, rfl, upd_same, by rw [List.length_set]; exact ix r1.1 r1.2, ?_⟩
        rw [upd_upd]
        refine ⟨rfl, _, rfl, l, _, rfl, .inl ⟨SqL.of upd_same, fun q hq => ?_⟩⟩
        obtain ⟨ks, hk, pk⟩ := perm_ints (swapped_perm g4 g2)
        rw [hk]
        have ql : q ≠ l := fun e => by rw [e, upd_same] at hq; cases hq
        have qt : q ≠ t := fun e => by rw [e, upd_ne tl, upd_same] at hq; cases hq
        have q3 : G3 q = none := by rw [upd_ne ql, upd_ne qt] at hq; exact hq
        have nt := pn3.ne ht
        have nq := pn3.ne q3
        have kb4 := (kb1.trans kb2).trans kb3
        refine k q ks _ pk (((kb4.mut (kb4.free nt.1 ht)).mut l0).mut (kb4.free nq.1 q3)) ((((pn3.upd nt).upd nl).upd nq).mono (by omega)) ?_
        rw [upd_same]
      · refine ⟨_, rfl, _, rfl, i, B + 1, l, _, rfl, pn1, by omega, .inl (SqL.of h1), ?_, fun q ys G2 pm hq kb2 pn2 h2 => ?_⟩
        · rw [List.length_map, places_len]
          omega
        · refine ⟨q, ys, rfl, .inl ⟨SqL.of h2, fun t ht => ?_⟩⟩
          obtain ⟨ks, rfl, pk⟩ := perm_ints pm
          have nt := pn2.ne ht
          rw [List.length_map, places_len] at pn2
          exact k t ks _ pk ((kb1.trans kb2).mut ((kb1.trans kb2).free nt.1 ht)) ((pn2.upd nt).mono (by omega)) upd_same
end
/-- tuples that stood stand -/
def Tk (H G : Hp) : Prop := ∀ a xs, Rd H a (.tup xs) → Rd G a (.tup xs)
theorem Tk.refl (H : Hp) : Tk H H := fun _ _ h => h
theorem Tk.trans {H G I : Hp} (a : Tk H G) (b : Tk G I) : Tk H I := fun p xs h => b p xs (a p xs h)
theorem Same.tk {H G : Hp} (e : Same H G) : Tk H G := fun _ _ h => rd_same e h
theorem tk_kb {p : Addr} {H G : Hp} (e : Kb p H G) (hp : PenO H p) : Tk H G := fun a xs h => by
  refine rd_kb e h ?_
  obtain ⟨kvs, hp, _⟩ := hp
  rintro rfl
  rcases h with h | ⟨ob, h⟩
  · rw [hp] at h; cases h
  · rw [hp] at h; cases h
theorem tk_put {G : Hp} {l : Addr} {o o' : HO} (h : G l = some o) (n1 : ∀ xs, o ≠ .tup xs) (n2 : ∀ ob xs, o ≠ .frz ob (.tup xs)) : Tk G (upd G l o') := fun a xs z => by
  have ne : a ≠ l := by
    rintro rfl
    rcases z with z | ⟨ob, z⟩
    · rw [h] at z; exact n1 _ (Option.some.inj z)
    · rw [h] at z; exact n2 _ _ (Option.some.inj z)
  rcases z with z | ⟨ob, z⟩
  · exact .inl (by rw [upd_ne ne]; exact z)
  · exact .inr ⟨ob, by rw [upd_ne ne]; exact z⟩
theorem tk_lst {G : Hp} {l : Addr} {xs : List V} {o' : HO} (h : G l = some (.lst xs)) : Tk G (upd G l o') := tk_put h (fun _ e => nomatch e) fun _ _ e => nomatch e
theorem tk_dK {G : Hp} {l : Addr} {kvs : List (Key × V)} {o' : HO} (h : G l = some (.dK kvs)) : Tk G (upd G l o') := tk_put h (fun _ e => nomatch e) fun _ _ e => nomatch e
theorem tk_dT {G : Hp} {l : Addr} {kvs : List (List Key × V)} {o' : HO} (h : G l = some (.dT kvs)) : Tk G (upd G l o') := tk_put h (fun _ e => nomatch e) fun _ _ e => nomatch e
theorem Ar.tk {K : PySem.W.Frag} {H G : Hp} {v : V} {n : Nat} {p : Nat → Nat} (h : Ar K H v n p) (e : Tk H G) : Ar K G v n p := by
  obtain ⟨a, h1, h2⟩ := h
  exact ⟨a, h1, h2.imp (fun z => e _ _ z) id⟩
/-- what stands at none of some places -/
def remS (M : List Addr) (H : Hp) : Hp := fun b => if b ∈ M then none else H b
theorem remS_in {M : List Addr} {H : Hp} {b : Addr} (h : b ∈ M) : remS M H b = none := if_pos h
theorem remS_out {M : List Addr} {H : Hp} {b : Addr} (h : b ∉ M) : remS M H b = H b := if_neg h
theorem remS_upd {M : List Addr} {H : Hp} {l : Addr} {o : HO} (h : l ∈ M) : remS M (upd H l o) = remS M H := by
  funext b
  by_cases e : b ∈ M
  · rw [remS_in e, remS_in e]
  · rw [remS_out e, remS_out e, upd_ne (fun q => e (by rw [q]; exact h))]
theorem remS_same {M : List Addr} {H G : Hp} (e : Same H G) : Same (remS M H) (remS M G) := fun b o h => by
  by_cases m : b ∈ M
  · rw [remS_in m] at h; cases h
  · rw [remS_out m] at h ⊢; exact e _ _ h
theorem remS_kb {p : Addr} {M : List Addr} {H G : Hp} (e : Kb p H G) : Kb p (remS M H) (remS M G) := fun b o h n => by
  by_cases m : b ∈ M
  · rw [remS_in m] at h; cases h
  · rw [remS_out m] at h ⊢; exact e _ _ h n
theorem remS_le {M : List Addr} {H : Hp} : Same (remS M H) H := fun b o h => by
  by_cases m : b ∈ M
  · rw [remS_in m] at h; cases h
  · rw [remS_out m] at h; exact h
theorem remS_pen {M : List Addr} {H : Hp} {p : Addr} (h : PenO H p) (n : p ∉ M) : PenO (remS M H) p := by
  obtain ⟨kvs, h1, h2⟩ := h
  exact ⟨kvs, by rw [remS_out n]; exact h1, h2⟩
/-- the numbers of a list of numbers from 0 on, each once, are an arrangement's -/
def atN (ks : List Int) (k : Nat) : Nat := ((ks[k]?).getD 0).toNat
theorem perm_places {n : Nat} {ks : List Int} (h : ks.Perm (places n)) : IsP n (atN ks) ∧ ks.map V.int = arV (atN ks) n := by
  have hl : ks.length = n := by rw [h.length_eq, places_len]
  have nd : ks.Nodup := h.nodup_iff.mpr (by
    unfold places
    exact List.nodup_range.map _ fun a b hab e => hab (by omega))
  have at1 : ∀ k, k < n → ∃ y : Nat, y < n ∧ ks[k]? = some (y : Int) := fun k hk => by
    have h1 : ks[k]? = some (ks[k]'(by omega)) := List.getElem?_eq_getElem (by omega)
    have h2 := h.subset (List.mem_of_getElem? h1)
    obtain ⟨y, hy, e⟩ := List.mem_map.mp h2
    exact ⟨y, List.mem_range.mp hy, by rw [h1, ← e]⟩
  have at2 : ∀ k, k < n → ks[k]? = some ((atN ks k : Nat) : Int) := fun k hk => by
    obtain ⟨y, _, e⟩ := at1 k hk
    unfold atN
    rw [e, Option.getD_some, Int.toNat_natCast]
  refine ⟨⟨fun k hk => ?_, fun a b ha hb e => ?_, fun y hy => ?_⟩, List.ext_getElem? fun k => ?_⟩
  · obtain ⟨y, hy, e⟩ := at1 k hk
    unfold atN
    rw [e, Option.getD_some, Int.toNat_natCast]
    exact hy
  · exact (List.getElem?_inj (by omega) nd).mp (by rw [at2 a ha, at2 b hb, e])
  · have h2 : ((y : Nat) : Int) ∈ ks := h.symm.subset (List.mem_map.mpr ⟨y, List.mem_range.mpr hy, rfl⟩)
    obtain ⟨k, hk⟩ := List.mem_iff_getElem?.mp h2
    have hk2 : k < n := by rw [← hl]; exact (List.getElem?_eq_some_iff.mp hk).1
    refine ⟨k, hk2, ?_⟩
    have := at2 k hk2
    rw [hk] at this
    have := Option.some.inj this
    omega
  · by_cases hk : k < n
    · rw [List.getElem?_map, at2 k hk, arV_get hk]
      rfl
    · rw [List.getElem?_eq_none (by rw [List.length_map]; omega), List.getElem?_eq_none (by rw [arV_len]; omega)]
theorem ar_perm {K : PySem.W.Frag} {G : Hp} {t : Addr} {n : Nat} {ks : List Int} (h : ks.Perm (places n)) (g : SqT K G t (ks.map V.int)) : ∃ p, IsP n p ∧ Ar K G (.ref t) n p := by
  obtain ⟨h1, h2⟩ := perm_places h
  exact ⟨_, h1, t, rfl, by rw [← h2]; exact g⟩
theorem ar_id {K : PySem.W.Frag} {G : Hp} {t : Addr} {n : Nat} (g : SqT K G t ((places n).map V.int)) : Ar K G (.ref t) n id := by
  refine ⟨t, rfl, ?_⟩
  rw [show arV id n = (places n).map V.int by unfold arV places; rw [List.map_map]; rfl]
  exact g
theorem isP_id (n : Nat) : IsP n id := ⟨fun _ h => h, fun _ _ _ _ h => h, fun y hy => ⟨y, hy, rfl⟩⟩
/-- behind, told with the tuple that is made -/
def spBehindT (K : PySem.W.Frag) : Sp := fun vs H Q _ => ∃ (x y : V) (n : Nat) (p q : Nat → Nat), vs = [x, y] ∧ Ar K H x n p ∧ Ar K H y n q ∧ (∀ k, k < n → p k < n) ∧ n ≤ 12 ∧
  ∀ t H', Same H H' → H' t = some (.tup (arV (fun k => q (p k)) n)) → Q (.ref t) H'
theorem behind_of {K : PySem.W.Frag} (vs : List V) (H : Hp) (Q : VK) (E : XK) (h : spBehind K vs H Q E) : spBehindT K vs H Q E := by
  obtain ⟨x, y, n, p, q, rfl, h1, h2, h3, h4, k⟩ := h
  exact ⟨x, y, n, p, q, rfl, h1, h2, h3, h4, fun t H' e g => k _ H' e ⟨t, rfl, SqT.of g⟩⟩
def allL (n : Nat) : Nat → List (List Int)
  | 0 => [[]]
  | k + 1 => (allL n k).flatMap fun l => (List.range n).map fun x => ((x : Nat) : Int) :: l
theorem allL_mem {n : Nat} : ∀ {l : List Int}, (∀ x ∈ l, ∃ y : Nat, y < n ∧ x = (y : Int)) → l ∈ allL n l.length
  | [], _ => List.mem_singleton.mpr rfl
  | x :: l, h => by
    obtain ⟨y, hy, rfl⟩ := h x List.mem_cons_self
    exact List.mem_flatMap.mpr ⟨l, allL_mem fun z hz => h z (List.mem_cons_of_mem _ hz), List.mem_map.mpr ⟨y, List.mem_range.mpr hy, rfl⟩⟩
theorem allL_few {n : Nat} (h2 : 2 ≤ n) (h4 : n ≤ 4) : (allL n n).length ≤ 256 := by
  rcases (by omega : n = 2 ∨ n = 3 ∨ n = 4) with rfl | rfl | rfl
  · decide +kernel
  · decide +kernel
  · decide +kernel
def keysT (ks : List (List Int)) : List (List Key × V) := ks.map fun k => (k.map Sum.inl, V.bl true)
theorem keys_inj {a b : List Int} (h : (a.map Sum.inl : List Key) = b.map Sum.inl) : a = b := by
  induction a generalizing b with
  | nil =>
    cases b with
    | nil => rfl
    | cons y b => cases h
  | cons x a ih =>
    cases b with
    | nil => cases h
    | cons y b =>
      rw [List.map_cons, List.map_cons] at h
      obtain ⟨h1, h2⟩ := List.cons.inj h
      rw [Sum.inl.inj h1, ih h2]
theorem keys_val {q : List Int} : ∀ {ks : List (List Int)}, (q ∈ ks ∧ valV (keysT ks) (q.map Sum.inl) = some (.bl true)) ∨ (q ∉ ks ∧ valV (keysT ks) (q.map Sum.inl) = none)
  | [] => .inr ⟨List.not_mem_nil, rfl⟩
  | k :: ks => by
    by_cases e : k = q
    · subst e
      exact .inl ⟨List.mem_cons_self, valV_pos rfl⟩
    · have ne : ¬ (k.map Sum.inl : List Key) = q.map Sum.inl := fun h => e (keys_inj h)
      rcases keys_val (q := q) (ks := ks) with ⟨h1, h2⟩ | ⟨h1, h2⟩
      · exact .inl ⟨List.mem_cons_of_mem _ h1, by unfold keysT; rw [List.map_cons, valV_neg ne]; exact h2⟩
      · refine .inr ⟨fun h => ?_, by unfold keysT; rw [List.map_cons, valV_neg ne]; exact h2⟩
        rcases List.mem_cons.mp h with h | h
        · exact e h.symm
        · exact h1 h
theorem keys_put {q : List Int} {ks : List (List Int)} (h : q ∉ ks) : putK (keysT ks) (q.map Sum.inl) (.bl true) = keysT (ks ++ [q]) := by
  unfold putK
  have no : ((keysT ks).any fun kv => decide (kv.1 = (q.map Sum.inl : List Key))) = false := by
    rw [List.any_eq_false]
    intro kv hkv
    obtain ⟨k, hk, rfl⟩ := List.mem_map.mp hkv
    rw [decide_eq_true_eq]
    exact fun e => h (by rw [← keys_inj e]; exact hk)
  rw [no, if_neg Bool.false_ne_true]
  unfold keysT
  rw [List.map_append]
  rfl
/-- arrangements all, the one of all at home among them -/
def Grp (K : PySem.W.Frag) (G : Hp) (n : Nat) (xs : List V) : Prop := (∀ x ∈ xs, ∃ p, IsP n p ∧ Ar K G x n p) ∧ ∃ x ∈ xs, Ar K G x n id
theorem Grp.tk {K : PySem.W.Frag} {H G : Hp} {n : Nat} {xs : List V} (h : Grp K H n xs) (e : Tk H G) : Grp K G n xs := by
  refine ⟨fun x hx => ?_, ?_⟩
  · obtain ⟨p, h1, h2⟩ := h.1 x hx
    exact ⟨p, h1, h2.tk e⟩
  · obtain ⟨x, hx, h1⟩ := h.2
    exact ⟨x, hx, h1.tk e⟩
structure GW (K : PySem.W.Frag) (H G : Hp) (l d : Addr) (n : Nat) (xs : List V) (ks : List (List Int)) : Prop where
  sm : Same H G
  gl : G l = some (.lst xs)
  gd : G d = some (.dT (keysT ks))
  gr : Grp K G n xs
  len : xs.length = ks.length
  nd : ks.Nodup
  al : ∀ k ∈ ks, k ∈ allL n n
theorem GW.few {K : PySem.W.Frag} {H G : Hp} {l d : Addr} {n : Nat} {xs : List V} {ks : List (List Int)} (h : GW K H G l d n xs ks) (h2 : 2 ≤ n) (h4 : n ≤ 4) : xs.length ≤ 256 := by
  rw [h.len]
  exact Nat.le_trans (h.nd.length_le_of_subset h.al) (allL_few h2 h4)
theorem GW.same {K : PySem.W.Frag} {H G G' : Hp} {l d : Addr} {n : Nat} {xs : List V} {ks : List (List Int)} (h : GW K H G l d n xs ks) (e : Same G G') : GW K H G' l d n xs ks :=
  ⟨h.sm.trans e, e _ _ h.gl, e _ _ h.gd, h.gr.tk (Same.tk e), h.len, h.nd, h.al⟩
def spGroup (K : PySem.W.Frag) : Sp := fun vs H Q _ => ∃ (n : Nat) (s : Addr) (ms : List V), vs = [.int (n : Int), .ref s] ∧ SqL K H s ms ∧ (∀ x ∈ ms, ∃ p, IsP n p ∧ Ar K H x n p) ∧ 2 ≤ n ∧ n ≤ 4 ∧
  ∀ l xs H', Same H H' → H l = none → H' l = some (.lst xs) → xs.length ≤ 256 → Grp K H' n xs → Q (.ref l) H'
abbrev s_law_group : Stmt := top 17
abbrev N_law_group : List Str := ["places", "some", "found", "at", "known", "one", "other"]
theorem sc_law_group : FnScope N_law_group ["places", "some"] (defScope s_law_group) := ⟨rfl, rfl, rfl, by decide +kernel, rfl, by decide +kernel, by decide +kernel⟩
section
variable {P : Program} {w : World} {K : PySem.W.Frag} {mg : Str → Option Value} {base : Heap} {f : Addr} {fd : FuncData}
theorem ok_law_behindT (F : Fun K "_law_behind" "_law_behind" s_law_behind f fd) (T : Bt mg) : FnG P w K mg base CX0 1 f fd ["one", "other"] (spBehindT K) := by
  refine fnG0 F sc_law_behind (fun vs H Q E h => ?_) (fun cdv A outer s H vs Q E hr hg h => ?_)
  · obtain ⟨x, y, n, p, q, rfl, _⟩ := h
    rfl
  · obtain ⟨x, y, n, p, q, rfl, ⟨a, rfl, ha⟩, ⟨b, rfl, hb⟩, lt, n12, k⟩ := h
    have nd := sc_law_behind.nd
    refine ⟨_, (pss_one (ps_ret (pe_callTy call_tuple_of (by rfl) T.tuple b_tuple (pa_cons (pe_lc (own := [("place", 2)]) (g := gName 2) rfl nd (pi_tup (pv 0)) (blkOk_by (own := [("place", 2)]) (N := N_law_behind) (sc := defScope s_law_behind) (by decide +kernel)) (fun _ _ _ _ _ => (pg_name (i := 2) nd rfl (Or.inl rfl))) (fun _ _ _ _ _ => pts_nil) (fun _ _ _ _ _ => (pe_ix (r := rIxT K) ix_tup (pv 1) (pv 2) (fun _ _ => rfl)))) pa_nil)))), ?_⟩
    refine ⟨_, rfl, a, rfl, ⟨_, ha⟩, fun D hD => ?_⟩
    refine comp_tup (K := K) (ys := arV (fun k => q (p k)) n) hD ha (by rw [arV_len, arV_len]) (Nat.lt_of_le_of_lt (by rw [arV_len]; exact n12) (by decide : 12 < sizeLine)) (fun i x y hi hy G e1 Q hq => ?_) fun G e1 hG => ?_
    · have hin : i < n := by
        have := (List.getElem?_eq_some_iff.mp hi).1
        rwa [arV_len] at this
      rw [arV_get hin] at hi hy
      cases hi
      cases hy
      exact ⟨_, rfl, _, rfl, b, _, _, _, rfl, rfl, sqt_same e1 hb, arV_at (lt i hin), hq G (Same.refl G)⟩
    · refine ⟨D, _, rfl, .inl ⟨SqL.of hG, fun t ht => ?_⟩⟩
      exact k _ _ (same_mut e1 (e1.free ht)) upd_same
theorem ok_law_group (F : Fun K "_law_group" "_law_group" s_law_group f fd) (T : Bt mg) (C1 : Cg P w K mg base 1 "_law_behind" (spBehindT K)) : FnG P w K mg base CX0 2 f fd ["places", "some"] (spGroup K) := by
  refine fnG0 F sc_law_group (fun vs H Q E h => ?_) (fun cdv A outer s H vs Q E hr hg h => ?_)
  · obtain ⟨n, s, ms, rfl, _⟩ := h
    rfl
  · obtain ⟨n, so, ms, rfl, hs, hm, n2, n4, k⟩ := h
    have nd := sc_law_group.nd
    have hu0 : (A.deeper (envOfC "_law_group" (defScope s_law_group) s.heap.objs.size f cdv)).units + 1 < cLine := hu_of hr
    refine ⟨_, (pss_cons (ps_par (i := 2) (j := 3) (by rfl) nd rfl rfl (by decide) rfl rfl (pa_cons (pe_lst (pa_cons (pe_tupRg rfl (by rfl) T.tuple (prg_1 (by rfl) T.range (pv 0))) pa_nil)) (pa_cons pe_int pa_nil)) (by rfl))
      (pss_cons (ps_set (i := 4) nd rfl (Or.inl rfl) (pe_dispT (Nat.lt_of_succ_lt hu0) (pe_ix ix_list (pv 2) pe_int (fun _ _ => rfl)) pe_bl))
      (pss_cons (ps_while PassesOwn.never (pt_cmpR op_lt (pv 3) (pe_callB call_len_seq (by rfl) T.len b_len (pa_cons (pv 2) pa_nil)) (nomark _))
        (pss_cons (ps_for PassesOwn.never rfl (pi_list (pv 1)) (pg_name (i := 5) nd rfl (Or.inl rfl))
          (pss_cons (ps_set (i := 6) nd rfl (Or.inl rfl) (pe_g C1 hr hg (by decide) rfl (pa_cons (pe_ix ix_list (pv 2) (pv 3) (fun _ _ => rfl)) (pa_cons (pv 5) pa_nil))))
          (pss_one (ps_if (pt_cmp (pc_dnotin hu0 (pv 6) (pv 4)))
            (pss_cons (ps_dput hu0 (pv 4) (pv 6) pe_bl (by rfl))
            (pss_one (ps_expr (pe_bm PySem.F.plainAttrs_list PySem.F.slot_list_append PySem.F.type_list_append mt_append (pv 2) (pa_cons (pv 6) pa_nil)))))
            pss_nil))))
        (pss_one (ps_set (i := 3) nd rfl (Or.inl rfl) (pe_op op_add (pv 3) pe_int)))))
      (pss_one (ps_ret (pv 2)))))), ?_⟩
    have ok : RgOk 0 (n : Int) := RgOk.of_le (by decide) (by omega) (by decide) (by omega)
    refine ⟨_, rfl, _, rfl, ok, fun t ht => ?_⟩
    rw [rg_places]
    refine ⟨(show 1 ≤ sizeLine by decide), fun l hl => ?_⟩
    refine ⟨_, _, rfl, ?_⟩
    have tl : l ≠ t := fun e => by rw [e, upd_same] at hl; cases hl
    have Hl : H l = none := by rw [upd_ne tl] at hl; exact hl
    have e1 : Same H (upd (upd H t (.tup ((places n).map V.int))) l (.lst [.ref t])) := same_mut (same_new ht) Hl
    have gl : (upd (upd H t (.tup ((places n).map V.int))) l (.lst [.ref t])) l = some (.lst [.ref t]) := upd_same
    have gt : (upd (upd H t (.tup ((places n).map V.int))) l (.lst [.ref t])) t = some (.tup ((places n).map V.int)) := by rw [upd_ne tl.symm, upd_same]
    change tSeq _ _ _ _ (upd (upd H t (.tup ((places n).map V.int))) l (.lst [.ref t]))
    generalize upd (upd H t (.tup ((places n).map V.int))) l (.lst [.ref t]) = G0 at e1 gl gt ⊢
    refine fun d hd => ?_
    have e2 : Same G0 (upd G0 d (.dT [])) := same_new hd
    have dl : d ≠ l := fun e => by rw [e, gl] at hd; cases hd
    have Hd : H d = none := e1.free hd
    refine ⟨_, rfl, l, _, _, _, rfl, rfl, SqL.of (e2 _ _ gl), (atI_nat (xs := [V.ref t]) (j := 0) rfl), ?_⟩
    refine ⟨_, _, rfl, upd_same, t, (places n).map Sum.inl, rfl, ?_, ?_⟩
    · rw [List.map_map]
      exact e2 _ _ gt
    have w0 : GW K H (upd (upd G0 d (.dT [])) d (.dT [((places n).map Sum.inl, .bl true)])) l d n [.ref t] [places n] := by
      rw [upd_upd]
      have e3 : Same G0 (upd G0 d (.dT [((places n).map Sum.inl, .bl true)])) := same_new hd
      refine ⟨e1.trans e3, e3 _ _ gl, upd_same, ⟨fun x hx => ?_, V.ref t, List.mem_singleton.mpr rfl, ar_id (SqT.of (e3 _ _ gt))⟩, rfl, by simp, fun q hq => ?_⟩
      · rw [List.mem_singleton] at hx
        subst hx
        exact ⟨id, isP_id n, ar_id (SqT.of (e3 _ _ gt))⟩
      · rw [List.mem_singleton] at hq
        subst hq
        have := allL_mem (n := n) (l := places n) fun x hx => by
          obtain ⟨y, hy, rfl⟩ := List.mem_map.mp hx
          exact ⟨y, List.mem_range.mp hy, rfl⟩
        rwa [places_len] at this
    change tSeq _ _ _ _ (upd (upd G0 d (.dT [])) d (.dT [((places n).map Sum.inl, .bl true)]))
    generalize upd (upd G0 d (.dT [])) d (.dT [((places n).map Sum.inl, .bl true)]) = G1 at w0 ⊢
    clear gl gt e1 e2 hd ht hl
    refine ⟨fun m σ G => ∃ (at' : Nat) (xs : List V) (ks : List (List Int)) (y5 y6 : Option V), m = 300 - at' ∧ σ = [some (.int (n : Int)), some (.ref so), some (.ref l), some (.int (at' : Int)), some (.ref d), y5, y6] ∧ at' ≤ xs.length ∧ GW K H G l d n xs ks, ⟨_, 0, _, _, _, _, rfl, rfl, Nat.zero_le _, w0⟩, ?_⟩
    rintro m σ G ⟨at', xs, ks, y5, y6, rfl, rfl, ha, wG⟩
    have few := wG.few n2 n4
    refine ⟨_, rfl, _, rfl, l, _, rfl, .inl (SqL.of wG.gl), _, _, rfl, rfl, _, rfl, ?_⟩
    by_cases hlt : at' < xs.length
    · refine iteT' (by simp only [decide_eq_true_eq]; omega) ?_
      refine ⟨fun σ' G' => ∃ (xs' : List V) (ks' : List (List Int)) (y5 y6 : Option V), σ' = [some (.int (n : Int)), some (.ref so), some (.ref l), some (.int ((at' + 1 : Nat) : Int)), some (.ref d), y5, y6] ∧ at' + 1 ≤ xs'.length ∧ GW K H G' l d n xs' ks', ?_, ?_⟩
      · rintro σ' G' ⟨xs', ks', y5', y6', r1, r2, r3⟩
        exact ⟨300 - (at' + 1), by omega, at' + 1, xs', ks', y5', y6', rfl, r1, r2, r3⟩
      · refine ⟨_, rfl, so, rfl, ⟨ms, sql_same wG.sm hs⟩, ?_⟩
        refine for_list (xs := ms) (fun i σ G => ∃ (xs' : List V) (ks' : List (List Int)) (y5 y6 : Option V), σ = [some (.int (n : Int)), some (.ref so), some (.ref l), some (.int (at' : Int)), some (.ref d), y5, y6] ∧ at' + 1 ≤ xs'.length ∧ GW K H G l d n xs' ks')
          ⟨xs, ks, _, _, rfl, hlt, wG⟩ (fun i σ G _ z => ?_) (fun i x σ G hi z => ?_) fun σ G z => ?_
        · obtain ⟨_, _, _, _, _, _, w1⟩ := z
          exact sql_same w1.sm hs
        · obtain ⟨xs', ks', z5, z6, rfl, la, w1⟩ := z
          obtain ⟨q, hq, aq⟩ := hm x (List.mem_of_getElem? hi)
          have few1 := w1.few n2 n4
          have hv : xs'[at']? = some (xs'[at']'(by omega)) := List.getElem?_eq_getElem (by omega)
          obtain ⟨p, hp, ap⟩ := w1.gr.1 _ (List.mem_of_getElem? hv)
          refine ⟨_, rfl, _, rfl, l, _, _, _, rfl, rfl, SqL.of w1.gl, atI_nat hv, _, rfl, _, _, n, p, q, rfl, ap, aq.same w1.sm, hp.lt, by omega, fun t2 G2 e2 g2 => ?_⟩
          have w2 := w1.same e2
          have a2 : (arV (fun k => q (p k)) n) = ((nums n fun k => q (p k)).map Sum.inl : List Key).map kV := by
            rw [arV_nums, List.map_map]
            rfl
          have gk := g2
          rw [a2] at gk
          refine ⟨_, rfl, _, rfl, d, _, rfl, DGet.t w2.gd gk, _, rfl, ?_⟩
          rcases keys_val (q := nums n fun k => q (p k)) (ks := ks') with ⟨k1, k2⟩ | ⟨k1, k2⟩
          · rw [k2]
            refine iteF ?_
            exact ⟨xs', ks', _, _, rfl, la, w2⟩
          · rw [k2]
            refine iteT ?_
            refine ⟨_, rfl, _, rfl, d, _, rfl, DPut.t w2.gd gk (by unfold keysT; rw [List.length_map, ← w2.len]; exact Nat.lt_of_le_of_lt few1 (by decide)), ?_⟩
            rw [keys_put k1]
            have dl2 : d ≠ l := fun e => by have := w2.gd; rw [e, w2.gl] at this; cases this
            have g3 : (upd G2 d (.dT (keysT (ks' ++ [nums n fun k => q (p k)])))) l = some (.lst xs') := by rw [upd_ne dl2.symm]; exact w2.gl
            refine ⟨_, rfl, .inl ⟨rfl, _, SqL.of g3⟩, _, rfl, l, xs', _, rfl, rfl, g3, Nat.lt_of_le_of_lt few1 (by decide), ?_⟩
            have tk3 : Tk G2 (upd (upd G2 d (.dT (keysT (ks' ++ [nums n fun k => q (p k)])))) l (.lst (xs' ++ [V.ref t2]))) := (tk_dT w2.gd).trans (tk_lst g3)
            refine ⟨xs' ++ [V.ref t2], ks' ++ [nums n fun k => q (p k)], _, _, rfl, by rw [List.length_append]; omega, ?_⟩
            refine ⟨same_mut (same_mut w2.sm Hd) Hl, upd_same, by rw [upd_ne dl2, upd_same], ⟨fun y hy => ?_, ?_⟩, by rw [List.length_append, List.length_append, w2.len]; rfl, ?_, fun c hc => ?_⟩
            · rcases List.mem_append.mp hy with hy | hy
              · exact (w2.gr.tk tk3).1 y hy
              · rw [List.mem_singleton] at hy
                subst hy
                exact ⟨_, hp.comp hq, t2, rfl, Or.inl (tk3 _ _ (.inl g2))⟩
            · obtain ⟨y, hy, ay⟩ := (w2.gr.tk tk3).2
              exact ⟨y, List.mem_append_left _ hy, ay⟩
            · rw [List.nodup_append]
              refine ⟨w2.nd, by simp, fun a ha b hb e => ?_⟩
              rw [List.mem_singleton] at hb
              rw [e, hb] at ha
              exact k1 ha
            · rcases List.mem_append.mp hc with hc | hc
              · exact w2.al c hc
              · rw [List.mem_singleton] at hc
                subst hc
                have h1 : (nums n fun k => q (p k)).length = n := by unfold nums; rw [List.length_map, List.length_range]
                have := allL_mem (n := n) (l := nums n fun k => q (p k)) fun x hx => by
                  obtain ⟨y, hy, rfl⟩ := List.mem_map.mp hx
                  exact ⟨q (p y), hq.lt _ (hp.lt y (List.mem_range.mp hy)), rfl⟩
                rwa [h1] at this
        · obtain ⟨xs', ks', z5, z6, rfl, la, w1⟩ := z
          exact ⟨_, rfl, _, _, rfl, rfl, xs', ks', _, _, rfl, la, w1⟩
    · refine iteF' (by simp only [decide_eq_false_iff_not]; omega) ?_
      exact ⟨_, rfl, k l xs G wG.sm Hl wG.gl few wG.gr⟩
end
abbrev s_law_leaving : Stmt := top 19
abbrev N_law_leaving : List Str := ["pen", "places", "ahead", "left", "place", "found", "goals", "k"]
theorem sc_law_leaving : FnScope N_law_leaving ["pen", "places", "ahead"] (defScope s_law_leaving) := ⟨rfl, rfl, rfl, by decide +kernel, rfl, by decide +kernel, by decide +kernel⟩
abbrev s_law_product : Stmt := top 21
abbrev N_law_product : List Str := ["pen", "tables", "places", "found", "place", "rows"]
theorem sc_law_product : FnScope N_law_product ["pen", "tables", "places"] (defScope s_law_product) := ⟨rfl, rfl, rfl, by decide +kernel, rfl, by decide +kernel, by decide +kernel⟩
theorem kb_same {p : Addr} {H G : Hp} (e : Same H G) : Kb p H G := fun b o h _ => e b o h
theorem leave_fin {n : Nat} {Li Gi : List Int} {fl : List V} (hl : fl.length = n) (h1 : ∀ (j : Nat) (x g : Int), Li[j]? = some x → Gi[j]? = some g → fl[x.toNat]? = some (.int g)) (h2 : ∀ x : Nat, x < n → (x : Int) ∉ Li → fl[x]? = some (.int x))
    (nd : Li.Nodup) (pm : Gi.Perm Li) (rg : ∀ x ∈ Li, ∃ y : Nat, y < n ∧ x = y) : IsP n (readAt fl) ∧ fl = arV (readAt fl) n := by
  have val : ∀ x, x < n → ∃ y : Nat, y < n ∧ fl[x]? = some (.int y) ∧ ((∃ j : Nat, Li[j]? = some (x : Int) ∧ Gi[j]? = some (y : Int)) ∨ ((x : Int) ∉ Li ∧ y = x)) := fun x hx => by
    by_cases m : (x : Int) ∈ Li
    · obtain ⟨j, hj⟩ := List.mem_iff_getElem?.mp m
      have jl : j < Gi.length := by rw [pm.length_eq]; exact (List.getElem?_eq_some_iff.mp hj).1
      have hg : Gi[j]? = some Gi[j] := List.getElem?_eq_getElem jl
      obtain ⟨y, hy, e⟩ := rg _ (pm.subset (List.mem_of_getElem? hg))
      rw [e] at hg
      have := h1 j _ _ hj hg
      rw [Int.toNat_natCast] at this
      exact ⟨y, hy, this, .inl ⟨j, hj, hg⟩⟩
    · exact ⟨x, hx, h2 x hx m, .inr ⟨m, rfl⟩⟩
  have rd : ∀ {x y : Nat}, fl[x]? = some (.int y) → readAt fl x = y := fun {x y} h => by
    unfold readAt
    rw [h]
    exact Int.toNat_natCast y
  refine ⟨⟨fun x hx => ?_, fun a b ha hb e => ?_, fun y hy => ?_⟩, List.ext_getElem? fun x => ?_⟩
  · obtain ⟨y, hy, h3, _⟩ := val x hx
    rw [rd h3]
    exact hy
  · obtain ⟨y, hy, h3, h4⟩ := val a ha
    obtain ⟨z, hz, h5, h6⟩ := val b hb
    rw [rd h3, rd h5] at e
    subst e
    rcases h4 with ⟨j, h7, h8⟩ | ⟨h7, h8⟩
    · rcases h6 with ⟨j2, h9, h10⟩ | ⟨h9, h10⟩
      · have : j = j2 := (List.getElem?_inj (List.getElem?_eq_some_iff.mp h8).1 (pm.nodup_iff.mpr nd)).mp (h8.trans h10.symm)
        subst this
        rw [h7] at h9
        have := Option.some.inj h9
        omega
      · exfalso
        subst h10
        exact h9 (pm.subset (List.mem_of_getElem? h8))
    · rcases h6 with ⟨j2, h9, h10⟩ | ⟨h9, h10⟩
      · exfalso
        subst h8
        exact h7 (pm.subset (List.mem_of_getElem? h10))
      · omega
  · by_cases m : (y : Int) ∈ Li
    · obtain ⟨j, hj⟩ := List.mem_iff_getElem?.mp (pm.symm.subset m)
      have jl : j < Li.length := by rw [← pm.length_eq]; exact (List.getElem?_eq_some_iff.mp hj).1
      have hx : Li[j]? = some Li[j] := List.getElem?_eq_getElem jl
      obtain ⟨x, hx2, e⟩ := rg _ (List.mem_of_getElem? hx)
      rw [e] at hx
      have := h1 j _ _ hx hj
      rw [Int.toNat_natCast] at this
      exact ⟨x, hx2, rd this⟩
    · exact ⟨y, hy, rd (h2 y hy m)⟩
  · by_cases hx : x < n
    · obtain ⟨y, hy, h3, _⟩ := val x hx
      rw [arV_get hx, h3, rd h3]
    · rw [List.getElem?_eq_none (by omega), List.getElem?_eq_none (by rw [arV_len]; omega)]
theorem kept_filter {α : Type} (f : α → V) (b : α → Bool) : ∀ l : List α, keptV (l.map f) (l.map b) = (l.filter b).map f
  | [] => rfl
  | x :: l => by
    rw [List.map_cons, List.map_cons, kept_cons, List.filter_cons, kept_filter f b l]
    split <;> rfl
def spLeave (K : PySem.W.Frag) : Sp := fun vs H Q _ => ∃ (i : PenI) (B n : Nat) (a : Addr) (ks : List Int), vs = [.ref i.p, .int (n : Int), .ref a] ∧ Pen H i B ∧ B < 2 ^ 40 ∧ n ≤ 12 ∧ SqL K H a (ks.map V.int) ∧
  ∀ t p H', Kb i.p H H' → Pen H' i (B + n) → H' t = some (.tup (arV p n)) → IsP n p → Q (.ref t) H'
def spProd (K : PySem.W.Frag) : Sp := fun vs H Q _ => ∃ (i : PenI) (B n : Nat) (x : V) (ts : List TB), vs = [.ref i.p, x, .int (n : Int)] ∧ Pen H i B ∧ B < 2 ^ 40 ∧ n ≤ 12 ∧ Dd K H x (tabsD n ts) ∧ (∀ t ∈ ts, GT n t) ∧ ts.length ≤ 12 ∧
  ∀ v p H', Kb i.p H H' → Pen H' i (B + ts.length) → Ar K H' v n p → IsP n p → Q v H'
section
variable {P : Program} {w : World} {K : PySem.W.Frag} {mg : Str → Option Value} {base : Heap} {f : Addr} {fd : FuncData}
theorem ok_law_leaving (F : Fun K "_law_leaving" "_law_leaving" s_law_leaving f fd) (T : Bt mg) (C1 : Cg P w K mg base 2 "_law_shuffled" (spShuf K)) : FnG P w K mg base CX0 3 f fd ["pen", "places", "ahead"] (spLeave K) := by
  refine fnG0 F sc_law_leaving (fun vs H Q E h => ?_) (fun cdv A outer s H vs Q E hr hg h => ?_)
  · obtain ⟨i, B, n, a, ks, rfl, _⟩ := h
    rfl
  · obtain ⟨i, B, n, a, ks, rfl, pn, hB, n12, ha, k⟩ := h
    have nd := sc_law_leaving.nd
    refine ⟨_, (pss_cons (ps_setLc (i := 3) rfl nd rfl rfl (sw_true rfl rfl rfl (by decide +kernel)) (own := [("place", 4)]) (g := gName 4) (pi_range1 (by rfl) T.range (pa_cons (pv 1) pa_nil)) (blkOk_by (own := [("place", 4)]) (N := N_law_leaving) (sc := defScope s_law_leaving) (by decide +kernel)) (fun _ _ _ _ _ => (pg_name (i := 4) nd rfl (Or.inl rfl))) (fun _ _ _ _ _ => (pts_one (pt_cmpR (r := rIn K true) op_notIn_seq (pv 4) (pv 2) (by rfl)))) (fun _ _ _ _ _ => (pv 4)))
      (pss_cons (ps_par (i := 5) (j := 6) (by rfl) nd rfl rfl (by decide) rfl rfl (pa_cons (pe_listRg rfl (by rfl) T.list (prg_1 (by rfl) T.range (pv 1))) (pa_cons (pe_g C1 hr hg (by decide) rfl (pa_cons (pv 0) (pa_cons (pv 3) pa_nil))) pa_nil)) (by rfl))
      (pss_cons (ps_for PassesOwn.never rfl (pi_range1 (by rfl) T.range (pa_cons (pe_callB call_len_seq (by rfl) T.len b_len (pa_cons (pv 3) pa_nil)) pa_nil)) (pg_name (i := 7) nd rfl (Or.inl rfl))
        (pss_one (ps_asg (pe_ix ix_list (pv 6) (pv 7) (fun _ _ => rfl)) (pg_sub (pv 5) (pe_ix ix_list (pv 3) (pv 7) (fun _ _ => rfl)) set_list))))
      (pss_one (ps_ret (pe_callTy call_tuple_of (by rfl) T.tuple b_tuple (pa_cons (pv 5) pa_nil))))))), ?_⟩
    let b : Nat → Bool := fun x => !inV (.int (x : Int)) (ks.map V.int)
    let Ln : List Nat := (List.range n).filter b
    have lnd : Ln.Nodup := List.nodup_range.filter _
    have lin : ∀ x ∈ Ln, x < n := fun x hx => List.mem_range.mp (List.mem_filter.mp hx).1
    have lle : Ln.length ≤ n := by
      have := List.length_filter_le b (List.range n)
      rw [List.length_range] at this
      exact this
    refine ⟨_, rfl, _, rfl, by omega, by omega, fun D hD => ?_⟩
    refine comp_rangeT (ys := (List.range n).map fun (x : Nat) => V.int (x : Int)) (bs := (List.range n).map b) hD (by rw [List.length_map, List.length_range, Int.toNat_natCast]) (by rw [List.length_map, List.length_range, Int.toNat_natCast]) (Nat.lt_of_le_of_lt (by omega : _ ≤ 12) (by decide)) (fun j c hj hc G e1 Q2 hQ2 => ?_) (fun j y hj hy G e1 Q2 hQ2 => ?_) fun G e1 gD => ?_
    · have hj : j < n := by omega
      rw [List.getElem?_map, List.getElem?_range hj] at hc
      obtain rfl := Option.some.inj hc
      refine ⟨_, rfl, _, rfl, a, _, rfl, .inl (sql_same e1 ha), rfl, ?_, ?_⟩
      · rw [List.all_eq_true]
        intro y hy
        obtain ⟨z, _, rfl⟩ := List.mem_map.mp hy
        rfl
      · refine ⟨_, rfl, ?_⟩
        have : (0 : Int) + (j : Int) = (j : Int) := Int.zero_add _
        rw [this]
        exact hQ2 G (Same.refl G)
    · have hj : j < n := by omega
      rw [List.getElem?_map, List.getElem?_range hj] at hy
      obtain rfl := Option.some.inj hy
      refine ⟨_, rfl, ?_⟩
      have : (0 : Int) + (j : Int) = (j : Int) := Int.zero_add _
      rw [this]
      exact hQ2 G (Same.refl G)
    rw [kept_filter (fun x : Nat => V.int (x : Int)) b] at gD
    have lE : (((List.range n).filter b).map fun x => V.int ((x : Nat) : Int)) = (Ln.map fun x => ((x : Nat) : Int)).map V.int := by rw [List.map_map]; rfl
    rw [lE] at gD
    generalize eL : (Ln.map fun x => ((x : Nat) : Int)) = Li at gD
    have Lnd : Li.Nodup := by
      rw [← eL]
      exact lnd.map _ fun a b hab h => hab (by omega)
    have Lin : ∀ x ∈ Li, ∃ y : Nat, y < n ∧ x = y := fun x hx => by
      rw [← eL] at hx
      obtain ⟨y, hy, rfl⟩ := List.mem_map.mp hx
      exact ⟨y, lin y hy, rfl⟩
    have Lle : Li.length ≤ n := by rw [← eL, List.length_map]; exact lle
    have pn1 := pn.same e1
    have nD := pn.ne hD
    have kb1 : Kb i.p H G := kb_same e1
    clear lE
    have ok : RgOk 0 (n : Int) := RgOk.of_le (by decide) (by omega) (by decide) (by omega)
    refine ⟨_, rfl, _, rfl, ok, fun l hl => ?_⟩
    rw [rg_places]
    have nl := pn1.ne hl
    have Dl : D ≠ l := ne_of_none gD hl
    have Hl : H l = none := kb1.free nl.1 hl
    have kb2 := kb1.mut (o := .lst ((places n).map V.int)) Hl
    have pn2 := pn1.upd (o := .lst ((places n).map V.int)) nl
    have gD2 : (upd G l (.lst ((places n).map V.int))) D = some (.lst (Li.map V.int)) := by rw [upd_ne Dl]; exact gD
    have gl2 : (upd G l (.lst ((places n).map V.int))) l = some (.lst ((places n).map V.int)) := upd_same
    generalize upd G l (.lst ((places n).map V.int)) = G2 at kb2 pn2 gD2 gl2 ⊢
    refine ⟨_, rfl, _, rfl, i, B, D, _, rfl, pn2, by omega, .inl (SqL.of gD2), by rw [List.length_map]; omega, fun q ys G3 pm hq kb3 pn3 gq => ?_⟩
    obtain ⟨Gi, rfl, pk⟩ := perm_ints pm
    have gD3 := kb3 _ _ gD2 (pn2.neL gD2)
    have gl3 := kb3 _ _ gl2 (pn2.neL gl2)
    have nq := pn2.ne hq
    have Hq : H q = none := kb2.free nq.1 hq
    have ql : q ≠ l := fun e => by rw [e, gl2] at hq; cases hq
    have qD : q ≠ D := fun e => by rw [e, gD2] at hq; cases hq
    have lGi := pk.length_eq
    refine ⟨_, _, rfl, ?_⟩
    refine ⟨_, rfl, D, _, rfl, .inl (SqL.of gD3), _, rfl, by rw [List.length_map]; omega, by rw [List.length_map]; omega, ?_⟩
    rw [List.length_map] at pn3 ⊢
    refine for_range (n := Li.length) (fun m σ G => ∃ (y4 y7 : Option V) (fl : List V), σ = [some (.ref i.p), some (.int (n : Int)), some (.ref a), some (.ref D), y4, some (.ref l), some (.ref q), y7] ∧ Kb i.p H G ∧ Pen G i (B + Li.length) ∧ G D = some (.lst (Li.map V.int)) ∧ G q = some (.lst (Gi.map V.int)) ∧ G l = some (.lst fl) ∧ fl.length = n ∧
        (∀ (j : Nat) (x g : Int), j < m → Li[j]? = some x → Gi[j]? = some g → fl[x.toNat]? = some (.int g)) ∧ (∀ x : Nat, x < n → (x : Int) ∉ Li → fl[x]? = some (.int x)))
      ⟨_, _, _, rfl, kb2.trans kb3, pn3, gD3, gq, gl3, by rw [List.length_map, places_len], fun j x g h => absurd h (Nat.not_lt_zero j), fun x hx _ => by unfold places; rw [List.getElem?_map, List.getElem?_map, List.getElem?_range hx]; rfl⟩ (fun m σ G4 hm z => ?_) fun σ G4 z => ?_
    · have hm : m < Li.length := by omega
      obtain ⟨y4, y7, fl, rfl, kb, pG, g1, g2, g3, fl1, fl2, fl3⟩ := z
      have hx : Li[m]? = some Li[m] := List.getElem?_eq_getElem hm
      obtain ⟨g0, hg⟩ : ∃ g0, Gi[m]? = some g0 := ⟨_, List.getElem?_eq_getElem (by omega)⟩
      obtain ⟨x, xn, ex⟩ := Lin _ (List.mem_of_getElem? hx)
      rw [ex] at hx
      have e0 : (0 : Int) + (m : Int) = (m : Int) := Int.zero_add _
      refine ⟨_, rfl, _, rfl, q, _, _, _, rfl, rfl, SqL.of g2, by rw [e0, atI_nat (by rw [List.getElem?_map, hg]; rfl)], ?_⟩
      refine ⟨_, rfl, _, rfl, _, rfl, D, _, _, _, rfl, rfl, SqL.of g1, by rw [e0, atI_nat (by rw [List.getElem?_map, hx]; rfl)], ?_⟩
      refine ⟨l, fl, _, x, rfl, rfl, g3, ixN_nat (by omega), ?_⟩
      have Dl3 : D ≠ l := Dl
      refine ⟨_, _, fl.set x (V.int g0), rfl, kb.mut Hl, pG.upd nl, by rw [upd_ne Dl]; exact g1, by rw [upd_ne ql]; exact g2, upd_same, by rw [List.length_set]; exact fl1, fun j z g hj hz hg2 => ?_, fun z hz nz => ?_⟩
      · by_cases ej : j = m
        · subst ej
          rw [hx] at hz
          rw [hg] at hg2
          obtain rfl := Option.some.inj hz
          obtain rfl := Option.some.inj hg2
          rw [Int.toNat_natCast, List.getElem?_set_self (by omega)]
        · obtain ⟨z2, z2n, ez⟩ := Lin _ (List.mem_of_getElem? hz)
          have ne : x ≠ z2 := fun e => by
            subst e
            rw [ez] at hz
            exact ej ((List.getElem?_inj (List.getElem?_eq_some_iff.mp hz).1 Lnd).mp (hz.trans hx.symm))
          have := fl2 j z g (by omega) hz hg2
          rw [ez, Int.toNat_natCast] at this ⊢
          rw [List.getElem?_set_ne ne]
          exact this
      · have ne : x ≠ z := fun e => by
          subst e
          exact nz (List.mem_of_getElem? hx)
        rw [List.getElem?_set_ne ne]
        exact fl3 z hz nz
    · obtain ⟨y4, y7, fl, rfl, kb, pG, g1, g2, g3, fl1, fl2, fl3⟩ := z
      have fin := leave_fin (n := n) fl1 (fun j x g hx hg => fl2 j x g (List.getElem?_eq_some_iff.mp hx).1 hx hg) fl3 Lnd pk Lin
      refine ⟨_, rfl, l, _, rfl, .inl ⟨SqL.of g3, fun t ht => ?_⟩⟩
      have nt := pG.ne ht
      refine k t (readAt fl) _ (kb.mut (kb.free nt.1 ht)) ((pG.upd nt).mono (by omega)) ?_ fin.1
      rw [upd_same, ← fin.2]
theorem ok_law_product (F : Fun K "_law_product" "_law_product" s_law_product f fd) (T : Bt mg) (C1 : Cg P w K mg base 1 "_law_behind" (spBehindT K)) (C2 : Cg P w K mg base 2 "_law_pick" (spPickA K)) : FnG P w K mg base CX0 3 f fd ["pen", "tables", "places"] (spProd K) := by
  refine fnG0 F sc_law_product (fun vs H Q E h => ?_) (fun cdv A outer s H vs Q E hr hg h => ?_)
  · obtain ⟨i, B, n, x, ts, rfl, _⟩ := h
    rfl
  · obtain ⟨i, B, n, x, ts, rfl, pn, hB, n12, hx, gt, tl, k⟩ := h
    have nd := sc_law_product.nd
    refine ⟨_, (pss_cons (ps_set (i := 3) nd rfl (Or.inl rfl) (pe_tupRg rfl (by rfl) T.tuple (prg_1 (by rfl) T.range (pv 2))))
      (pss_cons (ps_for PassesOwn.never rfl (pi_list (pe_revL rfl (pv 1))) (pg_tup (by rfl) (pgs_cons (pg_name (i := 4) nd rfl (Or.inl rfl)) (pgs_cons (pg_name (i := 5) nd rfl (Or.inl rfl)) pgs_nil)))
        (pss_one (ps_set (i := 3) nd rfl (Or.inl rfl) (pe_g C1 hr hg (by decide) rfl (pa_cons (pv 3) (pa_cons (pe_g C2 hr hg (by decide) rfl (pa_cons (pv 0) (pa_cons (pv 5) pa_nil))) pa_nil))))))
      (pss_one (ps_ret (pv 3))))), ?_⟩
    have ok : RgOk 0 (n : Int) := RgOk.of_le (by decide) (by omega) (by decide) (by omega)
    refine ⟨_, rfl, _, rfl, ok, fun t ht => ?_⟩
    rw [rg_places]
    cases hx with
    | @lst a xs _ h1 h2 =>
      have nt := pn.ne ht
      have e1 : Same H (upd H t (.tup ((places n).map V.int))) := same_new ht
      have pn1 := pn.upd (o := .tup ((places n).map V.int)) nt
      have a1 : Ar K (upd H t (.tup ((places n).map V.int))) (.ref t) n id := ar_id (SqT.of upd_same)
      change tSeq _ _ _ _ (upd H t (.tup ((places n).map V.int)))
      generalize upd H t (.tup ((places n).map V.int)) = G0 at e1 pn1 a1 ⊢
      refine ⟨_, rfl, a, xs, rfl, sql_same e1 h1, fun q hq => ?_⟩
      have nq := pn1.ne hq
      have e2 : Same G0 (upd G0 q (.lst xs.reverse)) := same_new hq
      refine ⟨q, rfl, ⟨_, SqL.of upd_same⟩, ?_⟩
      have hxl := h2.length
      rw [List.length_map] at hxl
      refine for_list (xs := xs.reverse) (fun j σ G => ∃ y4 y5 v p, σ = [some (.ref i.p), some (.ref a), some (.int (n : Int)), some v, y4, y5] ∧ Kb i.p H G ∧ Pen G i (B + j) ∧ G q = some (.lst xs.reverse) ∧ Ar K G v n p ∧ IsP n p)
        ⟨_, _, _, id, rfl, (kb_same (e1.trans e2)), (pn1.upd nq).mono (by omega), upd_same, a1.same e2, isP_id n⟩ (fun j σ G _ z => ?_) (fun j x σ G hi z => ?_) fun σ G z => ?_
      · obtain ⟨_, _, _, _, _, _, _, g, _⟩ := z
        exact SqL.of g
      · obtain ⟨y4, y5, v, p, rfl, kb, pG, gq, av, hp⟩ := z
        have jl := (List.getElem?_eq_some_iff.mp hi).1
        rw [List.length_reverse] at jl
        obtain ⟨m, hm⟩ := List.mem_iff_getElem?.mp (List.mem_reverse.mp (List.mem_of_getElem? hi))
        obtain ⟨t2, h3, h4⟩ := dd_mapget h2 hm
        obtain ⟨a2, b2, rs, rfl, q1, q2, q3⟩ := tab_of h4
        have g := gt t2 (List.mem_of_getElem? h3)
        have rl := q3.length
        rw [List.length_map] at rl
        have r0 : 0 < t2.2.length := by
          obtain ⟨r, hr, _⟩ := g.has
          exact List.length_pos_of_mem hr
        have rn : t2.2.length ≤ 12 := by
          have h5 := g.nd.length_le_of_subset (l₂ := List.range n) fun y hy => by
            obtain ⟨r, hr, rfl⟩ := List.mem_map.mp hy
            exact List.mem_range.mpr ((g.perm r hr).lt _ g.lt)
          rw [List.length_map, List.length_range] at h5
          omega
        refine ⟨a2, _, rfl, sqt_kb kb pn.o q1, rfl, ?_⟩
        refine ⟨_, _, rfl, _, _, rfl, rfl, ?_⟩
        refine ⟨_, rfl, _, rfl, _, rfl, .inl ⟨i, B + j, b2, rs, rfl, pG, by omega, .inl (sql_kb kb pn.o q2), by omega, by omega, fun y G2 hy kb2 pn2 => ?_⟩⟩
        obtain ⟨m2, hm2⟩ := List.mem_iff_getElem?.mp hy
        obtain ⟨r, h6, h7⟩ := dd_mapget q3 hm2
        have ry := ar_of ((h7.kb kb pn.o).kb kb2 pG.o)
        have hr := g.perm r (List.mem_of_getElem? h6)
        refine ⟨_, _, n, p, r, rfl, av.tk (tk_kb kb2 pG.o), ry, hp.lt, n12, fun t3 G3 e3 g3 => ?_⟩
        exact ⟨_, _, _, _, rfl, (kb.trans kb2).trans (kb_same e3), pn2.same e3, e3 _ _ (kb2 _ _ gq (pG.neL gq)), ⟨t3, rfl, SqT.of g3⟩, hp.comp hr⟩
      · obtain ⟨y4, y5, v, p, rfl, kb, pG, gq, av, hp⟩ := z
        rw [List.length_reverse, hxl] at pG
        exact ⟨_, rfl, k v p G kb pG av hp⟩
end
theorem map_perm {α β : Type} {f : α → β} {l1 l2 : List β} (h : l1.Perm l2) : ∀ {l : List α}, l2 = l.map f → ∃ l' : List α, l'.Perm l ∧ l1 = l'.map f := by
  induction h with
  | nil =>
    intro l e
    cases l with
    | nil => exact ⟨[], List.Perm.refl _, rfl⟩
    | cons x l => cases e
  | @cons x l1 l2 _ ih =>
    intro l e
    cases l with
    | nil => cases e
    | cons y l =>
      rw [List.map_cons] at e
      obtain ⟨rfl, e2⟩ := List.cons.inj e
      obtain ⟨l', h1, rfl⟩ := ih e2
      exact ⟨y :: l', h1.cons y, rfl⟩
  | swap x y l0 =>
    intro l e
    cases l with
    | nil => cases e
    | cons a l =>
      cases l with
      | nil => cases e
      | cons b l =>
        rw [List.map_cons, List.map_cons] at e
        obtain ⟨rfl, e2⟩ := List.cons.inj e
        obtain ⟨rfl, rfl⟩ := List.cons.inj e2
        exact ⟨b :: a :: l, List.Perm.swap a b l, rfl⟩
  | trans _ _ ih1 ih2 =>
    intro l e
    obtain ⟨l', h1, e1⟩ := ih2 e
    obtain ⟨l'', h2, e2⟩ := ih1 e1
    exact ⟨l'', h2.trans h1, e2⟩
theorem tk_remS {M : List Addr} {G : Hp} (h : ∀ l ∈ M, ∃ xs, G l = some (.lst xs)) : Tk G (remS M G) := fun a xs z => by
  have no : a ∉ M := fun m => by
    obtain ⟨ys, hy⟩ := h a m
    rcases z with z | ⟨ob, z⟩
    · rw [hy] at z; cases z
    · rw [hy] at z; cases z
  rcases z with z | ⟨ob, z⟩
  · exact .inl (by rw [remS_out no]; exact z)
  · exact .inr ⟨ob, by rw [remS_out no]; exact z⟩
abbrev PR := V × (Nat → Nat)
/-- rows of a table: arrangements that bring its place to unlike ones -/
structure RW (K : PySem.W.Frag) (G : Hp) (n pl : Nat) (prs : List PR) : Prop where
  each : ∀ x ∈ prs, IsP n x.2 ∧ Ar K G x.1 n x.2 ∧ (x.2 pl = pl → ∀ k, k < n → x.2 k = k)
  nd : (prs.map fun x => x.2 pl).Nodup
theorem RW.tk {K : PySem.W.Frag} {H G : Hp} {n pl : Nat} {prs : List PR} (h : RW K H n pl prs) (e : Tk H G) : RW K G n pl prs :=
  ⟨fun x hx => ⟨(h.each x hx).1, (h.each x hx).2.1.tk e, (h.each x hx).2.2⟩, h.nd⟩
theorem RW.perm {K : PySem.W.Frag} {G : Hp} {n pl : Nat} {prs prs' : List PR} (h : RW K G n pl prs) (p : prs'.Perm prs) : RW K G n pl prs' :=
  ⟨fun x hx => h.each x (p.subset hx), (p.map _).nodup_iff.mpr h.nd⟩
theorem RW.len {K : PySem.W.Frag} {G : Hp} {n pl : Nat} {prs : List PR} (h : RW K G n pl prs) (hp : pl < n) : prs.length ≤ n := by
  have := h.nd.length_le_of_subset (l₂ := List.range n) fun y hy => by
    obtain ⟨x, hx, rfl⟩ := List.mem_map.mp hy
    exact List.mem_range.mpr ((h.each x hx).1.lt _ hp)
  rwa [List.length_map, List.length_range] at this
theorem RW.gt {K : PySem.W.Frag} {G : Hp} {n pl : Nat} {prs : List PR} (h : RW K G n pl prs) (hp : pl < n) (has : ∃ x ∈ prs, x.2 pl = pl) : GT n (pl, prs.map Prod.snd) := by
  refine ⟨hp, fun r hr => ?_, ?_, fun r hr => ?_, ?_⟩
  · obtain ⟨x, hx, rfl⟩ := List.mem_map.mp hr
    exact (h.each x hx).1
  · show ((prs.map Prod.snd).map fun r => r pl).Nodup
    rw [List.map_map]
    exact h.nd
  · obtain ⟨x, hx, rfl⟩ := List.mem_map.mp hr
    exact (h.each x hx).2.2
  · obtain ⟨x, hx, e⟩ := has
    exact ⟨x.2, List.mem_map.mpr ⟨x, hx, rfl⟩, e⟩
theorem RW.dd {K : PySem.W.Frag} {G : Hp} {n pl : Nat} : ∀ {prs : List PR}, RW K G n pl prs → DdAll K G (prs.map Prod.fst) ((prs.map Prod.snd).map (arrD n))
  | [], _ => .nil
  | x :: prs, h => .cons (ar_to (h.each x List.mem_cons_self).2.1) (RW.dd ⟨fun y hy => h.each y (List.mem_cons_of_mem _ hy), by have := h.nd; rw [List.map_cons, List.nodup_cons] at this; exact this.2⟩)
/-- a row more -/
theorem RW.snoc {K : PySem.W.Frag} {G : Hp} {n pl : Nat} {prs : List PR} {v : V} {r : Nat → Nat} (h : RW K G n pl prs) (h1 : IsP n r) (h2 : Ar K G v n r) (h3 : r pl = pl → ∀ k, k < n → r k = k) (h4 : ∀ x ∈ prs, x.2 pl ≠ r pl) : RW K G n pl (prs ++ [(v, r)]) := by
  refine ⟨fun x hx => ?_, ?_⟩
  · rcases List.mem_append.mp hx with hx | hx
    · exact h.each x hx
    · rw [List.mem_singleton] at hx
      subst hx
      exact ⟨h1, h2, h3⟩
  · rw [List.map_append, List.nodup_append]
    refine ⟨h.nd, by simp, fun a ha b hb e => ?_⟩
    obtain ⟨x, hx, rfl⟩ := List.mem_map.mp ha
    rw [List.map_cons, List.map_nil, List.mem_singleton] at hb
    exact h4 x hx (e.trans hb)
/-- the dict of rows by where they bring the place -/
def rowK (pl : Nat) (prs : List PR) : List (Key × V) := prs.map fun x => (Sum.inl ((x.2 pl : Nat) : Int), x.1)
theorem rowK_val {pl z : Nat} : ∀ {prs : List PR}, (∃ x ∈ prs, x.2 pl = z ∧ valV (rowK pl prs) (Sum.inl ((z : Nat) : Int)) = some x.1) ∨ ((∀ x ∈ prs, x.2 pl ≠ z) ∧ valV (rowK pl prs) (Sum.inl ((z : Nat) : Int)) = none)
  | [] => .inr ⟨fun x hx => absurd hx List.not_mem_nil, rfl⟩
  | x :: prs => by
    by_cases e : x.2 pl = z
    · subst e
      exact .inl ⟨x, List.mem_cons_self, rfl, valV_pos rfl⟩
    · have ne : ¬ (Sum.inl ((x.2 pl : Nat) : Int) : Key) = Sum.inl ((z : Nat) : Int) := fun h => e (by have := Sum.inl.inj h; omega)
      rcases rowK_val (pl := pl) (z := z) (prs := prs) with ⟨y, hy, h1, h2⟩ | ⟨h1, h2⟩
      · exact .inl ⟨y, List.mem_cons_of_mem _ hy, h1, by unfold rowK; rw [List.map_cons, valV_neg ne]; exact h2⟩
      · refine .inr ⟨fun y hy => ?_, by unfold rowK; rw [List.map_cons, valV_neg ne]; exact h2⟩
        rcases List.mem_cons.mp hy with rfl | hy
        · exact e
        · exact h1 y hy
theorem rowK_at {K : PySem.W.Frag} {G : Hp} {n pl : Nat} {prs : List PR} (h : RW K G n pl prs) {x : PR} (hx : x ∈ prs) : valV (rowK pl prs) (Sum.inl ((x.2 pl : Nat) : Int)) = some x.1 := by
  rcases rowK_val (pl := pl) (z := x.2 pl) (prs := prs) with ⟨y, hy, h1, h2⟩ | ⟨h1, _⟩
  · have : y = x := by
      obtain ⟨j, hj⟩ := List.mem_iff_getElem?.mp hx
      obtain ⟨m, hm⟩ := List.mem_iff_getElem?.mp hy
      have e : j = m := (List.getElem?_inj (by rw [List.length_map]; exact (List.getElem?_eq_some_iff.mp hj).1) h.nd).mp (by rw [List.getElem?_map, List.getElem?_map, hj, hm]; simp only [Option.map_some, h1])
      subst e
      rw [hj] at hm
      exact (Option.some.inj hm).symm
    rw [h2, this]
  · exact absurd rfl (h1 x hx)
theorem rowK_put {pl : Nat} {prs : List PR} {v : V} {r : Nat → Nat} (h : ∀ x ∈ prs, x.2 pl ≠ r pl) : putK (rowK pl prs) (Sum.inl ((r pl : Nat) : Int)) v = rowK pl (prs ++ [(v, r)]) := by
  rw [putK_new fun m => ?_]
  · unfold rowK
    rw [List.map_append]
    rfl
  · obtain ⟨kv, hkv, e⟩ := List.mem_map.mp m
    obtain ⟨x, hx, rfl⟩ := List.mem_map.mp hkv
    exact h x hx (by have := Sum.inl.inj e; omega)
theorem remS_sub {M M' : List Addr} {G : Hp} (h : ∀ b ∈ M, b ∈ M') : Same (remS M' G) (remS M G) := fun b o z => by
  by_cases m : b ∈ M'
  · rw [remS_in m] at z; cases z
  · rw [remS_out m] at z
    rw [remS_out fun q => m (h b q)]
    exact z
theorem remS_ext {M : List Addr} {G G' : Hp} {p : Addr} (e : Same G G') (hp : G p = none) : Same (remS M G) (remS (p :: M) G') := fun b o z => by
  by_cases m : b ∈ M
  · rw [remS_in m] at z; cases z
  · rw [remS_out m] at z
    have ne : b ≠ p := ne_of_none z hp
    rw [remS_out fun q => (List.mem_cons.mp q).elim ne m]
    exact e _ _ z
/-- tables being made: a list of them, and a list of the places before -/
structure AW (K : PySem.W.Frag) (H G : Hp) (i : PenI) (M : List Addr) (l h : Addr) (B n : Nat) (xs : List V) (ts : List TB) (ks : List Int) : Prop where
  kb : Kb i.p H G
  pn : Pen G i B
  gl : G l = some (.lst xs)
  gh : G h = some (.lst (ks.map V.int))
  dd : DdAll K (remS M G) xs (ts.map (tabD n))
  gt : ∀ t ∈ ts, GT n t
theorem AW.step {K : PySem.W.Frag} {H G G' : Hp} {i : PenI} {M : List Addr} {l h : Addr} {B B' n : Nat} {xs : List V} {ts : List TB} {ks : List Int} (a : AW K H G i M l h B n xs ts ks) (e : Kb i.p G G') (p : Pen G' i B') (hM : i.p ∉ M) : AW K H G' i M l h B' n xs ts ks :=
  ⟨a.kb.trans e, p, e _ _ a.gl (a.pn.neL a.gl), e _ _ a.gh (a.pn.neL a.gh), a.dd.kb (remS_kb e) (remS_pen a.pn.o hM), a.gt⟩
def spAny (K : PySem.W.Frag) : Sp := fun vs H Q _ => ∃ (i : PenI) (B n : Nat), vs = [.ref i.p, .int (n : Int)] ∧ Pen H i B ∧ B < 2 ^ 30 ∧ n ≤ 12 ∧
  ∀ l ts H', Kb i.p H H' → Pen H' i (B + 800) → Dd K H' (.ref l) (tabsD n ts) → (∀ t ∈ ts, GT n t) → ts.length ≤ n → Q (.ref l) H'
abbrev s_law_any_tables : Stmt := top 20
abbrev N_law_any_tables : List Str := ["pen", "places", "found", "ahead", "place", "rows", "k", "row", "goal"]
theorem sc_law_any_tables : FnScope N_law_any_tables ["pen", "places"] (defScope s_law_any_tables) := ⟨rfl, rfl, rfl, by decide +kernel, rfl, by decide +kernel, by decide +kernel⟩
section
variable {P : Program} {w : World} {K : PySem.W.Frag} {mg : Str → Option Value} {base : Heap} {f : Addr} {fd : FuncData}
theorem ok_law_any_tables (F : Fun K "_law_any_tables" "_law_any_tables" s_law_any_tables f fd) (T : Bt mg) (C1 : Cg P w K mg base 1 "_law_draw" spDraw) (C2 : Cg P w K mg base 2 "_law_shuffled" (spShuf K)) (C3 : Cg P w K mg base 3 "_law_leaving" (spLeave K)) : FnG P w K mg base CX0 4 f fd ["pen", "places"] (spAny K) := by
  refine fnG0 F sc_law_any_tables (fun vs H Q E h => ?_) (fun cdv A outer s H vs Q E hr hg h => ?_)
  · obtain ⟨i, B, n, rfl, _⟩ := h
    rfl
  · obtain ⟨i, B, n, rfl, pn, hB, n12, k⟩ := h
    have nd := sc_law_any_tables.nd
    have hu0 : (A.deeper (envOfC "_law_any_tables" (defScope s_law_any_tables) s.heap.objs.size f cdv)).units + 1 < cLine := hu_of hr
    refine ⟨_, (pss_cons (ps_par (i := 2) (j := 3) (by rfl) nd rfl rfl (by decide) rfl rfl (pa_cons (pe_lst pa_nil) (pa_cons (pe_lst pa_nil) pa_nil)) (by rfl))
      (pss_cons (ps_for PassesOwn.never rfl (pi_list (pe_slice sl_list (pe_g C2 hr hg (by decide) rfl (pa_cons (pv 0) (pa_cons (pe_listRg rfl (by rfl) T.list (prg_1 (by rfl) T.range (pv 1))) pa_nil))) po_none (po_some (pe_g C1 hr hg (by decide) rfl (pa_cons (pv 0) (pa_cons (pe_op op_add (pv 1) pe_int) pa_nil)))))) (pg_name (i := 4) nd rfl (Or.inl rfl))
        (pss_cons (ps_set (i := 5) nd rfl (Or.inr rfl) (pe_disp (pps_cons (pv 4) (pe_tupRg rfl (by rfl) T.tuple (prg_1 (by rfl) T.range (pv 1))) pps_nil) (by rfl) (by rfl) (fun z => by cases z) (by decide)))
        (pss_cons (ps_for PassesOwn.never rfl (pi_range1 (by rfl) T.range (pa_cons (pe_g C1 hr hg (by decide) rfl (pa_cons (pv 0) (pa_cons pe_int pa_nil))) pa_nil)) (pg_name (i := 6) nd rfl (Or.inl rfl))
          (pss_cons (ps_set (i := 7) nd rfl (Or.inl rfl) (pe_g C3 hr hg (by decide) rfl (pa_cons (pv 0) (pa_cons (pv 1) (pa_cons (pv 3) pa_nil)))))
          (pss_one (ps_if (pt_cmp (pc_dnotin hu0 (pe_ix ix_tup (pv 7) (pv 4) (fun _ _ => rfl)) (pv 5)))
            (pss_one (ps_dput hu0 (pv 5) (pe_ix ix_tup (pv 7) (pv 4) (fun _ _ => rfl)) (pv 7) (by rfl)))
            pss_nil))))
        (pss_cons (ps_expr (pe_bm PySem.F.plainAttrs_list PySem.F.slot_list_append PySem.F.type_list_append mt_append (pv 2) (pa_cons (pe_tup (pa_cons (pv 4) (pa_cons (pe_g C2 hr hg (by decide) rfl (pa_cons (pv 0) (pa_cons (pe_lc (own := [("goal", 8)]) (g := gName 8) rfl nd (pi_list (pe_callB (call_sortedDI rfl) (by rfl) T.sorted b_sorted (pa_cons (pv 5) pa_nil))) (blkOk_by (own := [("goal", 8)]) (N := N_law_any_tables) (sc := defScope s_law_any_tables) (by decide +kernel)) (fun _ _ _ _ _ => (pg_name (i := 8) nd rfl (Or.inl rfl))) (fun _ _ _ _ _ => pts_nil) (fun _ _ _ _ _ => (pe_dget hu0 (pv 5) (pv 8) (fun _ _ => rfl)))) pa_nil))) pa_nil))) pa_nil)))
        (pss_one (ps_expr (pe_bm PySem.F.plainAttrs_list PySem.F.slot_list_append PySem.F.type_list_append mt_append (pv 3) (pa_cons (pv 4) pa_nil))))))))
      (pss_one (ps_ret (pv 2))))), ?_⟩
    refine ⟨by decide, fun l hl => ?_⟩
    refine ⟨by decide, fun h hh => ⟨_, _, rfl, ?_⟩⟩
    have hl0 : h ≠ l := fun e => by rw [e, upd_same] at hh; cases hh
    have Hh : H h = none := by rw [upd_ne hl0] at hh; exact hh
    have nl := pn.ne hl
    have nh := pn.ne Hh
    have M0 : i.p ∉ [l, h] := by
      simp only [List.mem_cons, List.not_mem_nil, or_false, not_or]
      exact ⟨nl.1.symm, nh.1.symm⟩
    have w0 : AW K H (upd (upd H l (.lst [])) h (.lst [])) i [l, h] l h B n [] [] [] :=
      ⟨(Kb.new hl).mut Hh, (pn.upd nl).upd nh, by rw [upd_ne hl0.symm, upd_same], upd_same, .nil, fun t ht => absurd ht List.not_mem_nil⟩
    generalize upd (upd H l (.lst [])) h (.lst []) = G0 at w0 ⊢
    clear hh
    have ok : RgOk 0 (n : Int) := RgOk.of_le (by decide) (by omega) (by decide) (by omega)
    refine ⟨_, rfl, _, rfl, _, rfl, ok, fun r hr2 => ?_⟩
    rw [rg_places]
    have nr := w0.pn.ne hr2
    have w1 := w0.step (kb_same (same_new (o := .lst ((places n).map V.int)) hr2)) (w0.pn.upd nr) M0
    refine ⟨i, B, r, _, rfl, w1.pn, by omega, .inl (SqL.of upd_same), by rw [List.length_map, places_len]; omega, fun q ys G1 pm hq kb1 pn1 gq => ?_⟩
    rw [List.length_map, places_len] at pn1
    have w2 := w1.step kb1 pn1 M0
    clear w1 kb1 pn1
    refine ⟨_, rfl, _, rfl, _, _, rfl, rfl, i, _, _, rfl, w2.pn, by omega, by omega, by omega, fun d G2 d0 d1 kb2 pn2 => ?_⟩
    have gq2 := kb2 _ _ gq (w2.pn.neL gq)
    have w3 := w2.step kb2 pn2 M0
    clear w2 kb2 pn2 gq
    obtain ⟨dn, rfl⟩ : ∃ dn : Nat, d = (dn : Int) := ⟨d.toNat, by omega⟩
    refine ⟨_, rfl, q, ys, rfl, SqL.of gq2, fun q2 hq2 => ?_⟩
    rw [cut_front]
    obtain ⟨kis, rfl, pk⟩ := perm_ints pm
    have nq2 := w3.pn.ne hq2
    have w4 := w3.step (kb_same (same_new (o := .lst ((kis.map V.int).take dn)) hq2)) (w3.pn.upd nq2) M0
    have g4 : (upd G2 q2 (.lst ((kis.map V.int).take dn))) q2 = some (.lst ((kis.map V.int).take dn)) := upd_same
    have many : ((kis.map V.int).take dn).length ≤ n := by
      rw [List.length_take, List.length_map, pk.length_eq, places_len]
      omega
    have each : ∀ x ∈ (kis.map V.int).take dn, ∃ pl : Nat, pl < n ∧ x = V.int (pl : Int) := fun x hx => by
      obtain ⟨z, hz, rfl⟩ := List.mem_map.mp (List.mem_of_mem_take hx)
      obtain ⟨pl, hp, rfl⟩ := List.mem_map.mp (pk.subset hz)
      exact ⟨pl, List.mem_range.mp hp, rfl⟩
    have q2l : q2 ≠ l := fun e => by rw [e, w3.gl] at hq2; cases hq2
    have q2h : q2 ≠ h := fun e => by rw [e, w3.gh] at hq2; cases hq2
    generalize upd G2 q2 (.lst ((kis.map V.int).take dn)) = G3 at w4 g4 ⊢
    generalize (kis.map V.int).take dn = items at many each g4 ⊢
    clear w3 gq2 hq2 w0
    refine ⟨q2, rfl, ⟨_, SqL.of g4⟩, ?_⟩
    refine for_list (xs := items) (fun j σ G => ∃ (y4 y5 y6 y7 y8 : Option V) (xs : List V) (ts : List TB) (ks : List Int), σ = [some (.ref i.p), some (.int (n : Int)), some (.ref l), some (.ref h), y4, y5, y6, y7, y8] ∧ AW K H G i [l, h] l h (B + 13 + j * 60) n xs ts ks ∧ G q2 = some (.lst items) ∧ ts.length = j ∧ ks.length = j)
      ⟨_, _, _, _, _, [], [], [], rfl, ⟨w4.kb, w4.pn.mono (by omega), w4.gl, w4.gh, w4.dd, w4.gt⟩, g4, rfl, rfl⟩ (fun j σ G _ z => ?_) (fun j x σ G hi z => ?_) fun σ G z => ?_
    · obtain ⟨_, _, _, _, _, _, _, _, _, _, g, _⟩ := z
      exact SqL.of g
    · obtain ⟨y4, y5, y6, y7, y8, xs, ts, ks, rfl, w, gi, tl, kl⟩ := z
      have jn : j < n := Nat.lt_of_lt_of_le (List.getElem?_eq_some_iff.mp hi).1 many
      obtain ⟨pl, hpl, rfl⟩ := each x (List.mem_of_getElem? hi)
      have xl : xs.length = j := by
        have := w.dd.length
        rw [List.length_map] at this
        omega
      clear w4 g4
      refine fun p hp => ⟨_, rfl, _, rfl, _, rfl, ok, fun t ht => ?_⟩
      rw [rg_places]
      have pt : t ≠ p := fun e => by rw [e, upd_same] at ht; cases ht
      have Gt : G t = none := by rw [upd_ne pt] at ht; exact ht
      have np := w.pn.ne hp
      have nt := w.pn.ne Gt
      refine ⟨by rw [upd_ne pt.symm, upd_same], [(Sum.inl (pl : Int), V.ref t)], rfl, (by decide : 1 ≤ 15), ?_⟩
      have e5 : Same G (upd (upd (upd G p (.dK [])) t (.tup ((places n).map V.int))) p (.dK (rowK pl [(V.ref t, id)]))) := same_mut (same_mut (same_new hp) Gt) hp
      have g5 : (upd (upd (upd G p (.dK [])) t (.tup ((places n).map V.int))) p (.dK (rowK pl [(V.ref t, id)]))) p = some (.dK (rowK pl [(V.ref t, id)])) := upd_same
      have t5 : (upd (upd (upd G p (.dK [])) t (.tup ((places n).map V.int))) p (.dK (rowK pl [(V.ref t, id)]))) t = some (.tup ((places n).map V.int)) := by rw [upd_ne pt, upd_same]
      have p5 := ((w.pn.upd (o := .dK []) np).upd (o := .tup ((places n).map V.int)) nt).upd (o := .dK (rowK pl [(V.ref t, id)])) np
      change tSeq _ _ _ _ (upd (upd (upd G p (.dK [])) t (.tup ((places n).map V.int))) p (.dK (rowK pl [(V.ref t, id)])))
      generalize upd (upd (upd G p (.dK [])) t (.tup ((places n).map V.int))) p (.dK (rowK pl [(V.ref t, id)])) = G5 at e5 g5 t5 p5 ⊢
      have M1 : i.p ∉ [p, l, h] := by
        simp only [List.mem_cons, List.not_mem_nil, or_false, not_or]
        exact ⟨np.1.symm, nl.1.symm, nh.1.symm⟩
      have w5 : AW K H G5 i [p, l, h] l h (B + 13 + j * 60) n xs ts ks := ⟨w.kb.trans (kb_same e5), p5, e5 _ _ w.gl, e5 _ _ w.gh, w.dd.same (remS_ext e5 hp), w.gt⟩
      have gi5 := e5 _ _ gi
      have rw5 : RW K G5 n pl [(V.ref t, id)] := ⟨fun x hx => by
        rw [List.mem_singleton] at hx
        subst hx
        exact ⟨isP_id n, ar_id (SqT.of t5), fun _ k _ => rfl⟩, by simp⟩
      have pH : H p = none := w.kb.free np.1 hp
      have pl0 : p ≠ l := fun e => by rw [e, w.gl] at hp; cases hp
      have ph0 : p ≠ h := fun e => by rw [e, w.gh] at hp; cases hp
      have pq0 : p ≠ q2 := fun e => by rw [e, gi] at hp; cases hp
      clear w gi hp ht Gt e5 p5
      refine ⟨_, rfl, i, 4, _, rfl, w5.pn, by omega, by decide, by decide, fun c4 G6 c0 c1 kb6 pn6 => ⟨_, rfl, by omega, by omega, ?_⟩⟩
      have w6 := w5.step kb6 pn6 M1
      have g6 := kb6 _ _ g5 np.1
      have gi6 := kb6 _ _ gi5 nq2.1
      have rw6 := rw5.tk (tk_kb kb6 w5.pn.o)
      clear w5 g5 t5 kb6 pn6 rw5 gi5
      refine for_range (n := c4.toNat) (fun m σ G => ∃ (y6 y7 : Option V) (prs : List PR), σ = [some (.ref i.p), some (.int (n : Int)), some (.ref l), some (.ref h), some (.int (pl : Int)), some (.ref p), y6, y7, y8] ∧ AW K H G i [p, l, h] l h (B + 13 + j * 60 + 1 + m * 12) n xs ts ks ∧ G p = some (.dK (rowK pl prs)) ∧ RW K G n pl prs ∧ (∃ x ∈ prs, x.2 pl = pl) ∧ G q2 = some (.lst items))
        ⟨_, _, _, rfl, ⟨w6.kb, w6.pn.mono (by omega), w6.gl, w6.gh, w6.dd, w6.gt⟩, g6, rw6, ⟨_, List.mem_singleton.mpr rfl, rfl⟩, gi6⟩ (fun m σ G hm z => ?_) (fun σ G z => ?_)
      · obtain ⟨y6, y7, prs, rfl, w, gp, rr, has, gi⟩ := z
        have hm4 : m < 4 := by omega
        refine ⟨_, rfl, _, rfl, _, rfl, i, _, n, h, ks, rfl, w.pn, by omega, n12, SqL.of w.gh, fun t7 r7 G7 kb7 pn7 g7 isP => ?_⟩
        have w7 := (w.step kb7 pn7 M1)
        have gp7 := kb7 _ _ gp np.1
        have gi7 := kb7 _ _ gi nq2.1
        have rr7 := rr.tk (tk_kb kb7 w.pn.o)
        have w8 : AW K H G7 i [p, l, h] l h (B + 13 + j * 60 + 1 + (m + 1) * 12) n xs ts ks := ⟨w7.kb, w7.pn.mono (by omega), w7.gl, w7.gh, w7.dd, w7.gt⟩
        have a7 : atI (arV r7 n) ((pl : Nat) : Int) = some (V.int ((r7 pl : Nat) : Int)) := arV_at hpl
        refine ⟨_, rfl, _, rfl, t7, _, _, _, rfl, rfl, SqT.of g7, a7, _, rfl, p, _, rfl, DGet.k gp7 (k := Sum.inl ((r7 pl : Nat) : Int)), _, rfl, ?_⟩
        rcases rowK_val (pl := pl) (z := r7 pl) (prs := prs) with ⟨x, hx, h1, h2⟩ | ⟨h1, h2⟩
        · rw [h2]
          refine iteF ?_
          exact ⟨_, _, prs, rfl, w8, gp7, rr7, has, gi7⟩
        · rw [h2]
          refine iteT ?_
          have few := rr7.len hpl
          refine ⟨_, rfl, _, rfl, _, rfl, _, rfl, t7, _, _, _, rfl, rfl, SqT.of g7, a7, p, _, rfl, DPut.k gp7 (k := Sum.inl ((r7 pl : Nat) : Int)) (by unfold rowK; rw [List.length_map]; exact Nat.lt_of_le_of_lt (by omega : prs.length ≤ 12) (by decide)), ?_⟩
          rw [rowK_put h1]
          have tk8 : Tk G7 (upd G7 p (.dK (rowK pl (prs ++ [(V.ref t7, r7)])))) := tk_dK gp7
          refine ⟨_, _, prs ++ [(V.ref t7, r7)], rfl, ⟨w8.kb.mut pH, w8.pn.upd np, by rw [upd_ne pl0.symm]; exact w8.gl, by rw [upd_ne ph0.symm]; exact w8.gh, by rw [remS_upd List.mem_cons_self]; exact w8.dd, w8.gt⟩, upd_same, (rr7.tk tk8).snoc isP ⟨t7, rfl, .inl (tk8 _ _ (.inl g7))⟩ (fun e => ?_) h1, ?_, by rw [upd_ne pq0.symm]; exact gi7⟩
          · obtain ⟨x, hx, ex⟩ := has
            exact absurd (ex.trans e.symm) (h1 x hx)
          · obtain ⟨x, hx, ex⟩ := has
            exact ⟨x, List.mem_append_left _ hx, ex⟩
      · obtain ⟨y6, y7, prs, rfl, w, gp, rr, has, gi⟩ := z
        clear w6 g6 gi6 rw6
        have few := rr.len hpl
        have c13 : (c4.toNat : Int) ≤ 3 := by omega
        refine ⟨_, rfl, .inl ⟨rfl, _, SqL.of w.gl⟩, _, rfl, _, rfl, _, rfl, p, _, prs.map (fun x => ((x.2 pl : Nat) : Int)), rfl, .inl gp, by unfold rowK; rw [List.map_map, List.map_map]; rfl, by rw [List.length_map]; omega, fun ys s1 pm1 _ hs1 => ?_⟩
        obtain ⟨pr2, pm2, rfl⟩ := map_perm pm1 rfl
        have ns1 := w.pn.ne hs1
        have l2 := pm2.length_eq
        have rr2 := rr.perm pm2
        have w7 := w.step (kb_same (same_new (o := .lst ((pr2.map fun x => ((x.2 pl : Nat) : Int)).map V.int)) hs1)) (w.pn.upd ns1) M1
        have e7 : Same G (upd G s1 (.lst ((pr2.map fun x => ((x.2 pl : Nat) : Int)).map V.int))) := same_new hs1
        have g7 : (upd G s1 (.lst ((pr2.map fun x => ((x.2 pl : Nat) : Int)).map V.int))) s1 = some (.lst ((pr2.map fun x => ((x.2 pl : Nat) : Int)).map V.int)) := upd_same
        generalize upd G s1 (.lst ((pr2.map fun x => ((x.2 pl : Nat) : Int)).map V.int)) = G7 at w7 e7 g7 ⊢
        refine ⟨s1, rfl, ⟨_, SqL.of g7⟩, fun D hD => ?_⟩
        refine comp_list (K := K) (ys := pr2.map Prod.fst) hD (SqL.of g7) (by rw [List.length_map, List.length_map, List.length_map]) (Nat.lt_of_le_of_lt (by rw [List.length_map, List.length_map]; omega : _ ≤ 12) (by decide)) (fun m x y hx hy G8 e8 Q8 hQ8 => ?_) fun G8 e8 gD => ?_
        · rw [List.getElem?_map, List.getElem?_map] at hx
          rw [List.getElem?_map] at hy
          cases hm : pr2[m]? with
          | none => rw [hm] at hx; cases hx
          | some z =>
            rw [hm] at hx hy
            obtain rfl := Option.some.inj hx
            obtain rfl := Option.some.inj hy
            have zi := pm2.subset (List.mem_of_getElem? hm)
            exact ⟨_, rfl, _, rfl, p, _, rfl, .inl ⟨_, Sum.inl ((z.2 pl : Nat) : Int), .inl (e8 _ _ (e7 _ _ gp)), rfl, (rowK_at rr zi).symm⟩, hQ8 G8 (Same.refl G8)⟩
        · have w8 := w7.step (kb_same e8) (w7.pn.same e8) M1
          refine ⟨i, _, D, _, rfl, w8.pn, by omega, .inl (SqL.of gD), by rw [List.length_map]; omega, fun l5 ys5 G9 pm5 h5 kb9 pn9 g9 => ?_⟩
          obtain ⟨pr3, pm3, rfl⟩ := map_perm pm5 rfl
          have w9 := w8.step kb9 pn9 M1
          have n5 := w8.pn.ne h5
          have p8 : G8 p = some (.dK (rowK pl prs)) := e8 _ _ (e7 _ _ gp)
          have i8 : G8 q2 = some (.lst items) := e8 _ _ (e7 _ _ gi)
          have l5l : l5 ≠ l := fun e => by rw [e, w8.gl] at h5; cases h5
          have l5h : l5 ≠ h := fun e => by rw [e, w8.gh] at h5; cases h5
          have l5p : l5 ≠ p := fun e => by rw [e, p8] at h5; cases h5
          have i9 := kb9 _ _ i8 nq2.1
          have rr9 := ((rr2.perm pm3).tk (Same.tk (e7.trans e8))).tk (tk_kb kb9 w8.pn.o)
          have has9 : ∃ x ∈ pr3, x.2 pl = pl := by
            obtain ⟨x, hx, ex⟩ := has
            exact ⟨x, pm3.symm.subset (pm2.symm.subset hx), ex⟩
          refine ⟨(show 2 ≤ sizeLine by decide), fun t9 ht9 => ?_⟩
          have nt9 := w9.pn.ne ht9
          have e10 : Same G9 (upd G9 t9 (.tup [.int (pl : Int), .ref l5])) := same_new ht9
          have w10 := w9.step (kb_same e10) (w9.pn.upd nt9) M1
          have t10 : (upd G9 t9 (.tup [.int (pl : Int), .ref l5])) t9 = some (.tup [.int (pl : Int), .ref l5]) := upd_same
          have i10 := e10 _ _ i9
          have g10 := e10 _ _ g9
          have rr10 := rr9.tk (Same.tk e10)
          have t9l : t9 ≠ l := fun e => by rw [e, w9.gl] at ht9; cases ht9
          have t9h : t9 ≠ h := fun e => by rw [e, w9.gh] at ht9; cases ht9
          generalize upd G9 t9 (.tup [.int (pl : Int), .ref l5]) = G10 at w10 t10 i10 g10 rr10 ⊢
          refine ⟨l, xs, _, rfl, rfl, w10.gl, Nat.lt_of_le_of_lt (by omega : xs.length ≤ 12) (by decide), ?_⟩
          have gh11 : (upd G10 l (.lst (xs ++ [.ref t9]))) h = some (.lst (ks.map V.int)) := by rw [upd_ne hl0]; exact w10.gh
          refine ⟨_, rfl, .inl ⟨rfl, _, SqL.of gh11⟩, _, rfl, h, _, _, rfl, rfl, gh11, Nat.lt_of_le_of_lt (by rw [List.length_map]; omega : _ ≤ 12) (by decide), ?_⟩
          refine ⟨_, _, _, _, _, xs ++ [.ref t9], ts ++ [(pl, pr3.map Prod.snd)], ks ++ [(pl : Int)], rfl, ⟨(w10.kb.mut hl).mut Hh, (((w10.pn.upd nl).upd nh).mono ?_), by rw [upd_ne hl0.symm, upd_same], ?_, ?_, fun t ht => ?_⟩, ?_, by rw [List.length_append, tl]; rfl, by rw [List.length_append, kl]; rfl⟩
          · rw [List.length_map] 
            have := pm3.length_eq
            omega
          · rw [upd_same, List.map_append]
            rfl
          · rw [remS_upd (by simp), remS_upd (by simp), List.map_append]
            have lists : ∀ b ∈ [l, h], ∃ xs, G10 b = some (.lst xs) := fun b hb => by
              simp only [List.mem_cons, List.not_mem_nil, or_false] at hb
              rcases hb with rfl | rfl
              · exact ⟨_, w10.gl⟩
              · exact ⟨_, w10.gh⟩
            have s9 : SqT K (remS [l, h] G10) t9 [.int (pl : Int), .ref l5] := SqT.of (by rw [remS_out (by simp only [List.mem_cons, List.not_mem_nil, or_false, not_or]; exact ⟨t9l, t9h⟩)]; exact t10)
            have s5 : SqL K (remS [l, h] G10) l5 (pr3.map Prod.fst) := SqL.of (by rw [remS_out (by simp only [List.mem_cons, List.not_mem_nil, or_false, not_or]; exact ⟨l5l, l5h⟩)]; exact g10)
            exact (w10.dd.same (remS_sub fun b hb => List.mem_cons_of_mem _ hb)).append (.cons (.tup s9 (.cons (.int _) (.cons (.lst s5 (rr10.tk (tk_remS lists)).dd) .nil))) .nil)
          · rcases List.mem_append.mp ht with ht | ht
            · exact w10.gt t ht
            · rw [List.mem_singleton] at ht
              subst ht
              exact rr10.gt hpl has9
          · rw [upd_ne q2h, upd_ne q2l]
            exact i10
    · obtain ⟨_, _, _, _, _, xs, ts, ks, rfl, w, gi, tl, kl⟩ := z
      refine ⟨_, rfl, k l ts G w.kb (w.pn.mono ?_) (.lst (SqL.of w.gl) (w.dd.same remS_le)) w.gt (by omega)⟩
      have : items.length * 60 ≤ 12 * 60 := Nat.mul_le_mul_right _ (by omega)
      omega
end
/-- arrangements, the one that moves nothing among them -/
structure PRS (K : PySem.W.Frag) (G : Hp) (n : Nat) (prs : List PR) : Prop where
  each : ∀ x ∈ prs, IsP n x.2 ∧ Ar K G x.1 n x.2
  home : ∃ x ∈ prs, ∀ k, k < n → x.2 k = k
theorem prs_all {K : PySem.W.Frag} {G : Hp} {n : Nat} : ∀ {xs : List V}, (∀ x ∈ xs, ∃ p, IsP n p ∧ Ar K G x n p) → ∃ prs : List PR, xs = prs.map Prod.fst ∧ ∀ x ∈ prs, IsP n x.2 ∧ Ar K G x.1 n x.2
  | [], _ => ⟨[], rfl, fun x hx => absurd hx List.not_mem_nil⟩
  | x :: xs, h => by
    obtain ⟨p, h1, h2⟩ := h x List.mem_cons_self
    obtain ⟨prs, rfl, h3⟩ := prs_all fun y hy => h y (List.mem_cons_of_mem _ hy)
    refine ⟨(x, p) :: prs, rfl, fun y hy => ?_⟩
    rcases List.mem_cons.mp hy with rfl | hy
    · exact ⟨h1, h2⟩
    · exact h3 y hy
theorem grp_prs {K : PySem.W.Frag} {G : Hp} {n : Nat} : ∀ {xs : List V}, Grp K G n xs → ∃ prs : List PR, xs = prs.map Prod.fst ∧ PRS K G n prs
  | [], h => by
    obtain ⟨x, hx, _⟩ := h.2
    exact absurd hx List.not_mem_nil
  | x :: xs, h => by
    obtain ⟨p, h1, h2⟩ := h.1 x List.mem_cons_self
    obtain ⟨y, hy, ay⟩ := h.2
    rcases List.mem_cons.mp hy with rfl | hy
    · obtain ⟨prs, rfl, h3⟩ := prs_all fun z hz => h.1 z (List.mem_cons_of_mem _ hz)
      refine ⟨(y, id) :: prs, rfl, fun z hz => ?_, _, List.mem_cons_self, fun k _ => rfl⟩
      rcases List.mem_cons.mp hz with rfl | hz
      · exact ⟨isP_id n, ay⟩
      · exact h3 z hz
    · obtain ⟨prs, rfl, h3⟩ := grp_prs (xs := xs) ⟨fun z hz => h.1 z (List.mem_cons_of_mem _ hz), y, hy, ay⟩
      refine ⟨(x, p) :: prs, rfl, fun z hz => ?_, ?_⟩
      · rcases List.mem_cons.mp hz with rfl | hz
        · exact ⟨h1, h2⟩
        · exact h3.each z hz
      · obtain ⟨z, hz, ez⟩ := h3.home
        exact ⟨z, List.mem_cons_of_mem _ hz, ez⟩
theorem PRS.tk {K : PySem.W.Frag} {H G : Hp} {n : Nat} {prs : List PR} (h : PRS K H n prs) (e : Tk H G) : PRS K G n prs := ⟨fun x hx => ⟨(h.each x hx).1, (h.each x hx).2.tk e⟩, h.home⟩
structure BW (K : PySem.W.Frag) (H G : Hp) (i : PenI) (M : List Addr) (l : Addr) (B n : Nat) (xs : List V) (ts : List TB) : Prop where
  kb : Kb i.p H G
  pn : Pen G i B
  gl : G l = some (.lst xs)
  dd : DdAll K (remS M G) xs (ts.map (tabD n))
  gt : ∀ t ∈ ts, GT n t
theorem BW.step {K : PySem.W.Frag} {H G G' : Hp} {i : PenI} {M : List Addr} {l : Addr} {B B' n : Nat} {xs : List V} {ts : List TB} (a : BW K H G i M l B n xs ts) (e : Kb i.p G G') (p : Pen G' i B') (hM : i.p ∉ M) : BW K H G' i M l B' n xs ts :=
  ⟨a.kb.trans e, p, e _ _ a.gl (a.pn.neL a.gl), a.dd.kb (remS_kb e) (remS_pen a.pn.o hM), a.gt⟩
def spBy (K : PySem.W.Frag) : Sp := fun vs H Q _ => ∃ (i : PenI) (B n : Nat) (g o : Addr) (gs : List V) (kis : List Int), vs = [.ref i.p, .ref g, .ref o] ∧ Pen H i B ∧ B < 2 ^ 30 ∧ n ≤ 12 ∧ SqL K H g gs ∧ gs.length ≤ 256 ∧ Grp K H n gs ∧ SqL K H o (kis.map V.int) ∧ kis.Perm (places n) ∧
  ∀ l ts H', Kb i.p H H' → Pen H' i (B + 800) → Dd K H' (.ref l) (tabsD n ts) → (∀ t ∈ ts, GT n t) → ts.length ≤ n → Q (.ref l) H'
abbrev s_law_tables_by : Stmt := top 18
abbrev N_law_tables_by : List Str := ["pen", "group", "order", "found", "left", "place", "rows", "goal", "some", "one"]
theorem sc_law_tables_by : FnScope N_law_tables_by ["pen", "group", "order"] (defScope s_law_tables_by) := ⟨rfl, rfl, rfl, by decide +kernel, rfl, by decide +kernel, by decide +kernel⟩
section
variable {P : Program} {w : World} {K : PySem.W.Frag} {mg : Str → Option Value} {base : Heap} {f : Addr} {fd : FuncData}
theorem ok_law_tables_by (F : Fun K "_law_tables_by" "_law_tables_by" s_law_tables_by f fd) (T : Bt mg) (C2 : Cg P w K mg base 2 "_law_shuffled" (spShuf K)) (C3 : Cg P w K mg base 2 "_law_pick" (spPickA K)) : FnG P w K mg base CX0 3 f fd ["pen", "group", "order"] (spBy K) := by
  refine fnG0 F sc_law_tables_by (fun vs H Q E h => ?_) (fun cdv A outer s H vs Q E hr hg h => ?_)
  · obtain ⟨i, B, n, g, o, gs, kis, rfl, _⟩ := h
    rfl
  · obtain ⟨i, B, n, g, o, gs, kis, rfl, pn, hB, n12, hgs, gsl, grp, ho, pk, k⟩ := h
    have nd := sc_law_tables_by.nd
    refine ⟨_, (pss_cons (ps_par (i := 3) (j := 4) (by rfl) nd rfl rfl (by decide) rfl rfl (pa_cons (pe_lst pa_nil) (pa_cons (pe_callTy call_list_of (by rfl) T.list b_list (pa_cons (pv 1) pa_nil)) pa_nil)) (by rfl))
      (pss_cons (ps_for PassesOwn.never rfl (pi_list (pv 2)) (pg_name (i := 5) nd rfl (Or.inr rfl))
        (pss_cons (ps_set (i := 6) nd rfl (Or.inl rfl) (pe_lst pa_nil))
        (pss_cons (ps_for PassesOwn.never rfl (pi_list (pe_callB (cr_sortedSet rfl) (by rfl) T.sorted b_sorted (pa_cons (pe_callTy (cr_setLI rfl) (by rfl) T.set b_set (pa_cons (pe_lc (own := [("one", 9)]) (g := gName 9) rfl nd (pi_list (pv 4)) (blkOk_by (own := [("one", 9)]) (N := N_law_tables_by) (sc := defScope s_law_tables_by) (by decide +kernel)) (fun _ _ _ _ _ => (pg_name (i := 9) nd rfl (Or.inl rfl))) (fun _ _ _ _ _ => pts_nil) (fun _ _ _ _ _ => (pe_ix (r := rIxT K) ix_tup (pv 9) (pv 5) (fun _ _ => rfl)))) pa_nil)) pa_nil))) (pg_name (i := 7) nd rfl (Or.inr rfl))
          (pss_cons (ps_setLc (i := 8) rfl nd rfl rfl (sw_true rfl rfl rfl (by decide +kernel)) (own := [("one", 9)]) (g := gName 9) (pi_list (pv 4)) (blkOk_by (own := [("one", 9)]) (N := N_law_tables_by) (sc := defScope s_law_tables_by) (by decide +kernel)) (fun _ _ _ _ _ => (pg_name (i := 9) nd rfl (Or.inl rfl))) (fun _ _ _ _ _ => (pts_one (pt_cmpR op_eq (pe_ix (r := rIxT K) ix_tup (pv 9) (pv 5) (fun _ _ => rfl)) (pv 7) (nomark _)))) (fun _ _ _ _ _ => (pv 9)))
          (pss_one (ps_expr (pe_bm PySem.F.plainAttrs_list PySem.F.slot_list_append PySem.F.type_list_append mt_append (pv 6) (pa_cons (pe_ifExp (pt_cmpR op_eq (pv 7) (pv 5) (nomark _)) (pe_tupRg rfl (by rfl) T.tuple (prg_1 (by rfl) T.range (pe_callB call_len_seq (by rfl) T.len b_len (pa_cons (pv 2) pa_nil)))) (pe_g C3 hr hg (by decide) rfl (pa_cons (pv 0) (pa_cons (pv 8) pa_nil)))) pa_nil))))))
        (pss_cons (ps_expr (pe_bm PySem.F.plainAttrs_list PySem.F.slot_list_append PySem.F.type_list_append mt_append (pv 3) (pa_cons (pe_tup (pa_cons (pv 5) (pa_cons (pe_g C2 hr hg (by decide) rfl (pa_cons (pv 0) (pa_cons (pv 6) pa_nil))) pa_nil))) pa_nil)))
        (pss_one (ps_setLc (i := 4) rfl nd rfl rfl (sw_true rfl rfl rfl (by decide +kernel)) (own := [("one", 9)]) (g := gName 9) (pi_list (pv 4)) (blkOk_by (own := [("one", 9)]) (N := N_law_tables_by) (sc := defScope s_law_tables_by) (by decide +kernel)) (fun _ _ _ _ _ => (pg_name (i := 9) nd rfl (Or.inl rfl))) (fun _ _ _ _ _ => (pts_one (pt_cmpR op_eq (pe_ix (r := rIxT K) ix_tup (pv 9) (pv 5) (fun _ _ => rfl)) (pv 5) (nomark _)))) (fun _ _ _ _ _ => (pv 9))))))))
      (pss_one (ps_ret (pv 3))))), ?_⟩
    have kl : kis.length = n := by rw [pk.length_eq, places_len]
    obtain ⟨prs0, rfl, P0⟩ := grp_prs grp
    rw [List.length_map] at gsl
    refine ⟨by decide, fun l hl => ?_⟩
    have nl := pn.ne hl
    have e0 : Same H (upd H l (.lst [])) := same_new hl
    refine ⟨_, rfl, g, _, rfl, .inl (sql_same e0 hgs), fun lf hlf => ⟨_, _, rfl, ?_⟩⟩
    have lfl : lf ≠ l := fun e => by rw [e, upd_same] at hlf; cases hlf
    have Hlf : H lf = none := by rw [upd_ne lfl] at hlf; exact hlf
    have nlf := pn.ne Hlf
    have M0 : i.p ∉ [l] := by
      simp only [List.mem_cons, List.not_mem_nil, or_false]
      exact nl.1.symm
    have w0 : BW K H (upd (upd H l (.lst [])) lf (.lst (prs0.map Prod.fst))) i [l] l B n [] [] :=
      ⟨(Kb.new hl).mut Hlf, (pn.upd nl).upd nlf, by rw [upd_ne lfl.symm, upd_same], .nil, fun t ht => absurd ht List.not_mem_nil⟩
    have P1 : PRS K (upd (upd H l (.lst [])) lf (.lst (prs0.map Prod.fst))) n prs0 := P0.tk (Same.tk (same_mut e0 Hlf))
    have glf : (upd (upd H l (.lst [])) lf (.lst (prs0.map Prod.fst))) lf = some (.lst (prs0.map Prod.fst)) := upd_same
    generalize upd (upd H l (.lst [])) lf (.lst (prs0.map Prod.fst)) = G0 at w0 P1 glf ⊢
    have ok : RgOk 0 (n : Int) := RgOk.of_le (by decide) (by omega) (by decide) (by omega)
    refine ⟨_, rfl, o, rfl, ⟨_, sql_kb w0.kb pn.o ho⟩, ?_⟩
    refine for_list (xs := kis.map V.int) (fun j σ G => ∃ (lf : Addr) (y5 y6 y7 y8 y9 : Option V) (xs : List V) (ts : List TB) (prs : List PR), σ = [some (.ref i.p), some (.ref g), some (.ref o), some (.ref l), some (.ref lf), y5, y6, y7, y8, y9] ∧ BW K H G i [l] l (B + j * 60) n xs ts ∧
        G lf = some (.lst (prs.map Prod.fst)) ∧ PRS K G n prs ∧ prs.length ≤ 256 ∧ lf ≠ l ∧ ts.length = j)
      ⟨lf, _, _, _, _, _, [], [], prs0, rfl, ⟨w0.kb, w0.pn.mono (by omega), w0.gl, w0.dd, w0.gt⟩, glf, P1, gsl, lfl, rfl⟩ (fun j σ G _ z => ?_) (fun j x σ G hi z => ?_) fun σ G z => ?_
    · obtain ⟨_, _, _, _, _, _, _, _, _, _, wk, _⟩ := z
      exact sql_kb wk.kb pn.o ho
    · obtain ⟨lf, y5, y6, y7, y8, y9, xs, ts, prs, rfl, wk, glf, P, pl256, lfl, tl⟩ := z
      clear w0 P1 hlf Hlf nlf e0
      have jn : j < n := by
        have := (List.getElem?_eq_some_iff.mp hi).1
        rwa [List.length_map, kl] at this
      obtain ⟨pl, hpl, rfl⟩ : ∃ pl : Nat, pl < n ∧ x = V.int (pl : Int) := by
        obtain ⟨z, hz, rfl⟩ := List.mem_map.mp (List.mem_of_getElem? hi)
        obtain ⟨pl, hp, rfl⟩ := List.mem_map.mp (pk.subset hz)
        exact ⟨pl, List.mem_range.mp hp, rfl⟩
      have xl : xs.length = j := by
        have := wk.dd.length
        rw [List.length_map] at this
        omega
      refine ⟨by decide, fun rw' hrw => ?_⟩
      have nrw := wk.pn.ne hrw
      have rwH : H rw' = none := wk.kb.free nrw.1 hrw
      have rwl : rw' ≠ l := fun e => by rw [e, wk.gl] at hrw; cases hrw
      have rwlf : rw' ≠ lf := fun e => by rw [e, glf] at hrw; cases hrw
      have M1 : i.p ∉ [rw', l] := by
        simp only [List.mem_cons, List.not_mem_nil, or_false, not_or]
        exact ⟨nrw.1.symm, nl.1.symm⟩
      have e1 : Same G (upd G rw' (.lst [])) := same_new hrw
      have w1 : BW K H (upd G rw' (.lst [])) i [rw', l] l (B + j * 60) n xs ts := ⟨wk.kb.trans (kb_same e1), wk.pn.upd nrw, e1 _ _ wk.gl, wk.dd.same (remS_ext e1 hrw), wk.gt⟩
      have g1 : (upd G rw' (.lst [])) rw' = some (.lst []) := upd_same
      change tSeq _ _ _ _ (upd G rw' (.lst []))
      generalize upd G rw' (.lst []) = G1 at e1 w1 g1 ⊢
      have glf1 := e1 _ _ glf
      have P1 := P.tk (Same.tk e1)
      clear wk glf P e1 hrw
      refine ⟨_, rfl, lf, rfl, ⟨_, SqL.of glf1⟩, fun D hD => ?_⟩
      refine comp_list (K := K) (ys := (prs.map fun x => ((x.2 pl : Nat) : Int)).map V.int) hD (SqL.of glf1) (by rw [List.length_map, List.length_map, List.length_map]) (Nat.lt_of_le_of_lt (by rw [List.length_map]; exact pl256) (by decide)) (fun m x y hx hy G2 e2 Q2 hQ2 => ?_) fun G2 e2 gD => ?_
      · rw [List.getElem?_map] at hx
        rw [List.getElem?_map, List.getElem?_map] at hy
        cases hm : prs[m]? with
        | none => rw [hm] at hx; cases hx
        | some z =>
          rw [hm] at hx hy
          obtain rfl := Option.some.inj hx
          obtain rfl := Option.some.inj hy
          obtain ⟨a, ea, sa⟩ := (P1.each z (List.mem_of_getElem? hm)).2.same e2
          exact ⟨_, rfl, _, rfl, a, _, _, _, ea, rfl, sa, arV_at hpl, hQ2 G2 (Same.refl G2)⟩
      · have inn : ∀ k : Int, k ∈ (prs.map fun x => ((x.2 pl : Nat) : Int)) → ∃ x ∈ prs, k = ((x.2 pl : Nat) : Int) := fun k hk => by
          obtain ⟨x, hx, rfl⟩ := List.mem_map.mp hk
          exact ⟨x, hx, rfl⟩
        refine ⟨D, _, rfl, SqL.of gD, by rw [List.length_map]; omega, fun sp ms msn msm hsp => ?_⟩
        have few : ms.length ≤ n := by
          have := msn.length_le_of_subset (l₂ := places n) fun k hk => by
            obtain ⟨x, hx, rfl⟩ := inn k ((msm k).mp hk)
            exact List.mem_map.mpr ⟨x.2 pl, List.mem_range.mpr ((P1.each x hx).1.lt _ hpl), rfl⟩
          rwa [places_len] at this
        refine ⟨sp, _, _, rfl, upd_same, by omega, fun ns2 p2 pw mem ln2 hp2 => ?_⟩
        have mem2 : ∀ k : Int, k ∈ ns2 ↔ ∃ x ∈ prs, k = ((x.2 pl : Nat) : Int) := fun k => by
          rw [mem k, decide_eq_true_eq]
          exact ⟨inn k, fun ⟨x, hx, e⟩ => e ▸ List.mem_map.mpr ⟨x, hx, rfl⟩⟩
        have nd2 : ns2.Nodup := pw.imp fun h e => by omega
        have len2 : ns2.length ≤ n := by omega
        have p20 : G1 p2 = none := (e2.trans (same_new hsp)).free hp2
        obtain ⟨G3, eG3, e31, g3⟩ := new_ex (o := .lst (ns2.map V.int)) hp2
        have e3 : Same G2 G3 := (same_new hsp).trans e31
        rw [← eG3]
        clear eG3 e31
        have e13 := e2.trans e3
        have p2rw : p2 ≠ rw' := fun e => by rw [e, g1] at p20; cases p20
        have p2l : p2 ≠ l := fun e => by rw [e, w1.gl] at p20; cases p20
        have wk3 := w1.step (kb_same e13) (w1.pn.same e13) M1
        have glf3 := e13 _ _ glf1
        have P3 := P1.tk (Same.tk e13)
        have grw3 := e13 _ _ g1
        clear w1 glf1 P1 g1 e13 e3 e2 gD hD hsp hp2 mem msm msn inn few ln2
        refine ⟨p2, rfl, ⟨_, SqL.of g3⟩, ?_⟩
        refine for_list (xs := ns2.map V.int) (fun m σ G => ∃ (z7 z8 z9 : Option V) (rps : List PR), σ = [some (.ref i.p), some (.ref g), some (.ref o), some (.ref l), some (.ref lf), some (.int (pl : Int)), some (.ref rw'), z7, z8, z9] ∧ BW K H G i [rw', l] l (B + j * 60 + m) n xs ts ∧
            G lf = some (.lst (prs.map Prod.fst)) ∧ PRS K G n prs ∧ G rw' = some (.lst (rps.map Prod.fst)) ∧ RW K G n pl rps ∧ (rps.map fun x => ((x.2 pl : Nat) : Int)) = ns2.take m ∧ G p2 = some (.lst (ns2.map V.int)))
          ⟨_, _, _, [], rfl, wk3, glf3, P3, grw3, ⟨fun x hx => absurd hx List.not_mem_nil, by simp⟩, rfl, g3⟩ (fun m σ G _ z => ?_) (fun m x σ G hi z => ?_) fun σ G z => ?_
        · obtain ⟨_, _, _, _, _, _, _, _, _, _, _, g⟩ := z
          exact SqL.of g
        · obtain ⟨z7, z8, z9, rps, rfl, wk, glf, P, grw, rr, keys, gp2⟩ := z
          have mn : m < n := by
            have := (List.getElem?_eq_some_iff.mp hi).1
            rw [List.length_map] at this
            omega
          rw [List.getElem?_map] at hi
          obtain ⟨zz, hz, rfl⟩ := Option.map_eq_some_iff.mp hi
          obtain ⟨pr0, hpr0, rfl⟩ := (mem2 zz).mp (List.mem_of_getElem? hz)
          generalize egl : pr0.2 pl = gl at hz ⊢
          have tk1 : ns2.take (m + 1) = ns2.take m ++ [(gl : Int)] := (take_snoc hz).symm
          have fresh : ∀ x ∈ rps, x.2 pl ≠ gl := fun x hx e => by
            have h1 : (gl : Int) ∈ ns2.take m := by
              rw [← keys]
              exact List.mem_map.mpr ⟨x, hx, by rw [e]⟩
            obtain ⟨m2, hm2⟩ := List.mem_iff_getElem?.mp h1
            have m2m := (List.getElem?_eq_some_iff.mp hm2).1
            rw [List.length_take] at m2m
            rw [List.getElem?_take_of_lt (by omega)] at hm2
            have := (List.getElem?_inj (List.getElem?_eq_some_iff.mp hm2).1 nd2).mp (hm2.trans hz.symm)
            omega
          refine ⟨_, rfl, lf, rfl, ⟨_, SqL.of glf⟩, fun D hD => ?_⟩
          refine comp_listT (K := K) (ys := prs.map Prod.fst) (bs := prs.map fun x => x.2 pl == gl) hD (SqL.of glf) rfl (by rw [List.length_map, List.length_map]) (Nat.lt_of_le_of_lt (by rw [List.length_map]; exact pl256) (by decide)) (fun m2 x b hx hb G2 e2 Q2 hQ2 => ?_) (fun m2 x y hx hy G2 e2 Q2 hQ2 => ?_) fun G2 e2 gD => ?_
          · rw [List.getElem?_map] at hx hb
            cases hm : prs[m2]? with
            | none => rw [hm] at hx; cases hx
            | some z =>
              rw [hm] at hx hb
              obtain rfl := Option.some.inj hx
              obtain rfl := Option.some.inj hb
              obtain ⟨a, ea, sa⟩ := (P.each z (List.mem_of_getElem? hm)).2.same e2
              refine ⟨_, rfl, _, rfl, a, _, _, _, ea, rfl, sa, arV_at hpl, _, rfl, rfl, _, rfl, ?_⟩
              have e9 : decide (V.int ((z.2 pl : Nat) : Int) = V.int (gl : Int)) = (z.2 pl == gl) := by
                rw [Bool.eq_iff_iff, decide_eq_true_eq, beq_iff_eq, V.int.injEq]
                omega
              rw [e9]
              exact hQ2 G2 (Same.refl G2)
          · rw [hx] at hy
            obtain rfl := Option.some.inj hy
            exact ⟨_, rfl, hQ2 G2 (Same.refl G2)⟩
          · rw [kept_filter Prod.fst fun x : PR => x.2 pl == gl] at gD
            have wk4 := wk.step (kb_same e2) (wk.pn.same e2) M1
            have glf4 := e2 _ _ glf
            have P4 := P.tk (Same.tk e2)
            have grw4 := e2 _ _ grw
            have rr4 := rr.tk (Same.tk e2)
            have gp4 := e2 _ _ gp2
            clear wk glf P grw rr gp2 hD
            have rfew := rr4.len hpl
            refine ⟨_, rfl, .inl ⟨rfl, _, SqL.of grw4⟩, ?_⟩
            have fin : ∀ (G5 : Hp) (v : V) (r : Nat → Nat), Kb i.p G2 G5 → Pen G5 i (B + j * 60 + m + 1) → IsP n r → Ar K G5 v n r → r pl = gl → (r pl = pl → ∀ k, k < n → r k = k) →
                ∃ (a7 a8 a9 : Option V) (rps' : List PR), [some (V.ref i.p), some (V.ref g), some (V.ref o), some (V.ref l), some (V.ref lf), some (V.int (pl : Int)), some (V.ref rw'), some (V.int (gl : Int)), some (V.ref D), z9] = [some (V.ref i.p), some (V.ref g), some (V.ref o), some (V.ref l), some (V.ref lf), some (V.int (pl : Int)), some (V.ref rw'), a7, a8, a9] ∧
                  BW K H (upd G5 rw' (.lst (rps.map Prod.fst ++ [v]))) i [rw', l] l (B + j * 60 + (m + 1)) n xs ts ∧ (upd G5 rw' (.lst (rps.map Prod.fst ++ [v]))) lf = some (.lst (prs.map Prod.fst)) ∧ PRS K (upd G5 rw' (.lst (rps.map Prod.fst ++ [v]))) n prs ∧
                  (upd G5 rw' (.lst (rps.map Prod.fst ++ [v]))) rw' = some (.lst (rps'.map Prod.fst)) ∧ RW K (upd G5 rw' (.lst (rps.map Prod.fst ++ [v]))) n pl rps' ∧ (rps'.map fun x => ((x.2 pl : Nat) : Int)) = ns2.take (m + 1) ∧ (upd G5 rw' (.lst (rps.map Prod.fst ++ [v]))) p2 = some (.lst (ns2.map V.int)) := fun G5 v r kb pn5 hr av er h3 => by
              have wk5 := wk4.step kb pn5 M1
              have g5 := kb _ _ grw4 nrw.1
              have tk5 : Tk G5 (upd G5 rw' (.lst (rps.map Prod.fst ++ [v]))) := tk_lst g5
              have tk4 := (tk_kb kb wk4.pn.o).trans tk5
              refine ⟨_, _, _, rps ++ [(v, r)], rfl, ⟨wk5.kb.mut rwH, wk5.pn.upd nrw, by rw [upd_ne rwl.symm]; exact wk5.gl, by rw [remS_upd List.mem_cons_self]; exact wk5.dd, wk5.gt⟩, by rw [upd_ne rwlf.symm]; exact kb _ _ glf4 (wk4.pn.neL glf4), P4.tk tk4, by rw [upd_same, List.map_append]; rfl,
                (rr4.tk tk4).snoc hr (av.tk tk5) h3 (by rw [er]; exact fresh), ?_, by rw [upd_ne p2rw]; exact kb _ _ gp4 (wk4.pn.neL gp4)⟩
              rw [List.map_append, keys, tk1]
              show _ ++ [((r pl : Nat) : Int)] = _
              rw [er]
            refine ⟨_, rfl, _, rfl, rfl, _, rfl, ?_⟩
            by_cases eg : gl = pl
            · refine iteT' (by simp only [V.int.injEq, decide_eq_true_eq]; omega) ?_
              refine ⟨_, rfl, o, _, rfl, .inl (sql_kb wk4.kb pn.o ho), _, rfl, by rw [List.length_map, kl]; exact ok, fun t ht => ?_⟩
              rw [List.length_map, kl, rg_places]
              have nt := wk4.pn.ne ht
              have tr : rw' ≠ t := ne_of_none grw4 ht
              refine ⟨rw', _, V.ref t, rfl, rfl, by rw [upd_ne tr]; exact grw4, Nat.lt_of_le_of_lt (by rw [List.length_map]; omega : _ ≤ 12) (by decide), ?_⟩
              exact fin _ (.ref t) id (kb_same (same_new ht)) ((wk4.pn.upd nt).mono (by omega)) (isP_id n) (ar_id (SqT.of upd_same)) eg.symm fun _ k _ => rfl
            · refine iteF' (by simp only [V.int.injEq, decide_eq_false_iff_not]; omega) ?_
              have pos : 0 < (prs.filter fun x : PR => x.2 pl == gl).length := List.length_pos_of_mem (List.mem_filter.mpr ⟨hpr0, by rw [egl]; exact beq_self_eq_true gl⟩)
              have le := List.length_filter_le (fun x : PR => x.2 pl == gl) prs
              refine ⟨_, rfl, _, rfl, .inl ⟨i, _, D, _, rfl, wk4.pn, by omega, .inl (SqL.of gD), by rw [List.length_map]; exact pos, by rw [List.length_map]; omega, fun y G5 hy kb5 pn5 => ?_⟩⟩
              obtain ⟨x, hx, rfl⟩ := List.mem_map.mp hy
              obtain ⟨hx1, hx2⟩ := List.mem_filter.mp hx
              have ex : x.2 pl = gl := eq_of_beq hx2
              obtain ⟨px, ax⟩ := P4.each x hx1
              refine ⟨rw', _, x.1, rfl, rfl, kb5 _ _ grw4 nrw.1, Nat.lt_of_le_of_lt (by rw [List.length_map]; omega : _ ≤ 12) (by decide), ?_⟩
              exact fin G5 x.1 x.2 kb5 (pn5.mono (by omega)) px (ax.tk (tk_kb kb5 wk4.pn.o)) ex fun e => absurd (ex.symm.trans e) eg
        · obtain ⟨z7, z8, z9, rps, rfl, wk, glf, P, grw, rr, keys, gp2⟩ := z
          clear wk3 glf3 P3 grw3 g3
          rw [List.length_map, List.take_length] at keys
          rw [List.length_map] at wk
          have rfew := rr.len hpl
          have has : ∃ x ∈ rps, x.2 pl = pl := by
            obtain ⟨x, hx, ex⟩ := P.home
            have : ((pl : Nat) : Int) ∈ ns2 := (mem2 _).mpr ⟨x, hx, by rw [ex pl hpl]⟩
            rw [← keys] at this
            obtain ⟨y, hy, ey⟩ := List.mem_map.mp this
            exact ⟨y, hy, by omega⟩
          refine ⟨_, rfl, .inl ⟨rfl, _, SqL.of wk.gl⟩, _, rfl, _, rfl, _, rfl, i, _, rw', _, rfl, wk.pn, by omega, .inl (SqL.of grw), by rw [List.length_map]; omega, fun l5 ys5 G9 pm5 h5 kb9 pn9 g9 => ?_⟩
          obtain ⟨pr3, pm3, rfl⟩ := map_perm pm5 rfl
          have w9 := wk.step kb9 pn9 M1
          have n5 := wk.pn.ne h5
          have l5l : l5 ≠ l := fun e => by rw [e, wk.gl] at h5; cases h5
          have glf9 := kb9 _ _ glf (wk.pn.neL glf)
          have rr9 := (rr.perm pm3).tk (tk_kb kb9 wk.pn.o)
          have P9 := P.tk (tk_kb kb9 wk.pn.o)
          have has9 : ∃ x ∈ pr3, x.2 pl = pl := by
            obtain ⟨x, hx, ex⟩ := has
            exact ⟨x, pm3.symm.subset hx, ex⟩
          refine ⟨(show 2 ≤ sizeLine by decide), fun t9 ht9 => ?_⟩
          have nt9 := w9.pn.ne ht9
          have e10 : Same G9 (upd G9 t9 (.tup [.int (pl : Int), .ref l5])) := same_new ht9
          have w10 := w9.step (kb_same e10) (w9.pn.upd nt9) M1
          have t10 : (upd G9 t9 (.tup [.int (pl : Int), .ref l5])) t9 = some (.tup [.int (pl : Int), .ref l5]) := upd_same
          have g10 := e10 _ _ g9
          have rr10 := rr9.tk (Same.tk e10)
          have P10 := P9.tk (Same.tk e10)
          have glf10 := e10 _ _ glf9
          have t9l : t9 ≠ l := fun e => by rw [e, w9.gl] at ht9; cases ht9
          generalize upd G9 t9 (.tup [.int (pl : Int), .ref l5]) = G10 at w10 t10 g10 rr10 P10 glf10 ⊢
          refine ⟨l, xs, _, rfl, rfl, w10.gl, Nat.lt_of_le_of_lt (by omega : xs.length ≤ 12) (by decide), ?_⟩
          have P11 : PRS K (upd G10 l (.lst (xs ++ [.ref t9]))) n prs := P10.tk (tk_lst w10.gl)
          have glf11 : (upd G10 l (.lst (xs ++ [.ref t9]))) lf = some (.lst (prs.map Prod.fst)) := by rw [upd_ne lfl]; exact glf10
          have pe := pm3.length_eq
          have w11 : BW K H (upd G10 l (.lst (xs ++ [.ref t9]))) i [l] l (B + (j + 1) * 60) n (xs ++ [.ref t9]) (ts ++ [(pl, pr3.map Prod.snd)]) := by
            refine ⟨w10.kb.mut hl, (w10.pn.upd nl).mono (by rw [List.length_map]; omega), upd_same, ?_, fun t ht => ?_⟩
            · rw [remS_upd (by simp), List.map_append]
              have lists : ∀ b ∈ [l], ∃ xs, G10 b = some (.lst xs) := fun b hb => by
                rw [List.mem_singleton] at hb
                subst hb
                exact ⟨_, w10.gl⟩
              have s9 : SqT K (remS [l] G10) t9 [.int (pl : Int), .ref l5] := SqT.of (by rw [remS_out (by rw [List.mem_singleton]; exact t9l)]; exact t10)
              have s5 : SqL K (remS [l] G10) l5 (pr3.map Prod.fst) := SqL.of (by rw [remS_out (by rw [List.mem_singleton]; exact l5l)]; exact g10)
              exact (w10.dd.same (remS_sub fun b hb => List.mem_cons_of_mem _ hb)).append (.cons (.tup s9 (.cons (.int _) (.cons (.lst s5 (rr10.tk (tk_remS lists)).dd) .nil))) .nil)
            · rcases List.mem_append.mp ht with ht | ht
              · exact w10.gt t ht
              · rw [List.mem_singleton] at ht
                subst ht
                exact rr10.gt hpl has9
          clear w9 w10 wk glf P grw rr rr9 P9 rr10 P10 glf9 glf10 t10 g10 e10 ht9
          refine ⟨_, rfl, lf, rfl, ⟨_, SqL.of glf11⟩, fun D hD => ?_⟩
          refine comp_listT (K := K) (ys := prs.map Prod.fst) (bs := prs.map fun x => x.2 pl == pl) hD (SqL.of glf11) rfl (by rw [List.length_map, List.length_map]) (Nat.lt_of_le_of_lt (by rw [List.length_map]; exact pl256) (by decide)) (fun m2 x b hx hb G2 e2 Q2 hQ2 => ?_) (fun m2 x y hx hy G2 e2 Q2 hQ2 => ?_) fun G2 e2 gD => ?_
          · rw [List.getElem?_map] at hx hb
            cases hm : prs[m2]? with
            | none => rw [hm] at hx; cases hx
            | some z =>
              rw [hm] at hx hb
              obtain rfl := Option.some.inj hx
              obtain rfl := Option.some.inj hb
              obtain ⟨a, ea, sa⟩ := (P11.each z (List.mem_of_getElem? hm)).2.same e2
              refine ⟨_, rfl, _, rfl, a, _, _, _, ea, rfl, sa, arV_at hpl, _, rfl, rfl, _, rfl, ?_⟩
              have e9 : decide (V.int ((z.2 pl : Nat) : Int) = V.int (pl : Int)) = (z.2 pl == pl) := by
                rw [Bool.eq_iff_iff, decide_eq_true_eq, beq_iff_eq, V.int.injEq]
                omega
              rw [e9]
              exact hQ2 G2 (Same.refl G2)
          · rw [hx] at hy
            obtain rfl := Option.some.inj hy
            exact ⟨_, rfl, hQ2 G2 (Same.refl G2)⟩
          · rw [kept_filter Prod.fst fun x : PR => x.2 pl == pl] at gD
            have Dl : D ≠ l := fun e => by rw [e, w11.gl] at hD; cases hD
            have le := List.length_filter_le (fun x : PR => x.2 pl == pl) prs
            have Pe := P11.tk (Same.tk e2)
            refine ⟨D, _, _, _, _, _, xs ++ [.ref t9], ts ++ [(pl, pr3.map Prod.snd)], prs.filter (fun x : PR => x.2 pl == pl), rfl, w11.step (kb_same e2) (w11.pn.same e2) M0, gD, ⟨fun x hx => Pe.each x (List.mem_filter.mp hx).1, ?_⟩, by omega, Dl, by rw [List.length_append, tl]; rfl⟩
            obtain ⟨x, hx, ex⟩ := Pe.home
            exact ⟨x, List.mem_filter.mpr ⟨hx, by rw [ex pl hpl]; exact beq_self_eq_true pl⟩, ex⟩
    · obtain ⟨_, _, _, _, _, _, xs, ts, prs, rfl, wk, _, _, _, _, tl⟩ := z
      rw [List.length_map, kl] at tl
      refine ⟨_, rfl, k l ts G wk.kb (wk.pn.mono ?_) (.lst (SqL.of wk.gl) (wk.dd.same remS_le)) wk.gt (by omega)⟩
      have : (kis.map V.int).length * 60 ≤ 12 * 60 := Nat.mul_le_mul_right _ (by rw [List.length_map, kl]; omega)
      omega
end
abbrev s_law : Stmt := top 22
abbrev N_law : List Str := ["script", "pen", "bout", "places", "tables", "some", "k", "one", "makers", "bent", "at", "far", "kept", "found"]
theorem sc_law : FnScope N_law ["script"] (defScope s_law) := ⟨rfl, rfl, rfl, by decide +kernel, rfl, by decide +kernel, by decide +kernel⟩
def spLaw (K : PySem.W.Frag) : Sp := fun vs H Q _ => ∃ (a : Addr) (ns : List Int), vs = [.ref a] ∧ SqL K H a (ns.map V.int) ∧ ns.length ≤ 63 ∧ ∀ H', Q (.bl true) H'
theorem op_isB {X : Cx} : OpR X (compareOp .Is) (fun x y H Q => ∃ a b, x = .bl a ∧ y = .bl b ∧ Q (.bl (decide (a = b))) H) := by
  intro pins s σ H x y v u Q I rx ry h
  obtain ⟨a, b, rfl, rfl, q⟩ := h
  cases rx
  cases ry
  show wpAny _ _ ((isSame (.bool a) (.bool b)) >>= fun z => pure (Value.bool z)) _ _ s
  refine wpAny_bind (wpAny_isSame_plain (by cases a <;> cases b <;> rfl) (wpAny_pure (fin_bl I q ?_)))
  cases a <;> cases b <;> rfl
/-- how much the repr of a pair of tables and an arrangement has -/
theorem fits_all {W D : Nat} : ∀ {es : List PyData}, (∀ e ∈ es, Fit W D e) → Fits ((W + 2) * es.length) D es
  | [], _ => by simpa using (Fits.nil (D := D))
  | e :: es, h => by
    have h1 := Fits.cons (h e List.mem_cons_self) (fits_all fun x hx => h x (List.mem_cons_of_mem _ hx))
    refine h1.mono ?_ (Nat.le_refl D)
    rw [List.length_cons, Nat.mul_add]
    omega
theorem fit_arr {n : Nat} {p : Nat → Nat} (hp : IsP n p) (n12 : n ≤ 12) : Fit 100 1 (arrD n p) := by
  rw [arrD_nums]
  have ft : Fits (6 * (nums n p).length) 0 ((nums n p).map PyData.int) := fits_ints fun k hk => by
    obtain ⟨j, hj, rfl⟩ := List.mem_map.mp hk
    have := hp.lt j (List.mem_range.mp hj)
    omega
  refine ft.tuple.mono ?_ (Nat.le_refl 1)
  unfold nums
  rw [List.length_map, List.length_range]
  omega
theorem fit_tab {n : Nat} {t : TB} (g : GT n t) (n12 : n ≤ 12) : Fit 1400 3 (tabD n t) := by
  have rn : t.2.length ≤ 12 := by
    have h5 := g.nd.length_le_of_subset (l₂ := List.range n) fun y hy => by
      obtain ⟨r, hr, rfl⟩ := List.mem_map.mp hy
      exact List.mem_range.mpr ((g.perm r hr).lt _ g.lt)
    rw [List.length_map, List.length_range] at h5
    omega
  have f1 : Fits ((100 + 2) * (t.2.map (arrD n)).length) 1 (t.2.map (arrD n)) := fits_all fun e he => by
    obtain ⟨r, hr, rfl⟩ := List.mem_map.mp he
    exact fit_arr (g.perm r hr) n12
  have f2 : Fit 6 0 (.int (t.1 : Int)) := (fit_int (k := 3) (by decide) (by decide) (by have := g.lt; omega)).mono (by omega) (Nat.le_refl 0)
  refine ((Fits.cons (f2.mono (Nat.le_refl _) (by omega)) (Fits.cons (f1.list.mono (Nat.le_refl _) (Nat.le_refl _)) Fits.nil)).tuple).mono ?_ (by omega)
  rw [List.length_map]
  have : (100 + 2) * t.2.length ≤ (100 + 2) * 12 := Nat.mul_le_mul_left _ rn
  omega
theorem fit_pair {n : Nat} {ts : List TB} {p : Nat → Nat} (gt : ∀ t ∈ ts, GT n t) (tl : ts.length ≤ 12) (hp : IsP n p) (n12 : n ≤ 12) : Fit 20000 6 (.tuple [tabsD n ts, arrD n p]) := by
  have f1 : Fits ((1400 + 2) * (ts.map (tabD n)).length) 3 (ts.map (tabD n)) := fits_all fun e he => by
    obtain ⟨t, ht, rfl⟩ := List.mem_map.mp he
    exact fit_tab (gt t ht) n12
  refine ((Fits.cons f1.list (Fits.cons ((fit_arr hp n12).mono (Nat.le_refl _) (by omega)) Fits.nil)).tuple).mono ?_ (by omega)
  rw [List.length_map]
  have : (1400 + 2) * ts.length ≤ (1400 + 2) * 12 := Nat.mul_le_mul_left _ tl
  omega
theorem nums_perm {n : Nat} {p : Nat → Nat} (hp : IsP n p) : (nums n p).Perm (places n) := by
  refine (List.perm_ext_iff_of_nodup ?_ ?_).mpr fun k => ⟨fun h => ?_, fun h => ?_⟩
  · unfold nums
    refine List.pairwise_map.mpr ((List.nodup_range (n := n)).imp_of_mem fun {a b} ha hb ne e => ne (hp.inj a b (List.mem_range.mp ha) (List.mem_range.mp hb) (by omega)))
  · unfold places
    exact List.nodup_range.map _ fun a b hab e => hab (by omega)
  · obtain ⟨x, hx, rfl⟩ := List.mem_map.mp h
    exact List.mem_map.mpr ⟨p x, List.mem_range.mpr (hp.lt x (List.mem_range.mp hx)), rfl⟩
  · obtain ⟨y, hy, rfl⟩ := List.mem_map.mp h
    obtain ⟨x, hx, rfl⟩ := hp.sur y (List.mem_range.mp hy)
    exact List.mem_map.mpr ⟨x, List.mem_range.mpr hx, rfl⟩
/-- drawn arrangements, one behind the other in a list -/
def ArrP (K : PySem.W.Frag) (H : Hp) (D : Addr) (i : PenI) (B n j : Nat) (G : Hp) : Prop := ∃ vs : List V, vs.length = j ∧ G D = some (.lst vs) ∧ Kb i.p H G ∧ Pen G i (B + j * (n + 3)) ∧ ∀ v ∈ vs, ∃ p, IsP n p ∧ Ar K G v n p
theorem sifB_nil (n : Nat) (p : Nat → Nat) : sifB n [] p = stayB n p := rfl
section
variable {P : Program} {w : World} {K : PySem.W.Frag} {mg : Str → Option Value} {base : Heap} {f : Addr} {fd : FuncData}
theorem ok_law (F : Fun K "law" "law" s_law f fd) (T : Bt mg) (C_law_pen : Cg P w K mg base 1 "_law_pen" (spPen K)) (C_law_draw : Cg P w K mg base 1 "_law_draw" spDraw) (C_shuf : Cg P w K mg base 2 "_law_shuffled" (spShuf K)) (C_arr : Cg P w K mg base 3 "_law_arrangement" spArr)
    (C_any : Cg P w K mg base 4 "_law_any_tables" (spAny K)) (C_by : Cg P w K mg base 3 "_law_tables_by" (spBy K)) (C_grp : Cg P w K mg base 2 "_law_group" (spGroup K)) (C_prod : Cg P w K mg base 3 "_law_product" (spProd K))
    (C_sifts : Cg P w K mg base 4 "sifts" (spSifts K)) (C_law_sifts : Cg P w K mg base 2 "_law_sifts" (spSifts K)) : FnG P w K mg base CX0 5 f fd ["script"] (spLaw K) := by
  refine fnG0 F sc_law (fun vs H Q E h => ?_) (fun cdv A outer s H vs Q E hr hg h => ?_)
  · obtain ⟨a, ns, rfl, _⟩ := h
    rfl
  · obtain ⟨a, ns, rfl, ha, hl, k⟩ := h
    have nd := sc_law.nd
    have hu64 : (A.deeper (envOfC "law" (defScope s_law) s.heap.objs.size f cdv)).units + 64 < cLine := hr.units
    refine ⟨_, (pss_cons (ps_set (i := 1) nd rfl (Or.inr rfl) (pe_g C_law_pen hr hg (by decide) rfl (pa_cons (pv 0) pa_nil)))
      (pss_cons (ps_for PassesOwn.never rfl (pi_range1 (by rfl) T.range (pa_cons (pe_op op_add pe_int (pe_callB (call_min2 rfl) (by rfl) T.min b_min (pa_cons pe_int (pa_cons (pe_callB call_len_seq (by rfl) T.len b_len (pa_cons (pv 0) pa_nil)) pa_nil)))) pa_nil)) (pg_name (i := 2) nd rfl (Or.inl rfl))
        (pss_cons (ps_set (i := 3) nd rfl (Or.inr rfl) (pe_op op_add pe_int (pe_g C_law_draw hr hg (by decide) rfl (pa_cons (pv 1) (pa_cons pe_int pa_nil)))))
        (pss_cons (ps_set (i := 4) nd rfl (Or.inl rfl) (pe_g C_any hr hg (by decide) rfl (pa_cons (pv 1) (pa_cons (pv 3) pa_nil))))
        (C8.pss_cut (ps_if (PW.pt (pw_and (pt_cmpR op_lt (pv 3) pe_int (nomark _)) (pw_and1 (pt_cmpR op_eq (pe_g C_law_draw hr hg (by decide) rfl (pa_cons (pv 1) (pa_cons pe_int pa_nil))) pe_int (nomark _)))))
          (pss_cons (ps_setLc (i := 8) rfl nd rfl rfl (sw_true rfl rfl rfl (by decide +kernel)) (own := [("k", 6)]) (g := gName 6) (pi_range1 (by rfl) T.range (pa_cons pe_int pa_nil)) (blkOk_by (own := [("k", 6)]) (N := N_law) (sc := defScope s_law) (by decide +kernel)) (fun _ _ _ _ _ => (pg_name (i := 6) nd rfl (Or.inl rfl))) (fun _ _ _ _ _ => pts_nil) (fun _ _ _ _ _ => (pe_g C_arr hr hg (by decide) rfl (pa_cons (pv 1) (pa_cons (pv 3) pa_nil)))))
          (pss_one (ps_set (i := 4) nd rfl (Or.inl rfl) (pe_g C_by hr hg (by decide) rfl (pa_cons (pv 1) (pa_cons (pe_g C_grp hr hg (by decide) rfl (pa_cons (pv 3) (pa_cons (pv 8) pa_nil))) (pa_cons (pe_g C_shuf hr hg (by decide) rfl (pa_cons (pv 1) (pa_cons (pe_listRg rfl (by rfl) T.list (prg_1 (by rfl) T.range (pv 3))) pa_nil))) pa_nil)))))))
          pss_nil)
        (pss_cons (ps_set (i := 5) nd rfl (Or.inl rfl) (pe_op op_catL (pe_lst (pa_cons (pe_tupRg rfl (by rfl) T.tuple (prg_1 (by rfl) T.range (pv 3))) pa_nil)) (pe_lc (own := [("k", 6)]) (g := gName 6) rfl nd (pi_range1 (by rfl) T.range (pa_cons pe_int pa_nil)) (blkOk_by (own := [("k", 6)]) (N := N_law) (sc := defScope s_law) (by decide +kernel)) (fun _ _ _ _ _ => (pg_name (i := 6) nd rfl (Or.inl rfl))) (fun _ _ _ _ _ => pts_nil) (fun _ _ _ _ _ => (pe_g C_arr hr hg (by decide) rfl (pa_cons (pv 1) (pa_cons (pv 3) pa_nil)))))))
        (pss_cons (ps_for PassesOwn.never rfl (pi_range1 (by rfl) T.range (pa_cons pe_int pa_nil)) (pg_name (i := 6) nd rfl (Or.inl rfl))
          (pss_cons (ps_expr (pe_bm PySem.F.plainAttrs_list PySem.F.slot_list_append PySem.F.type_list_append mt_append (pv 5) (pa_cons (pe_g C_prod hr hg (by decide) rfl (pa_cons (pv 1) (pa_cons (pv 4) (pa_cons (pv 3) pa_nil)))) pa_nil)))
          (pss_cons (ps_asg (pe_slice sl_list (pe_g C_shuf hr hg (by decide) rfl (pa_cons (pv 1) (pa_cons (pe_listRg rfl (by rfl) T.list (prg_1 (by rfl) T.range (pv 3))) pa_nil))) po_none (po_some pe_int)) (pg_unl rfl (pgs_cons (pg_name (i := 10) nd rfl (Or.inl rfl)) (pgs_cons (pg_name (i := 11) nd rfl (Or.inl rfl)) pgs_nil))))
          (pss_cons (ps_set (i := 9) nd rfl (Or.inl rfl) (pe_callTy call_list_of (by rfl) T.list b_list (pa_cons (pe_ix ix_list (pv 5) (pe_un un_neg pe_int) (fun _ _ => rfl)) pa_nil)))
          (pss_cons (ps_asg (pe_tup (pa_cons (pe_ix ix_list (pv 9) (pv 11) (fun _ _ => rfl)) (pa_cons (pe_ix ix_list (pv 9) (pv 10) (fun _ _ => rfl)) pa_nil))) (pg_tup (by rfl) (pgs_cons (pg_sub (pv 9) (pv 10) set_list) (pgs_cons (pg_sub (pv 9) (pv 11) set_list) pgs_nil))))
          (pss_one (ps_expr (pe_bm PySem.F.plainAttrs_list PySem.F.slot_list_append PySem.F.type_list_append mt_append (pv 5) (pa_cons (pe_callTy call_tuple_of (by rfl) T.tuple b_tuple (pa_cons (pv 9) pa_nil)) pa_nil)))))))))
        (pss_one (ps_for PassesOwn.never rfl (pi_list (pv 5)) (pg_name (i := 7) nd rfl (Or.inl rfl))
          (pss_cons (ps_par (i := 12) (j := 13) (by rfl) nd rfl rfl (by decide) rfl rfl (pa_cons (pe_callB (cr_repr hg hu64) (by rfl) T.repr b_repr (pa_cons (pe_tup (pa_cons (pv 4) (pa_cons (pv 7) pa_nil))) pa_nil)) (pa_cons (pe_g C_sifts hr hg (by decide) rfl (pa_cons (pv 4) (pa_cons (pv 7) pa_nil))) pa_nil)) (by rfl))
          (pss_one (ps_if (PW.pt (pw_or (pt_not (pt_val (pe_callB (r := rIsD K) cr_isD (by rfl) T.isinstance b_isinstance (pa_cons (pv 13) (pa_cons (pe_tbool (by rfl) T.bool) pa_nil))))) (pw_or (pt_cmpR op_ne (pv 13) (pe_g C_law_sifts hr hg (by decide) rfl (pa_cons (pv 4) (pa_cons (pv 7) pa_nil))) (nomark _)) (pw_or1 (pt_cmpR op_ne (pe_callB (cr_repr hg hu64) (by rfl) T.repr b_repr (pa_cons (pe_tup (pa_cons (pv 4) (pa_cons (pv 7) pa_nil))) pa_nil)) (pv 12) (nomark _))))))
            (pss_one (ps_ret pe_bl))
            pss_nil)))))))))))
      (pss_one (ps_ret (pe_and (pe_cmpR op_isB (pe_g C_sifts hr hg (by decide) rfl (pa_cons (pe_lst pa_nil) (pa_cons (pe_tup (pa_cons pe_int (pa_cons pe_int pa_nil))) pa_nil))) pe_bl (by rfl)) (pe_one (pe_cmpR op_isB (pe_g C_sifts hr hg (by decide) rfl (pa_cons (pe_lst pa_nil) (pa_cons (pe_tup (pa_cons pe_int (pa_cons pe_int pa_nil))) pa_nil))) pe_bl (by rfl)))))))), ?_⟩
    refine ⟨_, rfl, a, ns, rfl, ha, hl, fun i G e pn => ?_⟩
    refine ⟨_, rfl, a, _, rfl, .inl (sql_same e ha), _, _, rfl, _, _, rfl, rfl, _, rfl, ?_, ?_, ?_⟩
    · rw [List.length_map]; split <;> omega
    · rw [List.length_map]; split <;> omega
    refine for_range (fun b σ G => ∃ x2 x3 x4 x5 x6 x7 x8 x9 x10 x11 x12 x13, σ = [some (.ref a), some (.ref i.p), x2, x3, x4, x5, x6, x7, x8, x9, x10, x11, x12, x13] ∧ Pen G i (b * 2000)) ⟨_, _, _, _, _, _, _, _, _, _, _, _, rfl, pn.mono (Nat.zero_le _)⟩ (fun b σ G1 hb h => ?_) (fun σ G1 h => ?_)
    · have hb2 : b < 2 ^ 12 := by
        refine Nat.lt_of_lt_of_le hb ?_
        rw [List.length_map]
        split <;> omega
      clear hb
      obtain ⟨x2, x3, x4, x5, x6, x7, x8, x9, x10, x11, x12, x13, rfl, pn1⟩ := h
      clear e pn ha
      refine ⟨_, rfl, i, 5, b * 2000, rfl, pn1, by omega, by decide, by decide, fun d G2 d0 d1 kb2 pn2 => ?_⟩
      refine ⟨_, _, rfl, rfl, ?_⟩
      obtain ⟨n, hn, n2, n12⟩ : ∃ n : Nat, (2 : Int) + d = (n : Int) ∧ 2 ≤ n ∧ n ≤ 6 := ⟨(2 + d).toNat, by omega, by omega, by omega⟩
      change gName 3 (V.int (2 + d)) _ _ _
      rw [hn]
      clear kb2 d0 d1 hn pn1
      refine ⟨_, rfl, _, rfl, i, _, n, rfl, pn2, by omega, by omega, fun l1 ts1 G3 kb3 pn3 dd3 gt3 tl3 => ?_⟩
      refine ⟨fun σ G => ∃ tv ts y6 y8, σ = [some (.ref a), some (.ref i.p), some (.int (0 + (b : Int))), some (.int (n : Int)), some tv, x5, y6, x7, y8, x9, x10, x11, x12, x13] ∧ Pen G i (b * 2000 + 1650) ∧ Dd K G tv (tabsD n ts) ∧ (∀ t ∈ ts, GT n t) ∧ ts.length ≤ n, ?_, fun σ G5 h => ?_⟩
      · refine ⟨_, rfl, _, _, rfl, rfl, _, rfl, ?_⟩
        by_cases n5 : n < 5
        · refine iteT' (by simp only [decide_eq_true_eq]; omega) ?_
          refine ⟨_, rfl, i, 2, _, rfl, pn3, by omega, by decide, by decide, fun d4 G4 _ _ kb4 pn4 => ⟨rfl, _, rfl, ?_⟩⟩
          have D4 := dd3.kb kb4 pn3.o
          refine ite2 (fun _ => ?_) (fun _ => ?_)
          · refine ⟨_, rfl, by decide, by decide, fun D hD => ?_⟩
            have nD := pn4.ne hD
            refine lc_range (n := 2) (ArrP K G4 D i (b * 2000 + 802) n) ⟨[], rfl, upd_same, Kb.new hD, (pn4.upd nD).mono (by omega), fun v hv => nomatch hv⟩ (fun j G hj z => ⟨rfl, ?_⟩) fun G z => ?_
            · refine yes_ ?_
              refine iteT ?_
              obtain ⟨vs, hl, hd, kbj, pj, all⟩ := z
              have jm : j * (n + 3) ≤ 36 := Nat.le_trans (Nat.mul_le_mul (show j ≤ 4 by omega) (show n + 3 ≤ 9 by omega)) (by decide)
              refine ⟨_, rfl, _, rfl, i, _, n, rfl, pj, by omega, n2, by omega, fun t ks G6 pk6 kb6 pn6 h6 => ?_⟩
              have hd6 := kb6 _ _ hd nD.1
              obtain ⟨p, ep, hp⟩ := perm_ar pk6
              have tk7 : Tk G6 (upd G6 D (.lst (vs ++ [V.ref t]))) := tk_lst hd6
              refine ⟨vs, hd6, by rw [hl]; exact Nat.lt_of_lt_of_le (show j < 12 by omega) (by decide), vs ++ [.ref t], by rw [List.length_append, hl]; rfl, upd_same, (kbj.trans kb6).mut hD, ?_, fun v hv => ?_⟩
              · exact (pn6.upd nD).mono (by rw [Nat.succ_mul]; omega)
              · rcases List.mem_append.mp hv with hv | hv
                · obtain ⟨q, hq, av⟩ := all v hv
                  exact ⟨q, hq, av.tk ((tk_kb kb6 pj.o).trans tk7)⟩
                · rw [List.mem_singleton] at hv
                  subst hv
                  exact ⟨p, hp, t, rfl, .inl (tk7 _ _ (.inl (by rw [← ep]; exact h6)))⟩
            · obtain ⟨vs, hl, hd, kbj, pj, all⟩ := z
              have jm : 2 * (n + 3) ≤ 18 := by omega
              refine ⟨_, rfl, _, rfl, _, rfl, n, D, vs, rfl, SqL.of hd, all, n2, by omega, fun lg xs G6 e6 hlg glg few grp => ?_⟩
              have pn6 := pj.same e6
              have ok : RgOk 0 (n : Int) := RgOk.of_le (by decide) (by omega) (by decide) (by omega)
              refine ⟨_, rfl, _, rfl, _, rfl, ok, fun r hr2 => ?_⟩
              rw [rg_places]
              have nr := pn6.ne hr2
              have e7 : Same G6 (upd G6 r (.lst ((places n).map V.int))) := same_new hr2
              have pn7 := pn6.upd (o := .lst ((places n).map V.int)) nr
              refine ⟨i, _, r, _, rfl, pn7, by omega, .inl (SqL.of upd_same), by rw [List.length_map, places_len]; omega, fun q ys G8 pm hq kb8 pn8 gq => ?_⟩
              rw [List.length_map, places_len] at pn8
              obtain ⟨kis, rfl, pk⟩ := perm_ints pm
              have g8 := kb8 _ _ (e7 _ _ glg) (pn7.neL (e7 _ _ glg))
              refine ⟨i, _, n, lg, q, xs, kis, rfl, pn8, by omega, by omega, SqL.of g8, few, (grp.tk (Same.tk e7)).tk (tk_kb kb8 pn7.o), SqL.of gq, pk, fun l2 ts2 G9 kb9 pn9 dd9 gt9 tl9 => ?_⟩
              exact ⟨_, _, _, _, rfl, pn9.mono (by omega), dd9, gt9, tl9⟩
          · exact ⟨_, _, _, _, rfl, pn4.mono (by omega), D4, gt3, tl3⟩
        · refine iteF' (by simp only [decide_eq_false_iff_not]; omega) ?_
          refine iteF ?_
          exact ⟨_, _, _, _, rfl, pn3.mono (by omega), dd3, gt3, tl3⟩
      · obtain ⟨tv, ts, y6, y8, rfl, pn5, dd5, gt, tl⟩ := h
        clear dd3 gt3 tl3 pn3 kb3
        have ok : RgOk 0 (n : Int) := RgOk.of_le (by decide) (by omega) (by decide) (by omega)
        refine ⟨_, rfl, _, rfl, ok, fun t0 ht0 => ?_⟩
        rw [rg_places]
        refine ⟨(show 1 ≤ sizeLine by decide), fun p0 hp0 => ?_⟩
        have tp0 : p0 ≠ t0 := fun e => by rw [e, upd_same] at hp0; cases hp0
        have Hp0 : G5 p0 = none := by rw [upd_ne tp0] at hp0; exact hp0
        have e6 : Same G5 (upd (upd G5 t0 (.tup ((places n).map V.int))) p0 (.lst [.ref t0])) := same_mut (same_new ht0) Hp0
        have g6 : (upd (upd G5 t0 (.tup ((places n).map V.int))) p0 (.lst [.ref t0])) p0 = some (.lst [.ref t0]) := upd_same
        have t6 : (upd (upd G5 t0 (.tup ((places n).map V.int))) p0 (.lst [.ref t0])) t0 = some (.tup ((places n).map V.int)) := by rw [upd_ne tp0.symm, upd_same]
        have pn6 := pn5.same e6
        have dd6 := dd5.same e6
        obtain ⟨G6, q6⟩ : ∃ G6, G6 = upd (upd G5 t0 (.tup ((places n).map V.int))) p0 (.lst [.ref t0]) := ⟨_, rfl⟩
        rw [← q6] at e6 g6 t6 pn6 dd6 ⊢
        clear q6 hp0 ht0 Hp0 e6 pn5 dd5
        refine ⟨_, rfl, by decide, by decide, fun D hD => ?_⟩
        have nD := pn6.ne hD
        refine lc_range (n := 4) (ArrP K G6 D i (b * 2000 + 1650) n) ⟨[], rfl, upd_same, Kb.new hD, (pn6.upd nD).mono (by omega), fun v hv => nomatch hv⟩ (fun j G hj z => ⟨rfl, ?_⟩) fun G z => ?_
        · refine yes_ ?_
          refine iteT ?_
          obtain ⟨vs, hl, hd, kbj, pj, all⟩ := z
          have jm : j * (n + 3) ≤ 36 := Nat.le_trans (Nat.mul_le_mul (show j ≤ 4 by omega) (show n + 3 ≤ 9 by omega)) (by decide)
          refine ⟨_, rfl, _, rfl, i, _, n, rfl, pj, by omega, n2, by omega, fun t ks G7 pk7 kb7 pn7 h7 => ?_⟩
          have hd7 := kb7 _ _ hd nD.1
          obtain ⟨p, ep, hp⟩ := perm_ar pk7
          have tk7 : Tk G7 (upd G7 D (.lst (vs ++ [V.ref t]))) := tk_lst hd7
          refine ⟨vs, hd7, by rw [hl]; exact Nat.lt_of_lt_of_le (show j < 12 by omega) (by decide), vs ++ [.ref t], by rw [List.length_append, hl]; rfl, upd_same, (kbj.trans kb7).mut hD, ?_, fun v hv => ?_⟩
          · exact (pn7.upd nD).mono (by rw [Nat.succ_mul]; omega)
          · rcases List.mem_append.mp hv with hv | hv
            · obtain ⟨q, hq, av⟩ := all v hv
              exact ⟨q, hq, av.tk ((tk_kb kb7 pj.o).trans tk7)⟩
            · rw [List.mem_singleton] at hv
              subst hv
              exact ⟨p, hp, t, rfl, .inl (tk7 _ _ (.inl (by rw [← ep]; exact h7)))⟩
        · obtain ⟨vs, vl, hd, kbj, pj, all⟩ := z
          have jm : 4 * (n + 3) ≤ 36 := by omega
          have gp0 := kbj _ _ g6 (pn6.neL g6)
          have at0 : Ar K G (.ref t0) n id := (ar_id (SqT.of t6)).tk (tk_kb kbj pn6.o)
          have ddG := dd6.kb kbj pn6.o
          refine ⟨p0, D, _, _, rfl, rfl, SqL.of gp0, SqL.of hd, by rw [vl]; exact (show 1 + 4 ≤ sizeLine by decide), fun so hso => ?_⟩
          have nso := pj.ne hso
          clear g6 t6 dd6 pn6 gp0 hD nD
          have all0 : ∀ x ∈ [V.ref t0] ++ vs, ∃ p, IsP n p ∧ Ar K G x n p := fun x hx => by
            rcases List.mem_append.mp hx with hx | hx
            · rw [List.mem_singleton] at hx
              subst hx
              exact ⟨id, isP_id n, at0⟩
            · exact all x hx
          have l0 : ([V.ref t0] ++ vs).length = 5 := by rw [List.length_append, vl]; rfl
          refine ⟨_, rfl, by decide, by decide, ?_⟩
          refine for_range (n := 4) (fun m σ H => ∃ (y6 y9 y10 y11 : Option V) (items : List V), σ = [some (.ref a), some (.ref i.p), some (.int (0 + (b : Int))), some (.int (n : Int)), some tv, some (.ref so), y6, x7, y8, y9, y10, y11, x12, x13] ∧ Kb i.p G H ∧ Pen H i (b * 2000 + 1700 + m * 40) ∧ H so = some (.lst items) ∧ items.length = 5 + 2 * m ∧
              ∀ x ∈ items, ∃ p, IsP n p ∧ Ar K H x n p)
            ⟨_, _, _, _, _, rfl, Kb.new hso, (pj.upd nso).mono (by omega), upd_same, l0, fun x hx => by
              obtain ⟨p, hp, av⟩ := all0 x hx
              exact ⟨p, hp, av.tk (Same.tk (same_new hso))⟩⟩ (fun m σ G7 hm z => ?_) (fun σ G7 z => ?_)
          · obtain ⟨y6, y9, y10, y11, items, rfl, kb, pG, gs, il, al⟩ := z
            have hm4 : m < 4 := by omega
            refine ⟨_, rfl, .inl ⟨rfl, _, SqL.of gs⟩, _, rfl, _, rfl, _, rfl, i, _, n, tv, ts, rfl, pG, by omega, by omega, ddG.kb kb pj.o, gt, by omega, fun v p G8 kb8 pn8 av hp => ?_⟩
            have gs8 := kb8 _ _ gs nso.1
            obtain ⟨va, rfl, sv⟩ := av
            refine ⟨so, items, _, rfl, rfl, gs8, Nat.lt_of_le_of_lt (by omega : items.length ≤ 12) (by decide), ?_⟩
            have kb9 : Kb i.p G (upd G8 so (.lst (items ++ [V.ref va]))) := (kb.trans kb8).mut hso
            have tk9 : Tk G8 (upd G8 so (.lst (items ++ [V.ref va]))) := tk_lst gs8
            have pn9 := pn8.upd (o := .lst (items ++ [V.ref va])) nso
            have gs9 : (upd G8 so (.lst (items ++ [V.ref va]))) so = some (.lst (items ++ [V.ref va])) := upd_same
            have al9 : ∀ x ∈ items ++ [V.ref va], ∃ p, IsP n p ∧ Ar K (upd G8 so (.lst (items ++ [V.ref va]))) x n p := fun x hx => by
              rcases List.mem_append.mp hx with hx | hx
              · obtain ⟨q, hq, aq⟩ := al x hx
                exact ⟨q, hq, aq.tk ((tk_kb kb8 pG.o).trans tk9)⟩
              · rw [List.mem_singleton] at hx
                subst hx
                exact ⟨p, hp, Ar.tk ⟨va, rfl, sv⟩ tk9⟩
            have sv9 : Ar K (upd G8 so (.lst (items ++ [V.ref va]))) (.ref va) n p := Ar.tk ⟨va, rfl, sv⟩ tk9
            obtain ⟨G9, q9⟩ : ∃ G9, G9 = upd G8 so (.lst (items ++ [V.ref va])) := ⟨_, rfl⟩
            rw [← q9] at kb9 tk9 pn9 gs9 al9 sv9 ⊢
            clear q9 gs8 kb8 kb al gs sv pn8 pG tk9
            refine ⟨_, rfl, _, rfl, _, rfl, ok, fun r hr2 => ?_⟩
            rw [rg_places]
            have nr := pn9.ne hr2
            have e10 : Same G9 (upd G9 r (.lst ((places n).map V.int))) := same_new hr2
            have pn10 := pn9.upd (o := .lst ((places n).map V.int)) nr
            refine ⟨i, _, r, _, rfl, pn10, by omega, .inl (SqL.of upd_same), by rw [List.length_map, places_len]; omega, fun q ys G11 pm hq kb11 pn11 gq => ?_⟩
            rw [List.length_map, places_len] at pn11
            obtain ⟨kis, rfl, pk⟩ := perm_ints pm
            obtain ⟨k1, k2, rest, rfl⟩ : ∃ k1 k2 rest, kis = k1 :: k2 :: rest := by
              have := pk.length_eq
              rw [places_len] at this
              match kis, this with
              | [], h => simp at h; omega
              | [x], h => simp at h; omega
              | x :: y :: r, _ => exact ⟨x, y, r, rfl⟩
            have in1 : 0 ≤ k1 ∧ k1 < (n : Int) := by
              obtain ⟨y, hy, e⟩ := List.mem_map.mp (pk.subset List.mem_cons_self)
              have := List.mem_range.mp hy
              omega
            have in2 : 0 ≤ k2 ∧ k2 < (n : Int) := by
              obtain ⟨y, hy, e⟩ := List.mem_map.mp (pk.subset (List.mem_cons_of_mem _ List.mem_cons_self))
              have := List.mem_range.mp hy
              omega
            have kb12 : Kb i.p G9 G11 := (kb_same e10).trans kb11
            have kbG := kb9.trans kb12
            have gs11 := kb12 _ _ gs9 nso.1
            have tk11 := tk_kb kb12 pn9.o
            refine ⟨2, rfl, q, _, rfl, SqL.of gq, fun q2 hq2 => ?_⟩
            have ec : cutV ((k1 :: k2 :: rest).map V.int) none (some 2) = [V.int k1, V.int k2] := by
              rw [show (2 : Int) = ((2 : Nat) : Int) from rfl, cut_front]
              rfl
            rw [ec]
            have nq2 := pn11.ne hq2
            have pn12 := pn11.upd (o := .lst [V.int k1, V.int k2]) nq2
            obtain ⟨G12, q12, e12, g12⟩ := new_ex (o := .lst [V.int k1, V.int k2]) hq2
            rw [← q12] at pn12 ⊢
            refine ⟨q2, _, rfl, SqL.of g12, rfl, ?_⟩
            refine ⟨_, _, rfl, _, _, rfl, rfl, ?_⟩
            have gs12 := e12 _ _ gs11
            have sv12 := (sv9.tk tk11).tk (Same.tk e12)
            obtain ⟨va', ev, sv13⟩ := sv12
            cases ev
            refine ⟨_, rfl, _, rfl, so, _, _, _, rfl, rfl, SqL.of gs12, atI_last _ _, va, _, rfl, .inr sv13, fun be hbe => ?_⟩
            have nbe := pn12.ne hbe
            have beso : be ≠ so := fun e => by rw [e, gs12] at hbe; cases hbe
            have pn13 := pn12.upd (o := .lst (arV p n)) nbe
            obtain ⟨G13, q13, e13, g13⟩ := new_ex (o := .lst (arV p n)) hbe
            rw [← q13] at pn13 ⊢
            have len : (arV p n).length = n := arV_len p n
            obtain ⟨v1, f1, f2⟩ := atI_in (xs := arV p n) in2.1 (by rw [len]; exact in2.2)
            obtain ⟨v2, f3, f4⟩ := atI_in (xs := arV p n) in1.1 (by rw [len]; exact in1.2)
            have ix : ∀ {z : Int}, 0 ≤ z → z < n → ixN (arV p n).length z = some z.toNat := fun {z} z0 z1 => by
              rw [len]
              unfold ixN
              rw [if_pos z0, if_pos z1]
            refine ⟨_, rfl, _, rfl, be, _, _, _, rfl, rfl, SqL.of g13, f1, _, rfl, _, rfl, be, _, _, _, rfl, rfl, SqL.of g13, f3, (show 2 ≤ sizeLine by decide), fun t ht => ?_⟩
            have tbe : t ≠ be := fun e => by rw [e, g13] at ht; cases ht
            have gs13 := e13 _ _ gs12
            have tso : t ≠ so := fun e => by rw [e, gs13] at ht; cases ht
            have nt := pn13.ne ht
            refine ⟨t, _, rfl, SqT.of upd_same, rfl, ?_⟩
            refine ⟨_, _, rfl, _, rfl, _, rfl, be, _, _, _, rfl, rfl, by rw [upd_ne tbe.symm]; exact g13, ix in1.1 in1.2, ?_⟩
            refine ⟨_, _, rfl, _, rfl, _, rfl, be, _, _, _, rfl, rfl, upd_same, by rw [List.length_set]; exact ix in2.1 in2.2, ?_⟩
            rw [upd_upd]
            have ps := swapped_perm f4 f2
            rw [arV_nums] at ps
            obtain ⟨ks, hk, pk2⟩ := perm_ints ps
            rw [← arV_nums] at hk
            rw [hk]
            have e14 : Same G13 (upd G13 t (.tup [v1, v2])) := same_new ht
            have g14 : (upd G13 t (.tup [v1, v2])) be = some (.lst (arV p n)) := by rw [upd_ne tbe.symm]; exact g13
            have pn14 := (pn13.upd (o := .tup [v1, v2]) nt).upd (o := .lst (ks.map V.int)) nbe
            have gs14 : (upd (upd G13 t (.tup [v1, v2])) be (.lst (ks.map V.int))) so = some (.lst (items ++ [V.ref va])) := by rw [upd_ne beso.symm, upd_ne tso.symm]; exact gs13
            have tk14 : Tk G13 (upd (upd G13 t (.tup [v1, v2])) be (.lst (ks.map V.int))) := (Same.tk e14).trans (tk_lst g14)
            have beG : G be = none := (kbG.trans (kb_same e12)).free nbe.1 hbe
            have kb14 : Kb i.p G (upd (upd G13 t (.tup [v1, v2])) be (.lst (ks.map V.int))) := ((kbG.trans (kb_same (e12.trans e13))).trans (kb_same e14)).mut beG
            refine ⟨rfl, _, rfl, .inl ⟨rfl, _, SqL.of gs14⟩, _, rfl, be, _, rfl, .inl ⟨SqL.of upd_same, fun t2 ht2 => ?_⟩⟩
            have nt2 := pn14.ne ht2
            have t2so : t2 ≠ so := fun e => by rw [e, gs14] at ht2; cases ht2
            have e15 : Same (upd (upd G13 t (.tup [v1, v2])) be (.lst (ks.map V.int))) (upd (upd (upd G13 t (.tup [v1, v2])) be (.lst (ks.map V.int))) t2 (.tup (ks.map V.int))) := same_new ht2
            have gs15 := e15 _ _ gs14
            refine ⟨so, _, _, rfl, rfl, gs15, Nat.lt_of_le_of_lt (by rw [List.length_append]; show items.length + 1 ≤ 14; omega) (by decide), ?_⟩
            obtain ⟨p2, hp2, ap2⟩ := ar_perm (K := K) (pk2.trans (nums_perm hp)) (SqT.of (upd_same (H := upd (upd G13 t (.tup [v1, v2])) be (.lst (ks.map V.int))) (a := t2) (o := .tup (ks.map V.int))))
            have tkE := (tk11.trans (Same.tk (e12.trans e13))).trans (tk14.trans (Same.tk e15))
            refine ⟨_, _, _, _, (items ++ [V.ref va]) ++ [V.ref t2], rfl, (kb14.trans (kb_same e15)).mut hso, ((pn14.upd nt2).upd nso).mono (by omega), upd_same, by rw [List.length_append, List.length_append, il]; show 5 + 2 * m + 1 + 1 = _; omega, fun x hx => ?_⟩
            rcases List.mem_append.mp hx with hx | hx
            · obtain ⟨q3, hq3, aq3⟩ := al9 x hx
              exact ⟨q3, hq3, aq3.tk (tkE.trans (tk_lst gs15))⟩
            · rw [List.mem_singleton] at hx
              subst hx
              exact ⟨p2, hp2, ap2.tk (tk_lst gs15)⟩
          · obtain ⟨y6, y9, y10, y11, items, rfl, kb, pG, gs, il, al⟩ := z
            have dd7 := ddG.kb kb pj.o
            refine ⟨_, rfl, so, rfl, ⟨_, SqL.of gs⟩, ?_⟩
            refine for_list (xs := items) (fun m σ H => ∃ z7 z12 z13, σ = [some (.ref a), some (.ref i.p), some (.int (0 + (b : Int))), some (.int (n : Int)), some tv, some (.ref so), y6, z7, y8, y9, y10, y11, z12, z13] ∧ Same G7 H) ⟨_, _, _, rfl, Same.refl _⟩ (fun j σ H _ q => ?_) (fun j x σ G8 hj q => ?_) fun σ G8 q => ?_
            · obtain ⟨_, _, _, _, e⟩ := q
              exact SqL.of (e _ _ gs)
            · obtain ⟨z7, z12, z13, rfl, e⟩ := q
              obtain ⟨p, hp, ax⟩ := al x (List.mem_of_getElem? hj)
              have ft := fit_pair gt (by omega) hp (by omega : n ≤ 12)
              have z : (PyData.tuple [tabsD n ts, arrD n p]).shown.length ≤ sizeLine := Nat.le_trans ft.le (by decide)
              have z2 : (PyData.tuple [tabsD n ts, arrD n p]).depth ≤ 60 := Nat.le_trans ft.dp (by decide)
              have d8 := dd7.same e
              have a8 := ar_to (ax.same e)
              refine ⟨_, rfl, _, rfl, (show 2 ≤ sizeLine by decide), fun t1 ht1 => ?_⟩
              obtain ⟨G9, q9, e9, g9⟩ := new_ex (o := .tup [tv, x]) ht1
              rw [← q9]
              refine ⟨_, .tuple [tabsD n ts, arrD n p], rfl, .tup (SqT.of g9) (.cons (d8.same e9) (.cons (a8.same e9) .nil)), ft.sh, z, z2, ?_⟩
              refine ⟨_, rfl, _, rfl, tv, x, n, ts, p, rfl, d8.same e9, a8.same e9, hp, gt, by omega, by omega, fun G10 e10 => ⟨_, _, rfl, ?_⟩⟩
              refine ⟨_, rfl, _, .bool _, "bool", rfl, .bl _, by decide, _, rfl, ?_⟩
              refine iteF' rfl ?_
              have sn : ∀ v : V, (!decide (v = v)) = false := fun v => by simp
              refine ⟨_, rfl, _, rfl, _, rfl, tv, x, n, ts, p, rfl, d8.same (e9.trans e10), a8.same (e9.trans e10), hp, gt, by omega, by omega, fun G11 e11 => ⟨rfl, _, rfl, ?_⟩⟩
              rw [sn]
              refine iteF ?_
              have eA := (e9.trans e10).trans e11
              refine ⟨_, rfl, _, rfl, (show 2 ≤ sizeLine by decide), fun t3 ht3 => ?_⟩
              obtain ⟨G12, q12, e12, g12⟩ := new_ex (o := .tup [tv, x]) ht3
              rw [← q12]
              refine ⟨_, .tuple [tabsD n ts, arrD n p], rfl, .tup (SqT.of g12) (.cons (d8.same (eA.trans e12)) (.cons (a8.same (eA.trans e12)) .nil)), ft.sh, z, z2, _, rfl, rfl, _, rfl, ?_⟩
              rw [sn]
              refine iteF ?_
              exact ⟨_, _, _, rfl, e.trans (eA.trans e12)⟩
            · obtain ⟨z7, z12, z13, rfl, e⟩ := q
              exact ⟨_, _, _, _, _, _, _, _, _, _, _, _, rfl, (pG.same e).mono (by omega)⟩
    · obtain ⟨x2, x3, x4, x5, x6, x7, x8, x9, x10, x11, x12, x13, rfl, pn1⟩ := h
      have swap : IsP 2 (fun x => 1 - x) := ⟨fun x h => by show 1 - x < 2; omega, fun x y _ _ (e : 1 - x = 1 - y) => by omega, fun y hy => ⟨1 - y, by omega, by show 1 - (1 - y) = y; omega⟩⟩
      refine ⟨by decide, fun p1 hp1 => ⟨(show 2 ≤ sizeLine by decide), fun t1 ht1 => ?_⟩⟩
      have tp1 : p1 ≠ t1 := ne_of_none (upd_same) ht1
      refine ⟨_, _, 2, [], id, rfl, .lst (SqL.of (by rw [upd_ne tp1]; exact upd_same)) .nil, .tup (SqT.of upd_same) (.cons (.int 0) (.cons (.int 1) .nil)), isP_id 2, fun t ht => absurd ht List.not_mem_nil, by decide, by decide, fun G2 e2 => ⟨_, true, rfl, rfl, ?_⟩⟩
      refine ⟨_, rfl, iteT' (by decide) ?_⟩
      refine ⟨by decide, fun p2 hp2 => ⟨(show 2 ≤ sizeLine by decide), fun t2 ht2 => ?_⟩⟩
      have tp2 : p2 ≠ t2 := ne_of_none (upd_same) ht2
      refine ⟨_, _, 2, [], fun x => 1 - x, rfl, .lst (SqL.of (by rw [upd_ne tp2]; exact upd_same)) .nil, .tup (SqT.of upd_same) (.cons (.int 1) (.cons (.int 0) .nil)), swap, fun t ht => absurd ht List.not_mem_nil, by decide, by decide, fun G4 e4 => ⟨_, false, rfl, rfl, ?_⟩⟩
      have e : decide (sifB 2 [] (fun x => 1 - x) = false) = true := by decide
      rw [e]
      exact k _
end
theorem all_mk {l : PySem.W.OpenLaw} {w : World} {K : PySem.W.Frag} {h : Heap} {mg : Str → Option Value} {fa f1 f2 f3 f4 f5 f6 f7 f8 f9 f10 f11 f12 f13 f14 f15 f16 f17 f18 f19 f20 : Addr} (X : K.In h) (G : h.Ns mainGlobals mg) (hfa : mg "law" = some (.ref fa))
    {od1 od2 od3 od4 od5 od6 od7 od8 od9 od10 od11 od12 od13 od14 od15 od16 od17 od18 od19 od20 an1 an2 an3 an4 an5 an6 an7 an8 an9 an10 an11 an12 an13 an14 an15 an16 an17 an18 an19 an20 : Option Addr} {sl1 sl2 sl3 sl4 sl5 sl6 sl7 sl8 sl9 sl10 sl11 sl12 sl13 sl14 sl15 sl16 sl17 sl18 sl19 sl20 : Array (Option Value)} {oc1 oc2 oc3 oc4 oc5 oc6 oc7 oc8 oc9 oc10 oc11 oc12 oc13 oc14 oc15 oc16 oc17 oc18 oc19 oc20 kV1 kV2 kV3 kV4 kV5 kV6 kV7 kV8 kV9 kV10 kV11 kV12 kV13 kV14 kV15 kV16 kV17 kV18 kV19 kV20 dc1 dc2 dc3 dc4 dc5 dc6 dc7 dc8 dc9 dc10 dc11 dc12 dc13 dc14 dc15 dc16 dc17 dc18 dc19 dc20 pm1 pm2 pm3 pm4 pm5 pm6 pm7 pm8 pm9 pm10 pm11 pm12 pm13 pm14 pm15 pm16 pm17 pm18 pm19 pm20 cd1 cd2 cd3 cd4 cd5 cd6 cd7 cd8 cd9 cd10 cd11 cd12 cd13 cd14 cd15 cd16 cd17 cd18 cd19 cd20 ct1 ct2 ct3 ct4 ct5 ct6 ct7 ct8 ct9 ct10 ct11 ct12 ct13 ct14 ct15 ct16 ct17 ct18 ct19 ct20 : Value}
    (a1 : PySem.W.nsIn K mainGlobals "behind" = some (some (.ref f1))) (l1 : K.lookup f1 = some ⟨oc1, od1, .func (PySem.W.fnOf "behind" "behind" (defArgs s_behind) (defBody s_behind) (defScope s_behind) .none kV1 dc1 pm1 an1 cd1 ct1), sl1⟩) (c1 : PySem.W.codeIn K cd1 "behind" = true) (k1 : PySem.W.keepIn K (.ref f1) = true)
    (a2 : PySem.W.nsIn K mainGlobals "undone" = some (some (.ref f2))) (l2 : K.lookup f2 = some ⟨oc2, od2, .func (PySem.W.fnOf "undone" "undone" (defArgs s_undone) (defBody s_undone) (defScope s_undone) .none kV2 dc2 pm2 an2 cd2 ct2), sl2⟩) (c2 : PySem.W.codeIn K cd2 "undone" = true) (k2 : PySem.W.keepIn K (.ref f2) = true)
    (a3 : PySem.W.nsIn K mainGlobals "sieve_of" = some (some (.ref f3))) (l3 : K.lookup f3 = some ⟨oc3, od3, .func (PySem.W.fnOf "sieve_of" "sieve_of" (defArgs s_sieve_of) (defBody s_sieve_of) (defScope s_sieve_of) .none kV3 dc3 pm3 an3 cd3 ct3), sl3⟩) (c3 : PySem.W.codeIn K cd3 "sieve_of" = true) (k3 : PySem.W.keepIn K (.ref f3) = true)
    (a4 : PySem.W.nsIn K mainGlobals "sift" = some (some (.ref f4))) (l4 : K.lookup f4 = some ⟨oc4, od4, .func (PySem.W.fnOf "sift" "sift" (defArgs s_sift) (defBody s_sift) (defScope s_sift) .none kV4 dc4 pm4 an4 cd4 ct4), sl4⟩) (c4 : PySem.W.codeIn K cd4 "sift" = true) (k4 : PySem.W.keepIn K (.ref f4) = true)
    (a5 : PySem.W.nsIn K mainGlobals "passes" = some (some (.ref f5))) (l5 : K.lookup f5 = some ⟨oc5, od5, .func (PySem.W.fnOf "passes" "passes" (defArgs s_passes) (defBody s_passes) (defScope s_passes) .none kV5 dc5 pm5 an5 cd5 ct5), sl5⟩) (c5 : PySem.W.codeIn K cd5 "passes" = true) (k5 : PySem.W.keepIn K (.ref f5) = true)
    (a6 : PySem.W.nsIn K mainGlobals "sifts" = some (some (.ref f6))) (l6 : K.lookup f6 = some ⟨oc6, od6, .func (PySem.W.fnOf "sifts" "sifts" (defArgs s_sifts) (defBody s_sifts) (defScope s_sifts) .none kV6 dc6 pm6 an6 cd6 ct6), sl6⟩) (c6 : PySem.W.codeIn K cd6 "sifts" = true) (k6 : PySem.W.keepIn K (.ref f6) = true)
    (a7 : PySem.W.nsIn K mainGlobals "_law_pen" = some (some (.ref f7))) (l7 : K.lookup f7 = some ⟨oc7, od7, .func (PySem.W.fnOf "_law_pen" "_law_pen" (defArgs s_law_pen) (defBody s_law_pen) (defScope s_law_pen) .none kV7 dc7 pm7 an7 cd7 ct7), sl7⟩) (c7 : PySem.W.codeIn K cd7 "_law_pen" = true) (k7 : PySem.W.keepIn K (.ref f7) = true)
    (a8 : PySem.W.nsIn K mainGlobals "_law_draw" = some (some (.ref f8))) (l8 : K.lookup f8 = some ⟨oc8, od8, .func (PySem.W.fnOf "_law_draw" "_law_draw" (defArgs s_law_draw) (defBody s_law_draw) (defScope s_law_draw) .none kV8 dc8 pm8 an8 cd8 ct8), sl8⟩) (c8 : PySem.W.codeIn K cd8 "_law_draw" = true) (k8 : PySem.W.keepIn K (.ref f8) = true)
    (a9 : PySem.W.nsIn K mainGlobals "_law_pick" = some (some (.ref f9))) (l9 : K.lookup f9 = some ⟨oc9, od9, .func (PySem.W.fnOf "_law_pick" "_law_pick" (defArgs s_law_pick) (defBody s_law_pick) (defScope s_law_pick) .none kV9 dc9 pm9 an9 cd9 ct9), sl9⟩) (c9 : PySem.W.codeIn K cd9 "_law_pick" = true) (k9 : PySem.W.keepIn K (.ref f9) = true)
    (a10 : PySem.W.nsIn K mainGlobals "_law_shuffled" = some (some (.ref f10))) (l10 : K.lookup f10 = some ⟨oc10, od10, .func (PySem.W.fnOf "_law_shuffled" "_law_shuffled" (defArgs s_law_shuffled) (defBody s_law_shuffled) (defScope s_law_shuffled) .none kV10 dc10 pm10 an10 cd10 ct10), sl10⟩) (c10 : PySem.W.codeIn K cd10 "_law_shuffled" = true) (k10 : PySem.W.keepIn K (.ref f10) = true)
    (a11 : PySem.W.nsIn K mainGlobals "_law_arrangement" = some (some (.ref f11))) (l11 : K.lookup f11 = some ⟨oc11, od11, .func (PySem.W.fnOf "_law_arrangement" "_law_arrangement" (defArgs s_law_arrangement) (defBody s_law_arrangement) (defScope s_law_arrangement) .none kV11 dc11 pm11 an11 cd11 ct11), sl11⟩) (c11 : PySem.W.codeIn K cd11 "_law_arrangement" = true) (k11 : PySem.W.keepIn K (.ref f11) = true)
    (a12 : PySem.W.nsIn K mainGlobals "_law_behind" = some (some (.ref f12))) (l12 : K.lookup f12 = some ⟨oc12, od12, .func (PySem.W.fnOf "_law_behind" "_law_behind" (defArgs s_law_behind) (defBody s_law_behind) (defScope s_law_behind) .none kV12 dc12 pm12 an12 cd12 ct12), sl12⟩) (c12 : PySem.W.codeIn K cd12 "_law_behind" = true) (k12 : PySem.W.keepIn K (.ref f12) = true)
    (a13 : PySem.W.nsIn K mainGlobals "_law_undone" = some (some (.ref f13))) (l13 : K.lookup f13 = some ⟨oc13, od13, .func (PySem.W.fnOf "_law_undone" "_law_undone" (defArgs s_law_undone) (defBody s_law_undone) (defScope s_law_undone) .none kV13 dc13 pm13 an13 cd13 ct13), sl13⟩) (c13 : PySem.W.codeIn K cd13 "_law_undone" = true) (k13 : PySem.W.keepIn K (.ref f13) = true)
    (a14 : PySem.W.nsIn K mainGlobals "_law_sifts" = some (some (.ref f14))) (l14 : K.lookup f14 = some ⟨oc14, od14, .func (PySem.W.fnOf "_law_sifts" "_law_sifts" (defArgs s_law_sifts) (defBody s_law_sifts) (defScope s_law_sifts) .none kV14 dc14 pm14 an14 cd14 ct14), sl14⟩) (c14 : PySem.W.codeIn K cd14 "_law_sifts" = true) (k14 : PySem.W.keepIn K (.ref f14) = true)
    (a15 : PySem.W.nsIn K mainGlobals "_law_group" = some (some (.ref f15))) (l15 : K.lookup f15 = some ⟨oc15, od15, .func (PySem.W.fnOf "_law_group" "_law_group" (defArgs s_law_group) (defBody s_law_group) (defScope s_law_group) .none kV15 dc15 pm15 an15 cd15 ct15), sl15⟩) (c15 : PySem.W.codeIn K cd15 "_law_group" = true) (k15 : PySem.W.keepIn K (.ref f15) = true)
    (a16 : PySem.W.nsIn K mainGlobals "_law_tables_by" = some (some (.ref f16))) (l16 : K.lookup f16 = some ⟨oc16, od16, .func (PySem.W.fnOf "_law_tables_by" "_law_tables_by" (defArgs s_law_tables_by) (defBody s_law_tables_by) (defScope s_law_tables_by) .none kV16 dc16 pm16 an16 cd16 ct16), sl16⟩) (c16 : PySem.W.codeIn K cd16 "_law_tables_by" = true) (k16 : PySem.W.keepIn K (.ref f16) = true)
    (a17 : PySem.W.nsIn K mainGlobals "_law_leaving" = some (some (.ref f17))) (l17 : K.lookup f17 = some ⟨oc17, od17, .func (PySem.W.fnOf "_law_leaving" "_law_leaving" (defArgs s_law_leaving) (defBody s_law_leaving) (defScope s_law_leaving) .none kV17 dc17 pm17 an17 cd17 ct17), sl17⟩) (c17 : PySem.W.codeIn K cd17 "_law_leaving" = true) (k17 : PySem.W.keepIn K (.ref f17) = true)
    (a18 : PySem.W.nsIn K mainGlobals "_law_any_tables" = some (some (.ref f18))) (l18 : K.lookup f18 = some ⟨oc18, od18, .func (PySem.W.fnOf "_law_any_tables" "_law_any_tables" (defArgs s_law_any_tables) (defBody s_law_any_tables) (defScope s_law_any_tables) .none kV18 dc18 pm18 an18 cd18 ct18), sl18⟩) (c18 : PySem.W.codeIn K cd18 "_law_any_tables" = true) (k18 : PySem.W.keepIn K (.ref f18) = true)
    (a19 : PySem.W.nsIn K mainGlobals "_law_product" = some (some (.ref f19))) (l19 : K.lookup f19 = some ⟨oc19, od19, .func (PySem.W.fnOf "_law_product" "_law_product" (defArgs s_law_product) (defBody s_law_product) (defScope s_law_product) .none kV19 dc19 pm19 an19 cd19 ct19), sl19⟩) (c19 : PySem.W.codeIn K cd19 "_law_product" = true) (k19 : PySem.W.keepIn K (.ref f19) = true)
    (a20 : PySem.W.nsIn K mainGlobals "law" = some (some (.ref f20))) (l20 : K.lookup f20 = some ⟨oc20, od20, .func (PySem.W.fnOf "law" "law" (defArgs s_law) (defBody s_law) (defScope s_law) .none kV20 dc20 pm20 an20 cd20 ct20), sl20⟩) (c20 : PySem.W.codeIn K cd20 "law" = true) (k20 : PySem.W.keepIn K (.ref f20) = true)
    (z_isinstance : PySem.W.nsIn K mainGlobals "isinstance" = some none)
    (z_int : PySem.W.nsIn K mainGlobals "int" = some none)
    (z_bool : PySem.W.nsIn K mainGlobals "bool" = some none)
    (z_str : PySem.W.nsIn K mainGlobals "str" = some none)
    (z_tuple : PySem.W.nsIn K mainGlobals "tuple" = some none)
    (z_list : PySem.W.nsIn K mainGlobals "list" = some none)
    (z_dict : PySem.W.nsIn K mainGlobals "dict" = some none)
    (z_set : PySem.W.nsIn K mainGlobals "set" = some none)
    (z_len : PySem.W.nsIn K mainGlobals "len" = some none)
    (z_all : PySem.W.nsIn K mainGlobals "all" = some none)
    (z_any : PySem.W.nsIn K mainGlobals "any" = some none)
    (z_sum : PySem.W.nsIn K mainGlobals "sum" = some none)
    (z_abs : PySem.W.nsIn K mainGlobals "abs" = some none)
    (z_range : PySem.W.nsIn K mainGlobals "range" = some none)
    (z_sorted : PySem.W.nsIn K mainGlobals "sorted" = some none)
    (z_min : PySem.W.nsIn K mainGlobals "min" = some none)
    (z_max : PySem.W.nsIn K mainGlobals "max" = some none)
    (z_repr : PySem.W.nsIn K mainGlobals "repr" = some none)
    (z_zip : PySem.W.nsIn K mainGlobals "zip" = some none)
    (z_enumerate : PySem.W.nsIn K mainGlobals "enumerate" = some none)
    (z_reversed : PySem.W.nsIn K mainGlobals "reversed" = some none) :
    ∃ fd : FuncData, (∀ (s : Shared) (v : Value), BindsTo s fd ⟨[v], []⟩ [("script", v)]) ∧ ∀ base : Heap, K.In base → base.Ns mainGlobals mg → FnG l.prog w K mg base CX0 5 fa fd ["script"] (spLaw K) := by
  have e := hfa.symm.trans (PySem.W.mg_of X G a20)
  cases e
  have TB : Bt mg := ⟨PySem.W.mg_none_of X G z_isinstance, PySem.W.mg_none_of X G z_int, PySem.W.mg_none_of X G z_bool, PySem.W.mg_none_of X G z_str, PySem.W.mg_none_of X G z_tuple, PySem.W.mg_none_of X G z_list, PySem.W.mg_none_of X G z_dict, PySem.W.mg_none_of X G z_set, PySem.W.mg_none_of X G z_len, PySem.W.mg_none_of X G z_all, PySem.W.mg_none_of X G z_any, PySem.W.mg_none_of X G z_sum, PySem.W.mg_none_of X G z_abs, PySem.W.mg_none_of X G z_range, PySem.W.mg_none_of X G z_sorted, PySem.W.mg_none_of X G z_min, PySem.W.mg_none_of X G z_max, PySem.W.mg_none_of X G z_repr, PySem.W.mg_none_of X G z_zip, PySem.W.mg_none_of X G z_enumerate, PySem.W.mg_none_of X G z_reversed⟩
  have F1 := fun_mk (st := s_behind) l1 c1 k1
  have b1 := F1.binds (ps := ["one", "other"]) fun _ _ _ _ _ _ us hl => match us, hl with | [_, _], _ => rfl
  have F2 := fun_mk (st := s_undone) l2 c2 k2
  have b2 := F2.binds (ps := ["one"]) fun _ _ _ _ _ _ us hl => match us, hl with | [_], _ => rfl
  have F3 := fun_mk (st := s_sieve_of) l3 c3 k3
  have b3 := F3.binds (ps := ["tables"]) fun _ _ _ _ _ _ us hl => match us, hl with | [_], _ => rfl
  have F4 := fun_mk (st := s_sift) l4 c4 k4
  have b4 := F4.binds (ps := ["sieve", "one"]) fun _ _ _ _ _ _ us hl => match us, hl with | [_, _], _ => rfl
  have F5 := fun_mk (st := s_passes) l5 c5 k5
  have b5 := F5.binds (ps := ["sieve", "one"]) fun _ _ _ _ _ _ us hl => match us, hl with | [_, _], _ => rfl
  have F6 := fun_mk (st := s_sifts) l6 c6 k6
  have b6 := F6.binds (ps := ["tables", "one"]) fun _ _ _ _ _ _ us hl => match us, hl with | [_, _], _ => rfl
  have F7 := fun_mk (st := s_law_pen) l7 c7 k7
  have b7 := F7.binds (ps := ["script"]) fun _ _ _ _ _ _ us hl => match us, hl with | [_], _ => rfl
  have F8 := fun_mk (st := s_law_draw) l8 c8 k8
  have b8 := F8.binds (ps := ["pen", "many"]) fun _ _ _ _ _ _ us hl => match us, hl with | [_, _], _ => rfl
  have F9 := fun_mk (st := s_law_pick) l9 c9 k9
  have b9 := F9.binds (ps := ["pen", "some"]) fun _ _ _ _ _ _ us hl => match us, hl with | [_, _], _ => rfl
  have F10 := fun_mk (st := s_law_shuffled) l10 c10 k10
  have b10 := F10.binds (ps := ["pen", "some"]) fun _ _ _ _ _ _ us hl => match us, hl with | [_, _], _ => rfl
  have F11 := fun_mk (st := s_law_arrangement) l11 c11 k11
  have b11 := F11.binds (ps := ["pen", "places"]) fun _ _ _ _ _ _ us hl => match us, hl with | [_, _], _ => rfl
  have F12 := fun_mk (st := s_law_behind) l12 c12 k12
  have b12 := F12.binds (ps := ["one", "other"]) fun _ _ _ _ _ _ us hl => match us, hl with | [_, _], _ => rfl
  have F13 := fun_mk (st := s_law_undone) l13 c13 k13
  have b13 := F13.binds (ps := ["one"]) fun _ _ _ _ _ _ us hl => match us, hl with | [_], _ => rfl
  have F14 := fun_mk (st := s_law_sifts) l14 c14 k14
  have b14 := F14.binds (ps := ["tables", "one"]) fun _ _ _ _ _ _ us hl => match us, hl with | [_, _], _ => rfl
  have F15 := fun_mk (st := s_law_group) l15 c15 k15
  have b15 := F15.binds (ps := ["places", "some"]) fun _ _ _ _ _ _ us hl => match us, hl with | [_, _], _ => rfl
  have F16 := fun_mk (st := s_law_tables_by) l16 c16 k16
  have b16 := F16.binds (ps := ["pen", "group", "order"]) fun _ _ _ _ _ _ us hl => match us, hl with | [_, _, _], _ => rfl
  have F17 := fun_mk (st := s_law_leaving) l17 c17 k17
  have b17 := F17.binds (ps := ["pen", "places", "ahead"]) fun _ _ _ _ _ _ us hl => match us, hl with | [_, _, _], _ => rfl
  have F18 := fun_mk (st := s_law_any_tables) l18 c18 k18
  have b18 := F18.binds (ps := ["pen", "places"]) fun _ _ _ _ _ _ us hl => match us, hl with | [_, _], _ => rfl
  have F19 := fun_mk (st := s_law_product) l19 c19 k19
  have b19 := F19.binds (ps := ["pen", "tables", "places"]) fun _ _ _ _ _ _ us hl => match us, hl with | [_, _, _], _ => rfl
  have F20 := fun_mk (st := s_law) l20 c20 k20
  refine ⟨PySem.W.fnOf "law" "law" (defArgs s_law) (defBody s_law) (defScope s_law) .none kV20 dc20 pm20 an20 cd20 ct20, fun s v => .of_eq rfl, fun base _ _ => ?_⟩
  have C_behind : Cg l.prog w K mg base 1 "behind" (spBehind K) := ⟨_, _, _, ok_behind F1 TB, PySem.W.mg_of X G a1, k1, b1⟩
  have C_undone : Cg l.prog w K mg base 1 "undone" (spUndone K) := ⟨_, _, _, ok_undone F2 TB, PySem.W.mg_of X G a2, k2, b2⟩
  have C_sieve_of : Cg l.prog w K mg base 2 "sieve_of" (spSieve K) := ⟨_, _, _, ok_sieve_of F3 C_undone, PySem.W.mg_of X G a3, k3, b3⟩
  have C_sift : Cg l.prog w K mg base 2 "sift" (spSift K) := ⟨_, _, _, ok_sift F4 C_behind, PySem.W.mg_of X G a4, k4, b4⟩
  have C_passes : Cg l.prog w K mg base 3 "passes" (spPass K) := ⟨_, _, _, ok_passes F5 TB C_sift, PySem.W.mg_of X G a5, k5, b5⟩
  have C_sifts : Cg l.prog w K mg base 4 "sifts" (spSifts K) := ⟨_, _, _, ok_sifts F6 C_passes C_sieve_of, PySem.W.mg_of X G a6, k6, b6⟩
  have C__law_pen : Cg l.prog w K mg base 1 "_law_pen" (spPen K) := ⟨_, _, _, ok_law_pen F7 TB, PySem.W.mg_of X G a7, k7, b7⟩
  have C__law_draw : Cg l.prog w K mg base 1 "_law_draw" (spDraw) := ⟨_, _, _, ok_law_draw F8 TB, PySem.W.mg_of X G a8, k8, b8⟩
  have C__law_pick : Cg l.prog w K mg base 2 "_law_pick" (spPickA K) := ⟨_, _, _, ok_law_pick F9 TB C__law_draw, PySem.W.mg_of X G a9, k9, b9⟩
  have C__law_shuffled : Cg l.prog w K mg base 2 "_law_shuffled" (spShuf K) := ⟨_, _, _, ok_law_shuffled F10 TB C__law_draw, PySem.W.mg_of X G a10, k10, b10⟩
  have C__law_arrangement : Cg l.prog w K mg base 3 "_law_arrangement" (spArr) := ⟨_, _, _, ok_law_arrangement F11 TB C__law_draw C__law_shuffled, PySem.W.mg_of X G a11, k11, b11⟩
  have C__law_behind : Cg l.prog w K mg base 1 "_law_behind" (spBehindT K) := ⟨_, _, _, ok_law_behindT F12 TB, PySem.W.mg_of X G a12, k12, b12⟩
  have C__law_undone : Cg l.prog w K mg base 1 "_law_undone" (spUndone K) := ⟨_, _, _, ok_law_undone F13 TB, PySem.W.mg_of X G a13, k13, b13⟩
  have C__law_sifts : Cg l.prog w K mg base 2 "_law_sifts" (spSifts K) := ⟨_, _, _, ok_law_sifts F14 TB (Cg.imp C__law_behind behind_of) C__law_undone, PySem.W.mg_of X G a14, k14, b14⟩
  have C__law_group : Cg l.prog w K mg base 2 "_law_group" (spGroup K) := ⟨_, _, _, ok_law_group F15 TB C__law_behind, PySem.W.mg_of X G a15, k15, b15⟩
  have C__law_tables_by : Cg l.prog w K mg base 3 "_law_tables_by" (spBy K) := ⟨_, _, _, ok_law_tables_by F16 TB C__law_shuffled C__law_pick, PySem.W.mg_of X G a16, k16, b16⟩
  have C__law_leaving : Cg l.prog w K mg base 3 "_law_leaving" (spLeave K) := ⟨_, _, _, ok_law_leaving F17 TB C__law_shuffled, PySem.W.mg_of X G a17, k17, b17⟩
  have C__law_any_tables : Cg l.prog w K mg base 4 "_law_any_tables" (spAny K) := ⟨_, _, _, ok_law_any_tables F18 TB C__law_draw C__law_shuffled C__law_leaving, PySem.W.mg_of X G a18, k18, b18⟩
  have C__law_product : Cg l.prog w K mg base 3 "_law_product" (spProd K) := ⟨_, _, _, ok_law_product F19 TB C__law_behind C__law_pick, PySem.W.mg_of X G a19, k19, b19⟩
  exact ok_law F20 TB C__law_pen C__law_draw C__law_shuffled C__law_arrangement C__law_any_tables C__law_tables_by C__law_group C__law_product C_sifts C__law_sifts
end T
open PySem PySem.W PyProof.Rows
set_option maxRecDepth 100000 in
set_option maxHeartbeats 0 in
theorem PySem.Challenge.cw_recutkeys_k35_sifting_holds : PySem.Challenge.rw_recutkeys_k35_sifting.Holds := by
  w_on; o_law; k_head; (case hw => w_witness2)
  k_fill
  refine RG.walk_G (l := PySem.Challenge.rw_recutkeys_k35_sifting) (n := 63) (k := 5) (x := "script") (sp := fun K => T.spLaw K) rfl (by decide) rfl ⟨rfl, by decide, by decide⟩ (fun w h Y => PySem.W.kIn_of Y) ?F (fun K H a ns hl hS hH => ⟨a, ns, rfl, hS, hl, fun _ => rfl⟩)
  case F =>
    intro w mg fa h KX G hmg
    refine' T.all_mk KX G hmg ?a1 ?l1 ?c1 ?k1 ?a2 ?l2 ?c2 ?k2 ?a3 ?l3 ?c3 ?k3 ?a4 ?l4 ?c4 ?k4 ?a5 ?l5 ?c5 ?k5 ?a6 ?l6 ?c6 ?k6 ?a7 ?l7 ?c7 ?k7 ?a8 ?l8 ?c8 ?k8 ?a9 ?l9 ?c9 ?k9 ?a10 ?l10 ?c10 ?k10 ?a11 ?l11 ?c11 ?k11 ?a12 ?l12 ?c12 ?k12 ?a13 ?l13 ?c13 ?k13 ?a14 ?l14 ?c14 ?k14 ?a15 ?l15 ?c15 ?k15 ?a16 ?l16 ?c16 ?k16 ?a17 ?l17 ?c17 ?k17 ?a18 ?l18 ?c18 ?k18 ?a19 ?l19 ?c19 ?k19 ?a20 ?l20 ?c20 ?k20 ?z_isinstance ?z_int ?z_bool ?z_str ?z_tuple ?z_list ?z_dict ?z_set ?z_len ?z_all ?z_any ?z_sum ?z_abs ?z_range ?z_sorted ?z_min ?z_max ?z_repr ?z_zip ?z_enumerate ?z_reversed
    (case a1 => k_is)
    (case l1 => k_is)
    (case c1 => k_is)
    (case k1 => k_is)
    (case a2 => k_is)
    (case l2 => k_is)
    (case c2 => k_is)
    (case k2 => k_is)
    (case a3 => k_is)
    (case l3 => k_is)
    (case c3 => k_is)
    (case k3 => k_is)
    (case a4 => k_is)
    (case l4 => k_is)
    (case c4 => k_is)
    (case k4 => k_is)
    (case a5 => k_is)
    (case l5 => k_is)
    (case c5 => k_is)
    (case k5 => k_is)
    (case a6 => k_is)
    (case l6 => k_is)
    (case c6 => k_is)
    (case k6 => k_is)
    (case a7 => k_is)
    (case l7 => k_is)
    (case c7 => k_is)
    (case k7 => k_is)
    (case a8 => k_is)
    (case l8 => k_is)
    (case c8 => k_is)
    (case k8 => k_is)
    (case a9 => k_is)
    (case l9 => k_is)
    (case c9 => k_is)
    (case k9 => k_is)
    (case a10 => k_is)
    (case l10 => k_is)
    (case c10 => k_is)
    (case k10 => k_is)
    (case a11 => k_is)
    (case l11 => k_is)
    (case c11 => k_is)
    (case k11 => k_is)
    (case a12 => k_is)
    (case l12 => k_is)
    (case c12 => k_is)
    (case k12 => k_is)
    (case a13 => k_is)
    (case l13 => k_is)
    (case c13 => k_is)
    (case k13 => k_is)
    (case a14 => k_is)
    (case l14 => k_is)
    (case c14 => k_is)
    (case k14 => k_is)
    (case a15 => k_is)
    (case l15 => k_is)
    (case c15 => k_is)
    (case k15 => k_is)
    (case a16 => k_is)
    (case l16 => k_is)
    (case c16 => k_is)
    (case k16 => k_is)
    (case a17 => k_is)
    (case l17 => k_is)
    (case c17 => k_is)
    (case k17 => k_is)
    (case a18 => k_is)
    (case l18 => k_is)
    (case c18 => k_is)
    (case k18 => k_is)
    (case a19 => k_is)
    (case l19 => k_is)
    (case c19 => k_is)
    (case k19 => k_is)
    (case a20 => k_is)
    (case l20 => k_is)
    (case c20 => k_is)
    (case k20 => k_is)
    (case z_isinstance => k_is)
    (case z_int => k_is)
    (case z_bool => k_is)
    (case z_str => k_is)
    (case z_tuple => k_is)
    (case z_list => k_is)
    (case z_dict => k_is)
    (case z_set => k_is)
    (case z_len => k_is)
    (case z_all => k_is)
    (case z_any => k_is)
    (case z_sum => k_is)
    (case z_abs => k_is)
    (case z_range => k_is)
    (case z_sorted => k_is)
    (case z_min => k_is)
    (case z_max => k_is)
    (case z_repr => k_is)
    (case z_zip => k_is)
    (case z_enumerate => k_is)
    (case z_reversed => k_is)
