import PyProof.Rows.All
import Wide.All
import OpenK.AllK
import Wide.FinOn
import HandS.ForMost
import HandS.IsInst
import HandS.SortInts
import HandS.SetFor
import HandS.Strs
import HandS.Conv
import HandS.TupAny
import HandS.Codes
import HandS.Nested
import HandS.Style
import KE.GoesEnum
import HandS.NoneIn
import HandS.Gcd
import PyProof.Rows.StrJoinStr
import PyProof.Rows.StrSigns2
import PyProof.ReprRoads
import PyProof.EqKinds
import HandS.Walk
import HandS.DictComp
import HandS.More
import HandS.Zip
import KE.KDictDisplayH
import HandS.Star
import HandS.Deep
import HandS.Lambda
import HandS.EndTab
import KE.SortKeyHeap
import KE.SortData
import KE.KNestM
import HandS.SortRule
import KE.KDictZip
import KE.KDictSum
import HandS.OwnEq
import HandS.DeepEq
import HandS.Defaults
import HandS.ExcInit
import KE.KExcInit
import KE.KExcIs
import HandS.TryOnly
import HandS.ExcField
import HandS.ExcIs
import HandS.Rev
import HandS.FStr
import HandS.Text
import KE.KLam
import KE.KNestM
import PySem.Challenge.RW_recutkeys_k11_what_is_a_stand
set_option Elab.async false
set_option linter.all false
set_option maxRecDepth 100000
set_option maxHeartbeats 4000000
section RGa
/-! Rules of my own over the layer: sorted of a tuple of ints, set of one, != of an empty list or tuple, repr of data. -/
namespace RG
open PySem PySem.Spec PyProof.Rows L2
section
variable {prog : Program} {w : World} {A : Around} {E : Value → Shared → Prop} {s : Shared}
/-- the items of a tuple gathered into a list -/
theorem gather_tup {t : Addr} {us : List Value} {Q : List Value → Shared → Prop} (ht : s.heap.IsTuple t us.toArray) (hz : us.length ≤ sizeLine)
    (k : Q us { s with heap := Heap.update (Heap.push s.heap (seqObj "list" #[] 0)) s.heap.objs.size (Obj.mapSeq fun x => x ++ us.toArray) }) :
    wpAny (model prog w) A (collect (Value.ref t)) Q E s := by
  obtain ⟨ob, g1, g2, n, g3⟩ := id ht
  have g1' : (Heap.push s.heap (seqObj "list" #[] 0)).get? t = some ob := Heap.get?_push_of_some _ g1
  have fresh : (Heap.push s.heap (seqObj "list" #[] 0)).get? s.heap.objs.size = some (seqObj "list" #[] 0) := Heap.get?_push_size _ rfl
  unfold collect
  apply wpAny_bind
  apply wpAny_runValue
  refine codeAny_builtin entry_proto_collect' ?_
  show wpAny _ _ (do
    again (.builtin "list.__iadd__" ⟨[← newList [], Value.ref t], []⟩)) _ _ s
  apply wpAny_bind
  refine wpAny_newList (wpAny_pure ⟨Code.quiet_builtin _ (by decide +kernel), ?_⟩)
  refine codeAny_builtin entry_list_iadd' ?_
  show wpAny _ _ (Builtin.List.listExtendWith (Value.ref s.heap.objs.size) (Value.ref t) (Value.ref s.heap.objs.size)) _ _ { s with heap := Heap.push s.heap (seqObj "list" #[] 0) }
  unfold Builtin.List.listExtendWith
  apply wpAny_bind
  refine wpAny_typeOf (T := "tuple") ⟨ob, g1', g2⟩ ?_
  rw [if_pos (by rw [show (Value.type "tuple" == Value.type "tuple") = true from rfl, Bool.or_true])]
  refine wpAny_bind (listItems_at g1' g3 ?_)
  refine wpAny_bind (listItems_at (n := 0) (xs := #[]) fresh rfl ?_)
  rw [if_neg (by simp)]
  refine wpAny_bind (listUpdate_at (n := 0) (xs := #[]) fresh rfl ?_ (Nat.zero_le _) (by simpa using Nat.le_succ_of_le hz))
  refine wpAny_pure ?_
  show wpAny (model prog w) A (do
      let o ← load s.heap.objs.size
      match o.data with
      | .seq xs _ => pure xs.toList
      | _ => unsupported "internal:collect") Q E { s with heap := Heap.update (Heap.push s.heap (seqObj "list" #[] 0)) s.heap.objs.size (Obj.mapSeq fun x => x ++ us.toArray) }
  refine wpAny_bind (wpAny_load (get?_update_seq fresh _) ?_)
  have e : (((#[] : Array Value) ++ us.toArray).toList) = us := by simp
  show wpAny _ _ (pure ((#[] : Array Value) ++ us.toArray).toList) Q E _
  rw [e]
  exact wpAny_pure k
/-- sorted(t), t a tuple of any things that an order sorts -/
theorem sorted_tup {t : Addr} {us : List Value} {lt : Value → Value → Bool} {Q : Value → Shared → Prop} (O : SrtO.Swo lt) (ht : s.heap.IsTuple t us.toArray) (hz : us.length ≤ sizeLine)
    (hS : 2 ≤ us.length → ∀ (g : Heap) (a : Addr), g.get? a = some (seqObj "list" us.toArray 0) → SrtO.SortableO prog w A.in1.in1 { s with heap := g } a us lt)
    (k : ∀ out : List Value, SrtO.Srtd lt out → SrtO.Stb lt out us → Q (Value.ref (s.heap.objs.size + 1)) { s with heap := sortedAll s.heap us out.toArray }) :
    wpAny (model prog w) A (call (.builtin "sorted") [Value.ref t]) Q E s := by
  refine Calls.call_function_entry kind_sorted plain_sorted entry_sorted (args_sorted1 _) ?_
  unfold Builtin.«sorted»
  apply wpAny_bind (m := checkCount "sorted" 1 1 _)
  apply wpAny_pure
  apply wpAny_bind
  refine gather_tup ht hz ?_
  apply wpAny_bind
  refine wpAny_newList ?_ hz
  have one : (Heap.update (Heap.push s.heap (seqObj "list" #[] 0)) s.heap.objs.size (Obj.mapSeq fun x => x ++ us.toArray)).objs.size = s.heap.objs.size + 1 := by
    rw [Heap.size_update, size_push']
  have at1 : (Heap.push (Heap.update (Heap.push s.heap (seqObj "list" #[] 0)) s.heap.objs.size (Obj.mapSeq fun x => x ++ us.toArray)) (seqObj "list" us.toArray 0)).get? (s.heap.objs.size + 1) = some (seqObj "list" us.toArray 0) := by
    have e := Heap.get?_push_size (Heap.update (Heap.push s.heap (seqObj "list" #[] 0)) s.heap.objs.size (Obj.mapSeq fun x => x ++ us.toArray)) (o := seqObj "list" us.toArray 0) rfl
    rw [one] at e
    exact e
  show wpAny _ _ _ _ _ { s with heap := Heap.push (Heap.update (Heap.push s.heap (seqObj "list" #[] 0)) s.heap.objs.size (Obj.mapSeq fun x => x ++ us.toArray)) (seqObj "list" us.toArray 0) }
  rw [one]
  apply wpAny_bind
  apply wpAny_holding
  refine wpAny_call_entry slot_list_sort ⟨_, at1, rfl⟩ entry_list_sort (SrtO.list_sort_ord O at1 hz (fun h2 => hS h2 _ _ at1) fun out h1 h2 => ⟨_, rfl, ?_⟩) (args_list_sort _)
  exact wpAny_pure ⟨_, rfl, k out h1 h2⟩
end
section
variable {X : Cx}
/-- sorted(t), t a tuple of ints -/
def rSortTI (K : PySem.W.Frag) : List V → Hp → VK → Prop := fun vs H Q => ∃ (a : Addr) (ns : List Int), vs = [V.ref a] ∧ SqT K H a (ns.map V.int) ∧
  ∀ (ms : List Int) (p : Addr), ms.Perm ns → ms.Pairwise (· ≤ ·) → H p = none → Q (.ref p) (upd H p (.lst (ms.map V.int)))
theorem ints_back : ∀ {ns : List Int} {us : List Value}, Vals (ns.map V.int) us → IntsAre us ns
  | [], _, .nil => .nil
  | n :: ns, _, .cons r t => by
    obtain ⟨k, rfl⟩ := r
    exact .cons n k (ints_back t)
theorem ints_forth : ∀ {ns : List Int} {us : List Value}, IntsAre us ns → Vals (ns.map V.int) us
  | _, _, .nil => .nil
  | _, _, .cons n k t => .cons ⟨k, rfl⟩ (ints_forth t)
theorem cr_sortTI : CallR X (.builtin "sorted") (rSortTI X.K) := by
  intro pins s σ H vs us Q I r h
  obtain ⟨a, ns, rfl, hs, q⟩ := h
  obtain ⟨its, rv, pt, hz⟩ := I.tuple hs
  rw [Vals.ref1 r]
  have hi := ints_back rv
  have hl := rv.length
  rw [List.length_map] at hl hz
  refine sorted_tup SrtO.swo_int (show s.heap.IsTuple a its.toArray from pt) (by omega) (fun h2 g b _ => SrtO.ints_sortable hi h2) fun out h1 h2 => ?_
  obtain ⟨k1, k2, k3⟩ := SrtO.ints_out hi h1 h2
  obtain ⟨ep, he⟩ := PyProof.Rows.sortedAll_at s.heap its out.toArray
  have h3 : ((out.map SrtO.iv).map V.int).length ≤ sizeLine := by
    rw [List.length_map, k2.length_eq]
    exact hz
  exact ⟨.ref _, upd H (s.heap.objs.size + 1) (.lst ((out.map SrtO.iv).map V.int)),
    I.laid (t' := s.toks) (fun _ _ => PyProof.Rows.sortedAll_old) (Nat.le_succ _) ⟨h3, out, ep, ints_forth k1, he⟩, rfl, q _ _ k2 k3 (I.hok.fresh (Nat.le_succ _))⟩

/-- set(t), t a tuple of ints -/
def rSetTI (K : PySem.W.Frag) (w : World) : List V → Hp → VK → Prop := fun vs H Q => ∃ (a : Addr) (ns : List Int), vs = [V.ref a] ∧ SqT K H a (ns.map V.int) ∧ ns.length ≤ 1000 ∧
  ∀ (p : Addr) (ms : List Int), ms.Nodup → (∀ k, k ∈ ms ↔ k ∈ ns) → H p = none → Q (.ref p) (upd H p (SetO w p (fun j => decide (j ∈ ns)) ms.length))
theorem cr_setTI (hc : X.calm = true) : CallR X (.type "set") (rSetTI X.K X.w) := by
  intro pins s σ H vs us Q I r h
  obtain ⟨a, ns, rfl, hs, hl, q⟩ := h
  obtain ⟨its, rv, pt, hz⟩ := I.tuple hs
  rw [Vals.ref1 r]
  have hi : IntsAre its.toArray.toList ns := by simpa using ints_back rv
  refine call_set_tupI ns (I.ok.hd hc) (show s.heap.IsTuple a its.toArray from pt) hi (by unfold scanBound; omega) fun g tk c R hcn kp => ?_
  have R2 := R
  obtain ⟨o, es, ep, t, ho, hex, hdt, gd, nd, hm, hb, hf, hn, hr, hl2⟩ := R2
  have hlen : c = (es.toList.map keyOf).length := by
    rw [List.length_map, Array.length_toList]
    exact hn.symm
  subst hlen
  exact ⟨.ref _, upd H s.heap.objs.size (SetO X.w s.heap.objs.size (fun j => decide (j ∈ ns)) (es.toList.map keyOf).length), I.laid kp (Nat.le_refl _) (setO_new R), rfl,
    q _ (es.toList.map keyOf) nd (fun k => by rw [← hm k, decide_eq_true_eq]) (I.hok.fresh (Nat.le_refl _))⟩
/-- len of a set of ints -/
theorem cr_lenSet : CallR X (.builtin "len") (fun xs H Q => ∃ (p : Addr) (S : Int → Bool) (n : Nat), xs = [.ref p] ∧ H p = some (SetO X.w p S n) ∧ Q (.int n) H) := by
  intro pins s σ H vs us Q I r h
  obtain ⟨p, S, n, rfl, hp, q⟩ := h
  rw [Vals.ref1 r]
  obtain ⟨o, es, ep, t, ho, hex, hdt, gd, nd, hm, hb, hf, hn, hr, hl2⟩ := setO_get I hp
  subst hn
  refine call_len_set ho hex hdt hf (by unfold scanBound at hb; omega) ⟨.int _, H, I.tok _, ⟨_, rfl⟩, q⟩
/-- xs != [], a list; t != (), a tuple: any things in them -/
def rNeNil (K : PySem.W.Frag) : R2 := fun x y H Q => ∃ a b xs, x = .ref a ∧ y = .ref b ∧ ((SqL K H a xs ∧ SqL K H b []) ∨ (SqT K H a xs ∧ SqT K H b [])) ∧ Q (.bl (!xs.isEmpty)) H
theorem op_neNil (hu : X.A.units < cLine) : OpR X (compareOp .NotEq) (rNeNil X.K) := by
  intro pins s σ H x y v u Q I rx ry h
  obtain ⟨a, b, xs, rfl, rfl, hq, q⟩ := h
  cases rx
  cases ry
  rcases hq with ⟨ha, hb⟩ | ⟨ha, hb⟩
  · obtain ⟨i1, r1, p1, _⟩ := I.list ha
    obtain ⟨i2, r2, p2, _⟩ := I.list hb
    cases r2
    cases r1 with
    | nil => exact SeqAt.RcNeAt.lists (e := fun _ => true) p1.isList p2.isList rfl hu (fun j h1 _ => absurd h1 (by simp)) X.prog X.w _ _ ⟨.bl false, H, I, rfl, q⟩
    | cons r t => exact SeqAt.RcNeAt.lists_lengths p1.isList p2.isList (by simp) hu X.prog X.w _ _ ⟨.bl true, H, I, rfl, q⟩
  · obtain ⟨i1, r1, p1, _⟩ := I.tuple ha
    obtain ⟨i2, r2, p2, _⟩ := I.tuple hb
    cases r2
    cases r1 with
    | nil => exact SeqAt.RcNeAt.tuples (e := fun _ => true) (show s.heap.IsTuple a _ from p1) (show s.heap.IsTuple b _ from p2) hu (fun j h1 _ => absurd h1 (by simp)) X.prog X.w _ _ ⟨.bl false, H, I, rfl, q⟩
    | cons r t => exact SeqAt.RcNeAt.tuples (e := fun _ => true) (show s.heap.IsTuple a _ from p1) (show s.heap.IsTuple b _ from p2) hu (fun j _ h2 => absurd h2 (by simp)) X.prog X.w _ _ ⟨.bl true, H, I, rfl, q⟩
end
end RG
end RGa
section RGb
/-! Data in the abstract heap, dicts among them; repr of it. -/
namespace RG
open PySem PySem.Spec PyProof.Rows L2
def keyData : Key → PyData
  | .inl i => .int i
  | .inr x => .str x
/-- a pen's dict begins with its cells -/
def isPen : List (Key × V) → Bool
  | (.inr x, _) :: _ => decide (x = ("cells" : Str))
  | _ => false
mutual
/-- the thing v is the data d, as the heap stands -/
inductive Dd (K : PySem.W.Frag) (H : Hp) : V → PyData → Prop
  | non : Dd K H .non .none
  | bl (b : Bool) : Dd K H (.bl b) (.bool b)
  | int (i : Int) : Dd K H (.int i) (.int i)
  | str (x : Str) : Dd K H (.str x) (.str x)
  | lst {a : Addr} {xs : List V} {ds : List PyData} (at' : SqL K H a xs) (all : DdAll K H xs ds) : Dd K H (.ref a) (.list ds)
  | tup {a : Addr} {xs : List V} {ds : List PyData} (at' : SqT K H a xs) (all : DdAll K H xs ds) : Dd K H (.ref a) (.tuple ds)
  | dct {a : Addr} {kvs : List (Key × V)} {ds : List (PyData × PyData)} (at' : Rd H a (.dK kvs)) (noPen : isPen kvs = false) (all : DdKv K H kvs ds) : Dd K H (.ref a) (.dict ds)
inductive DdAll (K : PySem.W.Frag) (H : Hp) : List V → List PyData → Prop
  | nil : DdAll K H [] []
  | cons {v : V} {vs : List V} {d : PyData} {ds : List PyData} (h : Dd K H v d) (t : DdAll K H vs ds) : DdAll K H (v :: vs) (d :: ds)
inductive DdKv (K : PySem.W.Frag) (H : Hp) : List (Key × V) → List (PyData × PyData) → Prop
  | nil : DdKv K H [] []
  | cons {k : Key} {v : V} {kvs : List (Key × V)} {d : PyData} {ds : List (PyData × PyData)} (h : Dd K H v d) (t : DdKv K H kvs ds) : DdKv K H ((k, v) :: kvs) ((keyData k, d) :: ds)
end
theorem DdAll.length {K : PySem.W.Frag} {H : Hp} : ∀ {vs : List V} {ds : List PyData}, DdAll K H vs ds → vs.length = ds.length
  | _, _, .nil => rfl
  | _, _, .cons _ t => congrArg Nat.succ t.length
theorem DdAll.get {K : PySem.W.Frag} {H : Hp} : ∀ {vs : List V} {ds : List PyData} {i : Nat} {v : V}, DdAll K H vs ds → vs[i]? = some v → ∃ d, ds[i]? = some d ∧ Dd K H v d
  | _, _, _, _, .nil, e => by simp at e
  | _, _, 0, _, .cons h _, e => by
    simp at e
    subst e
    exact ⟨_, rfl, h⟩
  | _, _, i + 1, _, .cons _ t, e => by
    obtain ⟨d, h1, h2⟩ := DdAll.get (i := i) t (by simpa using e)
    exact ⟨d, by simpa using h1, h2⟩
theorem keyRead {prog : Program} {w : World} {h : Heap} {k : Key} {v : Value} (e : (mixKind prog w).is k v = true) : Reads h v (keyData k) [] := by
  rcases keyIs_shape e with ⟨i, t, rfl, rfl⟩ | ⟨x, t, rfl, rfl⟩
  · exact Reads.int i t
  · exact Reads.str x t
theorem keyShow {prog : Program} {w : World} {h : Heap} {k : Key} {v : Value} {n : Nat} {bs : List Addr} (e : (mixKind prog w).is k v = true) (hs : (keyData k).showable = true) (hz : (keyData k).shown.length ≤ sizeLine) :
    ReprK prog w bs h n v (keyData k).shown := by
  rcases keyIs_shape e with ⟨i, t, rfl, rfl⟩ | ⟨x, t, rfl, rfl⟩
  · simp only [keyData, PyData.shown]
    exact .of_is (ReprIs.int t (by simpa [keyData, PyData.showable] using hs)) _ _ _
  · simp only [keyData, PyData.shown]
    exact .of_is (ReprIs.str x t (by simpa only [keyData, PyData.shown] using hz)) _ _ _
theorem keyFlat (k : Key) : (keyData k).depth = 0 := by
  cases k <;> rfl
section
variable {X : Cx} {pins : List (Addr × Obj)} {σ : L2.St} {H : Hp} {s : Shared}
/-- all but the thing at p is as it was -/
def Kb (p : Addr) (H H' : Hp) : Prop := ∀ b o, H b = some o → b ≠ p → H' b = some o
/-- p holds a pen -/
def PenO (H : Hp) (p : Addr) : Prop := ∃ kvs, H p = some (.dK kvs) ∧ isPen kvs = true
theorem rd_kb {p : Addr} {H H' : Hp} {a : Addr} {o : HO} (e : Kb p H H') (h : Rd H a o) (n : a ≠ p) : Rd H' a o := by
  rcases h with h | ⟨ob, h⟩
  · exact Or.inl (e _ _ h n)
  · exact Or.inr ⟨ob, e _ _ h n⟩
theorem sql_kb {K : PySem.W.Frag} {p : Addr} {H H' : Hp} {a : Addr} {xs : List V} (e : Kb p H H') (hp : PenO H p) (h : SqL K H a xs) : SqL K H' a xs := by
  obtain ⟨kvs, hp, _⟩ := hp
  rcases h with h | h
  · refine Or.inl (rd_kb e h ?_)
    rintro rfl
    rcases h with h | ⟨ob, h⟩
    · rw [hp] at h; cases h
    · rw [hp] at h; cases h
  · exact Or.inr h
theorem sqt_kb {K : PySem.W.Frag} {p : Addr} {H H' : Hp} {a : Addr} {xs : List V} (e : Kb p H H') (hp : PenO H p) (h : SqT K H a xs) : SqT K H' a xs := by
  obtain ⟨kvs, hp, _⟩ := hp
  rcases h with h | h
  · refine Or.inl (rd_kb e h ?_)
    rintro rfl
    rcases h with h | ⟨ob, h⟩
    · rw [hp] at h; cases h
    · rw [hp] at h; cases h
  · exact Or.inr h
theorem dk_kb {p : Addr} {H H' : Hp} {a : Addr} {kvs : List (Key × V)} (e : Kb p H H') (hp : PenO H p) (n : isPen kvs = false) (h : Rd H a (.dK kvs)) : Rd H' a (.dK kvs) := by
  obtain ⟨ks, hp, hk⟩ := hp
  refine rd_kb e h ?_
  rintro rfl
  rcases h with h | ⟨ob, h⟩
  · rw [hp] at h
    cases h
    rw [hk] at n
    cases n
  · rw [hp] at h; cases h
mutual
theorem Dd.kb {K : PySem.W.Frag} {p : Addr} {H H' : Hp} (e : Kb p H H') (hp : PenO H p) : ∀ {v : V} {d : PyData}, Dd K H v d → Dd K H' v d
  | _, _, .non => .non
  | _, _, .bl b => .bl b
  | _, _, .int i => .int i
  | _, _, .str x => .str x
  | _, _, .lst h t => .lst (sql_kb e hp h) (DdAll.kb e hp t)
  | _, _, .tup h t => .tup (sqt_kb e hp h) (DdAll.kb e hp t)
  | _, _, .dct h n t => .dct (dk_kb e hp n h) n (DdKv.kb e hp t)
theorem DdAll.kb {K : PySem.W.Frag} {p : Addr} {H H' : Hp} (e : Kb p H H') (hp : PenO H p) : ∀ {vs : List V} {ds : List PyData}, DdAll K H vs ds → DdAll K H' vs ds
  | _, _, .nil => .nil
  | _, _, .cons h t => .cons (Dd.kb e hp h) (DdAll.kb e hp t)
theorem DdKv.kb {K : PySem.W.Frag} {p : Addr} {H H' : Hp} (e : Kb p H H') (hp : PenO H p) : ∀ {kvs : List (Key × V)} {ds : List (PyData × PyData)}, DdKv K H kvs ds → DdKv K H' kvs ds
  | _, _, .nil => .nil
  | _, _, .cons h t => .cons (Dd.kb e hp h) (DdKv.kb e hp t)
end
/-- tuples, lists, dicts stand in a heap that keeps them -/
theorem rd_same {H H' : Hp} {a : Addr} {o : HO} (e : Same H H') (h : Rd H a o) : Rd H' a o := by
  rcases h with h | ⟨ob, h⟩
  · exact Or.inl (e _ _ h)
  · exact Or.inr ⟨ob, e _ _ h⟩
theorem sql_same {K : PySem.W.Frag} {H H' : Hp} {a : Addr} {xs : List V} (e : Same H H') (h : SqL K H a xs) : SqL K H' a xs := h.imp (rd_same e) id
theorem sqt_same {K : PySem.W.Frag} {H H' : Hp} {a : Addr} {xs : List V} (e : Same H H') (h : SqT K H a xs) : SqT K H' a xs := h.imp (rd_same e) id
mutual
theorem Dd.same {K : PySem.W.Frag} {H H' : Hp} (e : Same H H') : ∀ {v : V} {d : PyData}, Dd K H v d → Dd K H' v d
  | _, _, .non => .non
  | _, _, .bl b => .bl b
  | _, _, .int i => .int i
  | _, _, .str x => .str x
  | _, _, .lst h t => .lst (sql_same e h) (DdAll.same e t)
  | _, _, .tup h t => .tup (sqt_same e h) (DdAll.same e t)
  | _, _, .dct h n t => .dct (rd_same e h) n (DdKv.same e t)
theorem DdAll.same {K : PySem.W.Frag} {H H' : Hp} (e : Same H H') : ∀ {vs : List V} {ds : List PyData}, DdAll K H vs ds → DdAll K H' vs ds
  | _, _, .nil => .nil
  | _, _, .cons h t => .cons (Dd.same e h) (DdAll.same e t)
theorem DdKv.same {K : PySem.W.Frag} {H H' : Hp} (e : Same H H') : ∀ {kvs : List (Key × V)} {ds : List (PyData × PyData)}, DdKv K H kvs ds → DdKv K H' kvs ds
  | _, _, .nil => .nil
  | _, _, .cons h t => .cons (Dd.same e h) (DdKv.same e t)
end
mutual
theorem Dd.tells (I : Inv X pins σ H s) : ∀ {v : V} {d : PyData} {u : Value}, Dd X.K H v d → RelV v u → d.showable = true → d.shown.length ≤ sizeLine →
    ∃ as bs, Reads s.heap u d as ∧ ReadAtMost s.heap d.depth bs ∧ ReprK X.prog X.w bs s.heap d.depth u d.shown
  | _, _, _, .non, r, _, _ => by
    cases r
    refine ⟨_, [], Reads.none, (fun _ h => nomatch h), ?_⟩
    simp only [PyData.shown]
    exact .of_is ReprIs.none _ _ _
  | _, _, _, .bl b, r, _, _ => by
    cases r
    refine ⟨_, [], Reads.bool b, (fun _ h => nomatch h), ?_⟩
    simp only [PyData.shown]
    exact .of_is (ReprIs.bool b) _ _ _
  | _, _, _, .int i, r, hs, _ => by
    obtain ⟨t, rfl⟩ := r
    refine ⟨_, [], Reads.int i t, (fun _ h => nomatch h), ?_⟩
    simp only [PyData.shown]
    exact .of_is (ReprIs.int t (by simpa [PyData.showable] using hs)) _ _ _
  | _, _, _, .str x, r, _, hz => by
    obtain ⟨t, rfl⟩ := r
    refine ⟨_, [], Reads.str x t, (fun _ h => nomatch h), ?_⟩
    simp only [PyData.shown]
    exact .of_is (ReprIs.str x t (by simpa only [PyData.shown] using hz)) _ _ _
  | _, .list ds, _, .lst hs ha, r, hw, hz => by
    cases r
    obtain ⟨its, rv, ⟨o, n, ho, hc, _, hd⟩, _⟩ := I.list hs
    have hz2 : (listText (PyData.shownAll ds)).length ≤ sizeLine := by simpa only [PyData.shown] using hz
    obtain ⟨as, bs, hr, hb, hk⟩ := DdAll.tells I ha rv (by simpa [PyData.showable] using hw) (fun t ht => Nat.le_trans (listText_mem_le ht) hz2)
    have R : Reads s.heap (.ref _) (.list ds) _ := Reads.list ho hc hd (by simpa using hr)
    have hn := not_mem_of_deeper R (by simp only [PyData.depth]; omega) hb
    refine ⟨_, _, R, ReadAtMost.cons R (by simp only [PyData.depth]; omega) hb, ?_⟩
    simp only [PyData.depth, PyData.shown]
    cases its with
    | nil =>
      cases hr
      simp only [PyData.shownAll, listText_nil]
      exact ReprK.listEmpty ho hc hd
    | cons z l => exact ReprK.list ho hc hd hn (by simpa using hk.length_eq) (fun i y e => hk.item i y (by simpa using e))
  | _, .tuple ds, _, .tup hs ha, r, hw, hz => by
    cases r
    obtain ⟨its, rv, ⟨o, ho, hc, n, hd⟩, _⟩ := I.tuple hs
    have hz2 : (tupleText (PyData.shownAll ds)).length ≤ sizeLine := by simpa only [PyData.shown] using hz
    obtain ⟨as, bs, hr, hb, hk⟩ := DdAll.tells I ha rv (by simpa [PyData.showable] using hw) (fun t ht => Nat.le_trans (tupleText_mem_le ht) hz2)
    have R : Reads s.heap (.ref _) (.tuple ds) _ := Reads.tuple ho hc hd (by simpa using hr)
    have hn := not_mem_of_deeper R (by simp only [PyData.depth]; omega) hb
    refine ⟨_, _, R, ReadAtMost.cons R (by simp only [PyData.depth]; omega) hb, ?_⟩
    simp only [PyData.depth, PyData.shown]
    exact ReprK.tuple ho hc hd hn (by simpa using hk)
  | _, .dict ds, _, .dct hs _ ha, r, hw, hz => by
    cases r
    obtain ⟨z, hy, vs, rel, o, es, ep, h1, h2, h3, h4, h5, h6⟩ := hs.ok I.hok
    have hz2 : (dictText (PyData.shownKv ds)).length ≤ sizeLine := by simpa only [PyData.shown] using hz
    obtain ⟨w1, w2⟩ := PyData.showableKv_split ds (by simpa [PyData.showable] using hw)
    obtain ⟨as, a2, bs, r1, r2, hb, k1, k2⟩ := DdKv.tells I ha rel h5 w1 w2 (fun t ht => Nat.le_trans (dictText_mem_le ht) hz2)
    have R : Reads s.heap (.ref _) (.dict ds) _ := Reads.dict h1 h2.1 h3 r1 r2
    have hn := not_mem_of_deeper R (by simp only [PyData.depth]; omega) hb
    refine ⟨_, _, R, ReadAtMost.cons R (by simp only [PyData.depth]; omega) hb, ?_⟩
    simp only [PyData.depth, PyData.shown, PyData.shownKv_eq]
    exact ReprK.dict h1 h2.1 h3 hy hn (ReprEntriesK.of_two es.toList _ _ k1 k2)
theorem DdAll.tells (I : Inv X pins σ H s) : ∀ {vs : List V} {ds : List PyData} {us : List Value}, DdAll X.K H vs ds → Vals vs us → PyData.showableAll ds = true → (∀ t ∈ PyData.shownAll ds, t.length ≤ sizeLine) →
    ∃ as bs, ReadsAll s.heap us ds as ∧ ReadAtMost s.heap (PyData.depthAll ds) bs ∧ ReprAllK X.prog X.w bs s.heap (PyData.depthAll ds) us (PyData.shownAll ds)
  | _, _, _, .nil, r, _, _ => by
    cases r
    refine ⟨_, [], ReadsAll.nil, (fun _ h => nomatch h), ?_⟩
    simp only [PyData.shownAll]
    exact .nil
  | _, d :: ds, _, .cons h t, r, hw, hz => by
    cases r with
    | cons r1 r2 =>
      have w2 : d.showable = true ∧ PyData.showableAll ds = true := by simpa [PyData.showableAll] using hw
      simp only [PyData.shownAll] at hz
      obtain ⟨a1, b1, q1, m1, k1⟩ := Dd.tells I h r1 w2.1 (hz _ (List.mem_cons_self ..))
      obtain ⟨a2, b2, q2, m2, k2⟩ := DdAll.tells I t r2 w2.2 (fun x hx => hz x (List.mem_cons_of_mem _ hx))
      simp only [PyData.depthAll, PyData.shownAll]
      refine ⟨_, b1 ++ b2, ReadsAll.cons q1 q2, (m1.mono (Nat.le_max_left _ _)).append (m2.mono (Nat.le_max_right _ _)), ?_⟩
      exact .cons ((k1.more fun b hb => List.mem_append_left _ hb).level_le (Nat.le_max_left _ _)) (k2.more_le (fun b hb => List.mem_append_right _ hb) (Nat.le_max_right _ _))
theorem DdKv.tells (I : Inv X pins σ H s) : ∀ {kvs : List (Key × V)} {ds : List (PyData × PyData)} {vs : List (Key × Value)} {es : List DictEntry}, DdKv X.K H kvs ds → KV kvs vs → Pairs (mixKind X.prog X.w) es vs →
    PyData.showableAll (ds.map (·.1)) = true → PyData.showableAll (ds.map (·.2)) = true → (∀ t ∈ PyData.shownKv ds, t.length ≤ sizeLine) →
    ∃ as a2 bs, ReadsAll s.heap (es.map (·.key)) (ds.map (·.1)) as ∧ ReadsAll s.heap (es.map (·.val)) (ds.map (·.2)) a2 ∧ ReadAtMost s.heap (PyData.depthKv ds) bs ∧
      ReprAllK X.prog X.w bs s.heap (PyData.depthKv ds) (es.map (·.key)) (PyData.shownAll (ds.map (·.1))) ∧ ReprAllK X.prog X.w bs s.heap (PyData.depthKv ds) (es.map (·.val)) (PyData.shownAll (ds.map (·.2)))
  | _, _, _, _, .nil, r, p, _, _, _ => by
    cases r
    cases p
    refine ⟨_, _, [], ReadsAll.nil, ReadsAll.nil, (fun _ h => nomatch h), ?_, ?_⟩
    · simp only [List.map_nil, PyData.shownAll]
      exact .nil
    · simp only [List.map_nil, PyData.shownAll]
      exact .nil
  | (k, v) :: _, _, _, _, .cons (d := d) (ds := ds) h t, r, p, hw1, hw2, hz => by
    cases r with
    | cons r1 r2 =>
      cases p with
      | cons p1 p2 p3 =>
        obtain ⟨e1, e2⟩ := r1
        rename_i kv _ _ _
        obtain ⟨k', u'⟩ := kv
        simp only at e1 e2 p1 p2
        subst e1
        subst p2
        have w1 : (keyData k).showable = true ∧ PyData.showableAll (ds.map (·.1)) = true := by simpa [PyData.showableAll] using hw1
        have w2 : d.showable = true ∧ PyData.showableAll (ds.map (·.2)) = true := by simpa [PyData.showableAll] using hw2
        simp only [PyData.shownKv] at hz
        have z1 := hz _ (List.mem_cons_self ..)
        rw [strLen_append, strLen_append] at z1
        obtain ⟨a1, b1, q1, m1, k1⟩ := Dd.tells I h e2 w2.1 (by omega)
        obtain ⟨a2, a3, b2, q2, q3, m2, k2, k3⟩ := DdKv.tells I t r2 p3 w1.2 w2.2 (fun x hx => hz x (List.mem_cons_of_mem _ hx))
        have d1 : d.depth ≤ PyData.depthKv ((keyData k, d) :: ds) := by simp only [PyData.depthKv]; omega
        have d2 : PyData.depthKv ds ≤ PyData.depthKv ((keyData k, d) :: ds) := by simp only [PyData.depthKv]; omega
        refine ⟨_, _, b1 ++ b2, ReadsAll.cons (keyRead p1) q2, ReadsAll.cons q1 q3, (m1.mono d1).append (m2.mono d2), ?_, ?_⟩
        · simp only [List.map_cons, PyData.shownAll]
          exact .cons (keyShow p1 w1.1 (by omega)) (k2.more_le (fun b hb => List.mem_append_right _ hb) d2)
        · simp only [List.map_cons, PyData.shownAll]
          exact .cons ((k1.more fun b hb => List.mem_append_left _ hb).level_le d1) (k3.more_le (fun b hb => List.mem_append_right _ hb) d2)
end
end
section
variable {X : Cx}
/-- repr(x), x data of any kind -/
def rRepr (K : PySem.W.Frag) : List V → Hp → VK → Prop := fun vs H Q => ∃ (x : V) (d : PyData), vs = [x] ∧ Dd K H x d ∧ d.showable = true ∧ d.shown.length ≤ sizeLine ∧ d.depth ≤ 60 ∧ Q (.str d.shown) H
theorem cr_repr (hg : X.A.guards = some []) (hu : X.A.units + 64 < cLine) : CallR X (.builtin "repr") (rRepr X.K) := by
  intro pins s σ H vs us Q I r h
  obtain ⟨x, d, rfl, hx, hs, hz, hd, q⟩ := h
  obtain ⟨u, rfl, rx⟩ := vals1 r
  cases hx with
  | non =>
    cases rx
    simp only [PyData.shown] at q
    exact PySem.P.repr_of_none ⟨.str _, H, I.tok _, ⟨_, rfl⟩, q⟩
  | bl b =>
    cases rx
    simp only [PyData.shown] at q
    exact PySem.P.repr_of_bool ⟨.str _, H, I.tok _, ⟨_, rfl⟩, q⟩
  | int i =>
    obtain ⟨t, rfl⟩ := rx
    simp only [PyData.shown] at q
    exact PySem.P.repr_of_int (by simpa [PyData.showable] using hs) ⟨.str _, H, I.tok _, ⟨_, rfl⟩, q⟩
  | str y =>
    obtain ⟨t, rfl⟩ := rx
    simp only [PyData.shown] at q hz
    exact PySem.P.repr_of_str ⟨.str _, H, I.tok _, ⟨_, rfl⟩, q⟩ hz
  | @lst a xs ds h1 h2 =>
    cases rx
    obtain ⟨its, rv, ⟨o, n, ho, hc, _, hda⟩, _⟩ := I.list h1
    simp only [PyData.shown, PyData.depth] at q hz hd
    obtain ⟨as, bs, hr, hb, hk⟩ := DdAll.tells I h2 rv (by simpa [PyData.showable] using hs) (fun t ht => Nat.le_trans (listText_mem_le ht) hz)
    have R : Reads s.heap (.ref a) (.list ds) _ := Reads.list ho hc hda (by simpa using hr)
    have hn := not_mem_of_deeper R (by simp only [PyData.depth]; omega) hb
    refine call_repr_slot (by omega) ⟨o, ho, hc⟩ F.slot_list_repr.toG ?_
    cases its with
    | nil =>
      cases hr
      simp only [PyData.shownAll, listText_nil] at q
      exact call_list_repr_empty ⟨o, ho, hc⟩ ho hda ⟨_, _, rfl, .str _, H, I.tok _, ⟨_, rfl⟩, q⟩
    | cons z l =>
      exact call_list_reprK ho hc hda hn (by simpa using hk.length_eq) (fun i y e => hk.item i y (by simpa using e)) hg (fun b _ => Clear.nil b) (by show X.A.units + 1 + _ < cLine; omega) (fun _ _ e => e)
        (fun g v tk kp => ⟨_, _, rfl, .str _, H, I.kept kp, ⟨_, rfl⟩, q⟩) hz
  | @tup a xs ds h1 h2 =>
    cases rx
    obtain ⟨its, rv, ⟨o, ho, hc, n, hda⟩, _⟩ := I.tuple h1
    simp only [PyData.shown, PyData.depth] at q hz hd
    obtain ⟨as, bs, hr, hb, hk⟩ := DdAll.tells I h2 rv (by simpa [PyData.showable] using hs) (fun t ht => Nat.le_trans (tupleText_mem_le ht) hz)
    have R : Reads s.heap (.ref a) (.tuple ds) _ := Reads.tuple ho hc hda (by simpa using hr)
    have hn := not_mem_of_deeper R (by simp only [PyData.depth]; omega) hb
    refine call_repr_slot (by omega) ⟨o, ho, hc⟩ F.slot_tuple_repr ?_
    exact call_tuple_reprK ho hc hda hn (by simpa using hk) hg (fun b _ => Clear.nil b) (by show X.A.units + 1 + _ < cLine; omega) (fun _ _ e => e)
        (fun g v tk kp => ⟨_, _, rfl, .str _, H, I.kept kp, ⟨_, rfl⟩, q⟩) hz
  | @dct a kvs ds h1 _ h2 =>
    cases rx
    obtain ⟨z, hy, vs, rel, o, es, ep, g1, g2, g3, g4, g5, g6⟩ := h1.ok I.hok
    simp only [PyData.shown, PyData.depth] at q hz hd
    obtain ⟨w1, w2⟩ := PyData.showableKv_split ds (by simpa [PyData.showable] using hs)
    obtain ⟨as, a2, bs, r1, r2, hb, k1, k2⟩ := DdKv.tells I h2 rel g5 w1 w2 (fun t ht => Nat.le_trans (dictText_mem_le ht) hz)
    have R : Reads s.heap (.ref a) (.dict ds) _ := Reads.dict g1 g2.1 g3 r1 r2
    have hn := not_mem_of_deeper R (by simp only [PyData.depth]; omega) hb
    refine call_repr_slot (by omega) ⟨o, g1, g2.1⟩ F.slot_dict_repr ?_
    rw [PyData.shownKv_eq] at q hz
    exact call_dict_reprK g1 g2.1 g3 hy hn (ReprEntriesK.of_two es.toList _ _ k1 k2) hg (fun b _ => Clear.nil b) (by show X.A.units + 1 + _ < cLine; omega) (fun _ _ e => e)
        (fun g v tk kp => ⟨_, _, rfl, .str _, H, I.kept kp, ⟨_, rfl⟩, q⟩) hz
end
end RG
end RGb
section RGc
/-! A def's promise that may use that no repr runs around it (FnG); the law's end over such promises. -/
namespace RG
open PySem PySem.Spec PyProof.Rows L2
structure FnG (P : Program) (w : World) (K : PySem.W.Frag) (mg : Str → Option Value) (base : Heap) (CX : CXT) (k : Nat) (f : Addr) (fd : FuncData) (ps : List Str) (sp : Sp) : Prop where
  many : ∀ vs H Q E, sp vs H Q E → vs.length = ps.length
  runs : ∀ (A : Around) (out : List Env) (s : Shared) (H : Hp) (ar : Args) (us : List Value) (vs : List V) (Q : VK) (E : XK),
    Room k A → A.guards = some [] → Env0 P w K mg base A out s H → BindsTo s fd ar (ps.zip us) → Vals vs us → sp vs H Q E →
      codeAny (model P w) A (.call (.ref f) ar) (CR CX out P w H s Q E) s
section
variable {P : Program} {w : World} {K : PySem.W.Frag} {mg : Str → Option Value} {base : Heap} {CX : CXT} {f : Addr} {fd : FuncData} {N ps : List Str} {k : Nat} {sp : Sp} {x qual : Str} {st : Stmt}
theorem FnG.of (F : FnOk P w K mg base CX k f fd ps sp) : FnG P w K mg base CX k f fd ps sp :=
  ⟨F.len, fun A out s H ar us vs Q E hr _ => F.run A out s H ar us vs Q E hr⟩
/-- a def of the text, by its body -/
theorem fnG_of (F : Fun K x qual st f fd) (S : FnScope N ps (defScope st)) (many : ∀ vs H Q E, sp vs H Q E → vs.length = ps.length)
    (body : ∀ (cd : Value) (A : Around) (out : List Env) (s : Shared) (H : Hp) (vs : List V) (Q : VK) (E : XK),
      Room k (A.deeper (envOfC qual (defScope st) s.heap.objs.size f cd)) → (A.deeper (envOfC qual (defScope st) s.heap.objs.size f cd)).guards = some [] → sp vs H Q E →
      ∃ t, PSs (cxOf CX P w K mg base N qual (defScope st) f cd A out s H E) (defBody st) t ∧ t { nx := fun _ H' => Q .non H', rt := Q } (start N vs) H) :
    FnG P w K mg base CX (k + 1) f fd ps sp := by
  obtain ⟨oc, od, kV, doc, pm, an, cd, ct, osl, rfl, lk, hcd⟩ := F.ex
  refine ⟨many, fun A out s H ar us vs Q E hr hg e0 hb hv hsp => ?_⟩
  have long := many _ _ _ _ hsp
  have inn : K.In s.heap := e0.mod.kin.keeps fun b o e => (e0.bs b o e).1
  have lim : s.heap.NoLimit := e0.mod.nolimit.keeps fun b o e => (e0.bs b o e).1
  refine codeAny_call_function hr.depth (inn _ _ lk) rfl S.co S.gen rfl (PySem.W.codeRec_of inn hcd) (hb _ _ _ _ ?_)
  refine wpAny_newFunctionEnv_cells S.kind (fun y hy => ?_) fun env he s1 z => ?_
  · obtain ⟨n, v⟩ := y
    have hn : n ∈ ps := (List.of_mem_zip hy).1
    rcases S.par n hn with q | q
    · exact Or.inl q
    · exact Or.inr ⟨q, PySem.W.cellsFrom_some _ _ _ (Or.inl q)⟩
  subst he
  refine ⟨lim.keeps z.toInCall.keep, codeAny_func ?_⟩
  obtain ⟨t, ht, hq⟩ := body cd A out s H vs Q E (hr.deeper _) hg hsp
  have J := inv_start (CX := CX) (E := E) S hr.hd e0 long hv z
  refine wpAny_mono (ht.run [] s1 (start N vs) H _ J hq) (fun fl s2 h2 => ?_) (fun _ _ h2 => h2)
  cases fl with
  | brk => exact h2.elim fun _ h3 => h3.elim fun _ h4 => h4.2.elim
  | cont => exact h2.elim fun _ h3 => h3.elim fun _ h4 => h4.2.elim
  | next =>
    obtain ⟨τ, G, J2, q2⟩ := h2
    exact ⟨V.non, G, J2.os, J2.bare, J2.base, J2.hok, rfl, q2⟩
  | ret u =>
    obtain ⟨v, τ, G, J2, rv, q2⟩ := h2
    exact ⟨v, G, J2.os, J2.bare, J2.base, J2.hok, rv, q2⟩
end
section
variable {P : Program} {w : World} {K : PySem.W.Frag} {mg : Str → Option Value} {base : Heap} {f : Addr} {fd : FuncData} {N ps : List Str} {k : Nat} {sp : Sp} {x qual : Str} {st : Stmt}
/-- .. out of which nothing is raised -/
theorem fnG0 (F : Fun K x qual st f fd) (S : FnScope N ps (defScope st)) (many : ∀ vs H Q E, sp vs H Q E → vs.length = ps.length)
    (body : ∀ (cd : Value) (A : Around) (out : List Env) (s : Shared) (H : Hp) (vs : List V) (Q : VK) (E : XK),
      Room k (A.deeper (envOfC qual (defScope st) s.heap.objs.size f cd)) → (A.deeper (envOfC qual (defScope st) s.heap.objs.size f cd)).guards = some [] → sp vs H Q E →
      ∃ t, PSs (cxOf CX0 P w K mg base N qual (defScope st) f cd A out s H E).nox (defBody st) t ∧ t { nx := fun _ H' => Q .non H', rt := Q } (start N vs) H) :
    FnG P w K mg base CX0 (k + 1) f fd ps sp :=
  fnG_of F S many fun cd A out s H vs Q E hr hg h =>
    let ⟨t, h1, h2⟩ := body cd A out s H vs Q E hr hg h
    ⟨t, h1.nox, h2⟩
end
/-- a def of the module by its name: what it promises -/
structure Cg (P : Program) (w : World) (K : PySem.W.Frag) (mg : Str → Option Value) (base : Heap) (k : Nat) (x : Str) (sp : Sp) : Prop where
  ex : ∃ (f : Addr) (fd : FuncData) (ps : List Str), FnG P w K mg base CX0 k f fd ps sp ∧ mg x = some (.ref f) ∧ PySem.W.keepIn K (.ref f) = true ∧ Binds K fd ps []
section
variable {X : Cx} {k j : Nat} {x : Str} {sp : Sp} {p pos : Pos} {e : Expr} {es : List Expr} {t : TA}
theorem pe_g (c : Cg X.prog X.w X.K X.mg X.base k x sp) (hr : Room j X.A) (hg : X.A.guards = some []) (hk : k ≤ j) (hx : Gl X x) (ha : PA X (e :: es) t)
    (h1 : (x == ("__debug__" : Str)) = false := by decide) (h2 : starEach (e :: es) X.env = (false, eval e X.env) :: starEach es X.env := by rfl) (h3 : (backTo pos (starEach es X.env)).any (·.1) = false := by rfl) :
    PE X (.Call (.Name x p) (e :: es) [] pos) (tCall sp [] E0 t) := by
  obtain ⟨f, fd, ps, F, hm, kp, b⟩ := c.ex
  refine ⟨fun pins s σ H Q I h => wpAny_Call_Name_kw (ld_glob I hx hm ?_ h1)⟩
  refine PySem.W.callWith_K (h₀ := X.base) I.ok.mod.kin kp (thn (ha.run pos pins s σ H _ I h) ?_) h2 h3
  rintro us s1 ⟨vs, G, J, r, q⟩
  refine ⟨J.kIn, ?_⟩
  rw [List.append_nil] at q
  have hl := (F.many _ _ _ _ q).symm.trans (Eq.refl vs.length)
  have bt := b s1 us J.kIn (by rw [List.append_nil, ← r.length]; exact F.many _ _ _ _ q)
  rw [List.append_nil] at bt
  refine wpAny_call (codeAny_mono (F.runs X.A X.stack s1 G _ us vs Q E0 (hr.mono hk) hg J.env0 bt r q) fun w2 s2 h => ?_)
  cases w2 with
  | error z => exact False.elim h
  | ok fl =>
    cases fl with
    | ret u => exact J.after h
    | next => exact False.elim h
    | brk => exact False.elim h
    | cont => exact False.elim h
end
end RG
end RGc
section RGd
namespace RG
open PySem PySem.Spec PyProof.Rows L2
/-- the law's def is called behind the top: H tracks the script, if it tracks anything -/
theorem top_run {P : Program} {w : World} {K : PySem.W.Frag} {mg mb : Str → Option Value} {k : Nat} {fa a : Addr} {fd : FuncData} {x : Str} {sp : Sp} {s : Shared} {H : Hp} {xs : List V} {os : Obj}
    (inn : K.In s.heap) (g1 : s.heap.Ns mainGlobals mg) (g2 : s.heap.Ns builtinsNs mb) (g3 : ∀ y : Str, y ≠ "__name__" → mb y = bootBuiltins y) (lim : s.heap.NoLimit) (hg : s.gens = #[])
    (ho : s.heap.get? a = some os) (hd : ∀ es ep, os.data ≠ .dict es ep) (hr : Room k callerA)
    (F : ∀ base : Heap, K.In base → base.Ns mainGlobals mg → FnG P w K mg base CX0 k fa fd [x] sp) (hb : ∀ (s : Shared) (u : Value), BindsTo s fd ⟨[u], []⟩ [(x, u)])
    (hH : ∀ b, H b = none ∨ (b = a ∧ H b = some (.frz os (.lst xs)) ∧ K.lookup a = none)) (ok : HOk P w H s.heap) (hsp : sp [.ref a] H (fun v _ => v = .bl true) fun _ _ _ => False) :
    codeAny (model P w) callerA (.call (.ref fa) ⟨[.ref a], []⟩) (fun r s' => r = .ok (.ret (.bool true)) ∧ OldK s.heap s'.heap ∧ s'.os = s.os ∧ AllBare s'.gens) s := by
  have clear : ∀ {b : Addr} {o : Obj} {es : Array DictEntry} {ep : Nat}, s.heap.get? b = some o → o.data = .dict es ep → H b = none := by
    intro b o es ep h1 h2
    rcases hH b with h | ⟨rfl, _, _⟩
    · exact h
    · rw [ho] at h1
      cases h1
      exact absurd h2 (hd _ _)
  have ns : ∀ {b : Addr} {m : Str → Option Value}, s.heap.Ns b m → (hidT s.heap H).Ns b m := by
    rintro b m ⟨o, es, ep, h1, h2, r⟩
    exact ⟨o, es, ep, hidT_get h1 (clear h1 h2), h2, r⟩
  have kin : K.In (hidT s.heap H) := by
    intro b o h1
    refine hidT_get (inn b o h1) ?_
    rcases hH b with h | ⟨rfl, _, h⟩
    · exact h
    · rw [h] at h1
      cases h1
  obtain ⟨mc, l1, l2⟩ := lim
  have e0 : Env0 P w K mg (hidT s.heap H) callerA [] s H :=
    ⟨rfl, ⟨kin, ns g1, ⟨mb, ns g2, g3⟩, ⟨mc, ns l1, l2⟩⟩, fun b o h => of_hidT h, Nat.le_of_eq (hidT_size _ _), trivial, (fun b hb => absurd hb (by simp [frs])), ok, AllBare.of_eq hg⟩
  refine codeAny_mono ((F _ kin (ns g1)).runs callerA [] s H ⟨[.ref a], []⟩ [.ref a] [.ref a] _ _ hr rfl e0 (hb s (.ref a)) (.cons rfl .nil) hsp) fun r s' h => ?_
  cases r with
  | error e => exact False.elim h
  | ok fl =>
    cases fl with
    | next => exact False.elim h
    | brk => exact False.elim h
    | cont => exact False.elim h
    | ret u =>
      obtain ⟨v, G, h1, h2, un, ok2, rv, q⟩ := h
      have q2 : v = .bl true := q
      subst q2
      obtain rfl : u = Value.bool true := rv
      refine ⟨rfl, OldK.of_keep fun b o h3 => ?_, h1, h2⟩
      rcases hH b with h | ⟨rfl, h, _⟩
      · exact un.keep b o h3 h (by intro z; cases z) (by simp)
      · rw [ho] at h3
        cases h3
        exact (ok2 b _ (un.frzs b _ _ h)).1
/-- the goal that the head leaves, from the law's promise -/
theorem walk_G {l : PySem.W.OpenLaw} {n k : Nat} {q : Program} {loose : List Str} {XP : (Str → Option Value) → Heap → Prop} {YP : World → Heap → Prop} {d : DefRec} {K : Params → PySem.W.Frag} {sp : PySem.W.Frag → Sp} {x : Str}
    (hn : l.most = some n) (hn2 : n ≤ sizeLine) (hdf : d.params.defaults = []) (hr : Room k callerA) (hY : ∀ (w : World) (h : Heap), YP w h → (K w.params).In h)
    (F : ∀ (w : World) (mg : Str → Option Value) (fa : Addr) (h : Heap), (K w.params).In h → h.Ns mainGlobals mg → mg d.name = some (.ref fa) →
      ∃ fd : FuncData, (∀ (s : Shared) (u : Value), BindsTo s fd ⟨[u], []⟩ [(x, u)]) ∧
        ∀ base : Heap, (K w.params).In base → base.Ns mainGlobals mg → FnG l.prog w (K w.params) mg base CX0 k fa fd [x] (sp (K w.params)))
    (hsp : ∀ (K : PySem.W.Frag) (H : Hp) (a : Addr) (ns : List Int), ns.length ≤ n → SqL K H a (ns.map V.int) → (∀ b o, H b = some o → ∃ ob zs, o = .frz ob (.lst zs)) → sp K [.ref a] H (fun v _ => v = .bl true) fun _ _ _ => False) :
    PySem.W.WalkO q loose XP YP l.row.toRowW d [] (fun f vs => PySem.call f vs) := by
  refine Att.attach_call hn hdf fun w s₀ s mg mb fa o pm cd doc a vs ns G Y h1 h2 h3 hmg ha hi hl hg => ?_
  have inn := hY w _ Y
  obtain ⟨fd, hb, hF⟩ := F w mg fa _ inn G.T.g hmg
  have rv := vals_ints hi
  have len : (ns.map V.int).length ≤ sizeLine := by
    rw [List.length_map]
    exact Nat.le_trans hl hn2
  cases e : (K w.params).lookup a with
  | none =>
    refine top_run (xs := ns.map V.int) (H := fun b => if b = a then some (.frz { cls := .type "list", data := .seq vs.toArray } (.lst (ns.map V.int))) else none) inn G.T.g G.T.b G.T.builtins G.T.nolimit hg ha (fun es ep z => by cases z) hr hF hb (fun b => ?_) (fun b u z => ?_) (hsp _ _ a ns hl ?_ ?_)
    · by_cases hba : b = a
      · exact Or.inr ⟨hba, if_pos hba, e⟩
      · exact Or.inl (if_neg hba)
    · by_cases hba : b = a
      · subst hba
        have z2 := (if_pos rfl).symm.trans z
        cases z2
        exact ⟨ha, len, vs, _, rv, ha⟩
      · have z2 := (if_neg hba).symm.trans z
        cases z2
    · exact Or.inl (Or.inr ⟨_, if_pos rfl⟩)
    · intro b o z
      by_cases hba : b = a
      · have z2 := (if_pos hba).symm.trans z
        cases z2
        exact ⟨_, _, rfl⟩
      · have z2 := (if_neg hba).symm.trans z
        cases z2
  | some ob =>
    have z := inn a ob e
    rw [ha] at z
    cases z
    refine top_run (xs := []) (H := fun _ => none) inn G.T.g G.T.b G.T.builtins G.T.nolimit hg ha (fun es ep z => by cases z) hr hF hb (fun b => Or.inl rfl) (fun b u z => by cases z) (hsp _ _ a ns hl (Or.inr ⟨_, vs.toArray, _, e, rfl, rfl, rfl, ?_, by simpa using rv⟩) (fun b o z => by cases z))
    rw [List.size_toArray, ← rv.length]
    exact len
end RG
end RGd
section RGe
/-! isinstance of data; lists of whole numbers among data -/
namespace RG
open PySem PySem.Spec PyProof.Rows L2
def tyName : PyData → String
  | .none => "NoneType"
  | .bool _ => "bool"
  | .int _ => "int"
  | .str _ => "str"
  | .list _ => "list"
  | .tuple _ => "tuple"
  | .dict _ => "dict"
def isKind (C : String) (d : PyData) : Bool := tyName d == C || (C == "int" && tyName d == "bool")
theorem Dd.ty {K : PySem.W.Frag} {H : Hp} {x : V} {d : PyData} (h : Dd K H x d) : TyX K H x (.type (tyName d)) := by
  cases h with
  | non => exact .base .non
  | bl b => exact .base (.bl b)
  | int i => exact .base (.int i)
  | str y => exact .base (.str y)
  | lst h1 _ =>
    rcases h1 with (h1 | ⟨o, h1⟩) | ⟨o, its, n, h1, h2, _⟩
    · exact .base (.lst h1)
    · exact .base (.frz h1)
    · exact .kList h1 h2
  | tup h1 _ =>
    rcases h1 with (h1 | ⟨o, h1⟩) | ⟨o, its, n, h1, h2, _⟩
    · exact .base (.tup h1)
    · exact .fTuple h1
    · exact .kTuple h1 h2
  | dct h1 _ _ =>
    rcases h1 with h1 | ⟨o, h1⟩
    · exact .base (.dK h1)
    · exact .fDict h1
def kinds : List String := ["int", "bool", "tuple", "list", "str", "dict"]
theorem kit_kind {K : PySem.W.Frag} (d : PyData) {C : String} (h : C ∈ kinds) : PySem.W.kitOne K (.type (tyName d)) (.type C) = some (isKind C d) := by
  have key : ∀ T ∈ ["NoneType", "bool", "int", "str", "list", "tuple", "dict"], ∀ C ∈ kinds, kitB T C = some (T == C || (C == "int" && T == "bool")) := by decide +kernel
  exact kit_ty (key (tyName d) (by cases d <;> simp [tyName]) C h)
section
variable {X : Cx}
/-- isinstance(x, C), x data -/
def rIsD (K : PySem.W.Frag) : List V → Hp → VK → Prop := fun vs H Q => ∃ (x : V) (d : PyData) (C : String), vs = [x, .ty C] ∧ Dd K H x d ∧ C ∈ kinds ∧ Q (.bl (isKind C d)) H
theorem cr_isD : CallR X (.builtin "isinstance") (rIsD X.K) := by
  intro pins s σ H vs us Q I r h
  obtain ⟨x, d, C, rfl, hx, hC, q⟩ := h
  exact call_isi pins s σ H _ us Q I r ⟨x, .ty C, _, _, _, rfl, .ty C, hx.ty, kit_kind d hC, q⟩
/-- a built-in class's name as a value -/
theorem pe_tint {pos : Pos} (hg : Gl X "int") (hm : X.mg "int" = none) : PE X (.Name "int" pos) (tC (.ty "int")) := pe_bltn (u := .type "int") hg hm (by decide +kernel) rfl
theorem pe_tbool {pos : Pos} (hg : Gl X "bool") (hm : X.mg "bool" = none) : PE X (.Name "bool" pos) (tC (.ty "bool")) := pe_bltn (u := .type "bool") hg hm (by decide +kernel) rfl
theorem pe_ttuple {pos : Pos} (hg : Gl X "tuple") (hm : X.mg "tuple" = none) : PE X (.Name "tuple" pos) (tC (.ty "tuple")) := pe_bltn (u := .type "tuple") hg hm (by decide +kernel) rfl
theorem pe_tlist {pos : Pos} (hg : Gl X "list") (hm : X.mg "list" = none) : PE X (.Name "list" pos) (tC (.ty "list")) := pe_bltn (u := .type "list") hg hm (by decide +kernel) rfl
theorem pe_tstr {pos : Pos} (hg : Gl X "str") (hm : X.mg "str" = none) : PE X (.Name "str" pos) (tC (.ty "str")) := pe_bltn (u := .type "str") hg hm (by decide +kernel) rfl
theorem pe_tdict {pos : Pos} (hg : Gl X "dict") (hm : X.mg "dict" = none) : PE X (.Name "dict" pos) (tC (.ty "dict")) := pe_bltn (u := .type "dict") hg hm (by decide +kernel) rfl
end
/-! the built-in names -/
theorem b_isinstance : bootBuiltins "isinstance" = some (.builtin "isinstance") := by decide +kernel
theorem b_len : bootBuiltins "len" = some (.builtin "len") := by decide +kernel
theorem b_all : bootBuiltins "all" = some (.builtin "all") := by decide +kernel
theorem b_any : bootBuiltins "any" = some (.builtin "any") := by decide +kernel
theorem b_sorted : bootBuiltins "sorted" = some (.builtin "sorted") := by decide +kernel
theorem b_abs : bootBuiltins "abs" = some (.builtin "abs") := by decide +kernel
theorem b_min : bootBuiltins "min" = some (.builtin "min") := by decide +kernel
theorem b_max : bootBuiltins "max" = some (.builtin "max") := by decide +kernel
theorem b_repr : bootBuiltins "repr" = some (.builtin "repr") := by decide +kernel
theorem b_sum : bootBuiltins "sum" = some (.builtin "sum") := by decide +kernel
theorem b_int : bootBuiltins "int" = some (.type "int") := by decide +kernel
theorem b_bool : bootBuiltins "bool" = some (.type "bool") := by decide +kernel
theorem b_str : bootBuiltins "str" = some (.type "str") := by decide +kernel
theorem b_tuple : bootBuiltins "tuple" = some (.type "tuple") := by decide +kernel
theorem b_list : bootBuiltins "list" = some (.type "list") := by decide +kernel
theorem b_dict : bootBuiltins "dict" = some (.type "dict") := by decide +kernel
theorem b_set : bootBuiltins "set" = some (.type "set") := by decide +kernel
end RG
end RGe
section RGf
/-! comprehensions that leave all that stood; heaps -/
namespace RG
open PySem PySem.Spec PyProof.Rows L2
theorem same_new {H : Hp} {p : Addr} {o : HO} (h : H p = none) : Same H (upd H p o) := fun b u e => by
  rw [upd_ne (ne_of_none e h)]
  exact e
theorem same_mut {H G : Hp} {p : Addr} {o : HO} (e : Same H G) (h : H p = none) : Same H (upd G p o) := fun b u q => by
  rw [upd_ne (ne_of_none q h)]
  exact e b u q
theorem same_free {H G : Hp} {p : Addr} (e : Same H G) (h : G p = none) : H p = none := e.free h
theorem take_snoc {α : Type} {ys : List α} {i : Nat} {y : α} (h : ys[i]? = some y) : ys.take i ++ [y] = ys.take (i + 1) := by
  rw [List.take_succ, h]
  rfl
/-- one turn of a comprehension without tests; σ: the def's slots -/
theorem lc_step {te : TE} {j : Nat} {σ : L2.St} {H G : Hp} {D : Addr} {x y : V} {ys : List V} {i : Nat} {Pn : Hp → Prop} (hD : H D = none) (hz : ys.length < sizeLine) (hy : ys[i]? = some y)
    (e : Same H G) (g : G D = some (.lst (ys.take i))) (h : ∀ Q : VK, (∀ G', Same G G' → Q y G') → te ((σ.set j none).set j (some x)) G Q)
    (n : ∀ G', Same H G' → G' D = some (.lst (ys.take (i + 1))) → Pn G') :
    gName j x (wipe σ [j]) G fun σ2 H2 => wipe σ2 [j] = wipe σ [j] ∧ tYes σ2 H2 fun b H3 =>
      if b = true then te σ2 H3 fun y H4 => ∃ acc, H4 D = some (.lst acc) ∧ acc.length < sizeLine ∧ Pn (upd H4 D (.lst (acc ++ [y]))) else Pn H3 := by
  refine ⟨?_, ?_⟩
  · show ((σ.set j none).set j (some x)).set j none = σ.set j none
    rw [List.set_set, List.set_set]
  · show (if true = true then (te ((σ.set j none).set j (some x)) G fun y H4 => ∃ acc, H4 D = some (.lst acc) ∧ acc.length < sizeLine ∧ Pn (upd H4 D (.lst (acc ++ [y])))) else Pn G)
    rw [if_pos rfl]
    refine h _ fun G' e2 => ⟨_, e2 _ _ g, ?_, ?_⟩
    · rw [List.length_take]
      omega
    · refine n _ (same_mut (e.trans e2) hD) ?_
      rw [upd_same, take_snoc hy]
/-- [e for x in t], t a tuple: each e leaves what stands and is ys' item -/
theorem comp_tup {K : PySem.W.Frag} {a D : Addr} {xs ys : List V} {te : TE} {j : Nat} {σ : L2.St} {H : Hp} {Qd : Hp → Prop} (hD : H D = none) (ha : SqT K H a xs) (hl : ys.length = xs.length) (hz : xs.length < sizeLine)
    (each : ∀ (i : Nat) (x y : V), xs[i]? = some x → ys[i]? = some y → ∀ G, Same H G → ∀ Q : VK, (∀ G', Same G G' → Q y G') → te ((σ.set j none).set j (some x)) G Q)
    (done : ∀ G, Same H G → G D = some (.lst ys) → Qd G) :
    ∃ W : Nat → Nat → Hp → Prop, (∃ m, W 0 m (upd H D (.lst []))) ∧ ∀ i m G, W i m G →
      ((Itt K a).stop i G ∧ Qd G) ∨ ((Itt K a).go i G ∧ ∃ Nx : Hp → Prop, (∀ H', Nx H' → ∃ m', m' < m ∧ W (i + 1) m' H') ∧ ∀ x H', (Itt K a).yld i G x H' → gName j x (wipe σ [j]) H' fun σ2 H2 => wipe σ2 [j] = wipe σ [j] ∧ tYes σ2 H2 fun b H3 =>
        if b = true then te σ2 H3 fun y H4 => ∃ acc, H4 D = some (.lst acc) ∧ acc.length < sizeLine ∧ Nx (upd H4 D (.lst (acc ++ [y]))) else Nx H3) := by
  refine lc_tup (xs := xs) (fun i G => Same H G ∧ G D = some (.lst (ys.take i))) ⟨same_new hD, by rw [upd_same]; rfl⟩ (fun i G _ h => sqt_same h.1 ha) (fun i x G hi h => ?_) fun G h => done G h.1 (by rw [h.2, ← hl, List.take_length])
  have hlt : i < ys.length := by
    rw [hl]
    exact (List.getElem?_eq_some_iff.mp hi).1
  have hy : ys[i]? = some ys[i] := List.getElem?_eq_getElem hlt
  exact lc_step hD (by omega) hy h.1 h.2 (each i x _ hi hy G h.1) fun G' e1 e2 => ⟨e1, e2⟩
/-- [e for x in xs], xs a list -/
theorem comp_list {K : PySem.W.Frag} {a D : Addr} {xs ys : List V} {te : TE} {j : Nat} {σ : L2.St} {H : Hp} {Qd : Hp → Prop} (hD : H D = none) (ha : SqL K H a xs) (hl : ys.length = xs.length) (hz : xs.length < sizeLine)
    (each : ∀ (i : Nat) (x y : V), xs[i]? = some x → ys[i]? = some y → ∀ G, Same H G → ∀ Q : VK, (∀ G', Same G G' → Q y G') → te ((σ.set j none).set j (some x)) G Q)
    (done : ∀ G, Same H G → G D = some (.lst ys) → Qd G) :
    ∃ W : Nat → Nat → Hp → Prop, (∃ m, W 0 m (upd H D (.lst []))) ∧ ∀ i m G, W i m G →
      ((Itl K a).stop i G ∧ Qd G) ∨ ((Itl K a).go i G ∧ ∃ Nx : Hp → Prop, (∀ H', Nx H' → ∃ m', m' < m ∧ W (i + 1) m' H') ∧ ∀ x H', (Itl K a).yld i G x H' → gName j x (wipe σ [j]) H' fun σ2 H2 => wipe σ2 [j] = wipe σ [j] ∧ tYes σ2 H2 fun b H3 =>
        if b = true then te σ2 H3 fun y H4 => ∃ acc, H4 D = some (.lst acc) ∧ acc.length < sizeLine ∧ Nx (upd H4 D (.lst (acc ++ [y]))) else Nx H3) := by
  refine lc_list (xs := xs) (fun i G => Same H G ∧ G D = some (.lst (ys.take i))) ⟨same_new hD, by rw [upd_same]; rfl⟩ (fun i G _ h => sql_same h.1 ha) (fun i x G hi h => ?_) fun G h => done G h.1 (by rw [h.2, ← hl, List.take_length])
  have hlt : i < ys.length := by
    rw [hl]
    exact (List.getElem?_eq_some_iff.mp hi).1
  have hy : ys[i]? = some ys[i] := List.getElem?_eq_getElem hlt
  exact lc_step hD (by omega) hy h.1 h.2 (each i x _ hi hy G h.1) fun G' e1 e2 => ⟨e1, e2⟩
/-- [e for x in range(lo, lo + n)] -/
theorem comp_range {D : Addr} {lo : Int} {n : Nat} {ys : List V} {te : TE} {j : Nat} {σ : L2.St} {H : Hp} {Qd : Hp → Prop} (hD : H D = none) (hl : ys.length = n) (hz : n < sizeLine)
    (each : ∀ (i : Nat) (y : V), i < n → ys[i]? = some y → ∀ G, Same H G → ∀ Q : VK, (∀ G', Same G G' → Q y G') → te ((σ.set j none).set j (some (.int (lo + i)))) G Q)
    (done : ∀ G, Same H G → G D = some (.lst ys) → Qd G) :
    ∃ W : Nat → Nat → Hp → Prop, (∃ m, W 0 m (upd H D (.lst []))) ∧ ∀ i m G, W i m G →
      ((Itr lo n).stop i G ∧ Qd G) ∨ ((Itr lo n).go i G ∧ ∃ Nx : Hp → Prop, (∀ H', Nx H' → ∃ m', m' < m ∧ W (i + 1) m' H') ∧ ∀ x H', (Itr lo n).yld i G x H' → gName j x (wipe σ [j]) H' fun σ2 H2 => wipe σ2 [j] = wipe σ [j] ∧ tYes σ2 H2 fun b H3 =>
        if b = true then te σ2 H3 fun y H4 => ∃ acc, H4 D = some (.lst acc) ∧ acc.length < sizeLine ∧ Nx (upd H4 D (.lst (acc ++ [y]))) else Nx H3) := by
  refine lc_range (fun i G => Same H G ∧ G D = some (.lst (ys.take i))) ⟨same_new hD, by rw [upd_same]; rfl⟩ (fun i G hi h => ?_) fun G h => done G h.1 (by rw [h.2, ← hl, List.take_length])
  have hlt : i < ys.length := by
    rw [hl]
    exact hi
  have hy : ys[i]? = some ys[i] := List.getElem?_eq_getElem hlt
  exact lc_step hD (by omega) hy h.1 h.2 (each i _ hi hy G h.1) fun G' e1 e2 => ⟨e1, e2⟩
end RG
end RGf
section RGg
/-! the pen of the laws: a dict of cells, a turn, a rest -/
namespace RG
open PySem PySem.Spec PyProof.Rows L2
def penKv (c : Addr) (t r : Int) : List (Key × V) := [(.inr "cells", .ref c), (.inr "turn", .int t), (.inr "rest", .int r)]
theorem ne_ct : ¬ (("cells" : Str) = "turn") := by decide +kernel
theorem ne_cr : ¬ (("cells" : Str) = "rest") := by decide +kernel
theorem ne_tr : ¬ (("turn" : Str) = "rest") := by decide +kernel
theorem inr_ne {a b : Str} (h : ¬ a = b) : ¬ ((Sum.inr a : Key) = Sum.inr b) := fun e => h (Sum.inr.inj e)
theorem pen_cells (c : Addr) (t r : Int) : valV (penKv c t r) (Sum.inr "cells" : Key) = some (.ref c) := valV_pos rfl
theorem pen_turn (c : Addr) (t r : Int) : valV (penKv c t r) (Sum.inr "turn" : Key) = some (.int t) := by
  unfold penKv
  rw [valV_neg (inr_ne ne_ct), valV_pos rfl]
theorem pen_rest (c : Addr) (t r : Int) : valV (penKv c t r) (Sum.inr "rest" : Key) = some (.int r) := by
  unfold penKv
  rw [valV_neg (inr_ne ne_cr), valV_neg (inr_ne ne_tr), valV_pos rfl]
theorem put_turn (c : Addr) (t r u : Int) : putK (penKv c t r) (Sum.inr "turn" : Key) (.int u) = penKv c u r := by
  have h1 := inr_ne ne_ct
  have h2 := inr_ne (fun e => ne_tr e.symm)
  simp [putK, penKv, h1, h2]
theorem put_rest (c : Addr) (t r u : Int) : putK (penKv c t r) (Sum.inr "rest" : Key) (.int u) = penKv c t u := by
  have h1 := inr_ne ne_cr
  have h2 := inr_ne ne_tr
  simp [putK, penKv, h1, h2]
/-- which pen: its place, its cells' place, the cells -/
structure PenI where
  p : Addr
  c : Addr
  ns : List Int
/-- a pen whose turn is at most B -/
structure Pen (H : Hp) (i : PenI) (B : Nat) : Prop where
  ex : ∃ (t : Nat) (r : Int), H i.p = some (.dK (penKv i.c (t : Int) r)) ∧ H i.c = some (.lst (i.ns.map V.int)) ∧ i.ns.length ≤ 63 ∧ t ≤ B ∧ 0 ≤ r
theorem Pen.o {H : Hp} {i : PenI} {B : Nat} (h : Pen H i B) : PenO H i.p := by
  obtain ⟨t, r, h1, _⟩ := h.ex
  exact ⟨_, h1, rfl⟩
theorem Pen.mono {H : Hp} {i : PenI} {B C : Nat} (h : Pen H i B) (e : B ≤ C) : Pen H i C := by
  obtain ⟨t, r, h1, h2, h3, h4, h5⟩ := h.ex
  exact ⟨t, r, h1, h2, h3, Nat.le_trans h4 e, h5⟩
theorem Pen.same {H G : Hp} {i : PenI} {B : Nat} (h : Pen H i B) (e : Same H G) : Pen G i B := by
  obtain ⟨t, r, h1, h2, h3, h4, h5⟩ := h.ex
  exact ⟨t, r, e _ _ h1, e _ _ h2, h3, h4, h5⟩
theorem Pen.cells {H : Hp} {i : PenI} {B : Nat} (h : Pen H i B) : H i.c = some (.lst (i.ns.map V.int)) := by
  obtain ⟨t, r, h1, h2, _⟩ := h.ex
  exact h2
/-- what isn't there yet is no part of the pen -/
theorem Pen.ne {H : Hp} {i : PenI} {B : Nat} {q : Addr} (h : Pen H i B) (e : H q = none) : q ≠ i.p ∧ q ≠ i.c := by
  obtain ⟨t, r, h1, h2, _⟩ := h.ex
  exact ⟨(ne_of_none h1 e).symm, (ne_of_none h2 e).symm⟩
theorem Pen.neL {H : Hp} {i : PenI} {B : Nat} {q : Addr} {xs : List V} (h : Pen H i B) (e : H q = some (.lst xs)) : q ≠ i.p := by
  obtain ⟨t, r, h1, _⟩ := h.ex
  exact ne_of e h1 (fun z => nomatch z)
theorem Pen.upd {H : Hp} {i : PenI} {B : Nat} {q : Addr} {o : HO} (h : Pen H i B) (n : q ≠ i.p ∧ q ≠ i.c) : Pen (L2.upd H q o) i B := by
  obtain ⟨t, r, h1, h2, h3⟩ := h.ex
  exact ⟨t, r, by rw [upd_ne n.1.symm]; exact h1, by rw [upd_ne n.2.symm]; exact h2, h3⟩
theorem Kb.refl (p : Addr) (H : Hp) : Kb p H H := fun _ _ h _ => h
theorem Kb.trans {p : Addr} {H G J : Hp} (a : Kb p H G) (b : Kb p G J) : Kb p H J := fun x o h n => b x o (a x o h n) n
theorem Kb.of {p : Addr} {H G : Hp} (a : Same H G) : Kb p H G := fun x o h _ => a x o h
theorem Kb.at {p : Addr} {H G : Hp} {o : HO} (a : Kb p H G) : Kb p H (L2.upd G p o) := fun x u h n => by
  rw [upd_ne n]
  exact a x u h n
theorem Kb.free {p q : Addr} {H G : Hp} (a : Kb p H G) (n : q ≠ p) (h : G q = none) : H q = none := by
  cases e : H q with
  | none => rfl
  | some o =>
    rw [a q o e n] at h
    cases h
/-- a thing that was not there may be written -/
theorem Kb.mut {p q : Addr} {H G : Hp} {o : HO} (a : Kb p H G) (h : H q = none) : Kb p H (L2.upd G q o) := fun x u e n => by
  rw [upd_ne (ne_of_none e h)]
  exact a x u e n
theorem Kb.new {p q : Addr} {H : Hp} {o : HO} (h : H q = none) : Kb p H (L2.upd H q o) := (Kb.refl p H).mut h
section
variable {G : Hp} {p c : Addr} {t r u : Int}
theorem gR (h : G p = some (.dK (penKv c t r))) : DGet G p (.str "rest") (some (.int r)) := pen_rest c t r ▸ DGet.k (k := Sum.inr "rest") h
theorem gT (h : G p = some (.dK (penKv c t r))) : DGet G p (.str "turn") (some (.int t)) := pen_turn c t r ▸ DGet.k (k := Sum.inr "turn") h
theorem gC (h : G p = some (.dK (penKv c t r))) : DGet G p (.str "cells") (some (.ref c)) := pen_cells c t r ▸ DGet.k (k := Sum.inr "cells") h
theorem pR (h : G p = some (.dK (penKv c t r))) : DPut G p (.str "rest") (.int u) (L2.upd G p (.dK (penKv c t u))) :=
  put_rest c t r u ▸ DPut.k (k := Sum.inr "rest") h (Nat.lt_of_le_of_lt (Nat.le_refl 3) (by decide))
theorem pT (h : G p = some (.dK (penKv c t r))) : DPut G p (.str "turn") (.int u) (L2.upd G p (.dK (penKv c u r))) :=
  put_turn c t r u ▸ DPut.k (k := Sum.inr "turn") h (Nat.lt_of_le_of_lt (Nat.le_refl 3) (by decide))
end
theorem rest_at {i m : Int} (h : 0 < m) : 0 ≤ i.fmod m ∧ i.fmod m < m := by
  rw [Int.fmod_eq_emod_of_nonneg _ (Int.le_of_lt h)]
  exact ⟨Int.emod_nonneg _ (by omega), Int.emod_lt_of_pos _ h⟩
theorem part_at {i m : Int} (h : 0 < m) (hi : 0 ≤ i) : 0 ≤ i.fdiv m := by
  rw [Int.fdiv_eq_ediv_of_nonneg _ (Int.le_of_lt h)]
  exact Int.ediv_nonneg hi (by omega)
/-- an item of a list by a number within it -/
theorem atI_in {α : Type} {xs : List α} {i : Int} (h0 : 0 ≤ i) (h1 : i < xs.length) : ∃ v, atI xs i = some v ∧ xs[i.toNat]? = some v := by
  have h2 : i.toNat < xs.length := by omega
  have h3 : xs[i.toNat]? = some xs[i.toNat] := List.getElem?_eq_getElem h2
  have h4 := atI_nat h3
  rw [Int.toNat_of_nonneg h0] at h4
  exact ⟨_, h4, h3⟩
/-- a draw: one turn more at the most -/
def spDraw : Sp := fun vs H Q _ => ∃ (i : PenI) (m : Int) (B : Nat), vs = [.ref i.p, .int m] ∧ Pen H i B ∧ B < 2 ^ 60 ∧ 0 < m ∧ m < 1073741824 ∧
  ∀ (d : Int) (H' : Hp), 0 ≤ d → d < m → Kb i.p H H' → Pen H' i (B + 1) → Q (.int d) H'
end RG
namespace RG
open PySem PySem.Spec PyProof.Rows L2
/-- the built-in names that the text doesn't bind -/
structure Bt (mg : Str → Option Value) : Prop where
  isinstance : mg "isinstance" = none
  int : mg "int" = none
  bool : mg "bool" = none
  str : mg "str" = none
  tuple : mg "tuple" = none
  list : mg "list" = none
  dict : mg "dict" = none
  set : mg "set" = none
  len : mg "len" = none
  all : mg "all" = none
  any : mg "any" = none
  sum : mg "sum" = none
  abs : mg "abs" = none
  range : mg "range" = none
  sorted : mg "sorted" = none
  min : mg "min" = none
  max : mg "max" = none
  repr : mg "repr" = none
  zip : mg "zip" = none
  enumerate : mg "enumerate" = none
  reversed : mg "reversed" = none
/-- a new pen of a script -/
def spPen (K : PySem.W.Frag) : Sp := fun vs H Q _ => ∃ (a : Addr) (ns : List Int), vs = [.ref a] ∧ SqL K H a (ns.map V.int) ∧ ns.length ≤ 63 ∧ ∀ (i : PenI) (H' : Hp), Same H H' → Pen H' i 0 → Q (.ref i.p) H'
theorem penMade {c : Addr} {t r : Int} : mergeK [] (penKv c t r) = penKv c t r := by
  have h1 := inr_ne ne_ct
  have h2 := inr_ne ne_cr
  have h3 := inr_ne ne_tr
  simp [mergeK, putK, penKv, h1, h2, h3]
theorem cut_front (xs : List V) (k : Nat) : cutV xs none (some (k : Int)) = xs.take k := by
  unfold cutV
  rw [HT.sIx_nat, HT.sIx_none, List.drop_zero, Nat.sub_zero]
  rcases Nat.le_total k xs.length with h | h
  · rw [Nat.min_eq_left h]
  · rw [Nat.min_eq_right h, List.take_length, List.take_of_length_le h]
theorem cut_back (xs : List V) (k : Nat) : cutV xs (some (k : Int)) none = xs.drop k := by
  unfold cutV
  rw [HT.sIx_nat, HT.sIx_none]
  rcases Nat.le_total k xs.length with h | h
  · rw [Nat.min_eq_left h, List.take_of_length_le (by rw [List.length_drop]; exact Nat.le_refl _)]
  · rw [Nat.min_eq_right h, Nat.sub_self, List.take_zero, List.drop_eq_nil_of_le h]
theorem erase_perm {α : Type} : ∀ {xs : List α} {k : Nat} {y : α}, xs[k]? = some y → (y :: xs.eraseIdx k).Perm xs
  | [], _, _, h => by simp at h
  | x :: xs, 0, y, h => by
    simp at h
    subst h
    exact List.Perm.refl _
  | x :: xs, k + 1, y, h => by
    have h2 := erase_perm (xs := xs) (k := k) (y := y) (by simpa using h)
    exact (List.Perm.swap x y _).trans (h2.cons x)
theorem erase_len {α : Type} {xs : List α} {k : Nat} {y : α} (h : xs[k]? = some y) : (xs.eraseIdx k).length + 1 = xs.length := (erase_perm h).length_eq
theorem seq_in {d : Int} {n : Nat} (h0 : 0 ≤ d) (h1 : d < n) : seqIndex? d n = some d.toNat := by
  have e : ixN n d = some d.toNat := by
    unfold ixN
    rw [if_pos h0, if_pos h1]
  exact (ixN_seq e).1
/-- some[draw]: some item of a list or tuple -/
def spPick (K : PySem.W.Frag) : Sp := fun vs H Q _ => ∃ (i : PenI) (B : Nat) (a : Addr) (xs : List V), vs = [.ref i.p, .ref a] ∧ Pen H i B ∧ B < 2 ^ 60 ∧ (SqL K H a xs ∨ SqT K H a xs) ∧ 0 < xs.length ∧ xs.length < 1000000 ∧
  ∀ (x : V) (H' : Hp), x ∈ xs → Kb i.p H H' → Pen H' i (B + 1) → Q x H'
/-- the items in some order, a new list -/
def spShuf (K : PySem.W.Frag) : Sp := fun vs H Q _ => ∃ (i : PenI) (B : Nat) (a : Addr) (xs : List V), vs = [.ref i.p, .ref a] ∧ Pen H i B ∧ B < 2 ^ 50 ∧ (SqL K H a xs ∨ SqT K H a xs) ∧ xs.length < 1000000 ∧
  ∀ (l : Addr) (ys : List V) (H' : Hp), ys.Perm xs → H l = none → Kb i.p H H' → Pen H' i (B + xs.length) → H' l = some (.lst ys) → Q (.ref l) H'
theorem swapped_perm {α : Type} {xs : List α} {i j : Nat} {a b : α} (hi : xs[i]? = some a) (hj : xs[j]? = some b) : ((xs.set i b).set j a).Perm xs := by
  obtain ⟨h1, e1⟩ := List.getElem?_eq_some_iff.mp hi
  obtain ⟨h2, e2⟩ := List.getElem?_eq_some_iff.mp hj
  have h := (Array.swap_perm (xs := xs.toArray) (i := i) (j := j) (by simpa using h1) (by simpa using h2)).toList
  rw [Array.toList_swap] at h
  simpa [e1, e2] using h
theorem back_ints : ∀ vs : List V, (∀ v ∈ vs, ∃ k, v = V.int k) → ∃ ks : List Int, vs = ks.map V.int
  | [], _ => ⟨[], rfl⟩
  | v :: vs, h => by
    obtain ⟨k, rfl⟩ := h v List.mem_cons_self
    obtain ⟨ks, rfl⟩ := back_ints vs fun v hv => h v (List.mem_cons_of_mem _ hv)
    exact ⟨k :: ks, rfl⟩
theorem perm_ints {ns : List Int} {vs : List V} (h : vs.Perm (ns.map V.int)) : ∃ ks : List Int, vs = ks.map V.int ∧ ks.Perm ns := by
  obtain ⟨ks, rfl⟩ := back_ints vs fun v hv => by
    obtain ⟨k, _, e⟩ := List.mem_map.mp (h.mem_iff.mp hv)
    exact ⟨k, e.symm⟩
  refine ⟨ks, rfl, ?_⟩
  have h2 := h.map fun v => match v with | V.int k => k | _ => 0
  simpa [List.map_map, Function.comp_def] using h2
def places (n : Nat) : List Int := (List.range n).map fun k => ((k : Nat) : Int)
theorem places_len (n : Nat) : (places n).length = n := by
  unfold places
  rw [List.length_map, List.length_range]
theorem rg_places (n : Nat) : rgV 0 (n : Int) = (places n).map V.int := by
  unfold rgV places
  rw [List.map_map, Int.sub_zero, Int.toNat_natCast]
  refine List.map_congr_left fun k _ => ?_
  show V.int (0 + ((k : Nat) : Int)) = V.int ((k : Nat) : Int)
  rw [Int.zero_add]
/-- an arrangement of so many places, a tuple -/
def spArr : Sp := fun vs H Q _ => ∃ (i : PenI) (B n : Nat), vs = [.ref i.p, .int (n : Int)] ∧ Pen H i B ∧ B < 2 ^ 40 ∧ 2 ≤ n ∧ n < 1000 ∧
  ∀ (t : Addr) (ks : List Int) (H' : Hp), ks.Perm (places n) → Kb i.p H H' → Pen H' i (B + n + 3) → H' t = some (.tup (ks.map V.int)) → Q (.ref t) H'
end RG
end RGg
section RGh
/-! t[::-1] of a tuple; slices and sums of tuples as what they hold -/
namespace RG
open PySem PySem.Spec PyProof.Rows L2
section
variable {prog : Program} {w : World} {A : Around} {E : Value → Shared → Prop} {s : Shared}
theorem rev_bounds (n : Nat) : Builtin.Slice.sliceAdjust none none (-1) (n : Int) = ((n : Int) - 1, -1) := rfl
theorem rev_many (n : Nat) : Builtin.Slice.slicePlaces ((n : Int) - 1) (-1) (-1) = n := by
  unfold Builtin.Slice.slicePlaces
  rw [if_neg (by decide)]
  by_cases h : (n : Int) - 1 > -1
  · rw [if_pos h]
    have e : ((n : Int) - 1 - -1 - 1) / (- -1) + 1 = (n : Int) := by
      have e2 : (- -1 : Int) = 1 := rfl
      rw [e2, Int.ediv_one]
      omega
    rw [e, Int.toNat_natCast]
  · rw [if_neg h]
    omega
theorem fm_some {α β : Type} {f : α → Option β} {g : α → β} : ∀ {l : List α}, (∀ k ∈ l, f k = some (g k)) → l.filterMap f = l.map g
  | [], _ => rfl
  | a :: l, h => by
    rw [List.filterMap_cons, h a List.mem_cons_self, List.map_cons, fm_some fun k hk => h k (List.mem_cons_of_mem _ hk)]
theorem rev_items (xs : List Value) : ((List.range xs.length).filterMap fun (k : Nat) => xs.toArray[(((xs.length : Nat) : Int) - 1 + (k : Int) * -1).toNat]?) = xs.reverse := by
  refine List.ext_getElem? fun i => ?_
  have e : ((List.range xs.length).filterMap fun (k : Nat) => xs.toArray[(((xs.length : Nat) : Int) - 1 + (k : Int) * -1).toNat]?) = (List.range xs.length).map fun k => xs.getD (xs.length - 1 - k) .none := by
    refine fm_some fun k hk => ?_
    have hk2 := List.mem_range.mp hk
    have e1 : (((xs.length : Nat) : Int) - 1 + (k : Int) * -1).toNat = xs.length - 1 - k := by omega
    have h2 : xs.length - 1 - k < xs.length := by omega
    rw [e1, List.getElem?_toArray, List.getElem?_eq_getElem h2]
    show some _ = some _
    rw [List.getD_eq_getElem?_getD, List.getElem?_eq_getElem h2]
    rfl
  rw [e, List.getElem?_map]
  by_cases hi : i < xs.length
  · rw [List.getElem?_range hi, List.getElem?_reverse hi]
    have h2 : xs.length - 1 - i < xs.length := by omega
    show some (xs.getD (xs.length - 1 - i) .none) = _
    rw [List.getD_eq_getElem?_getD, List.getElem?_eq_getElem h2]
    rfl
  · rw [List.getElem?_eq_none (by rw [List.length_range]; omega), List.getElem?_eq_none (by rw [List.length_reverse]; omega)]
    rfl
theorem applied_rev {sl : Addr} {vs : Value} {xs : List Value} {R : Int × Int × Nat → Shared → Prop} (hs : s.heap.IsSliceOf sl .none .none vs) (ps : IsPart vs (some (-1))) (r : R ((xs.length : Int) - 1, -1, xs.length) s) :
    wpAny (model prog w) A (Builtin.Slice.sliceApplied (.ref sl) (pure ((xs.toArray.size : Nat) : Int))) R E s := by
  obtain ⟨so, so1, so2, so3⟩ := id hs
  unfold Builtin.Slice.sliceApplied Builtin.Slice.sliceFields
  refine wpAny_bind (wpAny_bind (wpAny_field so1 so3 (x := .none) rfl ?_))
  refine wpAny_bind (wpAny_field so1 so3 (x := .none) rfl ?_)
  refine wpAny_bind (wpAny_field so1 so3 (x := vs) rfl (wpAny_pure ?_))
  refine wpAny_bind (HT.slicePart_ ps ?_)
  show wpAny _ _ (if ((-1 : Int) == 0) = true then _ else _) _ _ s
  rw [if_neg (by decide)]
  refine wpAny_bind (HT.slicePart_ .none (wpAny_bind (HT.slicePart_ .none (wpAny_bind (wpAny_pure ?_)))))
  show wpAny _ _ (match Builtin.Slice.sliceAdjust none none (-1) ((xs.toArray.size : Nat) : Int) with | (lo, hi) => pure (lo, (-1 : Int), Builtin.Slice.slicePlaces lo hi (-1))) _ _ s
  rw [rev_bounds]
  show wpAny _ _ (pure (((xs.toArray.size : Nat) : Int) - 1, (-1 : Int), Builtin.Slice.slicePlaces (((xs.toArray.size : Nat) : Int) - 1) (-1) (-1))) _ _ s
  rw [List.size_toArray, rev_many]
  exact wpAny_pure r
/-- t[::-1] at the library's level -/
theorem get_rev {t sl : Addr} {xs : List Value} {vs : Value} {Q : Value → Shared → Prop} (ht : IsTup s.heap t xs.toArray) (hs : s.heap.IsSliceOf sl .none .none vs) (ps : IsPart vs (some (-1))) (hz : xs.length ≤ sizeLine)
    (k : Q (.ref s.heap.objs.size) { s with heap := s.heap.push { cls := .type "tuple", data := .seq xs.reverse.toArray } }) : wpAny (model prog w) A (getItem (.ref t) (.ref sl)) Q E s := by
  have fits : sizeOk (.seq xs.reverse.toArray) := by
    show xs.reverse.toArray.size ≤ sizeLine
    rw [List.size_toArray, List.length_reverse]
    exact hz
  obtain ⟨so, so1, so2, so3⟩ := id hs
  have isSl : s.TypeIs (.ref sl) "slice" := ⟨so, so1, so2⟩
  unfold getItem
  try with_reducible refine wpAny_holding ?_
  first
    | apply wpAny_bind; refine wpAny_pure ?_
    | skip
  apply wpAny_bind
  refine wpAny_sequenceKey ht.typeIs (by decide) ?_
  apply wpAny_bind
  refine wpAny_callSpecial?_slot (name := Str.ofString "__getitem__") ht.typeIs PyProof.Rows.slot_tuple_getitem ?_
  refine wpAny_call_entry PyProof.Rows.slot_tuple_getitem ht.typeIs entry_tuple_getitem ?_ (args_tuple_getitem _ _)
  show wpAny _ _ (Builtin.Tuple.tupleItemsOf (.ref t) >>= _) _ _ s
  apply wpAny_bind
  refine tupleItemsOf_ ht ?_
  apply wpAny_bind
  refine wpAny_typeOf isSl ?_
  rw [if_pos (by decide)]
  refine wpAny_bind (applied_rev hs ps ?_)
  have no : ¬ (((xs.length : Int) - 1 == 0 && (-1 : Int) == 1 && xs.length == xs.toArray.size) = true) := by
    intro q
    rw [Bool.and_eq_true, Bool.and_eq_true] at q
    exact absurd (eq_of_beq q.1.2) (by decide)
  show wpAny _ _ (if ((xs.length : Int) - 1 == 0 && (-1 : Int) == 1 && xs.length == xs.toArray.size) = true then _ else _) _ _ s
  rw [if_neg no, rev_items]
  first
    | exact wpAny_bind (m := Builtin.Tuple.tupleExact _) (wpAny_newObj_type (wpAny_pure ⟨_, rfl, wpAny_pure k⟩) fits)
    | exact wpAny_bind (m := Builtin.Tuple.tupleExact _) (wpAny_newObj_type (wpAny_bind (wpAny_pure (wpAny_pure ⟨_, rfl, wpAny_pure k⟩))) fits)
    | exact wpAny_bind (wpAny_bind (m := Builtin.Tuple.tupleExact _) (wpAny_newObj_type (wpAny_pure (wpAny_pure ⟨_, rfl, wpAny_pure k⟩)) fits))
    | exact wpAny_bind (wpAny_bind (m := Builtin.Tuple.tupleExact _) (wpAny_newObj_type (wpAny_pure ⟨_, rfl, wpAny_pure k⟩) fits))
end
section
variable {X : Cx}
def tRevT (K : PySem.W.Frag) (te : TE) : TE := fun σ H Q => te σ H fun x H1 => ∃ a xs, x = .ref a ∧ SqT K H1 a xs ∧ ∀ p, H1 p = none → Q (.ref p) (upd H1 p (.tup xs.reverse))
theorem pe_revT {e : Expr} {te : TE} {k : Nat} {p1 p2 p3 pos : Pos} (he : PE X e te) : PE X (.Subscript e (.Slice none none (some (.UnaryOp .USub (.Constant (.int 1) k p1) p2)) p3) pos) (tRevT X.K te) := by
  refine ⟨fun pins s σ H Q I h => Subscript_ (thn (he.run pins s σ H _ I h) ?_)⟩
  rintro v s1 ⟨x, H1, I1, r1, a, xs, rfl, hx, q⟩
  cases r1
  have step : PO X (some (.UnaryOp .USub (.Constant (.int 1) k p1) p2)) (tPart (tUn (rU fun i => .int (-i)) (tC (.int 1)))) := po_some (pe_un un_neg pe_int)
  refine wpAny_Slice (thn (po_none.run pins s1 σ H1 (fun o G => o = none ∧ G = H1) I1 ⟨rfl, rfl⟩) ?_)
  rintro vl s2 ⟨l, G2, I2, pl, el, e2⟩
  subst el e2
  refine thn (po_none.run pins s2 σ G2 (fun o G => o = none ∧ G = G2) I2 ⟨rfl, rfl⟩) ?_
  rintro vu s3 ⟨u, G3, I3, pu, eu, e3⟩
  subst eu e3
  refine thn (step.run pins s3 σ G3 (fun o G => o = some (-1) ∧ G = G3) I3 ⟨1, rfl, -1, rfl, rfl, rfl⟩) ?_
  rintro vs s4 ⟨o, G4, I4, ps, eo, e4⟩
  subst eo e4
  cases pl
  cases pu
  have I5 : Inv X pins σ G4 { s4 with heap := s4.heap.push { cls := .type "slice", data := .fields #[.none, .none, vs] } } := I4.kept (t' := s4.toks) fun b ob z => Heap.get?_push_of_some _ z
  obtain ⟨its, r, ht, hz⟩ := I5.tuple hx
  have hlen := r.length
  show wpAny (model X.prog X.w) X.A (subscriptTail e (.Slice none none (some (.UnaryOp .USub (.Constant (.int 1) k p1) p2)) p3) (.ref a) (.ref s4.heap.objs.size)) (EP X pins σ Q) X.xe { s4 with heap := s4.heap.push { cls := .type "slice", data := .fields #[.none, .none, vs] } }
  refine tail_any (ops := [.ref a, .ref s4.heap.objs.size]) ht.typeIs (PyProof.Rows.slot_tuple_getitem.lookup) ?_ (by with_unfolding_all rfl)
  refine get_rev ht (Heap.IsSliceOf.new _ .none .none vs) ps (by omega) ?_
  refine ⟨.ref _, _, I5.laid (t' := s4.toks) (o := .tup xs.reverse) (fun b ob z => Heap.get?_push_of_some _ z) (Nat.le_refl _) ?_, rfl, q _ (I5.hok.fresh (Nat.le_refl _))⟩
  exact ⟨by rw [List.length_reverse]; exact hz, _, r.reverse, ⟨_, Heap.get?_push_size _ rfl, rfl, _, rfl⟩⟩
/-- t[lo:hi] of a tuple: some tuple that holds the cut; all that stood stands -/
def rSlS (K : PySem.W.Frag) : V → Option Int → Option Int → Hp → VK → Prop := fun x lo hi H Q => ∃ a xs, x = .ref a ∧ SqT K H a xs ∧ ∀ p H', Same H H' → SqT K H' p (cutV xs lo hi) → Q (.ref p) H'
theorem sl_tupS : SlR X (rSlS X.K) := by
  intro pins s σ H x v vl vu lo hi sl Q I rx hs pl pu h
  obtain ⟨a, xs, rfl, hx, q⟩ := h
  refine sl_tupA pins s σ H _ v vl vu lo hi sl Q I rx hs pl pu ⟨a, xs, rfl, hx, fun e => q a H (Same.refl H) ?_, fun _ p hp => q p _ (same_new hp) (SqT.of upd_same)⟩
  have e2 : cutV xs lo hi = xs := by
    unfold cutV
    rw [e.1, e.2, List.drop_zero, Nat.sub_zero, List.take_length]
  rw [e2]
  exact hx
/-- t + u of tuples: some tuple that holds both -/
def rCatS (K : PySem.W.Frag) : R2 := fun x y H Q => ∃ a b xs ys, x = .ref a ∧ y = .ref b ∧ SqT K H a xs ∧ SqT K H b ys ∧ xs.length + ys.length ≤ sizeLine ∧ ∀ p H', Same H H' → SqT K H' p (xs ++ ys) → Q (.ref p) H'
theorem op_catS : OpR X (binaryOp .Add) (rCatS X.K) := by
  intro pins s σ H x y v u Q I rx ry h
  obtain ⟨a, b, xs, ys, rfl, rfl, ha, hb, hz, q⟩ := h
  refine op_catA pins s σ H _ _ v u Q I rx ry ⟨a, b, xs, ys, rfl, rfl, ha, hb, hz, fun e => q b H (Same.refl H) ?_, fun _ e => q a H (Same.refl H) ?_, fun _ _ p hp => q p _ (same_new hp) (SqT.of upd_same)⟩
  · rw [e, List.nil_append]
    exact hb
  · rw [e, List.append_nil]
    exact ha
end
end RG
end RGh
section RGi
/-! how long data's text is; lists of ints; comprehensions with a test -/
namespace RG
open PySem PySem.Spec PyProof.Rows L2
/-- signs of all texts, with their commas -/
def pl (ds : List PyData) : Nat := (ds.map fun d => d.shown.length + 2).sum
theorem pl_piled : ∀ ds : List PyData, piled (PyData.shownAll ds) = pl ds
  | [] => rfl
  | d :: ds => by
    simp only [PyData.shownAll, piled_cons, pl_piled ds, pl, List.map_cons, List.sum_cons]
theorem pl_nil : pl [] = 0 := rfl
theorem pl_cons (d : PyData) (ds : List PyData) : pl (d :: ds) = d.shown.length + 2 + pl ds := by simp [pl]
theorem pl_append (ds es : List PyData) : pl (ds ++ es) = pl ds + pl es := by simp [pl]
theorem join_le (ts : List Str) : (Str.join ", " ts).length ≤ piled ts := by
  cases ts with
  | nil => exact Nat.le_refl 0
  | cons t ts =>
    have := join_length_add (t :: ts) (by simp)
    omega
theorem shown_tuple (ds : List PyData) : (PyData.tuple ds).shown.length ≤ 3 + pl ds := by
  simp only [PyData.shown, tupleText, strLen_append]
  have h := join_le (PyData.shownAll ds)
  rw [pl_piled] at h
  have h1 : (("(" : Str)).length = 1 := by decide +kernel
  have h2 : ((if (PyData.shownAll ds).length == 1 then ",)" else ")" : String) : Str).length ≤ 2 := by
    split <;> decide +kernel
  omega
theorem shown_list (ds : List PyData) : (PyData.list ds).shown.length ≤ 3 + pl ds := by
  simp only [PyData.shown]
  have h := (textFrom_len (PyData.shownAll ds) 0 "[").1
  unfold listText
  rw [strLen_append]
  have h0 := pl_piled ds
  have h1 : (("[" : Str)).length = 1 := by decide +kernel
  have h2 : (("]" : Str)).length = 1 := by decide +kernel
  cases hts : PyData.shownAll ds with
  | nil =>
    show ("[" : Str).length + _ ≤ _
    omega
  | cons t ts =>
    have e : textFrom 0 "[" (t :: ts) = textFrom 1 ("[" ++ t) ts := rfl
    rw [hts, piled_cons] at h0
    rw [e, textFrom_length_pos ts 1 _ (by decide), strLen_append]
    omega
/-- the texts of data that fit -/
structure Fit (W D : Nat) (d : PyData) : Prop where
  sh : d.showable = true
  le : d.shown.length ≤ W
  dp : d.depth ≤ D
structure Fits (W D : Nat) (ds : List PyData) : Prop where
  sh : PyData.showableAll ds = true
  le : pl ds ≤ W
  dp : PyData.depthAll ds ≤ D
theorem Fit.mono {W D W' D' : Nat} {d : PyData} (h : Fit W D d) (e : W ≤ W') (f : D ≤ D') : Fit W' D' d := ⟨h.sh, Nat.le_trans h.le e, Nat.le_trans h.dp f⟩
theorem Fits.mono {W D W' D' : Nat} {d : List PyData} (h : Fits W D d) (e : W ≤ W') (f : D ≤ D') : Fits W' D' d := ⟨h.sh, Nat.le_trans h.le e, Nat.le_trans h.dp f⟩
theorem Fits.nil {D : Nat} : Fits 0 D [] := ⟨rfl, Nat.le_refl 0, Nat.zero_le _⟩
theorem Fits.cons {W V D : Nat} {d : PyData} {ds : List PyData} (h : Fit W D d) (t : Fits V D ds) : Fits (W + 2 + V) D (d :: ds) :=
  ⟨by simp only [PyData.showableAll, h.sh, t.sh, Bool.and_self], by rw [pl_cons]; have := h.le; have := t.le; omega, by simp only [PyData.depthAll]; exact Nat.max_le.mpr ⟨h.dp, t.dp⟩⟩
theorem Fits.head {W D : Nat} {d : PyData} {ds : List PyData} (h : Fits W D (d :: ds)) : Fit W D d := by
  have h1 := h.sh
  have h2 := h.le
  have h3 := h.dp
  simp only [PyData.showableAll, Bool.and_eq_true] at h1
  rw [pl_cons] at h2
  simp only [PyData.depthAll] at h3
  exact ⟨h1.1, by omega, by omega⟩
theorem Fits.tail {W D : Nat} {d : PyData} {ds : List PyData} (h : Fits W D (d :: ds)) : Fits W D ds := by
  have h1 := h.sh
  have h2 := h.le
  have h3 := h.dp
  simp only [PyData.showableAll, Bool.and_eq_true] at h1
  rw [pl_cons] at h2
  simp only [PyData.depthAll] at h3
  exact ⟨h1.2, by omega, by omega⟩
theorem Fits.mem {W D : Nat} : ∀ {ds : List PyData} {d : PyData}, Fits W D ds → d ∈ ds → Fit W D d
  | _ :: _, _, h, m => by
    rcases List.mem_cons.mp m with rfl | m
    · exact h.head
    · exact Fits.mem h.tail m
theorem Fits.append {W V D : Nat} : ∀ {ds es : List PyData}, Fits W D ds → Fits V D es → Fits (W + V) D (ds ++ es)
  | [], es, _, h2 => h2.mono (Nat.le_add_left ..) (Nat.le_refl _)
  | d :: ds, es, h1, h2 => by
    have h3 := Fits.append h1.tail h2
    have h4 := h1.head
    have h5 := h1.le
    refine ⟨?_, ?_, ?_⟩
    · rw [List.cons_append]
      simp only [PyData.showableAll, h4.sh, h3.sh, Bool.and_self]
    · rw [pl_append]
      have := h2.le
      omega
    · rw [List.cons_append]
      simp only [PyData.depthAll]
      exact Nat.max_le.mpr ⟨h4.dp, h3.dp⟩
theorem Fits.take {W D : Nat} : ∀ {ds : List PyData} (k : Nat), Fits W D ds → Fits W D (ds.take k)
  | [], k, h => by rw [List.take_nil]; exact h
  | d :: ds, 0, h => (Fits.nil (D := D)).mono (Nat.zero_le _) (Nat.le_refl _)
  | d :: ds, k + 1, h => by
    have h1 := Fits.take k h.tail
    have h2 := h.head
    have h3 := h.le
    rw [pl_cons] at h3
    have h4 : pl (ds.take k) ≤ pl ds := by
      have e := congrArg pl (List.take_append_drop k ds)
      rw [pl_append] at e
      omega
    refine ⟨?_, ?_, ?_⟩
    · rw [List.take_succ_cons]
      simp only [PyData.showableAll, h2.sh, h1.sh, Bool.and_self]
    · rw [List.take_succ_cons, pl_cons]
      omega
    · rw [List.take_succ_cons]
      simp only [PyData.depthAll]
      exact Nat.max_le.mpr ⟨h2.dp, h1.dp⟩
theorem Fits.drop {W D : Nat} : ∀ {ds : List PyData} (k : Nat), Fits W D ds → Fits W D (ds.drop k)
  | [], k, h => by rw [List.drop_nil]; exact h
  | d :: ds, 0, h => h
  | d :: ds, k + 1, h => Fits.drop k h.tail
theorem Fits.tuple {W D : Nat} {ds : List PyData} (h : Fits W D ds) : Fit (3 + W) (D + 1) (.tuple ds) :=
  ⟨by simp only [PyData.showable, h.sh], Nat.le_trans (shown_tuple ds) (Nat.add_le_add_left h.le 3), by simp only [PyData.depth]; exact Nat.succ_le_succ h.dp⟩
theorem Fits.list {W D : Nat} {ds : List PyData} (h : Fits W D ds) : Fit (3 + W) (D + 1) (.list ds) :=
  ⟨by simp only [PyData.showable, h.sh], Nat.le_trans (shown_list ds) (Nat.add_le_add_left h.le 3), by simp only [PyData.depth]; exact Nat.succ_le_succ h.dp⟩
theorem fit_none : Fit 4 0 .none := ⟨rfl, by simp only [PyData.shown]; decide +kernel, Nat.le_refl 0⟩
theorem fit_bool (b : Bool) : Fit 5 0 (.bool b) := ⟨rfl, by simp only [PyData.shown]; cases b <;> decide +kernel, Nat.le_refl 0⟩
theorem fit_int {a : Int} {k : Nat} (h0 : 0 < k) (h1 : k ≤ 500) (h : a.natAbs < 10 ^ k) : Fit (k + 1) 0 (.int a) := by
  refine ⟨?_, ?_, Nat.le_refl 0⟩
  · simp only [PyData.showable, decide_eq_true_eq]
    by_cases h2 : a.natAbs = 0
    · rw [h2]
      decide
    · rw [Nat.log2_lt h2]
      refine Nat.lt_of_lt_of_le h (Nat.le_trans (Nat.pow_le_pow_right (by decide) h1) ?_)
      decide +kernel
  · simp only [PyData.shown]
    rw [PySem.ofString_length]
    exact int_text_length_le10 h0 h
theorem DdAll.append {K : PySem.W.Frag} {H : Hp} : ∀ {vs ws : List V} {ds es : List PyData}, DdAll K H vs ds → DdAll K H ws es → DdAll K H (vs ++ ws) (ds ++ es)
  | _, _, _, _, .nil, h => h
  | _, _, _, _, .cons h t, u => .cons h (DdAll.append t u)
theorem DdAll.take {K : PySem.W.Frag} {H : Hp} : ∀ {vs : List V} {ds : List PyData} (k : Nat), DdAll K H vs ds → DdAll K H (vs.take k) (ds.take k)
  | _, _, 0, _ => by
    rw [List.take_zero, List.take_zero]
    exact .nil
  | _, _, k + 1, .nil => by
    rw [List.take_nil, List.take_nil]
    exact .nil
  | _, _, k + 1, .cons h t => by
    rw [List.take_succ_cons, List.take_succ_cons]
    exact .cons h (DdAll.take k t)
theorem DdAll.drop {K : PySem.W.Frag} {H : Hp} : ∀ {vs : List V} {ds : List PyData} (k : Nat), DdAll K H vs ds → DdAll K H (vs.drop k) (ds.drop k)
  | _, _, 0, h => h
  | _, _, k + 1, .nil => by
    rw [List.drop_nil, List.drop_nil]
    exact .nil
  | _, _, k + 1, .cons h t => DdAll.drop k t
theorem dd_cut {K : PySem.W.Frag} {H : Hp} {xs : List V} {ds : List PyData} {W D : Nat} (h : DdAll K H xs ds) (f : Fits W D ds) (lo hi : Option Int) : ∃ es, DdAll K H (cutV xs lo hi) es ∧ Fits W D es ∧ es.length ≤ ds.length := by
  refine ⟨(ds.drop (HT.sIx xs.length 0 lo)).take (HT.sIx xs.length xs.length hi - HT.sIx xs.length 0 lo), (h.drop _).take _, (f.drop _).take _, ?_⟩
  rw [List.length_take, List.length_drop]
  omega
theorem DdAll.mem {K : PySem.W.Frag} {H : Hp} : ∀ {vs : List V} {ds : List PyData} {v : V}, DdAll K H vs ds → v ∈ vs → ∃ d ∈ ds, Dd K H v d
  | _, _, _, .cons h t, m => by
    rcases List.mem_cons.mp m with rfl | m
    · exact ⟨_, List.mem_cons_self, h⟩
    · obtain ⟨d, h1, h2⟩ := DdAll.mem t m
      exact ⟨d, List.mem_cons_of_mem _ h1, h2⟩
theorem DdAll.ints {K : PySem.W.Frag} {H : Hp} : ∀ ns : List Int, DdAll K H (ns.map V.int) (ns.map PyData.int)
  | [] => .nil
  | n :: ns => .cons (.int n) (DdAll.ints ns)
/-! ### lists of ints -/
theorem eqv_ints : ∀ ns ms : List Int, PyData.eqvAll (ns.map PyData.int) (ms.map PyData.int) = decide (ns = ms)
  | [], [] => rfl
  | [], m :: ms => by simp [PyData.eqvAll]
  | n :: ns, [] => by simp [PyData.eqvAll]
  | n :: ns, m :: ms => by
    simp only [List.map_cons, PyData.eqvAll, PyData.eqv, eqv_ints ns ms]
    by_cases h1 : n = m
    · by_cases h2 : ns = ms <;> simp [h1, h2]
    · simp [h1]
theorem lay_ints : ∀ ns : List Int, PyData.canLayAll0 (ns.map PyData.int) = true
  | [] => rfl
  | n :: ns => by simp only [List.map_cons, PyData.canLayAll0, PyData.canLay0, lay_ints ns, Bool.and_self]
theorem flat_ints : ∀ ns : List Int, PyData.depthAll (ns.map PyData.int) = 0
  | [] => rfl
  | n :: ns => by simp only [List.map_cons, PyData.depthAll, PyData.depth, flat_ints ns]; rfl
theorem shaped_ints (ns : List Int) : SeqAt.shaped (.list (ns.map PyData.int)) = true := by
  unfold SeqAt.shaped
  simp only [PyData.canLay0, lay_ints, PyData.depth, flat_ints, Bool.true_and]
  decide
theorem shaped_intsT (ns : List Int) : SeqAt.shaped (.tuple (ns.map PyData.int)) = true := by
  unfold SeqAt.shaped
  simp only [PyData.canLay0, lay_ints, PyData.depth, flat_ints, Bool.true_and]
  decide
theorem dp_ints {K : PySem.W.Frag} {H : Hp} : ∀ ns : List Int, DpAll K H (ns.map V.int) (ns.map PyData.int)
  | [] => .nil
  | n :: ns => .cons (.int n) (dp_ints ns)
/-! ### a comprehension over a tuple with a test -/
/-- what is kept: the items whose test holds -/
def keptV (ys : List V) (bs : List Bool) : List V := ((ys.zip bs).filter (·.2)).map (·.1)
theorem kept_snoc {ys : List V} {bs : List Bool} {i : Nat} {y : V} {b : Bool} (hy : ys[i]? = some y) (hb : bs[i]? = some b) :
    keptV (ys.take (i + 1)) (bs.take (i + 1)) = if b = true then keptV (ys.take i) (bs.take i) ++ [y] else keptV (ys.take i) (bs.take i) := by
  have hl : (ys.take i).length = (bs.take i).length := by
    have h1 := (List.getElem?_eq_some_iff.mp hy).1
    have h2 := (List.getElem?_eq_some_iff.mp hb).1
    rw [List.length_take, List.length_take]
    omega
  unfold keptV
  rw [← take_snoc hy, ← take_snoc hb, List.zip_append hl, List.filter_append, List.map_append]
  cases b <;> simp
theorem kept_len (ys : List V) (bs : List Bool) : (keptV ys bs).length ≤ ys.length := by
  unfold keptV
  rw [List.length_map]
  refine Nat.le_trans (List.length_filter_le _ _) ?_
  rw [List.length_zip]
  exact Nat.min_le_left _ _
theorem comp_tupT {K : PySem.W.Frag} {a D : Addr} {xs ys : List V} {bs : List Bool} {te : TE} {tt : TT} {j : Nat} {σ : L2.St} {H : Hp} {Qd : Hp → Prop} (hD : H D = none) (ha : SqT K H a xs) (hl : ys.length = xs.length) (hb : bs.length = xs.length) (hz : xs.length < sizeLine)
    (test : ∀ (i : Nat) (x : V) (b : Bool), xs[i]? = some x → bs[i]? = some b → ∀ G, Same H G → ∀ Q : Bool → Hp → Prop, (∀ G', Same G G' → Q b G') → tt ((σ.set j none).set j (some x)) G Q)
    (each : ∀ (i : Nat) (x y : V), xs[i]? = some x → ys[i]? = some y → ∀ G, Same H G → ∀ Q : VK, (∀ G', Same G G' → Q y G') → te ((σ.set j none).set j (some x)) G Q)
    (done : ∀ G, Same H G → G D = some (.lst (keptV ys bs)) → Qd G) :
    ∃ W : Nat → Nat → Hp → Prop, (∃ m, W 0 m (upd H D (.lst []))) ∧ ∀ i m G, W i m G →
      ((Itt K a).stop i G ∧ Qd G) ∨ ((Itt K a).go i G ∧ ∃ Nx : Hp → Prop, (∀ H', Nx H' → ∃ m', m' < m ∧ W (i + 1) m' H') ∧ ∀ x H', (Itt K a).yld i G x H' → gName j x (wipe σ [j]) H' fun σ2 H2 => wipe σ2 [j] = wipe σ [j] ∧ tt σ2 H2 fun b H3 =>
        if b = true then te σ2 H3 fun y H4 => ∃ acc, H4 D = some (.lst acc) ∧ acc.length < sizeLine ∧ Nx (upd H4 D (.lst (acc ++ [y]))) else Nx H3) := by
  refine lc_tup (xs := xs) (fun i G => Same H G ∧ G D = some (.lst (keptV (ys.take i) (bs.take i)))) ⟨same_new hD, by rw [upd_same]; rfl⟩ (fun i G _ h => sqt_same h.1 ha) (fun i x G hi h => ?_) fun G h => done G h.1 ?_
  · have hlt : i < xs.length := (List.getElem?_eq_some_iff.mp hi).1
    have hy : ys[i]? = some ys[i] := List.getElem?_eq_getElem (by omega)
    have hbi : bs[i]? = some bs[i] := List.getElem?_eq_getElem (by omega)
    have sn := kept_snoc hy hbi
    refine ⟨?_, ?_⟩
    · show ((σ.set j none).set j (some x)).set j none = σ.set j none
      rw [List.set_set, List.set_set]
    · refine test i x _ hi hbi G h.1 _ fun G1 e1 => ?_
      refine ite2 (fun hbt => ?_) fun hbf => ?_
      · rw [if_pos hbt] at sn
        refine each i x _ hi hy G1 (h.1.trans e1) _ fun G2 e2 => ?_
        refine ⟨_, e2 _ _ (e1 _ _ h.2), Nat.lt_of_le_of_lt (kept_len _ _) (by rw [List.length_take]; omega), same_mut ((h.1.trans e1).trans e2) hD, ?_⟩
        rw [upd_same, sn]
      · rw [if_neg hbf] at sn
        exact ⟨h.1.trans e1, by rw [sn]; exact e1 _ _ h.2⟩
  · rw [h.2, ← hl, List.take_length, hl, ← hb, List.take_length]
end RG
end RGi
section RGj
/-! A call while some lists and dicts of the caller's are out of sight: they stand as they were. -/
namespace RG
open PySem PySem.Spec PyProof.Rows L2
def plain : HO → Prop
  | .lst _ => True
  | .dK _ => True
  | _ => False
/-- H without the things of ps -/
def hid (ps : List (Addr × HO)) (H : Hp) : Hp := fun b => if b ∈ ps.map (·.1) then none else H b
/-- .. and back again -/
def back (ps : List (Addr × HO)) (H : Hp) : Hp := fun b => match ps.lookup b with
  | some o => some o
  | none => H b
theorem hid_in {ps : List (Addr × HO)} {H : Hp} {b : Addr} (h : b ∈ ps.map (·.1)) : hid ps H b = none := if_pos h
theorem hid_out {ps : List (Addr × HO)} {H : Hp} {b : Addr} (h : b ∉ ps.map (·.1)) : hid ps H b = H b := if_neg h
theorem hid_some {ps : List (Addr × HO)} {H : Hp} {b : Addr} {o : HO} (h : hid ps H b = some o) : H b = some o ∧ b ∉ ps.map (·.1) := by
  by_cases e : b ∈ ps.map (·.1)
  · rw [hid_in e] at h
    cases h
  · rw [hid_out e] at h
    exact ⟨h, e⟩
theorem look_in : ∀ {ps : List (Addr × HO)} {b : Addr}, b ∈ ps.map (·.1) → ∃ o, ps.lookup b = some o ∧ (b, o) ∈ ps
  | (a, o) :: ps, b, h => by
    by_cases e : b = a
    · subst e
      exact ⟨o, by simp [List.lookup], List.mem_cons_self⟩
    · have h2 : b ∈ ps.map (·.1) := (List.mem_cons.mp h).resolve_left e
      obtain ⟨u, h3, h4⟩ := look_in h2
      refine ⟨u, ?_, List.mem_cons_of_mem _ h4⟩
      have e2 : (b == a) = false := by simpa using e
      simp only [List.lookup, e2]
      exact h3
theorem look_out : ∀ {ps : List (Addr × HO)} {b : Addr}, b ∉ ps.map (·.1) → ps.lookup b = none
  | [], _, _ => rfl
  | (a, o) :: ps, b, h => by
    have e : b ≠ a := fun e => h (by rw [e]; exact List.mem_cons_self)
    have e2 : (b == a) = false := by simpa using e
    simp only [List.lookup, e2]
    exact look_out fun q => h (List.mem_cons_of_mem _ q)
theorem back_out {ps : List (Addr × HO)} {H : Hp} {b : Addr} (h : b ∉ ps.map (·.1)) : back ps H b = H b := by
  unfold back
  rw [look_out h]
/-- a thing that leans on its own object alone -/
theorem plain_at {P : Program} {w : World} {H H' : Hp} {h h' : Heap} {a : Addr} {o : HO} (p : plain o) (x : ObjOk P w H h a o) (e : ∀ u, h.get? a = some u → h'.get? a = some u) : ObjOk P w H' h' a o := by
  cases o with
  | lst xs =>
    obtain ⟨z, its, n, r, g⟩ := x
    exact ⟨z, its, n, r, e _ g⟩
  | dK kvs =>
    obtain ⟨z, y, vs, r, ob, es, ep, g, c⟩ := x
    exact ⟨z, y, vs, r, ob, es, ep, e _ g, c⟩
  | _ => exact p.elim
section
variable {X : Cx} {pins : List (Addr × Obj)} {σ : L2.St} {H H' : Hp} {s s' : Shared}
theorem plain_obj {P : Program} {w : World} {H : Hp} {h : Heap} {a : Addr} {o : HO} (p : plain o) (x : ObjOk P w H h a o) : ∃ u, h.get? a = some u ∧ ∀ v, u.data ≠ .cell v := by
  cases o with
  | lst xs =>
    obtain ⟨z, its, n, r, g⟩ := x
    exact ⟨_, g, fun v q => nomatch q⟩
  | dK kvs =>
    obtain ⟨z, y, vs, r, ob, es, ep, g, c1, c2, _⟩ := x
    exact ⟨_, g, fun v q => by rw [c2] at q; cases q⟩
  | _ => exact p.elim
theorem inv_hid {ps : List (Addr × HO)} (I : Inv X pins σ H s) (hp : ∀ p ∈ ps, H p.1 = some p.2 ∧ plain p.2) :
    ∃ pins', (∀ p ∈ ps, ∃ u, (p.1, u) ∈ pins' ∧ s.heap.get? p.1 = some u) ∧ (∀ q ∈ pins, q ∈ pins') ∧ Inv X pins' σ (hid ps H) s := by
  have objs : ∀ p ∈ ps, ∃ u, s.heap.get? p.1 = some u ∧ ∀ v, u.data ≠ .cell v := fun p h => plain_obj (hp p h).2 (I.hok _ _ (hp p h).1)
  let ex : List (Addr × Obj) := ps.filterMap fun p => (s.heap.get? p.1).map fun u => (p.1, u)
  have mem : ∀ p ∈ ps, ∃ u, (p.1, u) ∈ ex ∧ s.heap.get? p.1 = some u := fun p h => by
    obtain ⟨u, h1, _⟩ := objs p h
    exact ⟨u, List.mem_filterMap.mpr ⟨p, h, by rw [h1]; rfl⟩, h1⟩
  have out : ∀ q ∈ ex, ∃ p ∈ ps, p.1 = q.1 ∧ s.heap.get? p.1 = some q.2 := fun q h => by
    obtain ⟨p, h1, h2⟩ := List.mem_filterMap.mp h
    obtain ⟨u, h3, h4⟩ := Option.map_eq_some_iff.mp h2
    subst h4
    exact ⟨p, h1, rfl, h3⟩
  have keep : ∀ {b : Addr} {o : HO}, H b = some o → ¬ plain o → hid ps H b = some o := fun {b o} h n => by
    rw [hid_out]
    · exact h
    · intro m
      obtain ⟨p, h1, h2⟩ := List.mem_map.mp m
      obtain ⟨h3, h4⟩ := hp p h1
      rw [h2, h] at h3
      cases h3
      exact n h4
  refine ⟨pins ++ ex, fun p h => ?_, fun q h => List.mem_append_left _ h, ?_⟩
  · obtain ⟨u, h1, h2⟩ := mem p h
    exact ⟨u, List.mem_append_right _ h1, h2⟩
  refine ⟨I.ok, I.os, I.bare, ?_, I.loc, I.cell, ?_, ?_, ?_, ?_, I.len⟩
  · refine ⟨I.base.keep, I.base.slot, fun b o h1 h2 h3 => ?_, I.base.there, fun b xs h => keep (I.base.tups b xs h) (fun z => z), fun b o u h => keep (I.base.frzs b o u h) (fun z => z), fun b qs h => ?_⟩
    · have := I.base.free b o h1 h2 h3
      unfold hid
      split
      · rfl
      · exact this
    · obtain ⟨more, h2⟩ := I.base.tbls b qs h
      exact ⟨more, keep h2 (fun z => z)⟩
  · unfold hid
    split
    · rfl
    · exact I.free
  · intro x c h
    unfold hid
    split
    · rfl
    · exact I.freeC x c h
  · intro p h
    have old : ∀ p ∈ X.pn ++ pins, s.heap.get? p.1 = some p.2 ∧ hid ps H p.1 = none ∧ p.1 ≠ X.env.locals ∧ p.1 ∉ X.fs ∧ ∀ v, p.2.data ≠ .cell v := fun p h => by
      obtain ⟨h1, h2, h3⟩ := I.pin p h
      refine ⟨h1, ?_, h3⟩
      unfold hid
      split
      · rfl
      · exact h2
    rcases List.mem_append.mp h with h | h
    · exact old p (List.mem_append_left _ h)
    · rcases List.mem_append.mp h with h | h
      · exact old p (List.mem_append_right _ h)
      · obtain ⟨q, h1, h2, h3⟩ := out p h
        obtain ⟨g1, g2⟩ := hp q h1
        obtain ⟨u, g3, g4⟩ := objs q h1
        rw [h3] at g3
        cases g3
        rw [h2] at h3 g1
        refine ⟨h3, hid_in (List.mem_map.mpr ⟨q, h1, h2⟩), fun e => ?_, fun e => ?_, g4⟩
        · rw [e, I.free] at g1
          cases g1
        · have z : H p.1 = none := by
            obtain ⟨_, o, ho, _⟩ := I.ok.funs.mem e
            exact I.base.free p.1 o ho (I.ok.frf p.1 e) fun z => I.ok.exfs p.1 z e
          rw [z] at g1
          cases g1
  · intro b o h
    obtain ⟨h1, h2⟩ := hid_some h
    exact (I.hok b o h1).stay (fun _ _ _ e => e) (fun c e => keep e (fun z => z)) fun c xs e => keep e (fun z => z)
end
section
variable {P : Program} {w : World} {fs : List Addr} {ps : List (Addr × HO)} {H G : Hp} {h h' : Heap}
theorem back_in {b : Addr} (hp : ∀ p ∈ ps, H p.1 = some p.2 ∧ plain p.2) (m : b ∈ ps.map (·.1)) : ∃ o, back ps G b = some o ∧ H b = some o ∧ plain o := by
  obtain ⟨o, h1, h2⟩ := look_in m
  refine ⟨o, ?_, (hp _ h2).1, (hp _ h2).2⟩
  unfold back
  rw [h1]
theorem un_back (u : Un fs [] (hid ps H) G h h') (hp : ∀ p ∈ ps, H p.1 = some p.2 ∧ plain p.2) : Un fs [] H (back ps G) h h' := by
  have none_of : ∀ {b : Addr}, H b = none → hid ps H b = none ∧ b ∉ ps.map (·.1) := fun {b} e => by
    have n : b ∉ ps.map (·.1) := fun m => by
      obtain ⟨p, h1, h2⟩ := List.mem_map.mp m
      have := (hp p h1).1
      rw [h2, e] at this
      cases this
    exact ⟨by rw [hid_out n]; exact e, n⟩
  have keep : ∀ {b : Addr} {o : HO}, H b = some o → ¬ plain o → hid ps H b = some o ∧ b ∉ ps.map (·.1) := fun {b o} e n => by
    have n2 : b ∉ ps.map (·.1) := fun m => by
      obtain ⟨o2, _, h2, h3⟩ := back_in (G := G) hp m
      rw [e] at h2
      cases h2
      exact n h3
    exact ⟨by rw [hid_out n2]; exact e, n2⟩
  refine ⟨fun b o e n hb hx => u.keep b o e (none_of n).1 hb hx, fun b o e n hb hx => u.slot b o e (none_of n).1 hb hx, fun b o e n hx => ?_, u.there, fun b xs e => ?_, fun b o v e => ?_, fun b qs e => ?_⟩
  · rw [back_out (none_of n).2]
    exact u.free b o e (none_of n).1 hx
  · obtain ⟨h1, h2⟩ := keep e (fun z => z)
    rw [back_out h2]
    exact u.tups b xs h1
  · obtain ⟨h1, h2⟩ := keep e (fun z => z)
    rw [back_out h2]
    exact u.frzs b o v h1
  · obtain ⟨h1, h2⟩ := keep e (fun z => z)
    obtain ⟨more, h3⟩ := u.tbls b qs h1
    exact ⟨more, by rw [back_out h2]; exact h3⟩
theorem ok_back (u : Un fs [] (hid ps H) G h h') (hp : ∀ p ∈ ps, H p.1 = some p.2 ∧ plain p.2) (nf : ∀ b ∈ fs, H b = none) (k1 : HOk P w H h) (k2 : HOk P w G h') : HOk P w (back ps G) h' := by
  have gone : ∀ {b : Addr}, b ∈ ps.map (·.1) → ∃ o ob, back ps G b = some o ∧ H b = some o ∧ plain o ∧ h.get? b = some ob ∧ h'.get? b = some ob ∧ G b = none := fun {b} m => by
    obtain ⟨o, h1, h2, h3⟩ := back_in (G := G) hp m
    obtain ⟨ob, h4, _⟩ := plain_obj h3 (k1 b o h2)
    have h5 : b ∉ fs := fun z => by
      rw [nf b z] at h2
      cases h2
    exact ⟨o, ob, h1, h2, h3, h4, u.keep b ob h4 (hid_in m) h5 (by simp), u.free b ob h4 (hid_in m) (by simp)⟩
  have out : ∀ {b : Addr} {o : HO}, G b = some o → back ps G b = some o := fun {b o} e => by
    rw [back_out]
    · exact e
    · intro m
      obtain ⟨_, _, _, _, _, _, _, h1⟩ := gone m
      rw [h1] at e
      cases e
  intro b o e
  by_cases m : b ∈ ps.map (·.1)
  · obtain ⟨o2, ob, h1, h2, h3, h4, h5, h6⟩ := gone m
    rw [h1] at e
    cases e
    exact plain_at h3 (k1 b _ h2) fun v hv => by
      rw [h4] at hv
      cases hv
      exact h5
  · rw [back_out m] at e
    exact (k2 b o e).stay (fun _ _ _ z => z) (fun c z => out z) fun c xs z => out z
end
/-- f(..) while some things are out of sight -/
def tCallH (sp : Sp) (t : TA) : TE := fun σ H Q => t σ H fun vs H1 => ∃ ps : List (Addr × HO), (∀ p ∈ ps, H1 p.1 = some p.2 ∧ plain p.2) ∧ sp vs (hid ps H1) (fun v G => (∀ p ∈ ps, G p.1 = none) → Q v (back ps G)) E0
section
variable {X : Cx} {k j : Nat} {x : Str} {sp : Sp} {p pos : Pos} {e : Expr} {es : List Expr} {t : TA}
theorem pe_gH (c : Cg X.prog X.w X.K X.mg X.base k x sp) (hr : Room j X.A) (hg : X.A.guards = some []) (hk : k ≤ j) (hx : Gl X x) (ha : PA X (e :: es) t)
    (h1 : (x == ("__debug__" : Str)) = false := by decide) (h2 : starEach (e :: es) X.env = (false, eval e X.env) :: starEach es X.env := by rfl) (h3 : (backTo pos (starEach es X.env)).any (·.1) = false := by rfl) :
    PE X (.Call (.Name x p) (e :: es) [] pos) (tCallH sp t) := by
  obtain ⟨f, fd, pms, F, hm, kp, b⟩ := c.ex
  refine ⟨fun pins s σ H Q I h => wpAny_Call_Name_kw (ld_glob I hx hm ?_ h1)⟩
  refine PySem.W.callWith_K (h₀ := X.base) I.ok.mod.kin kp (thn (ha.run pos pins s σ H _ I h) ?_) h2 h3
  rintro us s1 ⟨vs, G, J, r, ps, hp, q⟩
  refine ⟨J.kIn, ?_⟩
  have bt := b s1 us J.kIn (by rw [List.append_nil, ← r.length]; exact F.many _ _ _ _ q)
  rw [List.append_nil] at bt
  obtain ⟨pins2, _, _, J2⟩ := inv_hid J hp
  refine wpAny_call (codeAny_mono (F.runs X.A X.stack s1 _ _ us vs _ E0 (hr.mono hk) hg J2.env0 bt r q) fun w2 s2 h => ?_)
  cases w2 with
  | error z => exact False.elim h
  | ok fl =>
    cases fl with
    | ret u =>
      obtain ⟨v, G2, os, bare, un, hok, rv, q2⟩ := h
      refine J.after ⟨v, back ps G2, os, bare, un_back un hp, ok_back un hp J.stkFree J.hok hok, rv, q2 fun p h => ?_⟩
      obtain ⟨ob, h4, _⟩ := plain_obj (hp p h).2 (J.hok _ _ (hp p h).1)
      exact un.free p.1 ob h4 (hid_in (List.mem_map.mpr ⟨p, h, rfl⟩)) (by simp)
    | next => exact False.elim h
    | brk => exact False.elim h
    | cont => exact False.elim h
end
/-! one list put aside -/
def rem (s : Addr) (H : Hp) : Hp := fun b => if b = s then none else H b
theorem rem_at {s : Addr} {H : Hp} : rem s H s = none := if_pos rfl
theorem rem_ne {s b : Addr} {H : Hp} (h : b ≠ s) : rem s H b = H b := if_neg h
theorem rem_upd {s : Addr} {H : Hp} {o : HO} : rem s (upd H s o) = rem s H := by
  funext b
  by_cases h : b = s
  · rw [h, rem_at, rem_at]
  · rw [rem_ne h, rem_ne h, upd_ne h]
theorem rem_none {s : Addr} {H : Hp} (h : H s = none) : rem s H = H := by
  funext b
  by_cases e : b = s
  · rw [e, rem_at, h]
  · rw [rem_ne e]
theorem hid1 {s : Addr} {o : HO} {H : Hp} : hid [(s, o)] H = rem s H := by
  funext b
  by_cases e : b = s
  · rw [e, rem_at]
    exact hid_in (by simp)
  · rw [rem_ne e]
    exact hid_out (by simpa using e)
theorem back1 {s : Addr} {o : HO} {H : Hp} : back [(s, o)] H = upd H s o := by
  funext b
  by_cases e : b = s
  · subst e
    rw [upd_same]
    unfold back
    simp [List.lookup]
  · rw [upd_ne e]
    exact back_out (by simpa using e)
theorem same_rem {s : Addr} {H : Hp} : Same (rem s H) H := fun b o h => by
  by_cases e : b = s
  · rw [e, rem_at] at h
    cases h
  · rw [rem_ne e] at h
    exact h
/-- what was kept is kept behind the list's back -/
theorem rem_kb {p s : Addr} {H G : Hp} (e : Kb p H G) : Kb p (rem s H) (rem s G) := fun b o h n => by
  by_cases z : b = s
  · rw [z, rem_at] at h
    cases h
  · rw [rem_ne z] at h ⊢
    exact e b o h n
theorem rem_same {s : Addr} {H G : Hp} (e : Same H G) : Same (rem s H) (rem s G) := fun b o h => by
  by_cases z : b = s
  · rw [z, rem_at] at h
    cases h
  · rw [rem_ne z] at h ⊢
    exact e b o h
/-- one list put aside at a call -/
theorem callH1 {sp : Sp} {vs : List V} {H1 : Hp} {Q : VK} {s : Addr} {xs : List V} (h : H1 s = some (.lst xs)) (q : sp vs (rem s H1) (fun v G => G s = none → Q v (upd G s (.lst xs))) E0) :
    ∃ ps : List (Addr × HO), (∀ p ∈ ps, H1 p.1 = some p.2 ∧ plain p.2) ∧ sp vs (hid ps H1) (fun v G => (∀ p ∈ ps, G p.1 = none) → Q v (back ps G)) E0 := by
  refine ⟨[(s, .lst xs)], fun p hp => ?_, ?_⟩
  · rw [List.mem_singleton] at hp
    subst hp
    exact ⟨h, trivial⟩
  · rw [hid1]
    simpa only [back1, List.mem_singleton, forall_eq] using q
end RG
end RGj
section RGk
/-! dict([(k, k) for k in range(n)]); small texts -/
namespace RG
open PySem PySem.Spec PyProof.Rows L2
theorem new_ex {G : Hp} {t : Addr} {o : HO} (h : G t = none) : ∃ G', G' = L2.upd G t o ∧ Same G G' ∧ G' t = some o := ⟨_, rfl, same_new h, upd_same⟩
/-- the pairs (0, 0), (1, 1), .. -/
def twins (n : Nat) : List (Key × V) := (List.range n).map fun k => (Sum.inl ((k : Nat) : Int), V.int ((k : Nat) : Int))
theorem twins_snoc (n : Nat) : twins (n + 1) = twins n ++ [(Sum.inl (n : Int), V.int (n : Int))] := by
  unfold twins
  rw [List.range_succ, List.map_append]
  rfl
def TwinsP (H : Hp) (D : Addr) (i : Nat) (G : Hp) : Prop := Same H G ∧ ∃ ps : List Addr, ps.length = i ∧ G D = some (.lst (ps.map V.ref)) ∧ Paired (fun p kv => G p = some (.tup [kV kv.1, kv.2])) ps (twins i)
theorem comp_twins {K : PySem.W.Frag} {D : Addr} {n : Nat} {te : TE} {j : Nat} {σ : L2.St} {H : Hp} {Qd : Hp → Prop} (hD : H D = none) (hz : n < sizeLine)
    (each : ∀ (i : Nat), i < n → ∀ G, Same H G → ∀ Q : VK, (∀ p, G p = none → Q (.ref p) (upd G p (.tup [.int (i : Int), .int (i : Int)]))) → te ((σ.set j none).set j (some (.int (0 + i)))) G Q)
    (done : ∀ (G : Hp) (ps : List Addr), Same H G → G D = some (.lst (ps.map V.ref)) → Paired (fun p kv => SqT K G p [kV kv.1, kv.2]) ps (twins n) → Qd G) :
    ∃ W : Nat → Nat → Hp → Prop, (∃ m, W 0 m (upd H D (.lst []))) ∧ ∀ i m G, W i m G →
      ((Itr 0 n).stop i G ∧ Qd G) ∨ ((Itr 0 n).go i G ∧ ∃ Nx : Hp → Prop, (∀ H', Nx H' → ∃ m', m' < m ∧ W (i + 1) m' H') ∧ ∀ x H', (Itr 0 n).yld i G x H' → gName j x (wipe σ [j]) H' fun σ2 H2 => wipe σ2 [j] = wipe σ [j] ∧ tYes σ2 H2 fun b H3 =>
        if b = true then te σ2 H3 fun y H4 => ∃ acc, H4 D = some (.lst acc) ∧ acc.length < sizeLine ∧ Nx (upd H4 D (.lst (acc ++ [y]))) else Nx H3) := by
  refine lc_range (TwinsP H D) ⟨same_new hD, [], rfl, upd_same, .nil⟩ (fun i G hi h => ?_) fun G h => ?_
  · obtain ⟨e, ps, hl, hd, pp⟩ := h
    refine ⟨?_, ?_⟩
    · show ((σ.set j none).set j (some (V.int (0 + i)))).set j none = σ.set j none
      rw [List.set_set, List.set_set]
    · show (if true = true then (te ((σ.set j none).set j (some (V.int (0 + i)))) G fun y H4 => ∃ acc, H4 D = some (.lst acc) ∧ acc.length < sizeLine ∧ TwinsP H D (i + 1) (upd H4 D (.lst (acc ++ [y])))) else TwinsP H D (i + 1) G)
      rw [if_pos rfl]
      refine each i hi G e _ fun p hp => ?_
      have hpD : D ≠ p := fun z => by rw [← z, hd] at hp; cases hp
      refine ⟨_, by rw [upd_ne hpD]; exact hd, by rw [List.length_map]; omega, same_mut (e.trans (same_new hp)) hD, ps ++ [p], by rw [List.length_append, hl]; rfl, by rw [upd_same, List.map_append]; rfl, ?_⟩
      rw [twins_snoc]
      refine Paired.snoc (Paired.mapP pp fun q kv z => ?_) ?_
      · have hq : q ≠ D := fun e2 => by rw [e2, hd] at z; cases z
        have hq2 : q ≠ p := fun e2 => by rw [e2, hp] at z; cases z
        rw [upd_ne hq, upd_ne hq2]
        exact z
      · rw [upd_ne hpD.symm, upd_same]
        rfl
  · obtain ⟨e, ps, hl, hd, pp⟩ := h
    exact done G ps e hd (Paired.mapP pp fun p kv z => SqT.of z)
/-- small entries -/
def small (kv : Key × V) : Prop := ∃ a b : Int, kv = (Sum.inl a, V.int b) ∧ a.natAbs < 1000 ∧ b.natAbs < 1000
theorem small_put {kvs : List (Key × V)} {k : Key} {v : V} (h : ∀ kv ∈ kvs, small kv) (hk : small (k, v)) : ∀ kv ∈ putK kvs k v, small kv := by
  intro kv m
  unfold putK at m
  split at m
  · obtain ⟨q, m1, rfl⟩ := List.mem_map.mp m
    split
    · rename_i e
      rw [e]
      exact hk
    · exact h q m1
  · rcases List.mem_append.mp m with m | m
    · exact h kv m
    · rw [List.mem_singleton] at m
      rw [m]
      exact hk
theorem put_len (kvs : List (Key × V)) (k : Key) (v : V) : (putK kvs k v).length ≤ kvs.length + 1 := by
  unfold putK
  split
  · rw [List.length_map]
    exact Nat.le_succ _
  · rw [List.length_append]
    exact Nat.le_refl _
theorem small_merge : ∀ {more kvs : List (Key × V)}, (∀ kv ∈ kvs, small kv) → (∀ kv ∈ more, small kv) → (∀ kv ∈ mergeK kvs more, small kv) ∧ (mergeK kvs more).length ≤ kvs.length + more.length
  | [], kvs, h, _ => ⟨h, Nat.le_refl _⟩
  | kv :: more, kvs, h, h2 => by
    have h3 := small_merge (more := more) (small_put h (h2 kv List.mem_cons_self)) fun q hq => h2 q (List.mem_cons_of_mem _ hq)
    refine ⟨h3.1, Nat.le_trans h3.2 ?_⟩
    have := put_len kvs kv.1 kv.2
    rw [List.length_cons]
    omega
theorem small_twins {n : Nat} (h : n ≤ 1000) : ∀ kv ∈ twins n, small kv := by
  intro kv m
  obtain ⟨k, hk, rfl⟩ := List.mem_map.mp m
  have := List.mem_range.mp hk
  exact ⟨_, _, rfl, by omega, by omega⟩
theorem twins_len (n : Nat) : (twins n).length = n := by
  unfold twins
  rw [List.length_map, List.length_range]
theorem small_noPen {kvs : List (Key × V)} (h : ∀ kv ∈ kvs, small kv) : isPen kvs = false := by
  cases kvs with
  | nil => rfl
  | cons kv kvs =>
    obtain ⟨a, b, rfl, _⟩ := h _ List.mem_cons_self
    rfl
theorem dict_len (ts : List Str) : (dictText ts).length ≤ piled ts + 2 := by
  unfold dictText
  rw [strLen_append, strLen_append]
  have h := join_le ts
  have h1 : (("{" : Str)).length = 1 := by decide +kernel
  have h2 : (("}" : Str)).length = 1 := by decide +kernel
  omega
theorem small_data {K : PySem.W.Frag} {H : Hp} : ∀ {kvs : List (Key × V)}, (∀ kv ∈ kvs, small kv) → ∃ ds, DdKv K H kvs ds ∧ PyData.showableKv ds = true ∧ piled (PyData.shownKv ds) ≤ 12 * kvs.length ∧ PyData.depthKv ds = 0
  | [], _ => ⟨[], .nil, rfl, Nat.le_refl 0, rfl⟩
  | kv :: kvs, h => by
    obtain ⟨a, b, rfl, ha, hb⟩ := h _ List.mem_cons_self
    obtain ⟨ds, h1, h2, h3, h4⟩ := small_data (K := K) (H := H) fun q hq => h q (List.mem_cons_of_mem _ hq)
    have fa := fit_int (k := 3) (by decide) (by decide) ha
    have fb := fit_int (k := 3) (by decide) (by decide) hb
    refine ⟨(.int a, .int b) :: ds, .cons (k := Sum.inl a) (.int b) h1, ?_, ?_, ?_⟩
    · simp only [PyData.showableKv, fa.sh, fb.sh, h2, Bool.and_self]
    · simp only [PyData.shownKv, piled_cons, strLen_append, List.length_cons]
      have e1 := fa.le
      have e2 := fb.le
      have h1 : ((": " : Str)).length = 2 := by decide +kernel
      omega
    · simp only [PyData.depthKv, PyData.depth, h4]
      rfl
/-- a dict of small entries is data that fits -/
theorem small_dict {K : PySem.W.Frag} {H : Hp} {p : Addr} {kvs : List (Key × V)} {n : Nat} (h : ∀ kv ∈ kvs, small kv) (hl : kvs.length ≤ n) (hp : H p = some (.dK kvs)) : ∃ d, Dd K H (.ref p) d ∧ Fit (12 * n + 2) 1 d ∧ ∀ es, d ≠ .tuple es := by
  obtain ⟨ds, h1, h2, h3, h4⟩ := small_data (K := K) (H := H) h
  refine ⟨.dict ds, .dct (.inl hp) (small_noPen h) h1, ⟨by simpa only [PyData.showable] using h2, ?_, by simp only [PyData.depth, h4]; exact Nat.le_refl 1⟩, fun es e => by cases e⟩
  simp only [PyData.shown]
  have := dict_len (PyData.shownKv ds)
  omega
theorem tuple_fits {W D : Nat} {es : List PyData} (h : Fit W (D + 1) (.tuple es)) : Fits (W + 2) D es := by
  have h1 := h.sh
  have h2 := h.le
  have h3 := h.dp
  refine ⟨by simpa only [PyData.showable] using h1, ?_, ?_⟩
  · rw [← pl_piled]
    cases hts : PyData.shownAll es with
    | nil => exact Nat.zero_le _
    | cons t ts =>
      simp only [PyData.shown, tupleText, strLen_append, hts] at h2
      have := join_length_add (t :: ts) (by simp)
      omega
  · simp only [PyData.depth] at h3
    omega
theorem fits_ints : ∀ {ns : List Int}, (∀ k ∈ ns, k.natAbs < 1000) → Fits (6 * ns.length) 0 (ns.map PyData.int)
  | [], _ => Fits.nil
  | n :: ns, h => by
    have h1 := fit_int (k := 3) (by decide) (by decide) (h n List.mem_cons_self)
    have h2 := fits_ints fun k hk => h k (List.mem_cons_of_mem _ hk)
    have e1 := h1.le
    have e2 := h2.le
    refine ⟨?_, ?_, ?_⟩
    · rw [List.map_cons]
      simp only [PyData.showableAll, h1.sh, h2.sh, Bool.and_self]
    · rw [List.map_cons, pl_cons, List.length_cons]
      omega
    · rw [List.map_cons]
      simp only [PyData.depthAll]
      exact Nat.max_le.mpr ⟨h1.dp, h2.dp⟩
end RG
end RGk
section RGl
/-! enumerate of a tuple; min of a tuple of ints -/
namespace RG
open PySem PySem.Spec PyProof.Rows L2
section
variable {prog : Program} {w : World} {A : Around} {E : Value → Shared → Prop} {s : Shared}
/-- enumerate.__new__ of one thing that can be gone through -/
theorem enum_new1 {v : Value} {o : Obj} {G : Heap → Prop} (B : Begins v o G) :
    Meets (Builtin.«enumerate.__new__» ⟨[.type "enumerate", v], []⟩) (fun _ R s => G s.heap ∧
      R (.ok (.ret (.ref (s.heap.push o).objs.size))) { s with heap := (s.heap.push o).push { cls := .type "enumerate", data := .fields #[.none, .bool false, .ref s.heap.objs.size, rawInt 0, .none, .none] } }) :=
  .of_wp fun prog w A R s pre => by
    obtain ⟨hp, gs, dr, tk, os⟩ := s
    obtain ⟨pre1, fin⟩ := pre
    have isub := sub_enumerate
    have go : ∀ {A' : Around} {E : Value → Shared → Prop} {Q : Value → Shared → Prop}, Q (.ref hp.objs.size) ⟨hp.push o, gs, dr, tk, os⟩ → wpAny (model prog w) A' (pyIter v) Q E ⟨hp, gs, dr, tk, os⟩ :=
      fun q => B.iter prog w _ _ ⟨hp, gs, dr, tk, os⟩ _ pre1 q
    wp_walk using go
    refine wpAny_stack_any fun frames => wpAny_pure ?_
    split
    · rename_i c _ _ _ _ _
      cases (c == Value.type "enumerate")
      · wp_walk using go
        exact ⟨_, rfl, fin⟩
      · wp_walk using go
        exact ⟨_, rfl, fin⟩
    · wp_walk using go
      exact ⟨_, rfl, fin⟩
theorem call_enumT {t : Addr} {items : Array Value} {Q : Value → Shared → Prop} (ht : s.heap.IsTuple t items)
    (k : ∀ h', IsEnum h' (s.heap.objs.size + 1) s.heap.objs.size 0 .none → h'.IsTupleIter s.heap.objs.size t 0 → h'.objs.size = s.heap.objs.size + 2 →
      (∀ b o, s.heap.get? b = some o → h'.get? b = some o) → Q (.ref (s.heap.objs.size + 1)) { s with heap := h' }) : wpAny (model prog w) A (call (.type "enumerate") [.ref t]) Q E s := by
  refine callType_new F.called_enumerate (by decide) (F.typeCall_enumerate_1 _) (F.newCall_enumerate_1 _) (fun obj => F.args_object_init_2 obj _) F.entry_enumerate_new (enum_new1 (begins_tuple t items)) ⟨ht, ?_⟩
  have size1 : (s.heap.push { cls := .type "tuple_iterator", data := .fields #[.ref t, .int 0 0] }).objs.size = s.heap.objs.size + 1 := Heap.size_push ..
  show _ ∧ _
  rw [size1]
  have en : IsEnum ((s.heap.push { cls := .type "tuple_iterator", data := .fields #[.ref t, .int 0 0] }).push { cls := .type "enumerate", data := .fields #[.none, .bool false, .ref s.heap.objs.size, rawInt 0, .none, .none] }) (s.heap.objs.size + 1) s.heap.objs.size 0 .none := by
    have at1 := Heap.get?_push_size (s.heap.push { cls := .type "tuple_iterator", data := .fields #[.ref t, .int 0 0] }) (o := { cls := .type "enumerate", data := .fields #[.none, .bool false, .ref s.heap.objs.size, rawInt 0, .none, .none] }) rfl
    rw [size1] at at1
    exact at1
  exact ⟨⟨_, en, rfl⟩, k _ en ⟨_, Heap.get?_push_of_some _ (Heap.get?_push_size _ rfl), rfl, rfl⟩ (by rw [Heap.size_push, size1]) fun b o x => Heap.get?_push_of_some _ (Heap.get?_push_of_some _ x)⟩
/-- min of a tuple of ints -/
theorem min_tupI {t : Addr} {xs : Array (Int × Tok)} {Q : Value → Shared → Prop} (hh : A.handled = none) (ht : s.heap.IsTuple t (intItems xs)) (n0 : 0 < xs.size)
    (k : ∀ v h' tk, (intItems xs)[argBest (fun i j => decide (numAt xs i < numAt xs j)) (xs.size - 1)]? = some v → (∀ b o, s.heap.get? b = some o → h'.get? b = some o) → Q v { s with heap := h', toks := tk }) : wpAny (model prog w) A (call (.builtin "min") [.ref t]) Q E s := by
  have below : t < s.heap.objs.size := by
    obtain ⟨_, e, _⟩ := ht
    exact Heap.lt_size e
  refine call_min_walk (wpAny_pyIter_tuple ht ?_)
  refine ⟨_, _, _, _, _, _, _, rfl, Walks.tuple (A := A.in1) hh s.heap.objs.size t (Nat.ne_of_lt below) (intItems xs), ⟨⟨_, Heap.get?_push_size _ rfl, rfl, rfl⟩, ht.push _⟩, fun b hb => ?_, by simpa [intItems] using n0, CmpOf.ints_lt (numAt xs) (fun _ _ => intItems_at), fun v h' tk hP hk => ?_⟩
  · show b < (s.heap.push _).objs.size
    rw [Heap.size_push]
    rcases List.mem_cons.mp hb with rfl | hb
    · exact Nat.lt_succ_self _
    · rcases List.mem_cons.mp hb with rfl | hb
      · exact Nat.lt_succ_of_lt below
      · cases hb
  · exact k v h' tk (by simpa [intItems] using hP) fun b o e => hk b o (by simpa using Nat.ne_of_lt (Heap.lt_size e)) (Heap.get?_push_of_some _ e)
end
/-! the rule for enumerate(t), t a tuple -/
def ItE (K : PySem.W.Frag) (a : Addr) : It :=
  ⟨fun i H => ∃ (xs : List V) (x : V), SqT K H a xs ∧ xs[i]? = some x, fun i H v H' => ∃ T x, v = .ref T ∧ H T = none ∧ H' = upd H T (.tup [.int (i : Nat), x]) ∧ ∀ xs, SqT K H a xs → xs[i]? = some x,
    fun i H => ∃ xs : List V, SqT K H a xs ∧ xs.length = i⟩
theorem turn_enumT {P : Program} {w : World} {K : PySem.W.Frag} {elts : List Expr} {kk : Nat} {tpos : Pos} (a e it : Addr) :
    Turn P w K (.Tuple elts kk tpos) (ItE K a) [e, it] e (fun i h => (∃ old, IsEnum h e it ((i : Nat) : Int) old) ∧ h.IsTupleIter it a i ∧ e ≠ it) where
  mem := by simp
  obj := fun i h st b hb => by
    obtain ⟨⟨old, h1⟩, ⟨o, h2, h3, h4⟩, _⟩ := st
    rcases (show b = e ∨ b = it by simpa using hb) with rfl | rfl
    · exact ⟨_, h1, fun v q => nomatch q⟩
    · exact ⟨o, h2, fun v q => by rw [h4] at q; cases q⟩
  keep := fun i h h' st k => by
    obtain ⟨⟨old, h1⟩, h2, ne⟩ := st
    exact ⟨⟨old, k e (by simp) _ h1⟩, h2.at fun o q => k it (by simp) o q, ne⟩
  item := by
    intro X hP hw hK hc i pins s σ H E I hf st hg
    subst hP hw hK
    obtain ⟨⟨old, h1⟩, h2, ne⟩ := st
    obtain ⟨xs, x, hq, hx⟩ := hg
    obtain ⟨its, rv, p, _⟩ := I.tuple hq
    obtain ⟨u, hu, ru⟩ := rv.get hx
    have le := Heap.lt_size h1
    have lt : it < s.heap.objs.size := by
      obtain ⟨_, q, _⟩ := h2
      exact Heap.lt_size q
    have pt : s.heap.IsTuple a its.toArray := p
    have ha : a ≠ it := by
      rintro rfl
      obtain ⟨o1, q1, q2, _⟩ := pt
      obtain ⟨o2, q3, q4, _⟩ := h2
      rw [q1] at q3
      cases q3
      rw [q2] at q4
      exact absurd q4 (by decide)
    have hea : e ≠ a := by
      rintro rfl
      obtain ⟨o1, q1, q2, _⟩ := pt
      have q3 : s.heap.get? e = _ := h1
      rw [q1] at q3
      cases q3
      have q5 : Value.type "enumerate" = Value.type "tuple" := q2
      exact absurd q5 (by decide)
    have ef : e ∉ [it, a] := fun m => by
      rcases List.mem_cons.mp m with z | m
      · exact ne z
      · exact hea (List.mem_singleton.mp m)
    have small : i < its.toArray.size := by
      rw [List.size_toArray]
      exact (List.getElem?_eq_some_iff.mp hu).1
    refine wpAny_pyNext_enum_itemD (Draws.tuple (A := X.A.in1) (show X.A.in1.handled = none from I.ok.hd hc) it a ha its.toArray) h1 ⟨h2, pt⟩ small ne ef fun y h' tk hy ho st' hT hsz hk => ?_
    obtain rfl : y = u := by
      have hy2 : its.toArray[i]? = some y := hy
      rw [List.getElem?_toArray, hu] at hy2
      exact (Option.some.inj hy2).symm
    refine ⟨_, rfl, wpAny_letOwnedTupleGo_enum (s := { s with heap := h', toks := tk + 1 }) ho fun g he' sb => ?_⟩
    have hT2 : g.get? s.heap.objs.size = some { cls := .type "tuple", data := .seq #[.int i tk, y] } := (sb.2 _ (Nat.ne_of_gt le)).trans hT
    have new : ObjOk X.prog X.w (upd H s.heap.objs.size (.tup [.int (i : Nat), x])) g s.heap.objs.size (.tup [.int (i : Nat), x]) :=
      ⟨show 2 ≤ sizeLine by decide, [.int i tk, y], .cons ⟨_, rfl⟩ (.cons ru .nil), ⟨_, hT2, rfl, _, rfl⟩⟩
    have J : Inv X pins σ (upd H s.heap.objs.size (.tup [.int (i : Nat), x])) { s with heap := g, toks := tk + 1 } :=
      I.turnedNew (ch := [e, it]) (fun b ob hb q => (sb.2 b (fun z => hb (by simp [z]))).trans (hk b ob (fun z => hb (by simp [z])) (fun z => hb (by simp [z])) q)) hf (Nat.le_refl _) new
    refine ⟨.ref s.heap.objs.size, _, J, rfl, ⟨_, x, rfl, I.hok.fresh (Nat.le_refl _), rfl, fun ys hy => by rw [I.tuple_inj hy hq]; exact hx⟩, ⟨⟨y, ?_⟩, st'.1.at fun o q => (sb.2 it (Ne.symm ne)).trans q, ne⟩, fun b hb => ?_⟩
    · rw [show ((i + 1 : Nat) : Int) = (i : Int) + 1 by omega]
      exact he'
    · have hb2 : b < s.heap.objs.size := by
        rcases (show b = e ∨ b = it by simpa using hb) with z | z
        · rw [z]; exact le
        · rw [z]; exact lt
      rw [upd_ne (Nat.ne_of_lt hb2)]
      exact (hf b hb).1
  done := by
    intro X hP hw hK hc i pins s σ H E I hf st hg
    subst hP hw hK
    obtain ⟨⟨old, h1⟩, h2, ne⟩ := st
    obtain ⟨xs, hq, hx⟩ := hg
    obtain ⟨its, rv, p, _⟩ := I.tuple hq
    have pt : s.heap.IsTuple a its.toArray := p
    obtain ⟨f0, f1, f2, f3, f4, f5⟩ := hf it (by simp)
    have ll := rv.length
    have ha : a ≠ it := by
      rintro rfl
      obtain ⟨o1, q1, q2, _⟩ := pt
      obtain ⟨o2, q3, q4, _⟩ := h2
      rw [q1] at q3
      cases q3
      rw [q2] at q4
      exact absurd q4 (by decide)
    have nn : its.toArray.size = i := by
      rw [List.size_toArray]
      omega
    refine wpAny_pyNext_enum_endD (Draws.tuple (A := X.A.in1) (show X.A.in1.handled = none from I.ok.hd hc) it a ha its.toArray) h1 (by rw [nn]; exact ⟨h2, pt⟩) fun h' eb => ⟨rfl, I.turned (t' := s.toks) (fun b o hb q => eb b o hb q) f0 f1 f3 f4 f5⟩
  self := fun A i s Q E st h => by
    obtain ⟨⟨_, h1⟩, _⟩ := st
    exact wpAny_pyIter_enum h1 h
def iEnumT (K : PySem.W.Frag) (ta : TA) : TI := fun σ H R => ta σ H fun vs H1 => ∃ a xs, vs = [.ref a] ∧ SqT K H1 a xs ∧ R (ItE K a) H1
theorem pi_enumT {X : Cx} {e : Expr} {ta : TA} {p pos tpos : Pos} {elts : List Expr} {kk : Nat} (hg : Gl X "enumerate") (hm : X.mg "enumerate" = none) (ha : PA X [e] ta)
    (hs : starEach [e] X.env = [(false, eval e X.env)] := by rfl) : PI X (.Tuple elts kk tpos) (.Call (.Name "enumerate" p) [e] [] pos) (iEnumT X.K ta) := by
  refine ⟨fun pins s σ H R I h => Call_ (ld_blt I hg hm boot_enumerate (PyProof.Rows.callWith_type1 (thn (ha.run pos pins s σ H _ I h) ?_) hs rfl))⟩
  rintro us s1 ⟨vs, H1, J, r, a, xs, rfl, hq, q⟩
  obtain rfl := Vals.ref1 r
  obtain ⟨its, rv, pt, _⟩ := J.tuple hq
  refine call_enumT (items := its.toArray) pt fun h' en ti sz keep => wpAny_pyIter_enum en ?_
  have J2 : Inv X pins σ H1 { s1 with heap := h' } := J.kept (t' := s1.toks) keep
  refine ⟨s1.heap.objs.size + 1, [s1.heap.objs.size + 1, s1.heap.objs.size], _, _, H1, rfl, J2, turn_enumT a (s1.heap.objs.size + 1) s1.heap.objs.size, ⟨⟨.none, en⟩, ti, Nat.succ_ne_self _⟩, fun b hb => ?_, q⟩
  have up : s1.heap.objs.size ≤ b := by
    rcases (show b = s1.heap.objs.size + 1 ∨ b = s1.heap.objs.size by simpa using hb) with z | z
    · rw [z]
      exact Nat.le_succ _
    · rw [z]
      exact Nat.le_refl _
  exact J.fpOk up (J.hok.fresh up)
/-- for k, x in enumerate(t) -/
theorem for_enumT {K : PySem.W.Frag} {a : Addr} {xs : List V} {g : TG} {tb : TS} {D : Ends} {σ : L2.St} {H : Hp} (Pv : Nat → L2.St → Hp → Prop) (h0 : Pv 0 σ H) (hl : ∀ i σ H, i ≤ xs.length → Pv i σ H → SqT K H a xs)
    (hs : ∀ i x σ H T, xs[i]? = some x → Pv i σ H → H T = none → g (.ref T) σ (upd H T (.tup [.int (i : Nat), x])) fun σ2 H2 => tb { D with nx := Pv (i + 1), ct := Pv (i + 1), bk := D.nx } σ2 H2) (hd : ∀ σ H, Pv xs.length σ H → D.nx σ H) :
    ∃ W : Nat → Nat → L2.St → Hp → Prop, (∃ m, W 0 m σ H) ∧ ∀ i m σ H, W i m σ H →
      ((ItE K a).stop i H ∧ D.nx σ H) ∨ ((ItE K a).go i H ∧ ∃ N : L2.St → Hp → Prop, (∀ σ' H', N σ' H' → ∃ m', m' < m ∧ W (i + 1) m' σ' H') ∧ ∀ x H', (ItE K a).yld i H x H' → g x σ H' fun σ2 H2 => tb { D with nx := N, ct := N, bk := D.nx } σ2 H2) := by
  refine ⟨fun i m σ H => m = xs.length - i ∧ i ≤ xs.length ∧ Pv i σ H, ⟨xs.length, rfl, Nat.zero_le _, h0⟩, ?_⟩
  rintro i m σ H ⟨rfl, hi, p⟩
  have q := hl i σ H hi p
  by_cases hlt : i < xs.length
  · refine .inr ⟨⟨xs, xs[i], q, List.getElem?_eq_getElem hlt⟩, Pv (i + 1), fun σ' H' p' => ⟨xs.length - (i + 1), by omega, rfl, hlt, p'⟩, fun x H' y => ?_⟩
    obtain ⟨T, z, rfl, hT, rfl, y⟩ := y
    exact hs i z σ H T (y xs q) p hT
  · obtain rfl : i = xs.length := by omega
    exact .inl ⟨⟨xs, q, rfl⟩, hd σ H p⟩
section
variable {X : Cx}
def rMinT (K : PySem.W.Frag) : List V → Hp → VK → Prop := fun vs H Q => ∃ (a : Addr) (ns : List Int), vs = [V.ref a] ∧ SqT K H a (ns.map V.int) ∧ 0 < ns.length ∧ ∀ m, m ∈ ns → (∀ y ∈ ns, m ≤ y) → Q (.int m) H
theorem cr_minT (hc : X.calm = true) : CallR X (.builtin "min") (rMinT X.K) := by
  intro pins s σ H vs us Q I r h
  obtain ⟨a, ns, rfl, hs, n0, q⟩ := h
  obtain ⟨its, rv, pt, _⟩ := I.tuple hs
  rw [Vals.ref1 r]
  have hi := rv.ints
  obtain ⟨xs, e⟩ := hi.allInts.items
  have hn : numsOf (intItems xs).toList = ns := by rw [← e]; exact hi.numsOf
  rw [nums_intItems] at hn
  subst hn
  have pt2 : s.heap.IsTuple a (intItems xs) := by rw [← e]; exact pt
  have len : 0 < xs.size := by simpa using n0
  refine min_tupI (I.ok.hd hc) pt2 len fun v h' tk hv keep => ?_
  obtain ⟨t, rfl⟩ := intItems_at hv
  obtain ⟨b1, b2⟩ := argBest_lt (numAt xs) (xs.size - 1)
  refine ⟨.int _, H, I.kept keep, ⟨_, rfl⟩, q _ ?_ fun y hy => ?_⟩
  · rw [numAt_eq]
    exact PySem.getD_mem (by rw [List.length_map, Array.length_toList]; omega)
  · obtain ⟨j, hj, rfl⟩ := mem_getD hy
    rw [List.length_map, Array.length_toList] at hj
    rw [← numAt_eq]
    exact b2 j (by omega)
end
end RG
end RGl
section RGm
/-! arrangements as maps of places: going on, the rounds' lengths -/
namespace RG
open PySem PySem.Spec PyProof.Rows L2
def goes (p : Nat → Nat) : Nat → Nat → Nat
  | 0, x => x
  | m + 1, x => p (goes p m x)
theorem goes_add (p : Nat → Nat) (a b x : Nat) : goes p (a + b) x = goes p a (goes p b x) := by
  induction a with
  | zero => rw [Nat.zero_add]; rfl
  | succ a ih => rw [Nat.succ_add]; show p _ = p _; rw [ih]
theorem goes_one (p : Nat → Nat) (x : Nat) : goes p 1 x = p x := rfl
theorem goes_next (p : Nat → Nat) (m x : Nat) : goes p (m + 1) x = goes p m (p x) := goes_add p m 1 x
theorem goes_mul (p : Nat → Nat) (a b x : Nat) : goes (goes p a) b x = goes p (b * a) x := by
  induction b with
  | zero => rw [Nat.zero_mul]; rfl
  | succ b ih =>
    show goes p a (goes (goes p a) b x) = _
    rw [ih, ← goes_add, Nat.succ_mul, Nat.add_comm]
structure IsP (n : Nat) (p : Nat → Nat) : Prop where
  lt : ∀ x, x < n → p x < n
  inj : ∀ x y, x < n → y < n → p x = p y → x = y
  sur : ∀ y, y < n → ∃ x, x < n ∧ p x = y
theorem IsP.id (n : Nat) : IsP n fun x => x := ⟨fun _ h => h, fun _ _ _ _ h => h, fun y h => ⟨y, h, rfl⟩⟩
theorem IsP.comp {n : Nat} {p q : Nat → Nat} (hp : IsP n p) (hq : IsP n q) : IsP n fun x => q (p x) := by
  refine ⟨fun x h => hq.lt _ (hp.lt x h), fun x y hx hy h => hp.inj x y hx hy (hq.inj _ _ (hp.lt x hx) (hp.lt y hy) h), fun y h => ?_⟩
  obtain ⟨z, h1, rfl⟩ := hq.sur y h
  obtain ⟨x, h2, rfl⟩ := hp.sur z h1
  exact ⟨x, h2, rfl⟩
theorem IsP.pow {n : Nat} {p : Nat → Nat} (hp : IsP n p) : ∀ m, IsP n (goes p m)
  | 0 => IsP.id n
  | m + 1 => (IsP.pow hp m).comp hp
theorem IsP.back {n : Nat} {p r : Nat → Nat} (hp : IsP n p) (h : ∀ k, k < n → r (p k) = k) : IsP n r := by
  refine ⟨fun y hy => ?_, fun x y hx hy e => ?_, fun y hy => ⟨p y, hp.lt y hy, h y hy⟩⟩
  · obtain ⟨x, hx, rfl⟩ := hp.sur y hy
    rw [h x hx]
    exact hx
  · obtain ⟨a, ha, rfl⟩ := hp.sur x hx
    obtain ⟨b, hb, rfl⟩ := hp.sur y hy
    rw [h a ha, h b hb] at e
    rw [e]
theorem IsP.same {n : Nat} {p q : Nat → Nat} (hp : IsP n p) (h : ∀ k, k < n → q k = p k) : IsP n q := by
  refine ⟨fun x hx => by rw [h x hx]; exact hp.lt x hx, fun x y hx hy e => hp.inj x y hx hy (by rw [← h x hx, ← h y hy]; exact e), fun y hy => ?_⟩
  obtain ⟨x, hx, e⟩ := hp.sur y hy
  exact ⟨x, hx, by rw [h x hx]; exact e⟩
theorem least {P : Nat → Prop} : ∀ m, P m → ∃ k, P k ∧ k ≤ m ∧ ∀ j, j < k → ¬ P j := by
  intro m
  induction m using Nat.strongRecOn with
  | _ m ih =>
    intro h
    by_cases e : ∃ j, j < m ∧ P j
    · obtain ⟨j, h1, h2⟩ := e
      obtain ⟨k, h3, h4, h5⟩ := ih j h1 h2
      exact ⟨k, h3, by omega, h5⟩
    · exact ⟨m, h, Nat.le_refl m, fun j hj q => e ⟨j, hj, q⟩⟩
/-- how long the round of x is -/
structure Len (p : Nat → Nat) (n x m : Nat) : Prop where
  pos : 0 < m
  le : m ≤ n
  home : goes p m x = x
  first : ∀ j, 0 < j → j < m → goes p j x ≠ x
theorem IsP.len {n : Nat} {p : Nat → Nat} (hp : IsP n p) {x : Nat} (hx : x < n) : ∃ m, Len p n x m := by
  have ex : ∃ m, 0 < m ∧ m ≤ n ∧ goes p m x = x := by
    refine Classical.byContradiction fun no => ?_
    have nd : ((List.range (n + 1)).map fun k => goes p k x).Nodup := by
      unfold List.Nodup
      rw [List.pairwise_map]
      have rg : (List.range (n + 1)).Pairwise fun a b => a < b ∧ b < n + 1 := by
        refine (List.pairwise_iff_getElem).mpr fun i j hi hj hij => ?_
        rw [List.getElem_range, List.getElem_range]
        rw [List.length_range] at hj
        exact ⟨hij, hj⟩
      refine rg.imp fun {a b} h => ?_
      intro e
      refine no ⟨b - a, by omega, by omega, ?_⟩
      have e2 : goes p a (goes p (b - a) x) = goes p a x := by
        rw [← goes_add, show a + (b - a) = b by omega]
        exact e.symm
      exact (hp.pow a).inj _ _ ((hp.pow (b - a)).lt x hx) hx e2
    have le := nd.length_le_of_subset (l₂ := List.range n) fun y hy => by
      obtain ⟨k, _, rfl⟩ := List.mem_map.mp hy
      exact List.mem_range.mpr ((hp.pow k).lt x hx)
    rw [List.length_map, List.length_range, List.length_range] at le
    omega
  obtain ⟨m, h1, h2, h3⟩ := ex
  obtain ⟨k, ⟨h4, h5⟩, h6, h7⟩ := least (P := fun m => 0 < m ∧ goes p m x = x) m ⟨h1, h3⟩
  exact ⟨k, h4, by omega, h5, fun j j0 jk e => h7 j jk ⟨j0, e⟩⟩
theorem goes_home {p : Nat → Nat} {m x : Nat} (h : goes p m x = x) : ∀ k, goes p (k * m) x = x
  | 0 => by rw [Nat.zero_mul]; rfl
  | k + 1 => by rw [Nat.succ_mul, goes_add, h, goes_home h k]
theorem goes_rest {p : Nat → Nat} {m x : Nat} (h : goes p m x = x) (a : Nat) : goes p a x = goes p (a % m) x := by
  have e := Nat.mod_add_div a m
  rw [show goes p a x = goes p (a % m + a / m * m) x by rw [Nat.mul_comm (a / m) m, e], goes_add, goes_home h]
/-- all rounds' lengths go into this -/
def whole12 : Nat := 27720
theorem goes_whole {n : Nat} {p : Nat → Nat} (hp : IsP n p) (h : n ≤ 12) {x : Nat} (hx : x < n) : goes p whole12 x = x := by
  obtain ⟨m, L⟩ := hp.len hx
  have d : whole12 % m = 0 := by
    have h1 := L.pos
    have h2 := L.le
    have : ∀ k, k < 13 → 0 < k → whole12 % k = 0 := by decide
    exact this m (by omega) h1
  rw [goes_rest L.home, d]
  rfl
/-- a whole number of times, as a number of steps -/
def tw (t : Int) : Nat := (t % 27720).toNat
theorem tw_lt (t : Int) : tw t < 27720 := by
  unfold tw
  omega
theorem tw_eq {n : Nat} {p : Nat → Nat} (hp : IsP n p) (h : n ≤ 12) {x : Nat} (hx : x < n) {a : Nat} {t : Int} (e : ((a : Int) - t) % 27720 = 0) : goes p a x = goes p (tw t) x := by
  rw [goes_rest (goes_whole hp h hx) a]
  unfold whole12 tw
  congr 1
  omega
theorem tw_add {n : Nat} {p : Nat → Nat} (hp : IsP n p) (h : n ≤ 12) {x : Nat} (hx : x < n) (s t : Int) : goes p (tw s) (goes p (tw t) x) = goes p (tw (s + t)) x := by
  rw [← goes_add]
  refine tw_eq hp h hx ?_
  unfold tw
  omega
theorem tw_mul {n : Nat} {p : Nat → Nat} (hp : IsP n p) (h : n ≤ 12) {x : Nat} (hx : x < n) (s t : Int) : goes (goes p (tw s)) (tw t) x = goes p (tw (s * t)) x := by
  rw [goes_mul]
  refine tw_eq hp h hx ?_
  have e1 : ((tw s : Nat) : Int) = s % 27720 := by unfold tw; omega
  have e2 : ((tw t : Nat) : Int) = t % 27720 := by unfold tw; omega
  rw [Int.natCast_mul, e1, e2, Int.mul_comm s t, Int.sub_emod, ← Int.mul_emod, Int.sub_self]
  rfl
/-- the numbers of a map of places -/
def arV (p : Nat → Nat) (n : Nat) : List V := (List.range n).map fun k => V.int ((p k : Nat) : Int)
theorem arV_len (p : Nat → Nat) (n : Nat) : (arV p n).length = n := by
  unfold arV
  rw [List.length_map, List.length_range]
theorem arV_get {p : Nat → Nat} {n k : Nat} (h : k < n) : (arV p n)[k]? = some (V.int ((p k : Nat) : Int)) := by
  unfold arV
  rw [List.getElem?_map, List.getElem?_range h]
  rfl
theorem arV_at {p : Nat → Nat} {n k : Nat} (h : k < n) : atI (arV p n) ((k : Nat) : Int) = some (V.int ((p k : Nat) : Int)) := atI_nat (arV_get h)
theorem arV_congr {p q : Nat → Nat} {n : Nat} (h : ∀ k, k < n → p k = q k) : arV p n = arV q n := by
  unfold arV
  refine List.map_congr_left fun k hk => ?_
  rw [h k (List.mem_range.mp hk)]
def arI (p : Nat → Nat) (n : Nat) : List Int := (List.range n).map fun k => ((p k : Nat) : Int)
theorem arV_ints (p : Nat → Nat) (n : Nat) : arV p n = (arI p n).map V.int := by
  unfold arV arI
  rw [List.map_map]
  rfl
theorem arI_len (p : Nat → Nat) (n : Nat) : (arI p n).length = n := by
  unfold arI
  rw [List.length_map, List.length_range]
theorem arI_inj {p q : Nat → Nat} {n : Nat} : arI p n = arI q n ↔ ∀ k, k < n → p k = q k := by
  constructor
  · intro h k hk
    have e : (arI p n)[k]? = (arI q n)[k]? := by rw [h]
    unfold arI at e
    rw [List.getElem?_map, List.getElem?_map, List.getElem?_range hk] at e
    have e2 : ((p k : Nat) : Int) = ((q k : Nat) : Int) := by simpa using e
    omega
  · intro h
    unfold arI
    refine List.map_congr_left fun k hk => ?_
    rw [h k (List.mem_range.mp hk)]
theorem arV_id (n : Nat) : rgV 0 (n : Int) = arV (fun k => k) n := by
  rw [rg_places]
  unfold places arV
  rw [List.map_map]
  rfl
/-- an arrangement's numbers are those of a map -/
theorem perm_ar {ks : List Int} {n : Nat} (h : ks.Perm (places n)) : ∃ p, ks.map V.int = arV p n ∧ IsP n p := by
  have hl : ks.length = n := by rw [h.length_eq, places_len]
  have get : ∀ k, k < n → ∃ j : Nat, j < n ∧ ks[k]? = some ((j : Nat) : Int) := fun k hk => by
    have h1 : k < ks.length := by omega
    have h2 : ks[k] ∈ places n := h.mem_iff.mp (List.getElem_mem h1)
    obtain ⟨j, h3, h4⟩ := List.mem_map.mp h2
    exact ⟨j, List.mem_range.mp h3, by rw [List.getElem?_eq_getElem h1, h4]⟩
  have pt : ∀ k, k < n → ks[k]? = some (((ks.getD k 0).toNat : Nat) : Int) ∧ (ks.getD k 0).toNat < n := fun k hk => by
    obtain ⟨j, h1, h2⟩ := get k hk
    have : ks.getD k 0 = (j : Int) := by rw [List.getD_eq_getElem?_getD, h2]; rfl
    rw [this, Int.toNat_natCast]
    exact ⟨h2, h1⟩
  have nd : ks.Nodup := h.nodup_iff.mpr (by
    unfold places List.Nodup
    rw [List.pairwise_map]
    exact List.nodup_range.imp fun h e => h (by omega))
  refine ⟨fun k => (ks.getD k 0).toNat, ?_, fun k hk => (pt k hk).2, fun a b ha hb e => ?_, fun y hy => ?_⟩
  · refine List.ext_getElem? fun k => ?_
    by_cases hk : k < n
    · rw [arV_get hk, List.getElem?_map, (pt k hk).1]
      rfl
    · rw [List.getElem?_eq_none (by rw [List.length_map]; omega), List.getElem?_eq_none (by rw [arV_len]; omega)]
  · have e1 := (pt a ha).1
    have e2 := (pt b hb).1
    have e' : (ks.getD a 0).toNat = (ks.getD b 0).toNat := e
    rw [e', ← e2] at e1
    exact (List.getElem?_inj (by omega) nd).mp e1
  · have h1 : ((y : Nat) : Int) ∈ ks := h.mem_iff.mpr (List.mem_map.mpr ⟨y, List.mem_range.mpr hy, rfl⟩)
    obtain ⟨k, hk, e⟩ := List.getElem_of_mem h1
    have hk2 : k < n := by omega
    refine ⟨k, hk2, ?_⟩
    have e2 := (pt k hk2).1
    rw [List.getElem?_eq_getElem hk, e] at e2
    have := Option.some.inj e2
    show (ks.getD k 0).toNat = y
    omega
end RG
end RGm
section RGn
/-! the rounds of an arrangement, by their least places -/
namespace RG
open PySem PySem.Spec PyProof.Rows L2
def rLenTS (K : PySem.W.Frag) : List V → Hp → VK → Prop := fun xs H Q => ∃ p ys, xs = [V.ref p] ∧ (SqL K H p ys ∨ SqT K H p ys) ∧ Q (V.int (ys.length : Nat)) H
theorem cr_lenTS {X : Cx} : CallR X (.builtin "len") (rLenTS X.K) := call_len_seq
/-- a tuple stands where a list is written anew -/
theorem sqt_put {K : PySem.W.Frag} {G : Hp} {D q : Addr} {xs ys zs : List V} (hd : G D = some (.lst xs)) (h : SqT K G q ys) : SqT K (upd G D (.lst zs)) q ys := by
  rcases h with z | z
  · refine .inl ?_
    rcases z with z | ⟨ob, z⟩
    · refine .inl ?_
      rw [upd_ne (ne_of z hd (fun e => nomatch e))]
      exact z
    · refine .inr ⟨ob, ?_⟩
      rw [upd_ne (ne_of z hd (fun e => nomatch e))]
      exact z
  · exact .inr z
theorem paired_at {α β : Type} {F : α → β → Prop} : ∀ {xs : List α} {ys : List β} {i : Nat} {x : α}, Paired F xs ys → xs[i]? = some x → ∃ y, ys[i]? = some y ∧ F x y
  | _, _, _, _, .nil, h => by simp at h
  | _, _, 0, _, .cons f _, h => by
    simp at h
    subst h
    exact ⟨_, rfl, f⟩
  | _, _, i + 1, _, .cons _ t, h => by
    obtain ⟨y, h1, h2⟩ := paired_at (i := i) t (by simpa using h)
    exact ⟨y, by simpa using h1, h2⟩
theorem paired_len {α β : Type} {F : α → β → Prop} : ∀ {xs : List α} {ys : List β}, Paired F xs ys → xs.length = ys.length
  | _, _, .nil => rfl
  | _, _, .cons _ t => congrArg Nat.succ (paired_len t)
theorem yes_ {k : Bool → Hp → Prop} {σ : L2.St} {H : Hp} (h : k true H) : tYes σ H k := h
theorem iteT' {b : Bool} {A B : Prop} (e : b = true) (h : A) : if b = true then A else B := by
  rw [if_pos e]
  exact h
theorem iteF' {b : Bool} {A B : Prop} (e : b = false) (h : B) : if b = true then A else B := by
  rw [e]
  exact iteF h
theorem Len.uniq {p : Nat → Nat} {n x a b : Nat} (h : Len p n x a) (g : Len p n x b) : a = b := by
  rcases Nat.lt_trichotomy a b with e | e | e
  · exact absurd h.home (g.first a h.pos e)
  · exact e
  · exact absurd g.home (h.first b g.pos e)
open Classical in
noncomputable def lenOf (p : Nat → Nat) (n x : Nat) : Nat := if h : ∃ m, Len p n x m then Classical.choose h else 0
theorem IsP.lenOf {n : Nat} {p : Nat → Nat} (hp : IsP n p) {x : Nat} (hx : x < n) : Len p n x (lenOf p n x) := by
  unfold RG.lenOf
  rw [dif_pos (hp.len hx)]
  exact Classical.choose_spec (hp.len hx)
theorem Len.is {p : Nat → Nat} {n x m : Nat} (h : Len p n x m) : RG.lenOf p n x = m := by
  have e : ∃ m, Len p n x m := ⟨m, h⟩
  unfold RG.lenOf
  rw [dif_pos e]
  exact (Classical.choose_spec e).uniq h
/-- a round is told from here on -/
def headB (p : Nat → Nat) (s m : Nat) : Bool := decide (1 < m) && decide (∀ j, j < m → s ≤ goes p j s)
theorem headB_iff {p : Nat → Nat} {s m : Nat} : headB p s m = true ↔ 1 < m ∧ ∀ j, j < m → s ≤ goes p j s := by
  unfold headB
  rw [Bool.and_eq_true, decide_eq_true_eq, decide_eq_true_eq]
noncomputable def heads (p : Nat → Nat) (n : Nat) : List Nat := (List.range n).filter fun s => headB p s (lenOf p n s)
theorem heads_mem {p : Nat → Nat} {n s : Nat} : s ∈ heads p n ↔ s < n ∧ 1 < lenOf p n s ∧ ∀ j, j < lenOf p n s → s ≤ goes p j s := by
  unfold heads
  rw [List.mem_filter, List.mem_range, headB_iff]
theorem heads_cover {n : Nat} {p : Nat → Nat} (hp : IsP n p) {x : Nat} (hx : x < n) (h : p x ≠ x) : ∃ s, s ∈ heads p n ∧ ∃ j, j < lenOf p n s ∧ goes p j s = x := by
  obtain ⟨m, M⟩ := hp.len hx
  obtain ⟨s, ⟨a, ha, hs⟩, _, lo⟩ := least (P := fun v => ∃ a, a < m ∧ goes p a x = v) x ⟨0, M.pos, rfl⟩
  have low : ∀ b, b < m → s ≤ goes p b x := fun b hb => Nat.le_of_not_lt fun q => lo _ q ⟨b, hb, rfl⟩
  have hsn : s < n := by rw [← hs]; exact (hp.pow a).lt x hx
  have L := hp.lenOf hsn
  have back : goes p (m - a) s = x := by rw [← hs, ← goes_add, show m - a + a = m by omega]; exact M.home
  refine ⟨s, heads_mem.mpr ⟨hsn, ?_, fun j _ => ?_⟩, (m - a) % lenOf p n s, Nat.mod_lt _ L.pos, ?_⟩
  · refine Nat.lt_of_not_le fun q => h ?_
    have one : lenOf p n s = 1 := by
      have := L.pos
      omega
    have fix := L.home
    rw [one] at fix
    have all := goes_home fix (m - a)
    rw [Nat.mul_one, back] at all
    rw [all]
    exact fix
  · have e : goes p j s = goes p ((j + a) % m) x := by rw [← goes_rest M.home, goes_add, hs]
    rw [e]
    exact low _ (Nat.mod_lt _ M.pos)
  · rw [← goes_rest L.home]
    exact back
/-- going on along a round: where the place at j comes to -/
theorem ring_turn {n : Nat} {p : Nat → Nat} (hp : IsP n p) (h : n ≤ 12) {s m j : Nat} (hs : s < n) (L : Len p n s m) (t : Int) : goes p (((j : Int) + t) % (m : Int)).toNat s = goes p (tw t) (goes p j s) := by
  have d : (m : Int) ∣ 27720 := by
    have h1 := L.pos
    have h2 := L.le
    have all : ∀ k : Nat, k < 13 → 0 < k → ((k : Nat) : Int) ∣ 27720 := by decide
    exact all m (by omega) h1
  have m0 : (m : Int) ≠ 0 := by
    have := L.pos
    omega
  rw [← goes_add, goes_rest L.home (tw t + j)]
  congr 1
  have e1 : ((tw t : Nat) : Int) = t % 27720 := by
    unfold tw
    omega
  have e2 : (((tw t + j) % m : Nat) : Int) = ((j : Int) + t) % (m : Int) := by
    rw [Int.natCast_emod, Int.natCast_add, e1, Int.add_emod, Int.emod_emod_of_dvd t d, ← Int.add_emod, Int.add_comm]
  rw [← e2, Int.toNat_natCast]
/-! a comprehension over enumerate(a list) -/
theorem lc_enumL {K : PySem.W.Frag} {a : Addr} {xs : List V} {g : TG} {tt : TT} {te : TE} {vs : List Nat} {σ : L2.St} {H1 : Hp} {D : Addr} {Qd : Hp → Prop} (Pv : Nat → Hp → Prop) (h0 : Pv 0 (upd H1 D (.lst []))) (hl : ∀ i H, i ≤ xs.length → Pv i H → SqL K H a xs)
    (hs : ∀ i x H T, xs[i]? = some x → Pv i H → H T = none → g (.ref T) (wipe σ vs) (upd H T (.tup [.int (i : Nat), x])) fun σ2 H2 => wipe σ2 vs = wipe σ vs ∧ tt σ2 H2 fun b H3 =>
      if b = true then te σ2 H3 fun y H4 => ∃ acc, H4 D = some (.lst acc) ∧ acc.length < sizeLine ∧ Pv (i + 1) (upd H4 D (.lst (acc ++ [y]))) else Pv (i + 1) H3) (hd : ∀ H, Pv xs.length H → Qd H) :
    ∃ W : Nat → Nat → Hp → Prop, (∃ m, W 0 m (upd H1 D (.lst []))) ∧ ∀ i m H, W i m H →
      ((Ite K a).stop i H ∧ Qd H) ∨ ((Ite K a).go i H ∧ ∃ Nx : Hp → Prop, (∀ H', Nx H' → ∃ m', m' < m ∧ W (i + 1) m' H') ∧ ∀ x H', (Ite K a).yld i H x H' → g x (wipe σ vs) H' fun σ2 H2 => wipe σ2 vs = wipe σ vs ∧ tt σ2 H2 fun b H3 =>
        if b = true then te σ2 H3 fun y H4 => ∃ acc, H4 D = some (.lst acc) ∧ acc.length < sizeLine ∧ Nx (upd H4 D (.lst (acc ++ [y]))) else Nx H3) := by
  refine ⟨fun i m H => m = xs.length - i ∧ i ≤ xs.length ∧ Pv i H, ⟨xs.length, rfl, Nat.zero_le _, h0⟩, ?_⟩
  rintro i m H ⟨rfl, hi, p⟩
  have q := hl i H hi p
  by_cases hlt : i < xs.length
  · refine .inr ⟨⟨xs, xs[i], q, List.getElem?_eq_getElem hlt⟩, Pv (i + 1), fun H' p' => ⟨xs.length - (i + 1), by omega, rfl, hlt, p'⟩, fun x H' y => ?_⟩
    obtain ⟨T, z, rfl, hT, rfl, y⟩ := y
    exact hs i z H T (y xs q) p hT
  · obtain rfl : i = xs.length := by omega
    exact .inl ⟨⟨xs, q, Nat.le_refl _⟩, hd H p⟩
end RG
end RGn
section RGo
/-! whether an arrangement is even: pairs that stand the other way about, and rounds -/
namespace RG
open PySem PySem.Spec PyProof.Rows L2
def xorL : List Bool → Bool
  | [] => false
  | b :: bs => b.xor (xorL bs)
theorem xorL_append : ∀ as bs : List Bool, xorL (as ++ bs) = (xorL as).xor (xorL bs)
  | [], bs => by simp [xorL]
  | a :: as, bs => by
    show a.xor (xorL (as ++ bs)) = (a.xor (xorL as)).xor (xorL bs)
    rw [xorL_append as bs, Bool.xor_assoc]
theorem xorL_perm {as bs : List Bool} (h : as.Perm bs) : xorL as = xorL bs := by
  induction h with
  | nil => rfl
  | cons x _ ih =>
    show x.xor _ = x.xor _
    rw [ih]
  | swap x y l =>
    show y.xor (x.xor _) = x.xor (y.xor _)
    rw [← Bool.xor_assoc, ← Bool.xor_assoc, Bool.xor_comm y x]
  | trans _ _ h1 h2 => rw [h1, h2]
theorem xorL_two {α : Type} (f g : α → Bool) : ∀ xs : List α, xorL (xs.map fun x => (f x).xor (g x)) = (xorL (xs.map f)).xor (xorL (xs.map g))
  | [] => rfl
  | x :: xs => by
    show ((f x).xor (g x)).xor (xorL (xs.map fun x => (f x).xor (g x))) = ((f x).xor (xorL (xs.map f))).xor ((g x).xor (xorL (xs.map g)))
    rw [xorL_two f g xs]
    cases f x <;> cases g x <;> cases xorL (xs.map f) <;> cases xorL (xs.map g) <;> rfl
theorem xorL_none {α : Type} {f : α → Bool} : ∀ {xs : List α}, (∀ x ∈ xs, f x = false) → xorL (xs.map f) = false
  | [], _ => rfl
  | x :: xs, h => by
    show (f x).xor (xorL (xs.map f)) = false
    rw [h x List.mem_cons_self, xorL_none fun y hy => h y (List.mem_cons_of_mem _ hy)]
    rfl
theorem fewer {α : Type} [DecidableEq α] : ∀ ns : List α, ¬ ns.Nodup → ∃ ps : List α, ps.length + 1 ≤ ns.length ∧ ∀ k ∈ ns, k ∈ ps
  | [], h => absurd List.nodup_nil h
  | n :: ns, h => by
    by_cases e : n ∈ ns
    · refine ⟨ns, Nat.le_refl _, fun k hk => ?_⟩
      rcases List.mem_cons.mp hk with rfl | hk
      · exact e
      · exact hk
    · have h2 : ¬ ns.Nodup := fun q => h (List.nodup_cons.mpr ⟨e, q⟩)
      obtain ⟨ps, h3, h4⟩ := fewer ns h2
      refine ⟨n :: ps, by simp only [List.length_cons]; omega, fun k hk => ?_⟩
      rcases List.mem_cons.mp hk with rfl | hk
      · exact List.mem_cons_self
      · exact List.mem_cons_of_mem _ (h4 k hk)
/-- a map of a list onto itself -/
theorem perm_onto {α : Type} [DecidableEq α] {l m : List α} (hl : l.Nodup) (len : m.length = l.length) (sub : ∀ x ∈ l, x ∈ m) (back : ∀ x ∈ m, x ∈ l) : m.Perm l := by
  have hm : m.Nodup := Decidable.byContradiction fun no => by
    obtain ⟨ps, h1, h2⟩ := fewer m no
    have := hl.length_le_of_subset fun x hx => h2 x (sub x hx)
    omega
  exact (List.perm_ext_iff_of_nodup hm hl).mpr fun x => ⟨back x, sub x⟩
/-- all i < j < n -/
def pairsTo (n : Nat) : List (Nat × Nat) := (List.range n).flatMap fun j => (List.range j).map fun i => (i, j)
theorem pairs_mem {n : Nat} {x : Nat × Nat} : x ∈ pairsTo n ↔ x.1 < x.2 ∧ x.2 < n := by
  obtain ⟨i, j⟩ := x
  unfold pairsTo
  simp only [List.mem_flatMap, List.mem_range, List.mem_map, Prod.mk.injEq]
  constructor
  · rintro ⟨b, hb, a, ha, rfl, rfl⟩
    exact ⟨ha, hb⟩
  · rintro ⟨h1, h2⟩
    exact ⟨j, h2, i, h1, rfl, rfl⟩
theorem pairs_nodup (n : Nat) : (pairsTo n).Nodup := by
  induction n with
  | zero => exact List.nodup_nil
  | succ n ih =>
    have e : pairsTo (n + 1) = pairsTo n ++ (List.range n).map fun i => (i, n) := by
      unfold pairsTo
      rw [List.range_succ, List.flatMap_append]
      simp
    rw [e]
    refine List.nodup_append.mpr ⟨ih, ?_, fun x hx y hy e2 => ?_⟩
    · unfold List.Nodup
      rw [List.pairwise_map]
      exact List.nodup_range.imp fun h e3 => h (Prod.mk.inj e3).1
    · subst e2
      have h1 := pairs_mem.mp hx
      obtain ⟨i, _, rfl⟩ := List.mem_map.mp hy
      exact Nat.lt_irrefl _ h1.2
/-- odd: how many pairs stand the other way about -/
def sg (p : Nat → Nat) (n : Nat) : Bool := xorL ((pairsTo n).map fun x => decide (p x.2 < p x.1))
theorem sg_congr {p q : Nat → Nat} {n : Nat} (h : ∀ k, k < n → p k = q k) : sg p n = sg q n := by
  unfold sg
  congr 1
  refine List.map_congr_left fun x hx => ?_
  have := pairs_mem.mp hx
  rw [h x.1 (by omega), h x.2 (by omega)]
theorem sg_id (n : Nat) : sg (fun x => x) n = false := xorL_none fun x hx => by
  have := pairs_mem.mp hx
  exact decide_eq_false (show ¬ x.2 < x.1 by omega)
/-- where a pair comes to, in order -/
def pairAt (p : Nat → Nat) (x : Nat × Nat) : Nat × Nat := if p x.1 < p x.2 then (p x.1, p x.2) else (p x.2, p x.1)
theorem pairs_onto {n : Nat} {p : Nat → Nat} (hp : IsP n p) : ((pairsTo n).map (pairAt p)).Perm (pairsTo n) := by
  refine perm_onto (pairs_nodup n) (by rw [List.length_map]) (fun y hy => ?_) fun y hy => ?_
  · obtain ⟨h1, h2⟩ := pairs_mem.mp hy
    obtain ⟨a, ha, ea⟩ := hp.sur y.1 (by omega)
    obtain ⟨b, hb, eb⟩ := hp.sur y.2 h2
    have ne : a ≠ b := fun e => by
      rw [e, eb] at ea
      omega
    rcases Nat.lt_or_gt_of_ne ne with lt | gt
    · refine List.mem_map.mpr ⟨(a, b), pairs_mem.mpr ⟨lt, hb⟩, ?_⟩
      unfold pairAt
      simp only [ea, eb]
      rw [if_pos h1]
    · refine List.mem_map.mpr ⟨(b, a), pairs_mem.mpr ⟨gt, ha⟩, ?_⟩
      unfold pairAt
      simp only [ea, eb]
      rw [if_neg (by omega)]
  · obtain ⟨x, hx, rfl⟩ := List.mem_map.mp hy
    obtain ⟨h1, h2⟩ := pairs_mem.mp hx
    have l1 := hp.lt x.1 (by omega)
    have l2 := hp.lt x.2 h2
    refine pairs_mem.mpr ?_
    unfold pairAt
    by_cases lt : p x.1 < p x.2
    · rw [if_pos lt]
      exact ⟨lt, l2⟩
    · rw [if_neg lt]
      refine ⟨?_, l1⟩
      have ne : p x.1 ≠ p x.2 := fun e => by
        have := hp.inj x.1 x.2 (by omega) h2 e
        omega
      show p x.2 < p x.1
      omega
theorem sg_comp {n : Nat} {p q : Nat → Nat} (hp : IsP n p) (hq : IsP n q) : sg (fun x => q (p x)) n = (sg p n).xor (sg q n) := by
  have e : sg q n = xorL ((pairsTo n).map fun x => decide (q (pairAt p x).2 < q (pairAt p x).1)) := by
    unfold sg
    rw [← xorL_perm ((pairs_onto hp).map fun x => decide (q x.2 < q x.1)), List.map_map]
    rfl
  rw [e]
  unfold sg
  rw [← xorL_two]
  congr 1
  refine List.map_congr_left fun x hx => ?_
  obtain ⟨h1, h2⟩ := pairs_mem.mp hx
  have ne : p x.1 ≠ p x.2 := fun e => by
    have := hp.inj x.1 x.2 (by omega) h2 e
    omega
  have ne2 : q (p x.1) ≠ q (p x.2) := fun e => ne (hq.inj _ _ (hp.lt x.1 (by omega)) (hp.lt x.2 h2) e)
  unfold pairAt
  by_cases lt : p x.1 < p x.2
  · rw [if_pos lt, decide_eq_false (show ¬ p x.2 < p x.1 by omega), Bool.false_xor]
  · rw [if_neg lt, decide_eq_true (show p x.2 < p x.1 by omega), Bool.true_xor]
    by_cases lq : q (p x.2) < q (p x.1)
    · rw [decide_eq_true lq, decide_eq_false (show ¬ q (p x.1) < q (p x.2) by omega)]
      rfl
    · rw [decide_eq_false lq, decide_eq_true (show q (p x.1) < q (p x.2) by omega)]
      rfl
theorem sg_back {n : Nat} {p r : Nat → Nat} (hp : IsP n p) (h : ∀ k, k < n → r (p k) = k) : sg r n = sg p n := by
  have e := sg_comp hp (hp.back h)
  rw [sg_congr (q := fun x => x) h, sg_id] at e
  cases h1 : sg p n <;> cases h2 : sg r n <;> rw [h1, h2] at e <;> first | rfl | cases e
/-! exchanges -/
def sw (a b : Nat) (x : Nat) : Nat := if x = a then b else if x = b then a else x
theorem sw_is {n a b : Nat} (ha : a < n) (hb : b < n) : IsP n (sw a b) := by
  have two : ∀ x, sw a b (sw a b x) = x := fun x => by
    unfold sw
    by_cases h1 : x = a
    · by_cases h2 : b = a
      · simp [h1, h2]
      · simp [h1, h2]
    · by_cases h2 : x = b
      · simp [h2]
      · simp [h1, h2]
  have lt : ∀ x, x < n → sw a b x < n := fun x hx => by
    unfold sw
    split
    · exact hb
    · split
      · exact ha
      · exact hx
  exact ⟨lt, fun x y _ _ e => by rw [← two x, ← two y, e], fun y hy => ⟨sw a b y, lt y hy, two y⟩⟩
theorem sw_comm (a b x : Nat) : sw a b x = sw b a x := by
  unfold sw
  by_cases h1 : x = a
  · rw [if_pos h1]
    by_cases h2 : x = b
    · rw [if_pos h2]
      omega
    · rw [if_neg h2, if_pos h1]
  · rw [if_neg h1, if_neg h1]
theorem sw_odd0 : ∀ n, n < 13 → ∀ b, b < n → ∀ a, a < b → sg (sw a b) n = true := by decide +kernel
theorem sw_odd {n a b : Nat} (h : n ≤ 12) (ha : a < n) (hb : b < n) (ne : a ≠ b) : sg (sw a b) n = true := by
  rcases Nat.lt_or_gt_of_ne ne with lt | gt
  · exact sw_odd0 n (by omega) b hb a lt
  · rw [sg_congr (q := sw b a) fun k _ => sw_comm a b k]
    exact sw_odd0 n (by omega) a ha b gt
/-! a round, exchange by exchange -/
/-- the first places of a round moved on, the last of them to the first -/
def cyc (g : Nat → Nat) : Nat → Nat → Nat
  | 0, x => x
  | k + 1, x => cyc g k (sw (g k) (g (k + 1)) x)
theorem cyc_is {n : Nat} {g : Nat → Nat} (h : ∀ j, g j < n) : ∀ k, IsP n (cyc g k)
  | 0 => IsP.id n
  | k + 1 => (sw_is (h k) (h (k + 1))).comp (cyc_is h k)
theorem cyc_odd {n : Nat} {g : Nat → Nat} (n12 : n ≤ 12) (h : ∀ j, g j < n) (L : Nat) (ne : ∀ i j, i < L → j < L → g i = g j → i = j) : ∀ k, k < L → sg (cyc g k) n = decide (k % 2 = 1)
  | 0, _ => sg_id n
  | k + 1, hk => by
    have e := sg_comp (sw_is (h k) (h (k + 1))) (cyc_is h k)
    have o := sw_odd n12 (h k) (h (k + 1)) (fun e => by
      have := ne k (k + 1) (by omega) hk e
      omega)
    rw [o, cyc_odd n12 h L ne k (by omega), Bool.true_xor] at e
    show sg (fun x => cyc g k (sw (g k) (g (k + 1)) x)) n = _
    rw [e]
    by_cases hk2 : k % 2 = 1
    · rw [decide_eq_true hk2, decide_eq_false (by omega)]
      rfl
    · rw [decide_eq_false hk2, decide_eq_true (by omega)]
      rfl
/-- what it does -/
theorem cyc_at {g : Nat → Nat} (L : Nat) (ne : ∀ i j, i < L → j < L → g i = g j → i = j) : ∀ k, k < L → (∀ j, j < k → cyc g k (g j) = g (j + 1)) ∧ cyc g k (g k) = g 0 ∧ ∀ x, (∀ j, j ≤ k → x ≠ g j) → cyc g k x = x
  | 0, _ => ⟨fun j hj => absurd hj (Nat.not_lt_zero j), rfl, fun _ _ => rfl⟩
  | k + 1, hk => by
    obtain ⟨h1, h2, h3⟩ := cyc_at L ne k (by omega)
    have nk : ∀ j, j < L → j ≠ k → g j ≠ g k := fun j hj n1 e => n1 (ne j k hj (by omega) e)
    have nk1 : ∀ j, j < L → j ≠ k + 1 → g j ≠ g (k + 1) := fun j hj n1 e => n1 (ne j (k + 1) hj hk e)
    refine ⟨fun j hj => ?_, ?_, fun x hx => ?_⟩
    · show cyc g k (sw (g k) (g (k + 1)) (g j)) = _
      unfold sw
      by_cases e : j = k
      · subst e
        rw [if_pos rfl]
        exact h3 _ fun i hi => (nk1 i (by omega) (by omega)).symm
      · rw [if_neg (nk j (by omega) e), if_neg (nk1 j (by omega) (by omega))]
        exact h1 j (by omega)
    · show cyc g k (sw (g k) (g (k + 1)) (g (k + 1))) = _
      unfold sw
      rw [if_neg (nk (k + 1) hk (by omega)), if_pos rfl]
      exact h2
    · show cyc g k (sw (g k) (g (k + 1)) x) = _
      unfold sw
      rw [if_neg (hx k (by omega)), if_neg (hx (k + 1) (Nat.le_refl _))]
      exact h3 x fun j hj => hx j (by omega)
/-- the places of a round -/
def InRing (p : Nat → Nat) (n s x : Nat) : Prop := ∃ j, j < lenOf p n s ∧ goes p j s = x
theorem ring_ne {n : Nat} {p : Nat → Nat} (hp : IsP n p) {s m : Nat} (hs : s < n) (L : Len p n s m) : ∀ i j, i < m → j < m → goes p i s = goes p j s → i = j := by
  have half : ∀ i j, i < j → j < m → goes p i s ≠ goes p j s := fun i j hij hj e => by
    have e2 : goes p i (goes p (j - i) s) = goes p i s := by
      rw [← goes_add, show i + (j - i) = j by omega]
      exact e.symm
    exact L.first (j - i) (by omega) (by omega) ((hp.pow i).inj _ _ ((hp.pow (j - i)).lt s hs) hs e2)
  intro i j hi hj e
  rcases Nat.lt_trichotomy i j with h | h | h
  · exact absurd e (half i j h hj)
  · exact h
  · exact absurd e.symm (half j i h hi)
/-- another head's round has none of its places -/
theorem ring_apart {n : Nat} {p : Nat → Nat} (hp : IsP n p) {s t x : Nat} (hs : s ∈ heads p n) (ht : t ∈ heads p n) (h1 : InRing p n s x) (h2 : InRing p n t x) : s = t := by
  have half : ∀ {s t x : Nat}, s ∈ heads p n → t ∈ heads p n → InRing p n s x → InRing p n t x → s ≤ t := fun {s t x} hs ht h1 h2 => by
    obtain ⟨h3, h4, h5⟩ := heads_mem.mp hs
    obtain ⟨g3, _, _⟩ := heads_mem.mp ht
    obtain ⟨i, hi, ei⟩ := h1
    obtain ⟨j, hj, ej⟩ := h2
    have Ls := hp.lenOf h3
    have Lt := hp.lenOf g3
    have e : t = goes p (lenOf p n t - j + i) s := by
      rw [goes_add, ei, ← ej, ← goes_add, show lenOf p n t - j + j = lenOf p n t by omega, Lt.home]
    have e2 := goes_rest Ls.home (lenOf p n t - j + i)
    have := h5 _ (Nat.mod_lt (lenOf p n t - j + i) Ls.pos)
    omega
  exact Nat.le_antisymm (half hs ht h1 h2) (half ht hs h2 h1)
/-- the rounds of these heads, one after the other -/
noncomputable def byRings (p : Nat → Nat) (n : Nat) : List Nat → Nat → Nat
  | [], x => x
  | s :: ss, x => byRings p n ss (cyc (fun j => goes p j s) (lenOf p n s - 1) x)
theorem ring_moves {n : Nat} {p : Nat → Nat} (hp : IsP n p) {s : Nat} (hs : s < n) (x : Nat) : (InRing p n s x → cyc (fun j => goes p j s) (lenOf p n s - 1) x = p x) ∧ (¬ InRing p n s x → cyc (fun j => goes p j s) (lenOf p n s - 1) x = x) := by
  have L := hp.lenOf hs
  have pos := L.pos
  obtain ⟨h1, h2, h3⟩ := cyc_at (g := fun j => goes p j s) (lenOf p n s) (ring_ne hp hs L) (lenOf p n s - 1) (by omega)
  refine ⟨fun h => ?_, fun h => h3 x fun j hj e => h ⟨j, by omega, e.symm⟩⟩
  obtain ⟨j, hj, rfl⟩ := h
  by_cases e : j = lenOf p n s - 1
  · subst e
    rw [h2]
    have home := L.home
    rw [show lenOf p n s = lenOf p n s - 1 + 1 by omega] at home
    exact home.symm
  · exact h1 j (by omega)
theorem byRings_at {n : Nat} {p : Nat → Nat} (hp : IsP n p) : ∀ ss : List Nat, ss.Nodup → (∀ s ∈ ss, s ∈ heads p n) → ∀ x, ((∃ s ∈ ss, InRing p n s x) → byRings p n ss x = p x) ∧ ((¬ ∃ s ∈ ss, InRing p n s x) → byRings p n ss x = x)
  | [], _, _, x => ⟨(fun ⟨_, h, _⟩ => nomatch h), fun _ => rfl⟩
  | s :: ss, nd, hd, x => by
    obtain ⟨n1, n2⟩ := List.nodup_cons.mp nd
    have hs := hd s List.mem_cons_self
    have hsn := (heads_mem.mp hs).1
    have L := hp.lenOf hsn
    have ih := byRings_at hp ss n2 fun t ht => hd t (List.mem_cons_of_mem _ ht)
    obtain ⟨m1, m2⟩ := ring_moves hp hsn x
    by_cases h : InRing p n s x
    · refine ⟨fun _ => ?_, fun no => absurd ⟨s, List.mem_cons_self, h⟩ no⟩
      show byRings p n ss _ = _
      rw [m1 h]
      refine (ih (p x)).2 ?_
      rintro ⟨t, ht, h2⟩
      have h3 : InRing p n s (p x) := by
        obtain ⟨j, hj, rfl⟩ := h
        refine ⟨(j + 1) % lenOf p n s, Nat.mod_lt _ L.pos, ?_⟩
        rw [← goes_rest L.home]
        rfl
      have e := ring_apart hp hs (hd t (List.mem_cons_of_mem _ ht)) h3 h2
      subst e
      exact n1 ht
    · have e : byRings p n (s :: ss) x = byRings p n ss x := by
        show byRings p n ss _ = _
        rw [m2 h]
      rw [e]
      refine ⟨fun ⟨t, ht, h2⟩ => ?_, fun no => (ih x).2 fun ⟨t, ht, h2⟩ => no ⟨t, List.mem_cons_of_mem _ ht, h2⟩⟩
      rcases List.mem_cons.mp ht with rfl | ht
      · exact absurd h2 h
      · exact (ih x).1 ⟨t, ht, h2⟩
theorem byRings_sg {n : Nat} {p : Nat → Nat} (hp : IsP n p) (n12 : n ≤ 12) : ∀ ss : List Nat, (∀ s ∈ ss, s < n) → IsP n (byRings p n ss) ∧ sg (byRings p n ss) n = xorL (ss.map fun s => decide (lenOf p n s % 2 = 0))
  | [], _ => ⟨IsP.id n, sg_id n⟩
  | s :: ss, h => by
    have hs := h s List.mem_cons_self
    obtain ⟨i1, i2⟩ := byRings_sg hp n12 ss fun t ht => h t (List.mem_cons_of_mem _ ht)
    have L := hp.lenOf hs
    have pos := L.pos
    have all : ∀ j, goes p j s < n := fun j => (hp.pow j).lt s hs
    have ci := cyc_is all (lenOf p n s - 1)
    refine ⟨ci.comp i1, ?_⟩
    have e := sg_comp ci i1
    rw [cyc_odd n12 all (lenOf p n s) (ring_ne hp hs L) (lenOf p n s - 1) (by omega), i2] at e
    show sg (fun x => byRings p n ss (cyc (fun j => goes p j s) (lenOf p n s - 1) x)) n = (decide (lenOf p n s % 2 = 0)).xor _
    rw [e]
    congr 1
    by_cases h2 : lenOf p n s % 2 = 0
    · rw [decide_eq_true h2, decide_eq_true (by omega)]
    · rw [decide_eq_false h2, decide_eq_false (by omega)]
theorem heads_nodup (p : Nat → Nat) (n : Nat) : (heads p n).Nodup := by
  unfold heads
  exact List.nodup_range.filter _
/-- odd by pairs, odd by rounds of even lengths -/
theorem sg_rings {n : Nat} {p : Nat → Nat} (hp : IsP n p) (n12 : n ≤ 12) : sg p n = xorL ((heads p n).map fun s => decide (lenOf p n s % 2 = 0)) := by
  rw [← (byRings_sg hp n12 (heads p n) fun s hs => (heads_mem.mp hs).1).2]
  refine sg_congr fun x hx => ?_
  obtain ⟨h1, h2⟩ := byRings_at hp (heads p n) (heads_nodup p n) (fun _ h => h) x
  by_cases fix : p x = x
  · by_cases e : ∃ s ∈ heads p n, InRing p n s x
    · rw [h1 e]
    · rw [h2 e, fix]
  · obtain ⟨s, hs, hj⟩ := heads_cover hp hx fix
    rw [h1 ⟨s, hs, hj⟩]
end RG
end RGo
section RGp
/-! math.lcm; how many are kept; a comprehension over a range with a test -/
namespace RG
open PySem PySem.Spec PyProof.Rows L2
section
variable {X : Cx}
def rLcm : List V → Hp → VK → Prop := fun vs H Q => ∃ a b : Nat, vs = [.int (a : Int), .int (b : Int)] ∧ a ≤ 27720 ∧ b ≤ 27720 ∧ Q (.int ((Nat.lcm a b : Nat) : Int)) H
theorem cr_lcm : CallR X (.builtin "math.lcm") rLcm := by
  intro pins s σ H vs us Q I r h
  obtain ⟨a, b, rfl, ha, hb, q⟩ := h
  obtain ⟨t, u, rfl⟩ := Vals.int2 r
  have e : ((Nat.lcm 1 (a : Int).natAbs).lcm (b : Int).natAbs) = Nat.lcm a b := by
    rw [Int.natAbs_natCast, Int.natAbs_natCast, Nat.lcm_one_left]
  refine PySem.W.mg_lcm_v (by rw [Int.natAbs_natCast]; omega) (by rw [Int.natAbs_natCast]; omega) (by rw [e]) ?_ ⟨.int _, H, I.tok _, ⟨_, rfl⟩, q⟩
  have le : Nat.lcm a b ≤ 27720 * 27720 := by
    refine Nat.le_trans ?_ (Nat.mul_le_mul ha hb)
    unfold Nat.lcm
    exact Nat.div_le_self _ _
  rw [Int.natAbs_natCast]
  have l2 : (Nat.lcm a b).log2 ≤ 30 := by
    by_cases z : Nat.lcm a b = 0
    · rw [z]
      decide
    · exact Nat.le_of_lt_succ ((Nat.log2_lt z).mpr (Nat.lt_of_le_of_lt le (by decide)))
  exact Nat.lt_of_le_of_lt l2 (by decide)
end
theorem pe_revTK {X : Cx} {K : PySem.W.Frag} {e : Expr} {te : TE} {k : Nat} {p1 p2 p3 pos : Pos} (hK : X.K = K) (he : PE X e te) : PE X (.Subscript e (.Slice none none (some (.UnaryOp .USub (.Constant (.int 1) k p1) p2)) p3) pos) (tRevT K te) := by
  subst hK
  exact pe_revT he
/-- how many are kept -/
theorem kept_count : ∀ (ys : List V) (bs : List Bool), bs.length = ys.length → decide (((keptV ys bs).length : Nat) % 2 = 0) = !xorL bs
  | [], [], _ => rfl
  | [], _ :: _, h => by simp at h
  | _ :: _, [], h => by simp at h
  | y :: ys, b :: bs, h => by
    have ih := kept_count ys bs (by simpa using h)
    unfold keptV at ih ⊢
    cases b with
    | false =>
      show _ = !(false.xor (xorL bs))
      rw [Bool.false_xor, ← ih]
      simp
    | true =>
      show _ = !(true.xor (xorL bs))
      rw [Bool.true_xor, ← ih]
      simp only [List.zip_cons_cons, List.filter_cons_of_pos, List.map_cons, List.length_cons]
      by_cases e : (((ys.zip bs).filter (·.2)).map (·.1)).length % 2 = 0
      · rw [decide_eq_true e, decide_eq_false (by omega)]
        rfl
      · rw [decide_eq_false e, decide_eq_true (by omega)]
        rfl
theorem comp_rangeT {D : Addr} {lo : Int} {n : Nat} {ys : List V} {bs : List Bool} {te : TE} {tt : TT} {j : Nat} {σ : L2.St} {H : Hp} {Qd : Hp → Prop} (hD : H D = none) (hl : ys.length = n) (hb : bs.length = n) (hz : n < sizeLine)
    (test : ∀ (i : Nat) (b : Bool), i < n → bs[i]? = some b → ∀ G, Same H G → ∀ Q : Bool → Hp → Prop, (∀ G', Same G G' → Q b G') → tt ((σ.set j none).set j (some (.int (lo + i)))) G Q)
    (each : ∀ (i : Nat) (y : V), i < n → ys[i]? = some y → ∀ G, Same H G → ∀ Q : VK, (∀ G', Same G G' → Q y G') → te ((σ.set j none).set j (some (.int (lo + i)))) G Q)
    (done : ∀ G, Same H G → G D = some (.lst (keptV ys bs)) → Qd G) :
    ∃ W : Nat → Nat → Hp → Prop, (∃ m, W 0 m (upd H D (.lst []))) ∧ ∀ i m G, W i m G →
      ((Itr lo n).stop i G ∧ Qd G) ∨ ((Itr lo n).go i G ∧ ∃ Nx : Hp → Prop, (∀ H', Nx H' → ∃ m', m' < m ∧ W (i + 1) m' H') ∧ ∀ x H', (Itr lo n).yld i G x H' → gName j x (wipe σ [j]) H' fun σ2 H2 => wipe σ2 [j] = wipe σ [j] ∧ tt σ2 H2 fun b H3 =>
        if b = true then te σ2 H3 fun y H4 => ∃ acc, H4 D = some (.lst acc) ∧ acc.length < sizeLine ∧ Nx (upd H4 D (.lst (acc ++ [y]))) else Nx H3) := by
  refine lc_range (fun i G => Same H G ∧ G D = some (.lst (keptV (ys.take i) (bs.take i)))) ⟨same_new hD, by rw [upd_same]; rfl⟩ (fun i G hi h => ?_) fun G h => done G h.1 ?_
  · have hy : ys[i]? = some ys[i] := List.getElem?_eq_getElem (by omega)
    have hbi : bs[i]? = some bs[i] := List.getElem?_eq_getElem (by omega)
    have sn := kept_snoc hy hbi
    refine ⟨?_, ?_⟩
    · show ((σ.set j none).set j (some (V.int (lo + i)))).set j none = σ.set j none
      rw [List.set_set, List.set_set]
    · refine test i _ hi hbi G h.1 _ fun G1 e1 => ?_
      refine ite2 (fun hbt => ?_) fun hbf => ?_
      · rw [if_pos hbt] at sn
        refine each i _ hi hy G1 (h.1.trans e1) _ fun G2 e2 => ?_
        refine ⟨_, e2 _ _ (e1 _ _ h.2), Nat.lt_of_le_of_lt (kept_len _ _) (by rw [List.length_take]; omega), same_mut ((h.1.trans e1).trans e2) hD, ?_⟩
        rw [upd_same, sn]
      · rw [if_neg hbf] at sn
        exact ⟨h.1.trans e1, by rw [sn]; exact e1 _ _ h.2⟩
  · rw [h.2, ← hl, List.take_length, hl, ← hb, List.take_length]
/-- the least number of times that brings all home -/
noncomputable def oftP (p : Nat → Nat) (n : Nat) : Nat := ((heads p n).map (lenOf p n)).foldl Nat.lcm 1
theorem lcm_fold {M : Nat} : ∀ (ms : List Nat) (a : Nat), a ∣ M → (∀ m ∈ ms, m ∣ M) → ms.foldl Nat.lcm a ∣ M
  | [], _, h, _ => h
  | m :: ms, a, h, g => lcm_fold ms (Nat.lcm a m) (Nat.lcm_dvd h (g m List.mem_cons_self)) fun x hx => g x (List.mem_cons_of_mem _ hx)
theorem fold_dvd : ∀ (ms : List Nat) (a : Nat), a ∣ ms.foldl Nat.lcm a ∧ ∀ m ∈ ms, m ∣ ms.foldl Nat.lcm a
  | [], a => ⟨Nat.dvd_refl a, fun _ h => nomatch h⟩
  | m :: ms, a => by
    obtain ⟨h1, h2⟩ := fold_dvd ms (Nat.lcm a m)
    refine ⟨Nat.dvd_trans (Nat.dvd_lcm_left a m) h1, fun x hx => ?_⟩
    rcases List.mem_cons.mp hx with rfl | hx
    · exact Nat.dvd_trans (Nat.dvd_lcm_right a x) h1
    · exact h2 x hx
theorem len_whole {n : Nat} {p : Nat → Nat} (hp : IsP n p) (n12 : n ≤ 12) {s : Nat} (hs : s < n) : lenOf p n s ∣ 27720 := by
  have L := hp.lenOf hs
  have h1 := L.pos
  have h2 := L.le
  have all : ∀ k : Nat, k < 13 → 0 < k → k ∣ 27720 := by decide
  exact all _ (by omega) h1
theorem oft_whole {n : Nat} {p : Nat → Nat} (hp : IsP n p) (n12 : n ≤ 12) : oftP p n ∣ 27720 := by
  refine lcm_fold _ _ (Nat.one_dvd _) fun m hm => ?_
  obtain ⟨s, hs, rfl⟩ := List.mem_map.mp hm
  exact len_whole hp n12 (heads_mem.mp hs).1
theorem oft_pos {n : Nat} {p : Nat → Nat} (hp : IsP n p) (n12 : n ≤ 12) : 0 < oftP p n := Nat.pos_of_dvd_of_pos (oft_whole hp n12) (by decide)
/-- a number of times brings all home just where the rounds' lengths go into it -/
theorem oft_home {n : Nat} {p : Nat → Nat} (hp : IsP n p) (k : Nat) : (∀ x, x < n → goes p k x = x) ↔ oftP p n ∣ k := by
  constructor
  · intro h
    refine lcm_fold _ _ (Nat.one_dvd _) fun m hm => ?_
    obtain ⟨s, hs, rfl⟩ := List.mem_map.mp hm
    have hsn := (heads_mem.mp hs).1
    have L := hp.lenOf hsn
    refine Nat.dvd_of_mod_eq_zero ?_
    refine Decidable.byContradiction fun no => ?_
    have e := h s hsn
    rw [goes_rest L.home] at e
    exact L.first _ (by omega) (Nat.mod_lt _ L.pos) e
  · intro h x hx
    by_cases fix : p x = x
    · have e := goes_home (p := p) (m := 1) (x := x) fix k
      rwa [Nat.mul_one] at e
    · obtain ⟨s, hs, j, hj, rfl⟩ := heads_cover hp hx fix
      have hsn := (heads_mem.mp hs).1
      have L := hp.lenOf hsn
      have d : lenOf p n s ∣ k := Nat.dvd_trans ((fold_dvd _ 1).2 _ (List.mem_map.mpr ⟨s, hs, rfl⟩)) h
      rw [← goes_add, Nat.add_comm, goes_add]
      have e : goes p k s = s := by
        obtain ⟨c, rfl⟩ := d
        rw [Nat.mul_comm]
        exact goes_home L.home c
      rw [e]
end RG
end RGp
section RGq
/-! names: texts of small letters -/
namespace RG
open PySem PySem.Spec PyProof.Rows L2
/-- small letters alone -/
def Low (z : Str) : Prop := ∀ c ∈ z.cps.toList, 97 ≤ c ∧ c ≤ 122
/-- a name -/
structure Nm (z : Str) : Prop where
  low : Low z
  pos : 1 ≤ z.length
  le : z.length ≤ 8
theorem Low.append {x y : Str} (a : Low x) (b : Low y) : Low (x ++ y) := by
  intro c hc
  have hc2 : c ∈ (x.cps ++ y.cps).toList := hc
  rw [Array.toList_append] at hc2
  rcases List.mem_append.mp hc2 with h | h
  · exact a c h
  · exact b c h
theorem Low.cut {z : Str} (a : Low z) (lo hi : Option Int) : Low (cutS z lo hi) := by
  intro c hc
  unfold cutS at hc
  have hc2 := List.mem_of_mem_take hc
  exact a c (List.mem_of_mem_drop hc2)
theorem Low.one {c : Nat} (h : 97 ≤ c ∧ c ≤ 122) : Low ⟨#[c]⟩ := by
  intro d hd
  have : d = c := by simpa using hd
  rw [this]
  exact h
theorem low_join : ∀ {ys : List Str}, (∀ y ∈ ys, Low y ∧ y.length = 1) → Low (Txt.join "" ys) ∧ (Txt.join "" ys).length = ys.length := by
  have e : ("" : Str) = ⟨#[]⟩ := by decide +kernel
  have go : ∀ ys : List Str, (∀ y ∈ ys, Low y ∧ y.length = 1) → Low (Str.join ⟨#[]⟩ ys) ∧ (Str.join ⟨#[]⟩ ys).length = ys.length := by
    intro ys
    induction ys with
    | nil =>
      intro _
      rw [PyProof.Rows.join_nil]
      exact ⟨(fun c hc => absurd hc (show c ∉ ([] : List Nat) from fun h => nomatch h)), rfl⟩
    | cons y ys ih =>
      intro h
      obtain ⟨h1, h2⟩ := h y List.mem_cons_self
      obtain ⟨h3, h4⟩ := ih fun z hz => h z (List.mem_cons_of_mem _ hz)
      rw [PyProof.Rows.join_nil_cons]
      refine ⟨h1.append h3, ?_⟩
      rw [strLen_append, h2, h4, List.length_cons]
      omega
  intro ys h
  rw [TL.join_eq, e]
  exact go ys h
def strV (xs : List Str) : List V := xs.map V.str
/-- some item of a list, a tuple, or a text -/
def spPickA (K : PySem.W.Frag) : Sp := fun vs H Q E => spPick K vs H Q E ∨ ∃ (i : PenI) (B : Nat) (z : Str), vs = [.ref i.p, .str z] ∧ Pen H i B ∧ B < 2 ^ 60 ∧ 0 < z.length ∧ z.length < 1000000 ∧
  ∀ (c : Nat) (H' : Hp), c ∈ z.cps.toList → Kb i.p H H' → Pen H' i (B + 1) → Q (.str ⟨#[c]⟩) H'
theorem pi_or {X : Cx} {tg e : Expr} {w1 w2 : TI} (h1 : PI X tg e w1) (h2 : PI X tg e w2) : PI X tg e (fun σ H R => w1 σ H R ∨ w2 σ H R) :=
  ⟨fun pins s σ H R I h => h.elim (h1.run pins s σ H R I) (h2.run pins s σ H R I)⟩
/-- a list or a tuple is gone through -/
theorem pi_lt {X : Cx} {tg e : Expr} {te : TE} (h : PE X e te) : PI X tg e (fun σ H R => iList X.K te σ H R ∨ iTup X.K te σ H R) := pi_or (pi_list h) (pi_tup h)
/-- ''.join(a text): the same text -/
def rJoinS : V → List V → Hp → VK → Prop := fun x xs H Q => ∃ z : Str, x = .str "" ∧ xs = [.str z] ∧ z.length ≤ 1000000 ∧ Q (.str z) H
theorem mt_joinS {X : Cx} (hc : X.calm = true) : MtR X "str.join" rJoinS := by
  intro pins s σ H x xs v us Q I rx rs h
  obtain ⟨z, rfl, rfl, hz, q⟩ := h
  obtain ⟨t, rfl⟩ := rx
  cases rs with
  | cons r1 rs =>
    cases rs
    obtain ⟨u, rfl⟩ := r1
    have e0 : ("" : Str) = ⟨#[]⟩ := by decide +kernel
    have ones : ((PyProof.Rows.signs z).map (·.length)).sum = z.cps.size := by
      have := signLens_sum z.cps.toList
      simpa [PyProof.Rows.signs] using this
    have hz2 : z.cps.size ≤ 1000000 := hz
    have ok : JoinOk "" (PyProof.Rows.signs z) = true := joinOk_of (by
      rw [ones, show (("" : Str)).length = 0 by decide +kernel]
      omega)
    refine SC.joinStr (I.ok.hd hc) ok fun h' k t' keep => ⟨.str z, H, I.kept keep, ?_, q⟩
    rw [TL.join_eq, e0, PyProof.Rows.join_nil_signs]
    exact ⟨t', rfl⟩
end RG
end RGq
section RGr
/-! anything within a tuple of texts; str of anything; comprehensions over a text, over a list with a test -/
namespace RG
open PySem PySem.Spec PyProof.Rows L2
open SeqAt in
theorem dict_eq_declines_str (l : Addr) (es : Array DictEntry) (n : Nat) (dd : Option Addr) (sl : Array (Option Value)) (b : Str) (u : Tok) :
    Meets (Builtin.«dict.__eq__» ⟨[.ref l, .str b u], []⟩) (fun _ R s => s.heap.get? l = some { cls := .type "dict", dict := dd, data := .dict es n, slots := sl } ∧ R (.ok (.ret .notImplemented)) s) :=
  .of_wp fun prog w A R s h => by obtain ⟨hp, g, d, tk, os⟩ := s; obtain ⟨hl, h⟩ := h; have f1 : isSubtype (.type "str") (.type "dict") = pure false := F.sub_str_dict; wp_walk using wpAny_loadPart' hl; exact ⟨_, rfl, h⟩
open SeqAt in
theorem str_eq_declines_dict (b : Str) (u : Tok) (l : Addr) (c : Value) (es : Array DictEntry) (n : Nat) (dd : Option Addr) (sl : Array (Option Value)) :
    Meets (Builtin.«str.__eq__» ⟨[.str b u, .ref l], []⟩) (fun _ R s => s.heap.get? l = some { cls := c, dict := dd, data := .dict es n, slots := sl } ∧ R (.ok (.ret .notImplemented)) s) :=
  .of_wp fun prog w A R s h => by obtain ⟨hp, g, d, tk, os⟩ := s; obtain ⟨hl, h⟩ := h; wp_walk using wpAny_loadPart' hl, wpAny_load hl; exact ⟨_, rfl, h⟩
section
variable {A : Around} {s : Shared}
theorem rc_str_dict {l : Addr} {o : Obj} {es : Array DictEntry} {n : Nat} (b : Str) (u : Tok) (ho : s.heap.get? l = some o) (hc : o.cls = .type "dict") (hd : o.data = .dict es n) (hu : A.units < cLine) : SeqAt.RcAt A s (.str b u) (.ref l) false := fun prog w E Q h => by
  obtain ⟨cls, dd, data, sl⟩ := o
  simp only at hc hd
  subst hc hd
  exact SeqAt.rc_eq_decline_or (k := false) (typeIs_str s b u) ⟨_, ho, rfl⟩ (by decide) F.sub_dict_str F.slot_str_eq F.slot_dict_eq_refl
    (fun _ hq => call_meets F.slot_str_eq (typeIs_str s b u) F.entry_str_eq (F.args_str_eq_2 _ _) (str_eq_declines_dict b u l (.type "dict") es n dd sl) ⟨ho, hq⟩)
    (fun _ hq => call_meets F.slot_dict_eq_refl ⟨_, ho, rfl⟩ F.entry_dict_eq (F.args_dict_eq_2 _ _) (dict_eq_declines_str l es n dd sl b u) ⟨ho, hq⟩)
    (fun _ hq => wpAny_of_eq (rfl : isSame (.str b u) (.ref l) = pure false) hq) (.inr hu) h
theorem eq_str_dict {l : Addr} {o : Obj} {es : Array DictEntry} {n : Nat} (b : Str) (u : Tok) (ho : s.heap.get? l = some o) (hc : o.cls = .type "dict") (hd : o.data = .dict es n) (hu : A.units < cLine) : SeqAt.EqAt A s (.str b u) (.ref l) false := fun prog w E Q h => by
  unfold eqBool
  refine wpAny_holding ?_
  refine wpAny_ite_split (fun hab => absurd (eq_of_beq hab) nofun) (fun _ => ?_)
  exact wpAny_bind (rc_str_dict b u ho hc hd hu prog w E _ (wpAny_truthy_bool h))
end
/-- whether data is just this text -/
def isT (y : Str) : PyData → Bool
  | .str z => y == z
  | _ => false
section
variable {X : Cx} {pins : List (Addr × Obj)} {σ : L2.St} {H : Hp} {s : Shared}
theorem eq_strD (I : Inv X pins σ H s) {x : V} {d : PyData} {v : Value} (h : Dd X.K H x d) (r : RelV x v) (y : Str) (t : Tok) {A : Around} (hu : A.units < cLine) : SeqAt.EqAt A s (.str y t) v (isT y d) := by
  cases h with
  | non => cases r; exact SeqAt.EqAt.str_none y t
  | bl b => cases r; exact SeqAt.EqAt.str_bool y t b
  | int i => obtain ⟨u, rfl⟩ := r; exact SeqAt.EqAt.str_int y t i u
  | str z => obtain ⟨u, rfl⟩ := r; exact SeqAt.EqAt.str_str y t z u
  | lst h1 _ =>
    cases r
    obtain ⟨its, _, pl, _⟩ := I.list h1
    exact SeqAt.EqAt.str_list y t pl.isList hu
  | tup h1 _ =>
    cases r
    obtain ⟨its, _, pl, _⟩ := I.tuple h1
    exact SeqAt.EqAt.str_tuple y t (show s.heap.IsTuple _ _ from pl) hu
  | dct h1 _ _ =>
    cases r
    obtain ⟨z, hy, vs, rel, o, es, ep, g1, g2, g3, g4, g5, g6⟩ := h1.ok I.hok
    exact eq_str_dict y t g1 g2.1 g3 hu
end
/-- x in (.., ..) of texts, x of any kind -/
def rInZ (K : PySem.W.Frag) (neg : Bool) : R2 := fun x y H Q => ∃ (p : Addr) (zs : List Str) (d : PyData), y = .ref p ∧ SqT K H p (strV zs) ∧ Dd K H x d ∧ Q (.bl (if neg then !zs.any (fun z => isT z d) else zs.any (fun z => isT z d))) H
def isTv (d : PyData) : Value → Bool
  | .str y _ => isT y d
  | _ => false
theorem strs_of : ∀ {zs : List Str} {us : List Value}, Vals (strV zs) us → ∀ d, (us.any (isTv d) = zs.any fun z => isT z d) ∧ ∀ u ∈ us, ∃ z t, u = .str z t
  | [], _, .nil, d => ⟨rfl, fun u h => nomatch h⟩
  | z :: zs, _, .cons (b := u) r t, d => by
    obtain ⟨k, rfl⟩ := r
    obtain ⟨h1, h2⟩ := strs_of t d
    refine ⟨by rw [List.any_cons, List.any_cons, h1]; rfl, fun u hu => ?_⟩
    rcases List.mem_cons.mp hu with rfl | hu
    · exact ⟨_, _, rfl⟩
    · exact h2 u hu
section
variable {X : Cx}
theorem op_inZ (hu : X.A.units + 64 < cLine) : OpR X (compareOp .In) (rInZ X.K false) := by
  intro pins s σ H x y v u Q I rx ry h
  obtain ⟨p, zs, d, rfl, hq, hd, q⟩ := h
  cases ry
  obtain ⟨its, r, pl, hz⟩ := I.tuple hq
  obtain ⟨e1, e2⟩ := strs_of r d
  refine SeqAt.in_tupleAt (isTv d) pl (fun w hw => ?_) ⟨.bl _, H, I, rfl, ?_⟩
  · obtain ⟨z, t, rfl⟩ := e2 w (by simpa using hw)
    exact eq_strD I hd rx z t (A := X.A.in1) (by show X.A.units + 1 < cLine; omega)
  · rw [show its.toArray.any (isTv d) = its.any (isTv d) by simp, e1]
    exact q
theorem op_notInZ (hu : X.A.units + 64 < cLine) : OpR X (compareOp .NotIn) (rInZ X.K true) := by
  intro pins s σ H x y v u Q I rx ry h
  obtain ⟨p, zs, d, rfl, hq, hd, q⟩ := h
  cases ry
  obtain ⟨its, r, pl, hz⟩ := I.tuple hq
  obtain ⟨e1, e2⟩ := strs_of r d
  refine SeqAt.notIn_tupleAt (isTv d) pl (fun w hw => ?_) ⟨.bl _, H, I, rfl, ?_⟩
  · obtain ⟨z, t, rfl⟩ := e2 w (by simpa using hw)
    exact eq_strD I hd rx z t (A := X.A.in1) (by show X.A.units + 1 < cLine; omega)
  · rw [show its.toArray.any (isTv d) = its.any (isTv d) by simp, e1]
    exact q
/-- str(x), x data without dicts -/
def strOfD : PyData → Str
  | .str z => z
  | d => d.shown
def rStrD (K : PySem.W.Frag) : List V → Hp → VK → Prop := fun vs H Q => ∃ (x : V) (d : PyData), vs = [x] ∧ Dd K H x d ∧ d.showable = true ∧ d.hasDict = false ∧ d.shown.length ≤ sizeLine ∧ d.depth ≤ 60 ∧ Q (.str (strOfD d)) H
theorem cr_strD (hg : X.A.guards = some []) (hu : X.A.units + 64 < cLine) : CallR X (.type "str") (rStrD X.K) := by
  intro pins s σ H vs us Q I r h
  obtain ⟨x, d, rfl, hx, hs, hn, hz, hd, q⟩ := h
  obtain ⟨u, rfl, rx⟩ := vals1 r
  have go : ∀ a, u = .ref a → (∀ z, d ≠ .str z) → wpAny (model X.prog X.w) X.A (call (.type "str") [u]) (EP X pins σ Q) X.xe s := fun a e ns => by
    subst e
    obtain ⟨as, bs, h1, _, _⟩ := hx.tells I rx hs hz
    refine str_of_reads h1 hs (fun e => by rw [hn] at e; cases e) hg (by omega) (fun _ _ e => e) (fun h' u tk kp => ⟨.str _, H, I.kept kp, ⟨_, rfl⟩, ?_⟩) hz
    have : strOfD d = d.shown := by
      cases d with
      | str z => exact absurd rfl (ns z)
      | _ => rfl
    rw [← this]
    exact q
  cases hx with
  | non =>
    cases rx
    exact PySem.P.str_of_none ⟨.str _, H, I.tok _, ⟨_, rfl⟩, by simpa only [strOfD, PyData.shown] using q⟩
  | bl b =>
    cases rx
    exact PySem.P.str_of_bool ⟨.str _, H, I.tok _, ⟨_, rfl⟩, by simpa only [strOfD, PyData.shown] using q⟩
  | int i =>
    obtain ⟨t, rfl⟩ := rx
    exact PySem.P.str_of_int (by simpa [PyData.showable] using hs) ⟨.str _, H, I.tok _, ⟨_, rfl⟩, by simpa only [strOfD, PyData.shown] using q⟩
  | str y =>
    obtain ⟨t, rfl⟩ := rx
    exact PySem.P.str_of_str ⟨.str _, H, I, ⟨_, rfl⟩, q⟩
  | lst h1 h2 => cases rx; exact go _ rfl fun _ => nofun
  | tup h1 h2 => cases rx; exact go _ rfl fun _ => nofun
  | dct h1 h0 h2 => cases rx; exact go _ rfl fun _ => nofun
end
/-- [e for c in z], z a text -/
theorem comp_str {z : Str} {D : Addr} {ys : List V} {te : TE} {j : Nat} {σ : L2.St} {H : Hp} {Qd : Hp → Prop} (hD : H D = none) (hl : ys.length = z.cps.size) (hz : z.cps.size < sizeLine)
    (each : ∀ (i c : Nat) (y : V), z.cps.toList[i]? = some c → ys[i]? = some y → ∀ G, Same H G → ∀ Q : VK, (∀ G', Same G G' → Q y G') → te ((σ.set j none).set j (some (.str ⟨#[c]⟩))) G Q)
    (done : ∀ G, Same H G → G D = some (.lst ys) → Qd G) :
    ∃ W : Nat → Nat → Hp → Prop, (∃ m, W 0 m (upd H D (.lst []))) ∧ ∀ i m G, W i m G →
      ((Its z).stop i G ∧ Qd G) ∨ ((Its z).go i G ∧ ∃ Nx : Hp → Prop, (∀ H', Nx H' → ∃ m', m' < m ∧ W (i + 1) m' H') ∧ ∀ x H', (Its z).yld i G x H' → gName j x (wipe σ [j]) H' fun σ2 H2 => wipe σ2 [j] = wipe σ [j] ∧ tYes σ2 H2 fun b H3 =>
        if b = true then te σ2 H3 fun y H4 => ∃ acc, H4 D = some (.lst acc) ∧ acc.length < sizeLine ∧ Nx (upd H4 D (.lst (acc ++ [y]))) else Nx H3) := by
  refine lc_it walk_str (fun i G => Same H G ∧ G D = some (.lst (ys.take i))) ⟨same_new hD, by rw [upd_same]; rfl⟩ (fun _ _ _ _ => trivial) (fun i x G G' hi h y => ?_) fun G h => done G h.1 (by rw [h.2, ← hl, List.take_length])
  obtain ⟨rfl, c, hc, rfl⟩ := y
  have hy : ys[i]? = some ys[i] := List.getElem?_eq_getElem (by omega)
  exact lc_step hD (by omega) hy h.1 h.2 (each i c _ (by rw [Array.getElem?_toList]; exact hc) hy G' h.1) fun G' e1 e2 => ⟨e1, e2⟩
/-- one turn of a comprehension with a test -/
theorem lc_stepT {te : TE} {tt : TT} {j : Nat} {σ : L2.St} {H G : Hp} {D : Addr} {x y : V} {ys : List V} {bs : List Bool} {i : Nat} {b : Bool} {Pn : Hp → Prop} (hD : H D = none) (hz : ys.length < sizeLine) (hy : ys[i]? = some y) (hb : bs[i]? = some b)
    (e : Same H G) (g : G D = some (.lst (keptV (ys.take i) (bs.take i))))
    (t : ∀ Q : Bool → Hp → Prop, (∀ G', Same G G' → Q b G') → tt ((σ.set j none).set j (some x)) G Q)
    (h : ∀ G1, Same G G1 → ∀ Q : VK, (∀ G', Same G1 G' → Q y G') → te ((σ.set j none).set j (some x)) G1 Q)
    (n : ∀ G', Same H G' → G' D = some (.lst (keptV (ys.take (i + 1)) (bs.take (i + 1)))) → Pn G') :
    gName j x (wipe σ [j]) G fun σ2 H2 => wipe σ2 [j] = wipe σ [j] ∧ tt σ2 H2 fun b H3 =>
      if b = true then te σ2 H3 fun y H4 => ∃ acc, H4 D = some (.lst acc) ∧ acc.length < sizeLine ∧ Pn (upd H4 D (.lst (acc ++ [y]))) else Pn H3 := by
  have sn := kept_snoc hy hb
  refine ⟨?_, ?_⟩
  · show ((σ.set j none).set j (some x)).set j none = σ.set j none
    rw [List.set_set, List.set_set]
  · refine t _ fun G1 e1 => ?_
    refine ite2 (fun hbt => ?_) fun hbf => ?_
    · rw [if_pos hbt] at sn
      refine h G1 e1 _ fun G2 e2 => ?_
      refine ⟨_, e2 _ _ (e1 _ _ g), Nat.lt_of_le_of_lt (kept_len _ _) (by rw [List.length_take]; omega), n _ (same_mut ((e.trans e1).trans e2) hD) ?_⟩
      rw [upd_same, sn]
    · rw [if_neg hbf] at sn
      exact n _ (e.trans e1) (by rw [sn]; exact e1 _ _ g)
/-- [e for c in z if ..] -/
theorem comp_strT {z : Str} {D : Addr} {ys : List V} {bs : List Bool} {te : TE} {tt : TT} {j : Nat} {σ : L2.St} {H : Hp} {Qd : Hp → Prop} (hD : H D = none) (hl : ys.length = z.cps.size) (hb : bs.length = z.cps.size) (hz : z.cps.size < sizeLine)
    (test : ∀ (i c : Nat) (b : Bool), z.cps.toList[i]? = some c → bs[i]? = some b → ∀ G, Same H G → ∀ Q : Bool → Hp → Prop, (∀ G', Same G G' → Q b G') → tt ((σ.set j none).set j (some (.str ⟨#[c]⟩))) G Q)
    (each : ∀ (i c : Nat) (y : V), z.cps.toList[i]? = some c → ys[i]? = some y → ∀ G, Same H G → ∀ Q : VK, (∀ G', Same G G' → Q y G') → te ((σ.set j none).set j (some (.str ⟨#[c]⟩))) G Q)
    (done : ∀ G, Same H G → G D = some (.lst (keptV ys bs)) → Qd G) :
    ∃ W : Nat → Nat → Hp → Prop, (∃ m, W 0 m (upd H D (.lst []))) ∧ ∀ i m G, W i m G →
      ((Its z).stop i G ∧ Qd G) ∨ ((Its z).go i G ∧ ∃ Nx : Hp → Prop, (∀ H', Nx H' → ∃ m', m' < m ∧ W (i + 1) m' H') ∧ ∀ x H', (Its z).yld i G x H' → gName j x (wipe σ [j]) H' fun σ2 H2 => wipe σ2 [j] = wipe σ [j] ∧ tt σ2 H2 fun b H3 =>
        if b = true then te σ2 H3 fun y H4 => ∃ acc, H4 D = some (.lst acc) ∧ acc.length < sizeLine ∧ Nx (upd H4 D (.lst (acc ++ [y]))) else Nx H3) := by
  refine lc_it walk_str (fun i G => Same H G ∧ G D = some (.lst (keptV (ys.take i) (bs.take i)))) ⟨same_new hD, by rw [upd_same]; rfl⟩ (fun _ _ _ _ => trivial) (fun i x G G' hi h y => ?_) fun G h => done G h.1 (by rw [h.2, ← hl, List.take_length, hl, ← hb, List.take_length])
  obtain ⟨rfl, c, hc, rfl⟩ := y
  have hy : ys[i]? = some ys[i] := List.getElem?_eq_getElem (by omega)
  have hbi : bs[i]? = some bs[i] := List.getElem?_eq_getElem (by omega)
  have hc2 : z.cps.toList[i]? = some c := by rw [Array.getElem?_toList]; exact hc
  exact lc_stepT hD (by omega) hy hbi h.1 h.2 (test i c _ hc2 hbi G' h.1) (fun G1 e1 => each i c _ hc2 hy G1 (h.1.trans e1)) fun G' e1 e2 => ⟨e1, e2⟩
/-- [e for x in xs if ..], xs a list -/
theorem comp_listT {K : PySem.W.Frag} {a D : Addr} {xs ys : List V} {bs : List Bool} {te : TE} {tt : TT} {j : Nat} {σ : L2.St} {H : Hp} {Qd : Hp → Prop} (hD : H D = none) (ha : SqL K H a xs) (hl : ys.length = xs.length) (hb : bs.length = xs.length) (hz : xs.length < sizeLine)
    (test : ∀ (i : Nat) (x : V) (b : Bool), xs[i]? = some x → bs[i]? = some b → ∀ G, Same H G → ∀ Q : Bool → Hp → Prop, (∀ G', Same G G' → Q b G') → tt ((σ.set j none).set j (some x)) G Q)
    (each : ∀ (i : Nat) (x y : V), xs[i]? = some x → ys[i]? = some y → ∀ G, Same H G → ∀ Q : VK, (∀ G', Same G G' → Q y G') → te ((σ.set j none).set j (some x)) G Q)
    (done : ∀ G, Same H G → G D = some (.lst (keptV ys bs)) → Qd G) :
    ∃ W : Nat → Nat → Hp → Prop, (∃ m, W 0 m (upd H D (.lst []))) ∧ ∀ i m G, W i m G →
      ((Itl K a).stop i G ∧ Qd G) ∨ ((Itl K a).go i G ∧ ∃ Nx : Hp → Prop, (∀ H', Nx H' → ∃ m', m' < m ∧ W (i + 1) m' H') ∧ ∀ x H', (Itl K a).yld i G x H' → gName j x (wipe σ [j]) H' fun σ2 H2 => wipe σ2 [j] = wipe σ [j] ∧ tt σ2 H2 fun b H3 =>
        if b = true then te σ2 H3 fun y H4 => ∃ acc, H4 D = some (.lst acc) ∧ acc.length < sizeLine ∧ Nx (upd H4 D (.lst (acc ++ [y]))) else Nx H3) := by
  refine lc_list (xs := xs) (fun i G => Same H G ∧ G D = some (.lst (keptV (ys.take i) (bs.take i)))) ⟨same_new hD, by rw [upd_same]; rfl⟩ (fun i G _ h => sql_same h.1 ha) (fun i x G hi h => ?_) fun G h => done G h.1 ?_
  · have hlt : i < xs.length := (List.getElem?_eq_some_iff.mp hi).1
    have hy : ys[i]? = some ys[i] := List.getElem?_eq_getElem (by omega)
    have hbi : bs[i]? = some bs[i] := List.getElem?_eq_getElem (by omega)
    exact lc_stepT hD (by omega) hy hbi h.1 h.2 (test i x _ hi hbi G h.1) (fun G1 e1 => each i x _ hi hy G1 (h.1.trans e1)) fun G' e1 e2 => ⟨e1, e2⟩
  · rw [h.2, ← hl, List.take_length, hl, ← hb, List.take_length]
end RG
end RGr
section RGs
/-! Expressions read as data: literals of any depth in one go. -/
namespace RG
open PySem PySem.Spec PyProof.Rows L2
/-- xs + ys of lists: a new list -/
def rCatL (K : PySem.W.Frag) : R2 := fun x y H Q => ∃ a b xs ys, x = .ref a ∧ y = .ref b ∧ SqL K H a xs ∧ SqL K H b ys ∧ xs.length + ys.length ≤ sizeLine ∧ ∀ p, H p = none → Q (.ref p) (upd H p (.lst (xs ++ ys)))
theorem op_catL {X : Cx} : OpR X (binaryOp .Add) (rCatL X.K) := by
  intro pins s σ H x y v u Q I rx ry h
  obtain ⟨a, b, xs, ys, rfl, rfl, ha, hb, hz, q⟩ := h
  cases rx
  cases ry
  obtain ⟨i1, r1, p1, _⟩ := I.list ha
  obtain ⟨i2, r2, p2, _⟩ := I.list hb
  have z1 := r1.length
  have z2 := r2.length
  obtain ⟨⟨c1, d1, t1, s1⟩, o1, e1, m1, f1⟩ := id p1.isList
  obtain ⟨⟨c2, d2, t2, s2⟩, o2, e2, m2, f2⟩ := id p2.isList
  simp only at e1 f1 e2 f2
  subst e1 f1 e2 f2
  have both : i1.toArray ++ i2.toArray = (i1 ++ i2).toArray := by simp
  refine concat_meets ⟨_, o1, rfl⟩ ⟨_, o2, rfl⟩ noFill_list_add seq_list_add PySem.F.slot_list_add PySem.F.entry_list_add (PySem.F.args_list_add_2 _ _) (list_addW a b i1.toArray i2.toArray m1 m2 d1 d2 s1 s2 (by rw [List.size_toArray, List.size_toArray]; omega)) ⟨o1, o2, ?_⟩
  rw [both]
  exact ⟨.ref _, _, I.lnew (t' := s.toks) (r1.append r2) (by rw [List.length_append]; omega), rfl, q _ I.fresh⟩
theorem kept_empty : ∀ (ys : List V) (bs : List Bool), bs.length = ys.length → (keptV ys bs).isEmpty = bs.all (!·)
  | [], [], _ => rfl
  | [], _ :: _, h => by simp at h
  | _ :: _, [], h => by simp at h
  | y :: ys, b :: bs, h => by
    have ih := kept_empty ys bs (by simpa using h)
    unfold keptV at ih ⊢
    cases b with
    | true => simp
    | false => simpa using ih
/-- xs == [], lists -/
def rEqNil (K : PySem.W.Frag) : R2 := fun x y H Q => ∃ a b xs, x = .ref a ∧ y = .ref b ∧ SqL K H a xs ∧ SqL K H b [] ∧ Q (.bl xs.isEmpty) H
theorem op_eqNil {X : Cx} (hu : X.A.units < cLine) : OpR X (compareOp .Eq) (rEqNil X.K) := by
  intro pins s σ H x y v u Q I rx ry h
  obtain ⟨a, b, xs, rfl, rfl, ha, hb, q⟩ := h
  cases rx
  cases ry
  obtain ⟨i1, r1, p1, _⟩ := I.list ha
  obtain ⟨i2, r2, p2, _⟩ := I.list hb
  cases r2
  cases r1 with
  | nil => exact SeqAt.RcAt.lists (e := fun _ => true) p1.isList p2.isList rfl hu (fun j h1 _ => absurd h1 (by simp)) X.prog X.w _ _ ⟨.bl true, H, I, rfl, q⟩
  | cons r t => exact SeqAt.RcAt.lists_lengths p1.isList p2.isList (by simp) hu X.prog X.w _ _ ⟨.bl false, H, I, rfl, q⟩
/-- what data an expression can be, by the slots and the heap -/
abbrev DR := L2.St → Hp → PyData → Prop
abbrev DRs := L2.St → Hp → List PyData → Prop
/-- the expression gives new or old data d; all that stood stands -/
def tD (K : PySem.W.Frag) (t : DR) : TE := fun σ H Q => ∃ d, t σ H d ∧ ∀ x H', Same H H' → Dd K H' x d → Q x H'
def tDs (K : PySem.W.Frag) (t : DRs) : TA := fun σ H Q => ∃ ds, t σ H ds ∧ ∀ xs H', Same H H' → DdAll K H' xs ds → Q xs H'
structure PD (X : Cx) (e : Expr) (t : DR) : Prop where
  pe : PE X e (tD X.K t)
  up : ∀ σ H H' d, Same H H' → t σ H d → t σ H' d
structure PDs (X : Cx) (es : List Expr) (t : DRs) : Prop where
  pa : PA X es (tDs X.K t)
  up : ∀ σ H H' d, Same H H' → t σ H d → t σ H' d
section
variable {X : Cx} {e : Expr} {es : List Expr} {te : TE} {t : DR} {ts : DRs} {pos : Pos}
theorem pd_of (he : PE X e te) (h : ∀ σ H Q d, t σ H d → (∀ x H', Same H H' → Dd X.K H' x d → Q x H') → te σ H Q) (up : ∀ σ H H' d, Same H H' → t σ H d → t σ H' d) : PD X e t :=
  ⟨⟨fun pins s σ H Q I q => he.run pins s σ H Q I (let ⟨d, h1, h2⟩ := q; h σ H Q d h1 h2)⟩, up⟩
theorem pd_int {i j} : PD X (.Constant (.int i) j pos) (fun _ _ d => d = .int i) := pd_of pe_int (fun _ H _ _ e h => by subst e; exact h _ _ (Same.refl H) (.int i)) fun _ _ _ _ _ h => h
theorem pd_str {x j} : PD X (.Constant (.str x) j pos) (fun _ _ d => d = .str x) := pd_of pe_str (fun _ H _ _ e h => by subst e; exact h _ _ (Same.refl H) (.str x)) fun _ _ _ _ _ h => h
theorem pd_bl {b j} : PD X (.Constant (.bool b) j pos) (fun _ _ d => d = .bool b) := pd_of pe_bl (fun _ H _ _ e h => by subst e; exact h _ _ (Same.refl H) (.bl b)) fun _ _ _ _ _ h => h
theorem pd_non {j} : PD X (.Constant .none j pos) (fun _ _ d => d = .none) := pd_of pe_non (fun _ H _ _ e h => by subst e; exact h _ _ (Same.refl H) .non) fun _ _ _ _ _ h => h
theorem pd_dnew : PD X (.Dict [] [] pos) (fun _ _ d => d = .dict []) := pd_of pe_dnewK (fun _ H _ _ e h => by subst e; exact fun p hp => h _ _ (same_new hp) (.dct (.inl upd_same) rfl .nil)) fun _ _ _ _ _ h => h
/-- a slot's data -/
def dVar (K : PySem.W.Frag) (i : Nat) : DR := fun σ H d => ∃ v, σ[i]? = some (some v) ∧ Dd K H v d
theorem pd_var {i : Nat} (he : PE X e (tVar i)) : PD X e (dVar X.K i) :=
  pd_of he (fun σ H Q d h k => let ⟨v, h1, h2⟩ := h; ⟨v, h1, k v H (Same.refl H) h2⟩) fun _ _ _ _ e h => let ⟨v, h1, h2⟩ := h; ⟨v, h1, h2.same e⟩
/-- a number reckoned of slots -/
def dInt (f : L2.St → Int → Prop) : DR := fun σ _ d => ∃ i, f σ i ∧ d = .int i
theorem pd_num {f : L2.St → Int → Prop} (he : PE X e te) (h : ∀ σ H Q i, f σ i → Q (.int i) H → te σ H Q) : PD X e (dInt f) :=
  pd_of he (fun σ H Q d q k => by obtain ⟨i, h1, rfl⟩ := q; exact h σ H Q i h1 (k _ _ (Same.refl H) (.int i))) fun _ _ _ _ _ h => h
theorem pd_neg {i j} {p1 p2 : Pos} : PD X (.UnaryOp .USub (.Constant (.int i) j p1) p2) (fun _ _ d => d = .int (-i)) := pd_of (pe_un un_neg pe_int) (fun _ H _ _ e h => by subst e; exact ⟨_, rfl, h _ _ (Same.refl H) (.int (-i))⟩) fun _ _ _ _ _ h => h
def dNil : DRs := fun _ _ ds => ds = []
def dCons (t : DR) (ts : DRs) : DRs := fun σ H ds => ∃ d es, t σ H d ∧ ts σ H es ∧ ds = d :: es
theorem pds_nil : PDs X [] dNil := ⟨⟨fun pos pins s σ H Q I q => pa_nil.run pos pins s σ H Q I (let ⟨ds, h1, h2⟩ := q; h2 _ _ (Same.refl H) (by rw [show ds = [] from h1]; exact .nil))⟩, fun _ _ _ _ _ h => h⟩
theorem pds_cons (ha : PD X e t) (hr : PDs X es ts) (hs : starEach (e :: es) X.env = (false, eval e X.env) :: starEach es X.env := by rfl) : PDs X (e :: es) (dCons t ts) := by
  refine ⟨⟨fun pos pins s σ H Q I q => (pa_cons ha.pe hr.pa hs).run pos pins s σ H Q I ?_⟩, ?_⟩
  · obtain ⟨_, ⟨d, es, h1, h2, rfl⟩, k⟩ := q
    exact ⟨d, h1, fun x G e1 d1 => ⟨es, hr.up _ _ _ _ e1 h2, fun xs G2 e2 d2 => k (x :: xs) G2 (e1.trans e2) (.cons (d1.same e2) d2)⟩⟩
  · rintro σ H H' _ e ⟨d, es, h1, h2, rfl⟩
    exact ⟨d, es, ha.up _ _ _ _ e h1, hr.up _ _ _ _ e h2, rfl⟩
def dTup (ts : DRs) : DR := fun σ H d => ∃ ds, ts σ H ds ∧ ds.length ≤ 1000 ∧ d = .tuple ds
def dLst (ts : DRs) : DR := fun σ H d => ∃ ds, ts σ H ds ∧ ds.length ≤ 1000 ∧ d = .list ds
theorem pd_tup {x1} (h : PDs X es ts) : PD X (.Tuple es x1 pos) (dTup ts) := by
  refine pd_of (pe_tup h.pa) (fun σ H Q d q k => ?_) ?_
  · obtain ⟨ds, h1, hz, rfl⟩ := q
    refine ⟨ds, h1, fun xs G e dd => ⟨?_, fun p hp => k _ _ (e.trans (same_new hp)) (.tup (SqT.of upd_same) (dd.same (same_new hp)))⟩⟩
    rw [dd.length]
    exact Nat.le_trans hz (by decide)
  · rintro σ H H' _ e ⟨ds, h1, hz, rfl⟩
    exact ⟨ds, h.up _ _ _ _ e h1, hz, rfl⟩
theorem pd_lst (h : PDs X es ts) : PD X (.List es pos) (dLst ts) := by
  refine pd_of (pe_lst h.pa) (fun σ H Q d q k => ?_) ?_
  · obtain ⟨ds, h1, hz, rfl⟩ := q
    refine ⟨ds, h1, fun xs G e dd => ⟨?_, fun p hp => k _ _ (e.trans (same_new hp)) (.lst (SqL.of upd_same) (dd.same (same_new hp)))⟩⟩
    rw [dd.length]
    exact Nat.le_trans hz (by decide)
  · rintro σ H H' _ e ⟨ds, h1, hz, rfl⟩
    exact ⟨ds, h.up _ _ _ _ e h1, hz, rfl⟩
/-- t[j] of a tuple's data, j written -/
def dAt (j : Nat) (t : DR) : DR := fun σ H d => ∃ ds, t σ H (.tuple ds) ∧ ds[j]? = some d
theorem pd_at {j k : Nat} {p1 : Pos} (h : PD X e t) : PD X (.Subscript e (.Constant (.int (j : Int)) k p1) pos) (dAt j t) := by
  refine pd_of (pe_ix ix_tup h.pe pe_int (fun _ _ => rfl)) (fun σ H Q d q k => ?_) ?_
  · obtain ⟨ds, h1, hj⟩ := q
    refine ⟨_, h1, fun x G e dd => ?_⟩
    cases dd with
    | @tup a xs ds h2 h3 =>
      have hlt := (List.getElem?_eq_some_iff.mp hj).1
      have hlt2 : j < xs.length := by rw [h3.length]; exact hlt
      have hx : xs[j]? = some xs[j] := List.getElem?_eq_getElem hlt2
      obtain ⟨d', h4, h5⟩ := h3.get hx
      rw [hj] at h4
      cases h4
      exact ⟨a, xs, _, _, rfl, rfl, h2, atI_nat hx, k _ _ e h5⟩
  · rintro σ H H' d e ⟨ds, h1, hj⟩
    exact ⟨ds, h.up _ _ _ _ e h1, hj⟩
/-- str(e) -/
def dStr (t : DR) : DR := fun σ H d => ∃ e, t σ H e ∧ e.showable = true ∧ e.hasDict = false ∧ e.shown.length ≤ sizeLine ∧ e.depth ≤ 60 ∧ d = .str (strOfD e)
theorem pd_strOf {p : Pos} (hg : X.A.guards = some []) (hu : X.A.units + 64 < cLine) (gl : Gl X "str") (hm : X.mg "str" = none) (h : PD X e t) (na : starEach [e] X.env = (false, eval e X.env) :: starEach [] X.env := by rfl) : PD X (.Call (.Name "str" p) [e] [] pos) (dStr t) := by
  refine pd_of (pe_callTy (cr_strD hg hu) gl hm b_str (pa_cons h.pe pa_nil na) (he := na)) (fun σ H Q d q k => ?_) ?_
  · obtain ⟨e, h1, q1, q2, q3, q4, rfl⟩ := q
    exact ⟨e, h1, fun x G e1 dd => ⟨x, e, rfl, dd, q1, q2, q3, q4, k _ _ e1 (.str _)⟩⟩
  · rintro σ H H' d e ⟨e1, h1, q⟩
    exact ⟨e1, h.up _ _ _ _ e h1, q⟩
/-- a[:u], a[u:] of a list's data, u a number from 0 on -/
def dTake (t : DR) (f : L2.St → Int → Prop) : DR := fun σ H d => ∃ ds k, t σ H (.list ds) ∧ f σ ((k : Nat) : Int) ∧ d = .list (ds.take k)
def dDrop (t : DR) (f : L2.St → Int → Prop) : DR := fun σ H d => ∃ ds k, t σ H (.list ds) ∧ f σ ((k : Nat) : Int) ∧ d = .list (ds.drop k)
theorem pd_take {u : Expr} {tu : TE} {f : L2.St → Int → Prop} {p2 : Pos} (ha : PD X e t) (hu : PE X u tu) (h : ∀ σ H Q i, f σ i → Q (.int i) H → tu σ H Q) : PD X (.Subscript e (.Slice none (some u) none p2) pos) (dTake t f) := by
  refine pd_of (pe_slice sl_list ha.pe po_none (po_some hu)) (fun σ H Q d q k => ?_) ?_
  · obtain ⟨ds, n, h1, h2, rfl⟩ := q
    refine ⟨_, h1, fun x G e1 d1 => h σ G _ _ h2 ⟨_, rfl, ?_⟩⟩
    cases d1 with
    | @lst a xs ds g1 g2 =>
      refine ⟨a, xs, rfl, g1, fun p hp => ?_⟩
      rw [cut_front]
      exact k _ _ (e1.trans (same_new hp)) (.lst (SqL.of upd_same) ((g2.take n).same (same_new hp)))
  · rintro σ H H' d e ⟨ds, n, h1, h2⟩
    exact ⟨ds, n, ha.up _ _ _ _ e h1, h2⟩
theorem pd_drop {u : Expr} {tu : TE} {f : L2.St → Int → Prop} {p2 : Pos} (ha : PD X e t) (hu : PE X u tu) (h : ∀ σ H Q i, f σ i → Q (.int i) H → tu σ H Q) : PD X (.Subscript e (.Slice (some u) none none p2) pos) (dDrop t f) := by
  refine pd_of (pe_slice sl_list ha.pe (po_some hu) po_none) (fun σ H Q d q k => ?_) ?_
  · obtain ⟨ds, n, h1, h2, rfl⟩ := q
    refine ⟨_, h1, fun x G e1 d1 => h σ G _ _ h2 ⟨_, rfl, ?_⟩⟩
    cases d1 with
    | @lst a xs ds g1 g2 =>
      refine ⟨a, xs, rfl, g1, fun p hp => ?_⟩
      rw [cut_back]
      exact k _ _ (e1.trans (same_new hp)) (.lst (SqL.of upd_same) ((g2.drop n).same (same_new hp)))
  · rintro σ H H' d e ⟨ds, n, h1, h2⟩
    exact ⟨ds, n, ha.up _ _ _ _ e h1, h2⟩
/-- tuple(a) of a list's data -/
def dTupL (t : DR) : DR := fun σ H d => ∃ ds, t σ H (.list ds) ∧ d = .tuple ds
theorem pd_tupL {p : Pos} (gl : Gl X "tuple") (hm : X.mg "tuple" = none) (h : PD X e t) (na : starEach [e] X.env = (false, eval e X.env) :: starEach [] X.env := by rfl) : PD X (.Call (.Name "tuple" p) [e] [] pos) (dTupL t) := by
  refine pd_of (pe_callTy call_tuple_of gl hm b_tuple (pa_cons h.pe pa_nil na) (he := na)) (fun σ H Q d q k => ?_) ?_
  · obtain ⟨ds, h1, rfl⟩ := q
    refine ⟨_, h1, fun x G e1 d1 => ?_⟩
    cases d1 with
    | @lst a xs ds g1 g2 => exact ⟨a, xs, rfl, .inl ⟨g1, fun p hp => k _ _ (e1.trans (same_new hp)) (.tup (SqT.of upd_same) (g2.same (same_new hp)))⟩⟩
  · rintro σ H H' d e ⟨ds, h1, q⟩
    exact ⟨ds, h.up _ _ _ _ e h1, q⟩
/-- a + b of lists' data -/
def dCat (t u : DR) : DR := fun σ H d => ∃ ds es, t σ H (.list ds) ∧ u σ H (.list es) ∧ ds.length + es.length ≤ 10000000 ∧ d = .list (ds ++ es)
theorem pd_cat {a b : Expr} {u : DR} (ha : PD X a t) (hb : PD X b u) : PD X (.BinOp a .Add b pos) (dCat t u) := by
  refine pd_of (pe_op op_catL ha.pe hb.pe) (fun σ H Q d q k => ?_) ?_
  · obtain ⟨ds, es, h1, h2, hz, rfl⟩ := q
    refine ⟨_, h1, fun x G e1 d1 => ⟨_, hb.up _ _ _ _ e1 h2, fun y G2 e2 d2 => ?_⟩⟩
    have d1 := d1.same e2
    cases d1 with
    | @lst a1 xs ds g1 g2 =>
      cases d2 with
      | @lst a2 ys es g3 g4 =>
        refine ⟨a1, a2, xs, ys, rfl, rfl, g1, g3, ?_, fun p hp => k _ _ ((e1.trans e2).trans (same_new hp)) (.lst (SqL.of upd_same) ((g2.append g4).same (same_new hp)))⟩
        rw [g2.length, g4.length]
        exact Nat.le_trans hz (by decide)
  · rintro σ H H' _ e ⟨ds, es, h1, h2, hz, rfl⟩
    exact ⟨ds, es, ha.up _ _ _ _ e h1, hb.up _ _ _ _ e h2, hz, rfl⟩
end
theorem wipe_two {j1 j2 : Nat} (hj : j1 ≠ j2) (σ : L2.St) (a b : Option V) : wipe (((wipe σ [j1, j2]).set j1 a).set j2 b) [j1, j2] = wipe σ [j1, j2] := by
  simp only [wipe]
  rw [List.set_set, List.set_set, List.set_comm a none hj, List.set_set, List.set_set]
/-- [e for i, x in enumerate(xs)] -/
theorem comp_enumL {K : PySem.W.Frag} {a D : Addr} {xs ys : List V} {te : TE} {j1 j2 : Nat} {σ : L2.St} {H : Hp} {Qd : Hp → Prop} (hj : j1 ≠ j2) (hD : H D = none) (ha : SqL K H a xs) (hl : ys.length = xs.length) (hz : xs.length < sizeLine)
    (each : ∀ (i : Nat) (x y : V), xs[i]? = some x → ys[i]? = some y → ∀ G, Same H G → ∀ Q : VK, (∀ G', Same G G' → Q y G') → te (((wipe σ [j1, j2]).set j1 (some (.int (i : Nat)))).set j2 (some x)) G Q)
    (done : ∀ G, Same H G → G D = some (.lst ys) → Qd G) :
    ∃ W : Nat → Nat → Hp → Prop, (∃ m, W 0 m (upd H D (.lst []))) ∧ ∀ i m G, W i m G →
      ((Ite K a).stop i G ∧ Qd G) ∨ ((Ite K a).go i G ∧ ∃ Nx : Hp → Prop, (∀ H', Nx H' → ∃ m', m' < m ∧ W (i + 1) m' H') ∧ ∀ x H', (Ite K a).yld i G x H' → gTup K 2 (gCons (gName j1) (gCons (gName j2) gNil)) x (wipe σ [j1, j2]) H' fun σ2 H2 => wipe σ2 [j1, j2] = wipe σ [j1, j2] ∧ tYes σ2 H2 fun b H3 =>
        if b = true then te σ2 H3 fun y H4 => ∃ acc, H4 D = some (.lst acc) ∧ acc.length < sizeLine ∧ Nx (upd H4 D (.lst (acc ++ [y]))) else Nx H3) := by
  refine lc_enumL (xs := xs) (fun i G => Same H G ∧ G D = some (.lst (ys.take i))) ⟨same_new hD, by rw [upd_same]; rfl⟩ (fun i G _ h => sql_same h.1 ha) (fun i x G t hi h ht => ?_) fun G h => done G h.1 (by rw [h.2, ← hl, List.take_length])
  have hlt : i < xs.length := (List.getElem?_eq_some_iff.mp hi).1
  have hy : ys[i]? = some ys[i] := List.getElem?_eq_getElem (by omega)
  have e3 : Same G (upd G t (.tup [.int (i : Nat), x])) := same_new ht
  refine ⟨t, _, rfl, SqT.of upd_same, rfl, ?_⟩
  refine ⟨_, _, rfl, _, _, rfl, rfl, ?_⟩
  refine ⟨?_, ?_⟩
  · exact wipe_two hj σ _ _
  · unfold tYes
    simp only [if_true]
    refine each i x _ hi hy _ (h.1.trans e3) _ fun G' e2 => ⟨_, e2 _ _ (e3 _ _ h.2), ?_, ?_⟩
    · rw [List.length_take]
      omega
    · refine ⟨same_mut ((h.1.trans e3).trans e2) hD, ?_⟩
      rw [upd_same, take_snoc hy]
end RG
end RGs
section RGt
/-! The size of what str and repr write: signs below 2^32, cells of rows. -/
namespace RG
open PySem PySem.Spec PyProof.Rows L2
def okc (t : Str) : Bool := t.cps.toList.all (fun c => decide (c < 4294967296))
theorem okc_app {x y : Str} (hx : okc x = true) (hy : okc y = true) : okc (x ++ y) = true := by
  unfold okc at *
  rw [List.all_eq_true] at *
  intro c hc
  have hc2 : c ∈ (x.cps ++ y.cps).toList := hc
  rw [Array.toList_append] at hc2
  rcases List.mem_append.mp hc2 with h | h
  · exact hx c h
  · exact hy c h
theorem okc_lit (s : String) : okc (Str.ofString s) = true := by
  rw [Str.ofString_eq_toList]
  unfold okc
  rw [List.all_eq_true]
  intro c hc
  simp only [List.mem_map] at hc
  obtain ⟨ch, _, rfl⟩ := hc
  have : ch.toNat < 4294967296 := by
    have h := ch.val.toNat_lt
    exact h
  simpa using this
theorem okc_one {c : Nat} (h : c < 4294967296) : okc ⟨#[c]⟩ = true := by
  unfold okc
  simpa using h
open Builtin Builtin.Str in
theorem reprChar_ok (q c : Nat) (hq : q < 4294967296) (hc : c < 4294967296) : ∀ d ∈ reprChar q c, d < 4294967296 := by
  have hx : ∀ w, ∀ d ∈ (List.replicate (w - ((Nat.toDigits 16 c).map Char.toNat).length) 48 ++ (Nat.toDigits 16 c).map Char.toNat), d < 4294967296 := by
    intro w d hd
    rcases List.mem_append.mp hd with h | h
    · rw [List.mem_replicate] at h
      rw [h.2]
      decide
    · obtain ⟨ch, _, rfl⟩ := List.mem_map.mp h
      exact ch.val.toNat_lt
  intro d hd
  unfold reprChar at hd
  dsimp only at hd
  repeat' split at hd
  all_goals simp only [List.mem_append, List.mem_cons, List.not_mem_nil, or_false] at hd
  · rcases hd with rfl | rfl
    · decide
    · exact hc
  · rcases hd with rfl | rfl <;> decide
  · rcases hd with rfl | rfl <;> decide
  · rcases hd with rfl | rfl <;> decide
  · rw [hd]; exact hc
  all_goals
    rcases hd with (rfl | rfl) | hd
    · decide
    · decide
    · exact hx _ d (by simpa only [List.mem_append] using hd)
theorem fold_ok (q : Nat) (hq : q < 4294967296) : ∀ (l : List Nat) (acc : Array Nat), (∀ c ∈ l, c < 4294967296) → (∀ c ∈ acc.toList, c < 4294967296) → ∀ c ∈ (l.foldl (fun out c => out ++ (Builtin.Str.reprChar q c).toArray) acc).toList, c < 4294967296
  | [], _, _, h => h
  | a :: l, acc, h1, h2 => by
    refine fold_ok q hq l _ (fun c hc => h1 c (List.mem_cons_of_mem _ hc)) fun c hc => ?_
    rw [Array.toList_append] at hc
    rcases List.mem_append.mp hc with h | h
    · exact h2 c h
    · exact reprChar_ok q a hq (h1 a List.mem_cons_self) c (by simpa using h)
theorem okc_repr {x : Str} (h : okc x = true) : okc (reprText x) = true := by
  have hq : reprQuote x < 4294967296 := by
    unfold reprQuote
    split <;> decide
  unfold okc at *
  rw [List.all_eq_true] at *
  intro c hc
  simp only [decide_eq_true_eq] at h ⊢
  have hc2 : c ∈ ((x.cps.foldl (fun out c => out ++ (Builtin.Str.reprChar (reprQuote x) c).toArray) #[reprQuote x]).push (reprQuote x)).toList := hc
  rw [Array.toList_push, List.mem_append, ← Array.foldl_toList] at hc2
  rcases hc2 with hc2 | hc2
  · refine fold_ok _ hq _ _ h (fun d hd => ?_) c hc2
    have : d = reprQuote x := by simpa using hd
    rw [this]
    exact hq
  · rw [List.mem_singleton] at hc2
    rw [hc2]
    exact hq
/-- a cell: what str and repr write of it has at most L signs -/
def cellB (L D : Nat) (d : PyData) : Bool := !d.hasDict && d.showable && decide (d.shown.length ≤ L) && decide (d.depth ≤ D) && okc d.shown && (match d with | .str z => okc z && decide (z.length ≤ L) | _ => true)
def itemB (L D : Nat) (d : PyData) : Bool := match d with | .tuple ds => ds.all (cellB L D) | _ => true
def rowB (L D : Nat) (d : PyData) : Bool := match d with | .list ds => ds.all (itemB L D) | _ => true
def topB (L D : Nat) (d : PyData) : Bool := match d with | .list ds => ds.all (rowB L D) | _ => true
structure Cell (L D : Nat) (d : PyData) : Prop where
  nd : d.hasDict = false
  fit : Fit L D d
  ok : okc d.shown = true
  st : ∀ z, d = .str z → okc z = true ∧ z.length ≤ L
theorem cell_iff {L D : Nat} {d : PyData} : cellB L D d = true ↔ Cell L D d := by
  unfold cellB
  simp only [Bool.and_eq_true, Bool.not_eq_true', decide_eq_true_eq]
  constructor
  · rintro ⟨⟨⟨⟨⟨h1, h2⟩, h3⟩, h4⟩, h5⟩, h6⟩
    refine ⟨h1, ⟨h2, h3, h4⟩, h5, fun z e => ?_⟩
    subst e
    simpa only [Bool.and_eq_true, decide_eq_true_eq] using h6
  · rintro ⟨h1, h2, h5, h6⟩
    refine ⟨⟨⟨⟨⟨h1, h2.sh⟩, h2.le⟩, h2.dp⟩, h5⟩, ?_⟩
    cases d with
    | str z => simpa only [Bool.and_eq_true, decide_eq_true_eq] using h6 z rfl
    | _ => rfl
theorem Cell.mono {L D L' D' : Nat} {d : PyData} (h : Cell L D d) (e : L ≤ L') (f : D ≤ D') : Cell L' D' d :=
  ⟨h.nd, h.fit.mono e f, h.ok, fun z q => ⟨(h.st z q).1, Nat.le_trans (h.st z q).2 e⟩⟩
theorem item_mono {L D L' D' : Nat} {d : PyData} (h : itemB L D d = true) (e : L ≤ L') (f : D ≤ D') : itemB L' D' d = true := by
  cases d with
  | tuple ds => exact List.all_eq_true.mpr fun x hx => cell_iff.mpr ((cell_iff.mp (List.all_eq_true.mp h x hx)).mono e f)
  | _ => rfl
theorem row_mono {L D L' D' : Nat} {d : PyData} (h : rowB L D d = true) (e : L ≤ L') (f : D ≤ D') : rowB L' D' d = true := by
  cases d with
  | list ds => exact List.all_eq_true.mpr fun x hx => item_mono (List.all_eq_true.mp h x hx) e f
  | _ => rfl
theorem top_mono {L D L' D' : Nat} {d : PyData} (h : topB L D d = true) (e : L ≤ L') (f : D ≤ D') : topB L' D' d = true := by
  cases d with
  | list ds => exact List.all_eq_true.mpr fun x hx => row_mono (List.all_eq_true.mp h x hx) e f
  | _ => rfl
theorem cell_int {i : Int} (h : i.natAbs < 10000000) : Cell 10 0 (.int i) :=
  ⟨rfl, (fit_int (k := 7) (by decide) (by decide) h).mono (by decide) (Nat.le_refl 0), by simp only [PyData.shown]; exact okc_lit _, fun _ e => nomatch e⟩
theorem cell_bool (b : Bool) : Cell 10 0 (.bool b) := cell_iff.mp (by cases b <;> decide +kernel)
theorem cell_none : Cell 10 0 .none := cell_iff.mp (by decide +kernel)
theorem cell_str {t : Str} {M : Nat} (h1 : okc t = true) (h2 : t.length ≤ M) : Cell (10 * M + 2) 0 (.str t) := by
  have h3 : (reprText t).length ≤ 10 * t.length + 2 := StrLaws.reprText_len t fun c hc => by
    have := List.all_eq_true.mp h1 c hc
    simpa using this
  refine ⟨rfl, ⟨rfl, by simp only [PyData.shown]; omega, Nat.le_refl 0⟩, by simp only [PyData.shown]; exact okc_repr h1, fun z e => ?_⟩
  cases e
  exact ⟨h1, by omega⟩
theorem cell_tup1 {L D : Nat} {d : PyData} (h : Cell L D d) : Cell (L + 5) (D + 1) (.tuple [d]) := by
  refine ⟨by simpa [PyData.hasDict, PyData.hasDictAll] using h.nd, ((Fits.nil.cons h.fit).tuple).mono (by omega) (Nat.le_refl _), ?_, fun _ e => nomatch e⟩
  simp only [PyData.shown, PyData.shownAll, tupleText, join_one]
  exact okc_app (okc_app (okc_lit _) h.ok) (okc_lit _)
theorem list_fits {W D : Nat} {es : List PyData} (h : Fit W (D + 1) (.list es)) : Fits W D es := by
  have h1 := h.sh
  have h2 := h.le
  have h3 := h.dp
  refine ⟨by simpa only [PyData.showable] using h1, ?_, ?_⟩
  · have h0 := pl_piled es
    cases hts : PyData.shownAll es with
    | nil =>
      rw [hts] at h0
      rw [← h0]
      exact Nat.zero_le _
    | cons t ts =>
      simp only [PyData.shown, hts] at h2
      unfold listText at h2
      have e : textFrom 0 "[" (t :: ts) = textFrom 1 ("[" ++ t) ts := rfl
      rw [hts, piled_cons] at h0
      rw [strLen_append, e, textFrom_length_pos ts 1 _ (by decide), strLen_append] at h2
      have h4 : (("[" : Str)).length = 1 := by decide +kernel
      have h5 : (("]" : Str)).length = 1 := by decide +kernel
      omega
  · simp only [PyData.depth] at h3
    omega
theorem fits_len {W D : Nat} : ∀ {es : List PyData}, Fits W D es → 2 * es.length ≤ W := by
  intro es h
  have h1 := h.le
  have : ∀ es : List PyData, 2 * es.length ≤ pl es := by
    intro es
    induction es with
    | nil => exact Nat.zero_le _
    | cons d ds ih => rw [pl_cons, List.length_cons]; omega
  have := this es
  omega
/-- what str writes of a cell -/
theorem cell_strOf {L D : Nat} {d : PyData} (h : Cell L D d) : okc (strOfD d) = true ∧ (strOfD d).length ≤ L := by
  cases d with
  | str z => exact h.st z rfl
  | _ => exact ⟨h.ok, h.fit.le⟩
end RG
end RGt
section RGu
/-! comprehensions of data -/
namespace RG
open PySem PySem.Spec PyProof.Rows L2
mutual
/-- no list in it -/
def noL : PyData → Bool
  | .list _ => false
  | .tuple ds => noLAll ds
  | .dict kvs => noLKv kvs
  | _ => true
def noLAll : List PyData → Bool
  | [] => true
  | d :: ds => noL d && noLAll ds
def noLKv : List (PyData × PyData) → Bool
  | [] => true
  | (_, d) :: ds => noL d && noLKv ds
end
theorem rd_rem {D a : Addr} {G : Hp} {o o' : HO} (g : G D = some o') (h : Rd G a o) (n : o ≠ o') (n2 : ∀ ob, HO.frz ob o ≠ o') : Rd (rem D G) a o := by
  rcases h with h | ⟨ob, h⟩
  · refine Or.inl ?_
    rw [rem_ne]
    · exact h
    · rintro rfl
      rw [g] at h
      exact n (Option.some.inj h).symm
  · refine Or.inr ⟨ob, ?_⟩
    rw [rem_ne]
    · exact h
    · rintro rfl
      rw [g] at h
      exact n2 ob (Option.some.inj h).symm
theorem sqt_rem {K : PySem.W.Frag} {D a : Addr} {G : Hp} {ys xs : List V} (g : G D = some (.lst ys)) (h : SqT K G a xs) : SqT K (rem D G) a xs := h.imp (fun h => rd_rem g h (fun e => nomatch e) (fun _ e => nomatch e)) id
mutual
theorem Dd.remL {K : PySem.W.Frag} {D : Addr} {G : Hp} {ys : List V} (g : G D = some (.lst ys)) : ∀ {v : V} {d : PyData}, Dd K G v d → noL d = true → Dd K (rem D G) v d
  | _, _, .non, _ => .non
  | _, _, .bl b, _ => .bl b
  | _, _, .int i, _ => .int i
  | _, _, .str x, _ => .str x
  | _, _, .lst _ _, e => by simp [noL] at e
  | _, _, .tup h t, e => .tup (sqt_rem g h) (DdAll.remL g t (by simpa [noL] using e))
  | _, _, .dct h n t, e => .dct (rd_rem g h (fun e => nomatch e) (fun _ e => nomatch e)) n (DdKv.remL g t (by simpa [noL] using e))
theorem DdAll.remL {K : PySem.W.Frag} {D : Addr} {G : Hp} {ys : List V} (g : G D = some (.lst ys)) : ∀ {vs : List V} {ds : List PyData}, DdAll K G vs ds → noLAll ds = true → DdAll K (rem D G) vs ds
  | _, _, .nil, _ => .nil
  | _, _, .cons h t, e => by
    simp only [noLAll, Bool.and_eq_true] at e
    exact .cons (Dd.remL g h e.1) (DdAll.remL g t e.2)
theorem DdKv.remL {K : PySem.W.Frag} {D : Addr} {G : Hp} {ys : List V} (g : G D = some (.lst ys)) : ∀ {kvs : List (Key × V)} {ds : List (PyData × PyData)}, DdKv K G kvs ds → noLKv ds = true → DdKv K (rem D G) kvs ds
  | _, _, .nil, _ => .nil
  | _, _, .cons h t, e => by
    simp only [noLKv, Bool.and_eq_true] at e
    exact .cons (Dd.remL g h e.1) (DdKv.remL g t e.2)
end
/-- [e for x in xs], each e new data, all that stood stands -/
theorem lc_dd1 {K : PySem.W.Frag} {a D : Addr} {xs : List V} {ds : List PyData} {te : TE} {j : Nat} {σ : L2.St} {H : Hp} {Qd : Hp → Prop} (hD : H D = none) (ha : SqL K H a xs) (hl : ds.length = xs.length) (hz : xs.length < sizeLine)
    (nl : ∀ d ∈ ds, noL d = true)
    (each : ∀ (i : Nat) (x : V) (d : PyData), xs[i]? = some x → ds[i]? = some d → ∀ G, Same H G → ∀ Q : VK, (∀ y G', Same G G' → Dd K G' y d → Q y G') → te ((σ.set j none).set j (some x)) G Q)
    (done : ∀ G, Same H G → Dd K G (.ref D) (.list ds) → Qd G) :
    ∃ W : Nat → Nat → Hp → Prop, (∃ m, W 0 m (upd H D (.lst []))) ∧ ∀ i m G, W i m G →
      ((Itl K a).stop i G ∧ Qd G) ∨ ((Itl K a).go i G ∧ ∃ Nx : Hp → Prop, (∀ H', Nx H' → ∃ m', m' < m ∧ W (i + 1) m' H') ∧ ∀ x H', (Itl K a).yld i G x H' → gName j x (wipe σ [j]) H' fun σ2 H2 => wipe σ2 [j] = wipe σ [j] ∧ tYes σ2 H2 fun b H3 =>
        if b = true then te σ2 H3 fun y H4 => ∃ acc, H4 D = some (.lst acc) ∧ acc.length < sizeLine ∧ Nx (upd H4 D (.lst (acc ++ [y]))) else Nx H3) := by
  refine lc_list (xs := xs) (fun i G => Same H G ∧ ∃ ys, G D = some (.lst ys) ∧ DdAll K (rem D G) ys (ds.take i)) ⟨same_new hD, [], upd_same, by rw [List.take_zero]; exact .nil⟩ (fun i G _ h => sql_same h.1 ha) (fun i x G hi h => ?_) fun G h => ?_
  · have hlt : i < xs.length := (List.getElem?_eq_some_iff.mp hi).1
    obtain ⟨d, hd⟩ : ∃ d, ds[i]? = some d := ⟨_, List.getElem?_eq_getElem (by omega)⟩
    obtain ⟨e, ys, g1, g2⟩ := h
    have yl := g2.length
    rw [List.length_take] at yl
    refine ⟨?_, ?_⟩
    · show ((σ.set j none).set j (some x)).set j none = σ.set j none
      rw [List.set_set, List.set_set]
    · unfold tYes
      simp only [if_true]
      refine each i x d hi hd G e _ fun y G' e2 dd => ⟨ys, e2 _ _ g1, by omega, same_mut (e.trans e2) hD, ys ++ [y], upd_same, ?_⟩
      rw [rem_upd, ← take_snoc hd]
      have s2 : Same (rem D G) (rem D G') := rem_same e2
      exact (g2.same s2).append (.cons (dd.remL (e2 _ _ g1) (nl d (List.mem_of_getElem? hd))) .nil)
  · obtain ⟨e, ys, g1, g2⟩ := h
    rw [← hl, List.take_length] at g2
    exact done G e (.lst (SqL.of g1) (g2.same same_rem))
/-- the same, the target a pair -/
theorem lc_dd2 {K : PySem.W.Frag} {a D : Addr} {xs : List V} {ds : List PyData} {te : TE} {j1 j2 : Nat} {σ : L2.St} {H : Hp} {Qd : Hp → Prop} (hj : j1 ≠ j2) (hD : H D = none) (ha : SqL K H a xs) (hl : ds.length = xs.length) (hz : xs.length < sizeLine)
    (nl : ∀ d ∈ ds, noL d = true)
    (R : Nat → V → V → Prop) (pair : ∀ (i : Nat) (x : V), xs[i]? = some x → ∃ t y z, x = .ref t ∧ SqT K H t [y, z] ∧ R i y z)
    (each : ∀ (i : Nat) (y z : V) (d : PyData), R i y z → ds[i]? = some d → ∀ G, Same H G → ∀ Q : VK, (∀ y G', Same G G' → Dd K G' y d → Q y G') → te (((wipe σ [j1, j2]).set j1 (some y)).set j2 (some z)) G Q)
    (done : ∀ G, Same H G → Dd K G (.ref D) (.list ds) → Qd G) :
    ∃ W : Nat → Nat → Hp → Prop, (∃ m, W 0 m (upd H D (.lst []))) ∧ ∀ i m G, W i m G →
      ((Itl K a).stop i G ∧ Qd G) ∨ ((Itl K a).go i G ∧ ∃ Nx : Hp → Prop, (∀ H', Nx H' → ∃ m', m' < m ∧ W (i + 1) m' H') ∧ ∀ x H', (Itl K a).yld i G x H' → gTup K 2 (gCons (gName j1) (gCons (gName j2) gNil)) x (wipe σ [j1, j2]) H' fun σ2 H2 => wipe σ2 [j1, j2] = wipe σ [j1, j2] ∧ tYes σ2 H2 fun b H3 =>
        if b = true then te σ2 H3 fun y H4 => ∃ acc, H4 D = some (.lst acc) ∧ acc.length < sizeLine ∧ Nx (upd H4 D (.lst (acc ++ [y]))) else Nx H3) := by
  refine lc_list (xs := xs) (fun i G => Same H G ∧ ∃ ys, G D = some (.lst ys) ∧ DdAll K (rem D G) ys (ds.take i)) ⟨same_new hD, [], upd_same, by rw [List.take_zero]; exact .nil⟩ (fun i G _ h => sql_same h.1 ha) (fun i x G hi h => ?_) fun G h => ?_
  · have hlt : i < xs.length := (List.getElem?_eq_some_iff.mp hi).1
    obtain ⟨d, hd⟩ : ∃ d, ds[i]? = some d := ⟨_, List.getElem?_eq_getElem (by omega)⟩
    obtain ⟨e, ys, g1, g2⟩ := h
    have yl := g2.length
    rw [List.length_take] at yl
    obtain ⟨t, y, z, rfl, ht, hR⟩ := pair i x hi
    refine ⟨t, _, rfl, sqt_same e ht, rfl, ?_⟩
    refine ⟨_, _, rfl, _, _, rfl, rfl, ?_⟩
    refine ⟨wipe_two hj σ _ _, ?_⟩
    unfold tYes
    simp only [if_true]
    refine each i y z d hR hd G e _ fun y G' e2 dd => ⟨ys, e2 _ _ g1, by omega, same_mut (e.trans e2) hD, ys ++ [y], upd_same, ?_⟩
    rw [rem_upd, ← take_snoc hd]
    have s2 : Same (rem D G) (rem D G') := rem_same e2
    exact (g2.same s2).append (.cons (dd.remL (e2 _ _ g1) (nl d (List.mem_of_getElem? hd))) .nil)
  · obtain ⟨e, ys, g1, g2⟩ := h
    rw [← hl, List.take_length] at g2
    exact done G e (.lst (SqL.of g1) (g2.same same_rem))
theorem putK_new {kvs : List (Key × V)} {k : Key} {v : V} (h : k ∉ kvs.map (·.1)) : putK kvs k v = kvs ++ [(k, v)] := by
  unfold putK
  rw [if_neg]
  intro e
  rw [List.any_eq_true] at e
  obtain ⟨kv, h1, h2⟩ := e
  exact h (List.mem_map.mpr ⟨kv, h1, of_decide_eq_true h2⟩)
theorem DdKv.snoc {K : PySem.W.Frag} {H : Hp} {k : Key} {v : V} {d : PyData} (h : Dd K H v d) : ∀ {kvs : List (Key × V)} {ds : List (PyData × PyData)}, DdKv K H kvs ds → DdKv K H (kvs ++ [(k, v)]) (ds ++ [(keyData k, d)])
  | _, _, .nil => .cons h .nil
  | _, _, .cons h2 t => .cons h2 (DdKv.snoc h t)
theorem keys_noPen {kvs : List (Key × V)} {ks : List Int} (h : kvs.map (·.1) = ks.map Sum.inl) : isPen kvs = false := by
  cases kvs with
  | nil => rfl
  | cons kv kvs =>
    cases ks with
    | nil => simp at h
    | cons k ks =>
      obtain ⟨a, b⟩ := kv
      simp only [List.map_cons, List.cons.injEq] at h
      have e : a = Sum.inl k := h.1
      subst e
      rfl
/-- the data of tuples of ints -/
def intsD (ns : List Int) : PyData := .tuple (ns.map PyData.int)
theorem intsD_dd {K : PySem.W.Frag} {H : Hp} {b : Addr} {ns : List Int} (h : SqT K H b (ns.map V.int)) : Dd K H (.ref b) (intsD ns) := .tup h (DdAll.ints ns)
theorem intsV_of {K : PySem.W.Frag} {H : Hp} : ∀ {ns : List Int} {xs : List V}, DdAll K H xs (ns.map PyData.int) → xs = ns.map V.int
  | [], _, .nil => rfl
  | n :: ns, _, .cons h t => by
    cases h
    rw [List.map_cons, intsV_of t]
theorem intsD_of {K : PySem.W.Frag} {H : Hp} {v : V} {ns : List Int} (h : Dd K H v (intsD ns)) : ∃ b, v = .ref b ∧ SqT K H b (ns.map V.int) := by
  cases h with
  | @tup a xs _ h1 h2 =>
    rw [intsV_of h2] at h1
    exact ⟨a, rfl, h1⟩
/-- {k: t for x in xs}, unlike ints, tuples of ints -/
theorem dc_ints {K : PySem.W.Frag} {a D : Addr} {xs : List V} {ks : List Int} {vals : List (List Int)} {tk tv : TE} {j : Nat} {σ : L2.St} {H : Hp} {Qd : Hp → Prop} (hD : H D = none) (ha : SqL K H a xs) (hk : ks.length = xs.length) (hl : vals.length = xs.length) (nd : ks.Nodup) (hz : xs.length < sizeLine)
    (key : ∀ (i : Nat) (x : V) (k : Int), xs[i]? = some x → ks[i]? = some k → ∀ G, Same H G → ∀ Q : VK, Q (.int k) G → tk ((σ.set j none).set j (some x)) G Q)
    (val : ∀ (i : Nat) (x : V) (ns : List Int), xs[i]? = some x → vals[i]? = some ns → ∀ G, Same H G → ∀ Q : VK, (∀ b G', Same G G' → SqT K G' b (ns.map V.int) → Q (.ref b) G') → tv ((σ.set j none).set j (some x)) G Q)
    (done : ∀ G, Same H G → Dd K G (.ref D) (.dict ((ks.zip vals).map fun p => (.int p.1, intsD p.2))) → Qd G) :
    ∃ W : Nat → Nat → Hp → Prop, (∃ m, W 0 m (upd H D (.dK []))) ∧ ∀ i m G, W i m G →
      ((Itl K a).stop i G ∧ Qd G) ∨ ((Itl K a).go i G ∧ ∃ Nx : Hp → Prop, (∀ H', Nx H' → ∃ m', m' < m ∧ W (i + 1) m' H') ∧ ∀ x H', (Itl K a).yld i G x H' → gName j x (wipe σ [j]) H' fun σ2 H2 => wipe σ2 [j] = wipe σ [j] ∧ tYes σ2 H2 fun b H3 =>
        if b = true then tk σ2 H3 fun y H4 => tv σ2 H4 fun z H5 => ∃ kvs k, y = kV k ∧ H5 D = some (.dK kvs) ∧ kvs.length < sizeLine ∧ Nx (upd H5 D (.dK (putK kvs k z))) else Nx H3) := by
  let Pv : Nat → Hp → Prop := fun i G => Same H G ∧ ∃ kvs, G D = some (.dK kvs) ∧ kvs.map (·.1) = (ks.take i).map Sum.inl ∧ DdKv K (rem D G) kvs (((ks.zip vals).take i).map fun p => (.int p.1, intsD p.2))
  refine ⟨fun i m G => m = xs.length - i ∧ i ≤ xs.length ∧ Pv i G, ⟨xs.length, by simp, Nat.zero_le _, same_new hD, [], upd_same, rfl, .nil⟩, ?_⟩
  rintro i m G ⟨rfl, hi, e, kvs, g1, g2, g3⟩
  have q := sql_same e ha
  by_cases hlt : i < xs.length
  · obtain ⟨x, hx⟩ : ∃ x, xs[i]? = some x := ⟨_, List.getElem?_eq_getElem hlt⟩
    obtain ⟨k, hk2⟩ : ∃ k, ks[i]? = some k := ⟨_, List.getElem?_eq_getElem (by omega)⟩
    obtain ⟨ns, hv⟩ : ∃ ns, vals[i]? = some ns := ⟨_, List.getElem?_eq_getElem (by omega)⟩
    have kl : kvs.length = i := by
      have := congrArg List.length g2
      rw [List.length_map, List.length_map, List.length_take] at this
      omega
    refine .inr ⟨⟨xs, x, q, hx⟩, Pv (i + 1), fun H' p' => ⟨xs.length - (i + 1), by omega, rfl, hlt, p'⟩, fun x' H' y => ?_⟩
    obtain ⟨rfl, y⟩ := y
    have hxx := y xs q
    rw [hx] at hxx
    obtain rfl := Option.some.inj hxx
    refine ⟨?_, ?_⟩
    · show ((σ.set j none).set j (some x)).set j none = σ.set j none
      rw [List.set_set, List.set_set]
    · unfold tYes
      simp only [if_true]
      refine key i x k hx hk2 H' e _ (val i x ns hx hv H' e _ fun b G' e2 sb => ⟨kvs, Sum.inl k, rfl, e2 _ _ g1, by omega, same_mut (e.trans e2) hD, kvs ++ [(Sum.inl k, .ref b)], ?_, ?_, ?_⟩)
      · rw [upd_same, putK_new]
        rw [g2]
        intro h
        obtain ⟨k', h1, h2⟩ := List.mem_map.mp h
        obtain rfl := Sum.inl.inj h2
        have h3 : (ks.take (i + 1)).Nodup := nd.sublist (List.take_sublist _ _)
        rw [← take_snoc hk2] at h3
        exact (List.nodup_append.mp h3).2.2 k' h1 k' List.mem_cons_self rfl
      · rw [List.map_append, g2, ← take_snoc hk2, List.map_append]
        rfl
      · rw [rem_upd]
        have hzip : (ks.zip vals)[i]? = some (k, ns) := by
          rw [List.getElem?_zip_eq_some]
          exact ⟨hk2, hv⟩
        rw [← take_snoc hzip, List.map_append]
        exact DdKv.snoc (intsD_dd (sb.imp (fun h => rd_rem (e2 _ _ g1) h (fun e => nomatch e) (fun _ e => nomatch e)) id)) (g3.same (rem_same e2))
  · obtain rfl : i = xs.length := by omega
    refine .inl ⟨⟨xs, q, Nat.le_refl _⟩, done G e (.dct (.inl g1) (keys_noPen g2) ?_)⟩
    have e3 : (ks.zip vals).take xs.length = ks.zip vals := List.take_of_length_le (by rw [List.length_zip]; omega)
    rw [e3] at g3
    exact g3.same same_rem
end RG
end RGu
section RGv
namespace RG
open PySem PySem.Spec PyProof.Rows L2
section
variable {X : Cx}
/-- xs[::-1] of a list: a new one -/
def tRevL (K : PySem.W.Frag) (te : TE) : TE := fun σ H Q => te σ H fun x H1 => ∃ a xs, x = .ref a ∧ SqL K H1 a xs ∧ ∀ p, H1 p = none → Q (.ref p) (upd H1 p (.lst xs.reverse))
theorem pick_rev (xs : List Value) : slicePick xs.toArray none none (some (-1)) = xs.reverse.toArray := by
  unfold slicePick
  congr 1
  rw [← rev_items xs]
  have e : sliceBounds none none (some (-1)) xs.toArray.size = (((xs.length : Nat) : Int) - 1, -1, -1) := by
    rw [List.size_toArray]
    rfl
  rw [e]
  have r : sliceRange (((xs.length : Nat) : Int) - 1) (-1) (-1) = (List.range xs.length).map fun (k : Nat) => (((xs.length : Nat) : Int) - 1 + (k : Int) * -1).toNat := by
    unfold sliceRange
    rw [if_neg (by decide)]
    have c : (if ((xs.length : Nat) : Int) - 1 > -1 then (((xs.length : Nat) : Int) - 1 - -1 - -1 - 1) / -(-1) else 0).toNat = xs.length := by
      by_cases h : ((xs.length : Nat) : Int) - 1 > -1
      · rw [if_pos h, show (-(-1) : Int) = 1 from rfl, Int.ediv_one]
        omega
      · rw [if_neg h]
        omega
    simp only [c]
    refine List.map_congr_left fun k _ => ?_
    congr 1
    omega
  rw [r, List.filterMap_map]
  rfl
theorem pe_revL {K : PySem.W.Frag} {e : Expr} {te : TE} {k : Nat} {p1 p2 p3 pos : Pos} (hK : X.K = K) (he : PE X e te) : PE X (.Subscript e (.Slice none none (some (.UnaryOp .USub (.Constant (.int 1) k p1) p2)) p3) pos) (tRevL K te) := by
  subst hK
  refine ⟨fun pins s σ H Q I h => Subscript_ (thn (he.run pins s σ H _ I h) ?_)⟩
  rintro v s1 ⟨x, H1, I1, r1, a, xs, rfl, hx, q⟩
  cases r1
  have step : PO X (some (.UnaryOp .USub (.Constant (.int 1) k p1) p2)) (tPart (tUn (rU fun i => .int (-i)) (tC (.int 1)))) := po_some (pe_un un_neg pe_int)
  refine wpAny_Slice (thn (po_none.run pins s1 σ H1 (fun o G => o = none ∧ G = H1) I1 ⟨rfl, rfl⟩) ?_)
  rintro vl s2 ⟨l, G2, I2, pl, el, e2⟩
  subst el e2
  refine thn (po_none.run pins s2 σ G2 (fun o G => o = none ∧ G = G2) I2 ⟨rfl, rfl⟩) ?_
  rintro vu s3 ⟨u, G3, I3, pu, eu, e3⟩
  subst eu e3
  refine thn (step.run pins s3 σ G3 (fun o G => o = some (-1) ∧ G = G3) I3 ⟨1, rfl, -1, rfl, rfl, rfl⟩) ?_
  rintro vs s4 ⟨o, G4, I4, ps, eo, e4⟩
  subst eo e4
  have I5 : Inv X pins σ G4 { s4 with heap := s4.heap.push { cls := .type "slice", data := .fields #[vl, vu, vs] } } := I4.kept (t' := s4.toks) fun b ob z => Heap.get?_push_of_some _ z
  obtain ⟨its, r, ht, hz⟩ := I5.list hx
  have hlen := r.length
  show wpAny (model X.prog X.w) X.A (subscriptTail e (.Slice none none (some (.UnaryOp .USub (.Constant (.int 1) k p1) p2)) p3) (.ref a) (.ref s4.heap.objs.size)) (EP X pins σ Q) X.xe { s4 with heap := s4.heap.push { cls := .type "slice", data := .fields #[vl, vu, vs] } }
  refine tail_any (ops := [.ref a, .ref s4.heap.objs.size]) ht.isList.typeIs (PySem.F.slot_list_getitem.lookup) ?_ (by with_unfolding_all rfl)
  refine wpAny_getItem_list_slice ht.isList (Heap.IsSliceOf.new _ vl vu vs) pl pu ps (by decide) ?_ (by rw [List.size_toArray] <;> omega)
  rw [pick_rev]
  refine ⟨.ref _, _, I5.laid (t' := s4.toks) (o := .lst xs.reverse) (fun b ob z => Heap.get?_push_of_some _ z) (Nat.le_refl _) ?_, rfl, q _ (I5.hok.fresh (Nat.le_refl _))⟩
  exact ⟨by rw [List.length_reverse]; exact hz, _, 0, r.reverse, Heap.get?_push_size _ rfl⟩
/-- {t: v}, t a tuple of ints and texts, a new one -/
def tDispT (tk tv : TE) : TE := fun σ H Q => ∀ p, H p = none → tPairs [(tk, tv)] σ (upd H p (.dT [])) fun ps H2 => ∃ x y, ps = [(x, y)] ∧ H2 p = some (.dT []) ∧ ∃ (b : Addr) (k : List Key), x = .ref b ∧ H2 b = some (.tup (k.map kV)) ∧ Q (.ref p) (upd H2 p (.dT [(k, y)]))
theorem pe_dispT {pos : Pos} {ke ve : Expr} {tk tv : TE} (hu : X.A.units < cLine) (hk : PE X ke tk) (hv : PE X ve tv) : PE X (.Dict [some ke] [ve] pos) (tDispT tk tv) := by
  refine ⟨fun pins s σ H Q I q => ?_⟩
  have hn := I.hok.fresh (Nat.le_refl s.heap.objs.size)
  have I1 := I.laid (a := s.heap.objs.size) (o := .dT []) (h' := s.heap.push { cls := .type "dict", data := .dict #[] }) (t' := s.toks) (fun _ _ q => Heap.get?_push_of_some _ q) (Nat.le_refl _) (dt_empty s.heap I.big)
  have P : PPs X pos [some ke] [ve] [(tk, tv)] := pps_cons hk hv pps_nil
  rw [arm_eval_Dict, zip_pairTrees [some ke] [ve] X.env pos rfl rfl, dictDisplay_pairs (pairTrees [some ke] [ve] X.env pos) (fun z => by cases z) (show 1 < 17 by exact Nat.lt_of_sub_pos (by decide))]
  refine wpAny_bind (wpAny_standAt (wpAny_bind (wpAny_subDictH (knd := tupleKind (mixKind X.prog X.w)) (Q := fun d s' => wpAny (model X.prog X.w) X.A (pure (Value.ref d)) (EP X pins σ Q) X.xe s') hu (show 1 ≤ 15 by decide) ?_)))
  refine thn (P.run pins _ σ _ _ I1 (q _ hn)) ?_
  rintro ws s2 ⟨ps, H2, I2, rel, x, y, rfl, e, b, k, rfl, eb, q2⟩
  obtain ⟨z, hd, xs, rx, dd⟩ := dt_of I2.hok e
  cases rx
  cases rel with
  | @cons _ w2 _ ws h t =>
    cases t
    obtain ⟨w1, w3⟩ := w2
    obtain ⟨r1, r2⟩ := h
    cases (show w1 = Value.ref b from r1)
    refine ⟨[(k, b, w3)], ⟨rfl, rfl, key_of I2.hok eb, True.intro⟩, dd, fun h' tk dd' hs => wpAny_pure ?_⟩
    obtain ⟨q, es, ep, hq, h2, h3, h4, _, h5⟩ := dd'
    refine ⟨.ref s.heap.objs.size, _, ?_, rfl, q2⟩
    refine (d_write I2 (by rw [e]; exact True.intro) hs ⟨q, hq⟩ (ob := .dT [(k, y)]) ⟨(show 1 ≤ sizeLine by decide), hd, [(k, b, w3)], ?_, q, es, ep, hq, h2, h3, h4, h5⟩)
    refine .cons ⟨rfl, ?_, r2⟩ .nil
    rw [upd_ne (ne_of eb e (fun z => nomatch z))]
    exact eb
end
theorem Cg.imp {P : Program} {w : World} {K : PySem.W.Frag} {mg : Str → Option Value} {base : Heap} {k : Nat} {x : Str} {sp sp' : Sp} (c : Cg P w K mg base k x sp) (h : ∀ vs H Q E, sp' vs H Q E → sp vs H Q E) : Cg P w K mg base k x sp' := by
  obtain ⟨f, fd, ps, F, h1, h2, h3⟩ := c.ex
  exact ⟨f, fd, ps, ⟨fun vs H Q E z => F.many vs H Q E (h _ _ _ _ z), fun A out s H ar us vs Q E a b c d e z => F.runs A out s H ar us vs Q E a b c d e (h _ _ _ _ z)⟩, h1, h2, h3⟩
end RG
end RGv
section RGw
/-! sorted(set(xs)), xs a list of ints -/
namespace RG
open PySem PySem.Spec PyProof.Rows L2
section
variable {P : Program} {w : World} {A : Around} {E : Value → Shared → Prop} {s : Shared}
theorem set_ints {l : Addr} {items : Array Value} (ns : List Int) {Q : Value → Shared → Prop} (hh : A.handled = none) (hl : s.heap.IsList l items) (hit : IntsAre items.toList ns) (hb : ns.length + 1 < scanBound)
    (h : ∀ (h' : Heap) (tk c : Nat), SetR w h' s.heap.objs.size (fun j => decide (j ∈ ns)) c → (∀ b o, s.heap.get? b = some o → h'.get? b = some o) → Q (.ref s.heap.objs.size) { s with heap := h', toks := tk }) :
    wpAny (model P w) A (call (.type "set") [.ref l]) Q E s := by
  have many : items.size = ns.length := by
    have q := IntsAre.length hit
    rwa [Array.length_toList] at q
  generalize eo0 : ({ cls := .type "set", dict := none, data := .set #[] 0 (.fresh 0 0 (!w.params.followText "set-order")) } : Obj) = o0
  obtain ⟨c, tl, hmro⟩ := PySem.F.called_set.mro
  have hmade := PySem.F.called_set.made
  have hsub := PySem.F.called_set.sub
  refine wpAny_call (codeAny_of_tree ?_)
  show wpAny _ _ (callAny (.type "set") _) _ _ _
  refine wpAny_pure ⟨Code.quiet_builtin _ (by decide +kernel), codeAny_builtin PySem.F.entry_type_call ?_⟩
  rw [Around.under_plain (weight_type_call_type "set" [.ref l] []) rfl]
  have h1 := PySem.F.called_set.notType
  have h2 := PySem.F.called_set.canCreate
  have hct := PySem.F.typeCall_set_1 (.ref l)
  repeat (any_goals (first | assumption | wp_step))
  refine codeAny_mono (code_set_led1 (.ref l) (E := E) (Q₁ := fun obj s₁ => obj = .ref s.heap.objs.size ∧ s₁ = { s with heap := s.heap.push o0 }) ⟨rfl, by rw [← eo0]⟩) fun r s₁ hr => ?_
  cases r with
  | error e => exact hr
  | ok fl =>
    cases fl with
    | ret obj =>
      obtain ⟨rfl, rfl⟩ := hr
      have hS : (s.heap.push o0).get? s.heap.objs.size = some o0 := Heap.get?_push_size _ (by rw [← eo0]; rfl)
      have hT : Shared.TypeIs { s with heap := s.heap.push o0 } (.ref s.heap.objs.size) "set" := ⟨_, hS, by rw [← eo0]⟩
      have hli := PySem.F.called_set.init.lookup
      have hbi := PySem.F.called_set.init.bind (.ref s.heap.objs.size)
      repeat (any_goals (first | assumption | wp_step))
      refine codeAny_mono (codeAny_call_builtin (R := wants (fun r s₂ => r = .none ∧ ∃ h' tk c, s₂ = { s with heap := h', toks := tk } ∧ SetR w h' s.heap.objs.size (fun j => decide (j ∈ ns)) c ∧
          (∀ b o, s.heap.get? b = some o → h'.get? b = some o)) E) PySem.F.called_set.init.plain PySem.F.entry_set_init (check_set_init_1 hT ?_)) fun r₂ s₂ hr₂ => ?_
      · have hlS : l < s.heap.objs.size := by
          obtain ⟨ol, hol, _⟩ := hl
          exact Heap.lt_size hol
        have hl1 : (s.heap.push o0).IsList l items := hl.push _
        obtain ⟨ol, hol, hcl, nl, hdl⟩ := hl1
        obtain ⟨ocls, odict, odata, oslots⟩ := ol
        simp only at hcl hdl
        subst hcl
        subst hdl
        have hl1 : (s.heap.push o0).IsList l items := hl.push _
        have z1 := PySem.F.sub_list_set
        have z2 := PySem.F.sub_list_frozenset
        have z3 : (Value.type "list" == Value.type "dict") = false := by decide
        subst eo0
        unfold Builtin.«set.__init__» noKeywords Builtin.Frozenset.updateFrom
        generalize hPI : pyIter = PI
        wp_walk
        subst hPI
        refine wpAny_pyIter_list hl1 ?_
        refine wpAny_bind (wpAny_runValue ?_)
        have z4 : A.in1.in1.in1.handled = none := by simp [hh]
        have big : ∀ o1 : Obj, (s.heap.push o1).objs.size = s.heap.objs.size + 1 := fun _ => Heap.size_push ..
        have ne : ∀ o1 : Obj, l ≠ (s.heap.push o1).objs.size := fun o1 => by
          rw [big o1]
          exact Nat.ne_of_lt (Nat.lt_succ_of_lt hlS)
        have out : ∀ o1 : Obj, s.heap.objs.size ∉ [(s.heap.push o1).objs.size, l] := fun o1 => by
          simp only [List.mem_cons, List.not_mem_nil, or_false, not_or]
          rw [big o1]
          exact ⟨Nat.ne_of_lt (Nat.lt_succ_self _), Nat.ne_of_gt hlS⟩
        have each : ∀ (i : Nat) (v : Value), items[i]? = some v → ∃ k t, ns[i]? = some k ∧ v = .int k t := fun i v hv => by
          have hi : i < ns.length := by rw [← many]; exact (Array.getElem?_eq_some_iff.mp hv).1
          obtain ⟨t, e⟩ := PyProof.Rows.IntsAre.int_at hit i v (by rw [Array.getElem?_toList]; exact hv)
          refine ⟨ns[i], t, List.getElem?_eq_getElem hi, ?_⟩
          rw [e, List.getD_eq_getElem?_getD, List.getElem?_eq_getElem hi]
          rfl
        refine set_update_ints ((Walks.list z4 _ l (ne _) items).toS) s.heap.objs.size (out _) ns many hb each (items.size - 0) 0 _ (by omega) (Nat.zero_le _) ⟨⟨_, Heap.get?_push_size _ rfl, rfl, rfl⟩, (hl1.push _)⟩ ⟨0, Nat.le_refl 0, ?_⟩ ?_
        · refine setR_new_at ?_
          exact Heap.get?_push_of_some _ hS
        · intro s' c' hm _ hS'
          obtain ⟨h', g2, d', tk', os'⟩ := s'
          cases (show g2 = s.gens from hm.gens)
          cases (show d' = s.drawn from hm.drawn)
          cases (show os' = s.os from hm.os)
          show wpAny _ _ _ _ _ _
          refine wpAny_pure ?_
          show wpAny _ _ (ret Value.none) _ _ _
          refine wpAny_pure ⟨rfl, h', tk', c', rfl, hS', fun b o e => ?_⟩
          have b0 : b < s.heap.objs.size := Heap.lt_size e
          refine hm.heap b o ?_ (Heap.get?_push_of_some _ (Heap.get?_push_of_some _ e))
          simp only [List.mem_cons, List.not_mem_nil, or_false, not_or]
          rw [big]
          exact ⟨Nat.ne_of_lt b0, Nat.ne_of_lt (Nat.lt_succ_of_lt b0)⟩
      · cases r₂ with
        | error e => exact hr₂
        | ok fl₂ =>
          cases fl₂ with
          | ret r =>
            obtain ⟨rfl, h', tk, c', rfl, hS', hk'⟩ := hr₂
            repeat (any_goals (first | assumption | wp_step))
            exact h _ _ _ hS' hk'
          | _ => exact hr₂.elim
    | _ => exact hr.elim
end
section
variable {X : Cx}
/-- set(xs), xs a list of ints -/
def rSetLI (K : PySem.W.Frag) (w : World) : List V → Hp → VK → Prop := fun vs H Q => ∃ (a : Addr) (ns : List Int), vs = [V.ref a] ∧ SqL K H a (ns.map V.int) ∧ ns.length ≤ 1000 ∧
  ∀ (p : Addr) (ms : List Int), ms.Nodup → (∀ k, k ∈ ms ↔ k ∈ ns) → H p = none → Q (.ref p) (upd H p (SetO w p (fun j => decide (j ∈ ns)) ms.length))
theorem cr_setLI (hc : X.calm = true) : CallR X (.type "set") (rSetLI X.K X.w) := by
  intro pins s σ H vs us Q I r h
  obtain ⟨a, ns, rfl, hs, hl, q⟩ := h
  obtain ⟨its, rv, pt, hz⟩ := I.list hs
  rw [Vals.ref1 r]
  have hi : IntsAre its.toArray.toList ns := by simpa using ints_back rv
  refine set_ints ns (I.ok.hd hc) pt.isList hi (by unfold scanBound; omega) fun g tk c R kp => ?_
  have R2 := R
  obtain ⟨o, es, ep, t, ho, hex, hdt, gd, nd, hm, hb, hf, hn, hr, hl2⟩ := R2
  have hlen : c = (es.toList.map keyOf).length := by
    rw [List.length_map, Array.length_toList]
    exact hn.symm
  subst hlen
  exact ⟨.ref _, upd H s.heap.objs.size (SetO X.w s.heap.objs.size (fun j => decide (j ∈ ns)) (es.toList.map keyOf).length), I.laid kp (Nat.le_refl _) (setO_new R), rfl,
    q _ (es.toList.map keyOf) nd (fun k => by rw [← hm k, decide_eq_true_eq]) (I.hok.fresh (Nat.le_refl _))⟩
end
end RG
end RGw
section RGx
/-! a def with parameters that are not written at the call -/
namespace RG
open PySem PySem.Spec PyProof.Rows L2
/-- a def of the module by its name, what its unwritten parameters are, and what it promises -/
structure CgD (P : Program) (w : World) (K : PySem.W.Frag) (mg : Str → Option Value) (base : Heap) (k : Nat) (x : Str) (sp : Sp) (dvs : List V) : Prop where
  ex : ∃ (f : Addr) (fd : FuncData) (ps : List Str) (ds : List Value), FnG P w K mg base CX0 k f fd ps sp ∧ mg x = some (.ref f) ∧ PySem.W.keepIn K (.ref f) = true ∧ Binds K fd ps ds ∧ Vals dvs ds
section
variable {X : Cx} {k j : Nat} {x : Str} {sp : Sp} {dvs : List V} {p pos : Pos} {e : Expr} {es : List Expr} {t : TA}
theorem pe_gD (c : CgD X.prog X.w X.K X.mg X.base k x sp dvs) (hr : Room j X.A) (hg : X.A.guards = some []) (hk : k ≤ j) (hx : Gl X x) (ha : PA X (e :: es) t)
    (h1 : (x == ("__debug__" : Str)) = false := by decide) (h2 : starEach (e :: es) X.env = (false, eval e X.env) :: starEach es X.env := by rfl) (h3 : (backTo pos (starEach es X.env)).any (·.1) = false := by rfl) :
    PE X (.Call (.Name x p) (e :: es) [] pos) (tCall sp dvs E0 t) := by
  obtain ⟨f, fd, ps, ds, F, hm, kp, b, rv⟩ := c.ex
  refine ⟨fun pins s σ H Q I h => wpAny_Call_Name_kw (ld_glob I hx hm ?_ h1)⟩
  refine PySem.W.callWith_K (h₀ := X.base) I.ok.mod.kin kp (thn (ha.run pos pins s σ H _ I h) ?_) h2 h3
  rintro us s1 ⟨vs, G, J, r, q⟩
  refine ⟨J.kIn, ?_⟩
  have hv : Vals (vs ++ dvs) (us ++ ds) := r.append rv
  have bt := b s1 us J.kIn (by rw [← hv.length]; exact F.many _ _ _ _ q)
  refine wpAny_call (codeAny_mono (F.runs X.A X.stack s1 G _ (us ++ ds) (vs ++ dvs) Q E0 (hr.mono hk) hg J.env0 bt hv q) fun w2 s2 h => ?_)
  cases w2 with
  | error z => exact False.elim h
  | ok fl =>
    cases fl with
    | ret u => exact J.after h
    | next => exact False.elim h
    | brk => exact False.elim h
    | cont => exact False.elim h
end
end RG
end RGx
section RGy
/-! [x for x in xs if ..], xs a list -/
namespace RG
open PySem PySem.Spec PyProof.Rows L2
theorem kept_cons (y : V) (ys : List V) (b : Bool) (bs : List Bool) : keptV (y :: ys) (b :: bs) = if b = true then y :: keptV ys bs else keptV ys bs := by
  unfold keptV
  rw [List.zip_cons_cons, List.filter_cons]
  cases b <;> rfl
/-- the kept ones, as data -/
theorem kept_dd {K : PySem.W.Frag} {H : Hp} {α : Type} {f : α → PyData} {p : α → Bool} : ∀ {ls : List α} {xs : List V}, DdAll K H xs (ls.map f) → DdAll K H (keptV xs (ls.map p)) ((ls.filter p).map f)
  | [], _, h => by
    cases h
    exact .nil
  | l :: ls, _, h => by
    have h : DdAll K H _ (f l :: ls.map f) := h
    cases h with
    | cons h1 h2 =>
      rw [List.map_cons, kept_cons, List.filter_cons]
      have ih := kept_dd (p := p) h2
      cases p l with
      | true => exact .cons h1 ih
      | false => exact ih
theorem kept_map {α : Type} {f : α → V} {p : α → Bool} : ∀ ls : List α, keptV (ls.map f) (ls.map p) = (ls.filter p).map f
  | [] => rfl
  | l :: ls => by
    rw [List.map_cons, List.map_cons, kept_cons, List.filter_cons, kept_map ls]
    cases p l <;> rfl
end RG
end RGy
section RGz
/-! sorted(t), t a tuple of texts -/
namespace RG
open PySem PySem.Spec PyProof.Rows L2
def ltSv (u v : Value) : Bool := decide ((strOf u).cps.toList < (strOf v).cps.toList)
theorem swo_strs : SrtO.Swo ltSv := by
  refine ⟨fun x y h => ?_, fun x y z h1 h2 => ?_⟩
  · have a := of_decide_eq_true (p := (strOf x).cps.toList < (strOf y).cps.toList) h
    exact decide_eq_false (p := (strOf y).cps.toList < (strOf x).cps.toList) (List.lt_asymm a)
  · have a := of_decide_eq_false (p := (strOf y).cps.toList < (strOf x).cps.toList) h1
    have b := of_decide_eq_false (p := (strOf z).cps.toList < (strOf y).cps.toList) h2
    refine decide_eq_false (p := (strOf z).cps.toList < (strOf x).cps.toList) ?_
    rw [List.not_lt] at a b ⊢
    exact List.le_trans a b
section
variable {prog : Program} {w : World} {A : Around} {E : Value → Shared → Prop} {s : Shared}
theorem strs_sortable {a : Addr} {vs : List Value} {ss : List Str} (hS : StrsAre vs ss) (h2 : 2 ≤ vs.length) : SrtO.SortableO prog w A s a vs ltSv := by
  intro h' _
  refine ⟨oneType', fun Q E hq => ?_, ?_⟩
  · match vs, hS, h2 with
    | v1 :: v2 :: rest, hS, _ =>
      rw [keyKind_strs hS]
      exact wpAny_pure hq
    | [], _, h => exact absurd h (by decide)
    | [v], _, h => exact absurd h (by simp)
  · intro p q hm hm'
    obtain ⟨x, t, e⟩ := hS.all _ hm
    obtain ⟨y, u, e'⟩ := hS.all _ hm'
    show wpAny (model prog w) A (keyLt' oneType' p.1 q.1) (fun r s' => s' = _ ∧ r = ltSv p.1 q.1) (fun _ _ => False) _
    rw [e, e', keyLt'_oneType]
    exact oneLt_str ⟨rfl, rfl⟩
end
theorem strs_out {vs out : List Value} {ss : List Str} (hS : StrsAre vs ss) (hs : SrtO.Srtd ltSv out) (hb : SrtO.Stb ltSv out vs) : StrsAre out (out.map strOf) ∧ (out.map strOf).Perm ss := by
  refine ⟨strsAre_map out fun v hv => hS.all v (hb.perm.mem_iff.mp hv), ?_⟩
  have q := hb.perm.map strOf
  rw [hS.strs] at q
  exact q
section
variable {X : Cx}
theorem strs_back : ∀ {ns : List Str} {us : List Value}, Vals (ns.map V.str) us → StrsAre us ns
  | [], _, .nil => .nil
  | n :: ns, _, .cons r t => by
    obtain ⟨k, rfl⟩ := r
    exact .cons n k (strs_back t)
theorem strs_forth : ∀ {ns : List Str} {us : List Value}, StrsAre us ns → Vals (ns.map V.str) us
  | _, _, .nil => .nil
  | _, _, .cons n k t => .cons ⟨k, rfl⟩ (strs_forth t)
def rSortTS (K : PySem.W.Frag) : List V → Hp → VK → Prop := fun vs H Q => ∃ (a : Addr) (ns : List Str), vs = [V.ref a] ∧ SqT K H a (strV ns) ∧
  ∀ (ms : List Str) (p : Addr), ms.Perm ns → H p = none → Q (.ref p) (upd H p (.lst (strV ms)))
theorem cr_sortTS : CallR X (.builtin "sorted") (rSortTS X.K) := by
  intro pins s σ H vs us Q I r h
  obtain ⟨a, ns, rfl, hs, q⟩ := h
  obtain ⟨its, rv, pt, hz⟩ := I.tuple hs
  rw [Vals.ref1 r]
  have hi := strs_back rv
  have hl := rv.length
  unfold strV at hl hz
  rw [List.length_map] at hl hz
  refine sorted_tup swo_strs (show s.heap.IsTuple a its.toArray from pt) (by omega) (fun h2 g b _ => strs_sortable hi h2) fun out h1 h2 => ?_
  obtain ⟨k1, k2⟩ := strs_out hi h1 h2
  obtain ⟨ep, he⟩ := PyProof.Rows.sortedAll_at s.heap its out.toArray
  have h3 : ((out.map strOf).map V.str).length ≤ sizeLine := by
    rw [List.length_map, k2.length_eq]
    exact hz
  exact ⟨.ref _, upd H (s.heap.objs.size + 1) (.lst ((out.map strOf).map V.str)),
    I.laid (t' := s.toks) (fun _ _ => PyProof.Rows.sortedAll_old) (Nat.le_succ _) ⟨h3, out, ep, strs_forth k1, he⟩, rfl, q _ _ k2 (I.hok.fresh (Nat.le_succ _))⟩
end
end RG
end RGz
section RLa
/-! sorted(xs, key=lambda x: x[0]) -/
namespace RG
open PySem PySem.Spec PyProof.Rows L2
def lamBody (x : Str) (k : Nat) (p1 p2 p3 : Pos) : Expr := .Subscript (.Name x p1) (.Constant (.int 0) k p2) p3
structure LamOk (scope : Scope) (x : Str) : Prop where
  kind : scope.kind = .function
  co : scope.isCoroutine = false
  gen : scope.isGenerator = false
  loc : scope.names.lookup x = some .local
  cell : ∀ y ∈ scope.names, y.2 ≠ .cell
section
variable {prog : Program} {w : World} {A : Around} {s : Shared}
theorem lam_first {f c' t : Addr} {q x z : Str} {params : Arguments} {scope : Scope} {pm ctv : Value} {k : Nat} {p1 p2 p3 : Pos} {tk : Tok} {rest : List Value} {cl : List (Str × Addr)} (L : LamOk scope x) (hd : (x == ("__debug__" : Str)) = false)
    (hroom : A.depth < recursionLimit) (hN : s.heap.NoLimit) (ho : s.heap.get? f = some (PySem.W.kla_obj "<lambda>" q params (lamBody x k p1 p2 p3) scope cl pm c' ctv)) (hcd : s.heap.CodeRec (.ref c') q)
    (hb : bindArgs (PySem.W.kla_fn "<lambda>" q params (lamBody x k p1 p2 p3) scope cl pm (.ref c') ctv) ⟨[.ref t], []⟩ = pure [(x, .ref t)]) (hT : s.heap.IsTuple t (Value.str z tk :: rest).toArray) :
    wpAny (model prog w) A (call (.ref f) [.ref t]) (PySem.W.KeyPure (.str z) s) (fun _ _ => False) s := by
  refine wpAny_call ?_
  refine PySem.W.kla_callFunE hroom ho rfl L.co L.gen rfl hcd ?_
  rw [hb]
  refine wpAny_pure (wpAny_newFunctionEnv L.cell (fun y hy => ?_) (fun h₁ hns hsb => ⟨?_, ?_⟩) L.kind)
  · rw [List.mem_singleton] at hy
    rw [hy]
    exact L.loc
  · exact hN.fresh _ hsb
  · refine PySem.W.kla_codeExpr ?_
    have keep : ∀ b o, s.heap.get? b = some o → h₁.get? b = some o := fun b o e => hsb.extBut b o (Nat.ne_of_lt (Heap.lt_size e)) (Heap.get?_push_of_some _ e)
    refine Subscript_Constant ?_
    refine wpAny_Name (wpAny_loadName_local (v := .ref t) L.kind L.loc hns (by simp [List.lookup]) ?_) hd
    refine wpAny_Constant_int ?_
    have hT1 : h₁.IsTuple t (Value.str z tk :: rest).toArray := by
      obtain ⟨o, e1, e2⟩ := hT
      exact ⟨o, keep t o e1, e2⟩
    refine ⟨"tuple", _, PyProof.Rows.slot_tuple_getitem.lookup, hT1.typeIs, ?_⟩
    refine PyProof.Rows.getItem_tuple (j := 0) (x := .str z tk) hT1 (by decide) (by decide) ?_ (by simp) ?_
    · simp [seqIndex?]
    · exact ⟨_, _, rfl, keep, .str z tk⟩
end

/-- tuples whose first thing is a text: the texts and where they are -/
def Fsts (K : PySem.W.Frag) (H : Hp) (bs : List (Str × Addr)) : Prop := ∀ b ∈ bs, ∃ rest, SqT K H b.2 (.str b.1 :: rest)
def leS (a b : Str × Addr) : Bool := decide (a.1.cps.toList ≤ b.1.cps.toList)
def tSortK (K : PySem.W.Frag) (P : Addr) (q : Str) (te : TE) : TE := fun σ H Q => te σ H fun x H1 => ∃ (a : Addr) (bs : List (Str × Addr)), x = .ref a ∧ SqL K H1 a (bs.map fun b => V.ref b.2) ∧ Fsts K H1 bs ∧ bs.length ≤ 1000 ∧ LamX.TabS H1 P q ∧
  ∀ (p : Addr) (H2 : Hp), LamX.ExtN H1 H2 → LamX.TabS H2 P q → (∀ o, H1 p = some o → ∃ ps, o = .tbl ps) → H2 p = some (.lst ((bs.mergeSort leS).map fun b => V.ref b.2)) → Q (.ref p) H2
theorem vals_refs : ∀ {bs : List (Str × Addr)} {us : List Value}, Vals (bs.map fun b => V.ref b.2) us → us = bs.map fun b => Value.ref b.2
  | [], _, .nil => rfl
  | b :: bs, _, .cons r t => by
    cases r
    rw [vals_refs t]
    rfl
theorem refs_vals : ∀ bs : List (Str × Addr), Vals (bs.map fun b => V.ref b.2) (bs.map fun b => Value.ref b.2)
  | [] => .nil
  | b :: bs => .cons rfl (refs_vals bs)
theorem eachIs_map {β : Type} {R : Value → β → Prop} {f : β → Value} : ∀ {bs : List β}, (∀ b ∈ bs, R (f b) b) → PySem.W.EachIs R (bs.map f) bs
  | [], _ => .nil
  | b :: bs, h => .cons (h b List.mem_cons_self) (eachIs_map fun c hc => h c (List.mem_cons_of_mem _ hc))
theorem eachIs_eq {β : Type} {f : β → Value} {R : Value → β → Prop} (hR : ∀ v b, R v b → v = f b) : ∀ {vs : List Value} {bs : List β}, PySem.W.EachIs R vs bs → vs = bs.map f
  | _, _, .nil => rfl
  | _, _, .cons h t => by
    rw [hR _ _ h, eachIs_eq hR t]
    rfl
theorem nt_lst {xs : List V} (ps : Array Value) : HO.lst xs ≠ .tbl ps := fun z => by cases z
theorem nt_tup {xs : List V} (ps : Array Value) : HO.tup xs ≠ .tbl ps := fun z => by cases z
theorem nt_frz {o : Obj} {u : HO} (ps : Array Value) : HO.frz o u ≠ .tbl ps := fun z => by cases z
theorem sql_n {K : PySem.W.Frag} {H G : Hp} {a : Addr} {xs : List V} (e : LamX.ExtN H G) (h : SqL K H a xs) : SqL K G a xs :=
  h.imp (fun z => z.imp (fun z => e _ _ z nt_lst) fun ⟨o, z⟩ => ⟨o, e _ _ z nt_frz⟩) id
theorem sqt_n {K : PySem.W.Frag} {H G : Hp} {a : Addr} {xs : List V} (e : LamX.ExtN H G) (h : SqT K H a xs) : SqT K G a xs :=
  h.imp (fun z => z.imp (fun z => e _ _ z nt_tup) fun ⟨o, z⟩ => ⟨o, e _ _ z nt_frz⟩) id
section
variable {X : Cx}
theorem pe_sortK {e : Expr} {te : TE} {c P : Addr} {x : Str} {k : Nat} {p p1 p2 p3 pos kpos lpos : Pos} {params : Arguments} {scope : Scope} (hg : Gl X "sorted") (hm : X.mg "sorted" = none) (he : PE X e te) (TB : LamX.TabB X.base X.mg c P) (hcode : X.env.code = .ref c) (hdef : defaultsOf params X.env = ([], []))
    (L : LamOk scope x) (hfree : ∀ y ∈ scope.names, y.2 ≠ .free) (hd : (x == ("__debug__" : Str)) = false) (hr : Room 2 X.A)
    (hb : ∀ (q : Str) (cl : List (Str × Addr)) (pm cv ctv u : Value), bindArgs (PySem.W.kla_fn "<lambda>" q params (lamBody x k p1 p2 p3) scope cl pm cv ctv) ⟨[u], []⟩ = pure [(x, u)])
    (h1 : backTo pos (starEach [e] X.env) = (false, eval e X.env) :: backTo pos (starEach [] X.env) := by rfl) (h2 : (backTo pos (starEach [e] X.env)).any (·.1) = false := by rfl) :
    PE X (.Call (.Name "sorted" p) [e] [⟨some "key", .Lambda params (lamBody x k p1 p2 p3) scope lpos, kpos⟩] pos) (tSortK X.K P (X.env.qual ++ "<lambda>") te) := by
  refine ⟨fun pins s σ H Q I h => ?_⟩
  refine wpAny_Call_Name_kw (ld_blt I hg hm PyProof.Rows.Boot.«sorted» ?_)
  refine PyProof.Rows.callWith_kw ?_ h1 h2
  rw [h1]
  refine Calls.spliced_cons (thn (he.run pins s σ H _ I h) fun v s1 ⟨v', H1, I1, r1, a, bs, ev, hs, hf, hl, hT, q⟩ => Calls.spliced_nil ?_)
  subst ev
  cases r1
  show wpAny _ _ (evalAll ((do let v ← eval (.Lambda params (lamBody x k p1 p2 p3) scope lpos) X.env; standAt pos; pure v) :: [])) _ _ _
  refine wpAny_evalAll_cons (wpAny_bind (LamX.lam_make2 (T := [(P, X.env.qual ++ "<lambda>")]) I1 TB hcode List.mem_cons_self (fun p hp _ => ?_) (fun p hp => ?_) hdef (fun y hy e => absurd e (hfree y hy)) fun f c' pm ctv H2 s2 I2 eN T2 hfo hfn hfr hco => wpAny_bind (wpAny_standAt (wpAny_pure (wpAny_evalAll_nil ?_)))))
  · rw [List.mem_singleton] at hp
    rw [hp]
  · rw [List.mem_singleton] at hp
    rw [hp]
    exact hT
  · have hs2 := sql_n eN hs
    obtain ⟨its, rv, pl, hz⟩ := I2.list hs2
    have eits := vals_refs rv
    subst eits
    have hk : X.A.units + 2 < cLine := by have := hr.un; omega
    refine PySem.W.sorted_key_data (b := false) (β := Str × Addr) (R := fun v b => v = .ref b.2 ∧ b ∈ bs) (fun b => .str b.1) pl.isList (eachIs_map fun b hb => ⟨rfl, hb⟩) (PySem.W.AllAlike.of fun _ _ => rfl) (PySem.W.Sortable.others fun _ => ⟨fun z => (by cases z), fun xs z => (by cases z)⟩) (Nat.le_trans hl (by decide)) (fun b _ => hk) (ksk_s1 _ _) (fun _ => ksk_l1 _ _) (fun _ => ksk_t1 _ _) (fun v b ⟨ev, hbm⟩ _ h tk kp => ?_) fun out cc h' tk kp fresh hD hlen eo => ?_
    · subst ev
      obtain ⟨rest, ht⟩ := hf b hbm
      obtain ⟨its2, rv2, pt, hz2⟩ := I2.tuple (sqt_n eN ht)
      cases rv2 with
      | @cons _ u0 _ us r0 rr =>
        obtain ⟨t0, rfl⟩ := r0
        obtain ⟨oc, vs, tq, e1, e2, e3⟩ : ∃ (oc : Obj) (vs : Array Value) (t : Tok), s2.heap.get? c' = some oc ∧ oc.data = .fields vs ∧ vs[1]? = some (.str (X.env.qual ++ "<lambda>") t) := by
          have x : ObjOk X.prog X.w H2 s2.heap c' (LamX.CodeO c' (X.env.qual ++ "<lambda>")) := I2.hok c' _ hco
          exact x.1
        have pt2 : h.IsTuple b.2 (Value.str b.1 t0 :: us).toArray := by
          obtain ⟨o, q1, q2⟩ := (show s2.heap.IsTuple b.2 (Value.str b.1 t0 :: us).toArray from pt)
          exact ⟨o, kp _ _ q1, q2⟩
        have hdp : X.A.in1.in1.depth < recursionLimit := by have := hr.in1.in1.dp; omega
        refine lam_first (s := { s2 with heap := h, toks := tk }) L hd hdp (I2.nolimit.keeps kp) (kp _ _ hfo) ⟨c', oc, vs, tq, rfl, kp _ _ e1, e2, e3⟩ (hb _ _ _ _ _ _) pt2
    · have hk2 : PySem.W.dataLe false (fun b : Str × Addr => PyData.str b.1) = leS := PySem.W.dataLe_str (fun b : Str × Addr => b.1)
      rw [hk2] at eo
      have eout := eachIs_eq (f := fun b : Str × Addr => Value.ref b.2) (fun v b h => h.1) eo
      have n2 : H2 (s2.heap.objs.size + 1) = none := I2.hok.fresh (Nat.le_succ _)
      have n1 : ∀ o, H1 (s2.heap.objs.size + 1) = some o → ∃ ps, o = .tbl ps := fun o z => by
        refine Classical.byContradiction fun no => ?_
        have z2 := eN _ o z fun ps e => no ⟨ps, e⟩
        rw [n2] at z2
        cases z2
      have hlen2 : ((bs.mergeSort leS).map fun b => V.ref b.2).length ≤ sizeLine := by
        rw [List.length_map, List.length_mergeSort]
        exact Nat.le_trans hl (by decide)
      refine ⟨.ref _, upd H2 (s2.heap.objs.size + 1) (.lst ((bs.mergeSort leS).map fun b => V.ref b.2)), I2.laid (t' := tk) kp (Nat.le_succ _) ⟨hlen2, out, cc, by rw [eout]; exact refs_vals _, hD⟩, rfl, q _ _ ?_ ?_ n1 upd_same⟩
      · exact fun b o z n => by
          have z2 := eN b o z n
          rw [upd_ne (ne_of_none z2 n2)]
          exact z2
      · exact (T2 _ List.mem_cons_self).ext fun b o z => by
          rw [upd_ne (ne_of_none z n2)]
          exact z
end
end RG
end RLa
section RLb
/-! the walk to the statement where a def makes a lambda: one table of code objects -/
namespace RG
open PySem PySem.Spec PyProof.Rows L2
theorem top_tab {P : Program} {w : World} {K : PySem.W.Frag} {mg mb : Str → Option Value} {k : Nat} {fa a c T : Addr} {fd : FuncData} {x : Str} {sp : Sp} {s : Shared} {H : Hp} {xs : List V} {vs : List Value}
    (inn : K.In s.heap) (g1 : s.heap.Ns mainGlobals mg) (g2 : s.heap.Ns builtinsNs mb) (g3 : ∀ y : Str, y ≠ "__name__" → mb y = bootBuiltins y) (lim : s.heap.NoLimit) (hg : s.gens = #[])
    (bm : ∃ (q : Addr) (ob : Obj), mg "__builtins__" = some (.ref q) ∧ q ≠ builtinsNs ∧ s.heap.get? q = some ob ∧ ob.cls = .type "module" ∧ ob.dict = some builtinsNs ∧ ob.data = .plain)
    (ho : s.heap.get? a = some { cls := .type "list", data := .seq vs.toArray }) (hr : Room k callerA) (tT : s.heap.get? T = some { cls := .none, data := .fields #[] }) (nT : K.lookup T = none) (C : PySem.W.CodeHd s.heap c T)
    (F : ∀ base : Heap, K.In base → base.Ns mainGlobals mg → LamX.TabB base mg c T → FnG P w K mg base CX0 k fa fd [x] sp) (hb : ∀ (s : Shared) (u : Value), BindsTo s fd ⟨[u], []⟩ [(x, u)])
    (hT : H T = some (.tbl #[])) (hH : ∀ b, b ≠ T → H b = none ∨ (b = a ∧ H b = some (.frz { cls := .type "list", data := .seq vs.toArray } (.lst xs)) ∧ K.lookup a = none)) (ok : HOk P w H s.heap) (hsp : sp [.ref a] H (fun v _ => v = .bl true) fun _ _ _ => False) :
    codeAny (model P w) callerA (.call (.ref fa) ⟨[.ref a], []⟩) (fun r s' => r = .ok (.ret (.bool true)) ∧ OldK s.heap s'.heap ∧ s'.os = s.os ∧ AllBare s'.gens) s := by
  have off : ∀ {b : Addr} {o : Obj}, s.heap.get? b = some o → (∀ zs n, o.data ≠ .seq zs n) → o.data ≠ .fields #[] → H b = none := by
    intro b o e n1 n2
    by_cases hbT : b = T
    · subst hbT
      rw [tT] at e
      cases e
      exact absurd rfl n2
    · rcases hH b hbT with z | ⟨rfl, _, _⟩
      · exact z
      · rw [ho] at e
        cases e
        exact absurd rfl (n1 _ _)
  have offD : ∀ {b : Addr} {o : Obj} {es : Array DictEntry} {ep : Nat}, s.heap.get? b = some o → o.data = .dict es ep → H b = none := by
    intro b o es ep e d
    refine off e (fun zs n z => ?_) fun z => ?_
    · rw [d] at z; cases z
    · rw [d] at z; cases z
  have ns : ∀ {b : Addr} {m : Str → Option Value}, s.heap.Ns b m → (hidT s.heap H).Ns b m := by
    rintro b m ⟨o, es, ep, q1, q2, r⟩
    exact ⟨o, es, ep, hidT_get q1 (offD q1 q2), q2, r⟩
  have kin : K.In (hidT s.heap H) := by
    intro b o e
    refine hidT_get (inn b o e) ?_
    by_cases hbT : b = T
    · rw [hbT, nT] at e
      cases e
    · rcases hH b hbT with z | ⟨rfl, _, z⟩
      · exact z
      · rw [z] at e
        cases e
  obtain ⟨mc, l1, l2⟩ := lim
  have tab : LamX.TabB (hidT s.heap H) mg c T := by
    refine ⟨?_, ?_, fun z => ?_⟩
    · obtain ⟨o, us, file, tf, flags, tg, inF, text, tt, e1, r1, r2, r3, r4, r5, r6, r7, r8, hne⟩ := C
      refine ⟨o, us, file, tf, flags, tg, inF, text, tt, hidT_get e1 (off e1 (fun zs n z => ?_) fun z => ?_), r1, r2, r3, r4, r5, r6, r7, r8, hne⟩
      · rw [r2] at z
        cases z
      · rw [r2] at z
        cases z
        simp at r3
    · obtain ⟨q, ob, b1, b2, b3, b4, b5, b6⟩ := bm
      refine ⟨q, ob, b1, b2, fun e => ?_, fun e => ?_, hidT_get b3 (off b3 (fun zs n z => ?_) fun z => ?_), b4, b5, b6⟩
      · obtain ⟨o, es, ep, y1, y2, _⟩ := g1
        rw [e, y1] at b3
        cases b3
        rw [y2] at b6
        cases b6
      · rw [e, tT] at b3
        cases b3
        cases b6
      · rw [b6] at z; cases z
      · rw [b6] at z; cases z
    · obtain ⟨o, es, ep, y1, y2, _⟩ := g1
      rw [z, tT] at y1
      cases y1
      cases y2
  have e0 : Env0 P w K mg (hidT s.heap H) callerA [] s H :=
    ⟨rfl, ⟨kin, ns g1, ⟨mb, ns g2, g3⟩, ⟨mc, ns l1, l2⟩⟩, fun b o h => of_hidT h, Nat.le_of_eq (hidT_size _ _), trivial, (fun b hb => absurd hb (by simp [frs])), ok, AllBare.of_eq hg⟩
  refine codeAny_mono ((F _ kin (ns g1) tab).runs callerA [] s H ⟨[.ref a], []⟩ [.ref a] [.ref a] _ _ hr rfl e0 (hb s (.ref a)) (.cons rfl .nil) hsp) fun r s' h => ?_
  cases r with
  | error e => exact False.elim h
  | ok fl =>
    cases fl with
    | next => exact False.elim h
    | brk => exact False.elim h
    | cont => exact False.elim h
    | ret u =>
      obtain ⟨v, G, h1, h2, un, ok2, rv, q⟩ := h
      have q2 : v = .bl true := q
      subst q2
      obtain rfl : u = Value.bool true := rv
      obtain ⟨more, zT⟩ := un.tbls T #[] hT
      have grown : s'.heap.get? T = some { cls := .none, data := .fields (#[] ++ more) } := ok2 T _ zT
      have old : ∀ b o, b ≠ T → s.heap.get? b = some o → s'.heap.get? b = some o := fun b o nb e => by
        rcases hH b nb with z | ⟨rfl, z, _⟩
        · exact un.keep b o e z (by intro y; cases y) (by simp)
        · rw [ho] at e
          cases e
          exact (ok2 b _ (un.frzs b _ _ z)).1
      refine ⟨rfl, ⟨fun b o e => ?_, fun b o e => ?_⟩, h1, h2⟩
      · by_cases nb : b = T
        · subst nb
          rw [tT] at e
          cases e
          exact .inr (.inl ⟨(C.tab tT).isCodeTable, rfl, #[], more, rfl, grown⟩)
        · exact .inl (old b o nb e)
      · by_cases nb : b = T
        · subst nb
          exact ⟨_, grown⟩
        · exact ⟨o, old b o nb e⟩
theorem walk_GT {l : PySem.W.OpenLaw} {n k : Nat} {q : Program} {loose : List Str} {XP : (Str → Option Value) → Heap → Prop} {YP : World → Heap → Prop} {d : DefRec} {sp : PySem.W.Frag → Addr → Addr → Sp} {x : Str}
    (hn : l.most = some n) (hn2 : n ≤ sizeLine) (hdf : d.params.defaults = []) (hr : Room k callerA)
    (F : ∀ (w : World) (mg : Str → Option Value) (fa : Addr) (h : Heap), YP w h → h.Ns mainGlobals mg → mg d.name = some (.ref fa) →
      ∃ (K : PySem.W.Frag) (c T : Addr) (fd : FuncData), K.In h ∧ h.get? T = some { cls := .none, data := .fields #[] } ∧ K.lookup T = none ∧ PySem.W.CodeHd h c T ∧ (∀ (s : Shared) (u : Value), BindsTo s fd ⟨[u], []⟩ [(x, u)]) ∧
        ∀ base : Heap, K.In base → base.Ns mainGlobals mg → LamX.TabB base mg c T → FnG l.prog w K mg base CX0 k fa fd [x] (sp K c T))
    (hsp : ∀ (K : PySem.W.Frag) (c T : Addr) (H : Hp) (a : Addr) (ns : List Int), ns.length ≤ n → SqL K H a (ns.map V.int) → H T = some (.tbl #[]) → sp K c T [.ref a] H (fun v _ => v = .bl true) fun _ _ _ => False) :
    PySem.W.WalkO q loose XP YP l.row.toRowW d [] (fun f vs => PySem.call f vs) := by
  refine Att.attach_call hn hdf fun w s₀ s mg mb fa o pm cd doc a vs ns G Y h1 h2 h3 hmg ha hi hl hg => ?_
  obtain ⟨K, c, T, fd, inn, tT, nT, C, hb, hF⟩ := F w mg fa _ Y G.T.g hmg
  have rv := vals_ints hi
  have len : (ns.map V.int).length ≤ sizeLine := by
    rw [List.length_map]
    exact Nat.le_trans hl hn2
  have aT : a ≠ T := fun z => by
    rw [z, tT] at ha
    cases ha
  cases e : K.lookup a with
  | none =>
    refine top_tab (xs := ns.map V.int) (H := fun b => if b = a then some (.frz { cls := .type "list", data := .seq vs.toArray } (.lst (ns.map V.int))) else if b = T then some (.tbl #[]) else none) inn G.T.g G.T.b G.T.builtins G.T.nolimit hg G.T.bmain ha hr tT nT C hF hb ((if_neg (Ne.symm aT)).trans (if_pos rfl)) (fun b nb => ?_) (fun b u z => ?_) (hsp _ _ _ _ a ns hl ?_ ((if_neg (Ne.symm aT)).trans (if_pos rfl)))
    · by_cases hba : b = a
      · exact Or.inr ⟨hba, if_pos hba, e⟩
      · exact Or.inl ((if_neg hba).trans (if_neg nb))
    · by_cases hba : b = a
      · subst hba
        have z2 := (if_pos rfl).symm.trans z
        cases z2
        exact ⟨ha, len, vs, _, rv, ha⟩
      · have z2 := (if_neg hba).symm.trans z
        by_cases hbT : b = T
        · have z3 := (if_pos hbT).symm.trans z2
          cases z3
          rw [hbT]
          exact tT
        · have z3 := (if_neg hbT).symm.trans z2
          cases z3
    · exact Or.inl (Or.inr ⟨_, if_pos rfl⟩)
  | some ob =>
    have z := inn a ob e
    rw [ha] at z
    cases z
    refine top_tab (xs := []) (H := fun b => if b = T then some (.tbl #[]) else none) inn G.T.g G.T.b G.T.builtins G.T.nolimit hg G.T.bmain ha hr tT nT C hF hb (if_pos rfl) (fun b nb => Or.inl (if_neg nb)) (fun b u z => ?_) (hsp _ _ _ _ a ns hl (Or.inr ⟨_, vs.toArray, _, e, rfl, rfl, rfl, ?_, by simpa using rv⟩) (if_pos rfl))
    · by_cases hbT : b = T
      · have z3 := (if_pos hbT).symm.trans z
        cases z3
        rw [hbT]
        exact tT
      · have z3 := (if_neg hbT).symm.trans z
        cases z3
    · rw [List.size_toArray, ← rv.length]
      exact len
end RG
end RLb
section RLc
/-! defs that methods call; heaps in which only tables of code objects change; data of tuples alone -/
namespace RG
open PySem PySem.Spec PyProof.Rows L2
structure CgO (P : Program) (w : World) (K : PySem.W.Frag) (mg : Str → Option Value) (base : Heap) (k : Nat) (x : Str) (sp : Sp) : Prop where
  ex : ∃ (f : Addr) (fd : FuncData) (ps : List Str), FnOk P w K mg base CX0 k f fd ps sp ∧ mg x = some (.ref f) ∧ PySem.W.keepIn K (.ref f) = true ∧ Binds K fd ps []
theorem CgO.g {P : Program} {w : World} {K : PySem.W.Frag} {mg : Str → Option Value} {base : Heap} {k : Nat} {x : Str} {sp : Sp} (c : CgO P w K mg base k x sp) : Cg P w K mg base k x sp := by
  obtain ⟨f, fd, ps, F, r⟩ := c.ex
  exact ⟨f, fd, ps, FnG.of F, r⟩
section
variable {X : Cx} {k j : Nat} {x : Str} {sp : Sp} {p pos : Pos} {e : Expr} {es : List Expr} {t : TA}
theorem pe_o (c : CgO X.prog X.w X.K X.mg X.base k x sp) (hr : Room j X.A) (hk : k ≤ j) (hx : Gl X x) (ha : PA X (e :: es) t)
    (h1 : (x == ("__debug__" : Str)) = false := by decide) (h2 : starEach (e :: es) X.env = (false, eval e X.env) :: starEach es X.env := by rfl) (h3 : (backTo pos (starEach es X.env)).any (·.1) = false := by rfl) :
    PE X (.Call (.Name x p) (e :: es) [] pos) (tCall sp [] E0 t) := by
  obtain ⟨f, fd, ps, F, hm, kp, b⟩ := c.ex
  exact pe_call F (hr.mono hk) hx hm kp b .nil pass0 ha h1 h2 h3
end
/-! only tables change -/
theorem rd_n {H G : Hp} {a : Addr} {kvs : List (Key × V)} (e : LamX.ExtN H G) (h : Rd H a (.dK kvs)) : Rd G a (.dK kvs) :=
  h.imp (fun z => e _ _ z fun ps q => by cases q) fun ⟨o, z⟩ => ⟨o, e _ _ z nt_frz⟩
mutual
theorem Dd.n {K : PySem.W.Frag} {H G : Hp} (e : LamX.ExtN H G) : ∀ {v : V} {d : PyData}, Dd K H v d → Dd K G v d
  | _, _, .non => .non
  | _, _, .bl b => .bl b
  | _, _, .int i => .int i
  | _, _, .str x => .str x
  | _, _, .lst h t => .lst (sql_n e h) (DdAll.n e t)
  | _, _, .tup h t => .tup (sqt_n e h) (DdAll.n e t)
  | _, _, .dct h n t => .dct (rd_n e h) n (DdKv.n e t)
theorem DdAll.n {K : PySem.W.Frag} {H G : Hp} (e : LamX.ExtN H G) : ∀ {vs : List V} {ds : List PyData}, DdAll K H vs ds → DdAll K G vs ds
  | _, _, .nil => .nil
  | _, _, .cons h t => .cons (Dd.n e h) (DdAll.n e t)
theorem DdKv.n {K : PySem.W.Frag} {H G : Hp} (e : LamX.ExtN H G) : ∀ {kvs : List (Key × V)} {ds : List (PyData × PyData)}, DdKv K H kvs ds → DdKv K G kvs ds
  | _, _, .nil => .nil
  | _, _, .cons h t => .cons (Dd.n e h) (DdKv.n e t)
end
theorem extN_same {H G : Hp} (e : Same H G) : LamX.ExtN H G := fun b o z _ => e b o z
theorem pen_n {H G : Hp} {i : PenI} {B : Nat} (e : LamX.ExtN H G) (h : Pen H i B) : Pen G i B := by
  obtain ⟨t, r, h1, h2, h3⟩ := h.ex
  exact ⟨t, r, e _ _ h1 fun ps q => (by cases q), e _ _ h2 nt_lst, h3⟩
/-! all but one dict stays -/
theorem sql_d {K : PySem.W.Frag} {p : Addr} {H G : Hp} {a : Addr} {xs : List V} {kvs : List (Key × V)} (e : Kb p H G) (hp : H p = some (.dK kvs)) (h : SqL K H a xs) : SqL K G a xs :=
  h.imp (fun z => z.imp (fun z => e _ _ z fun q => by rw [q, hp] at z; cases z) fun ⟨o, z⟩ => ⟨o, e _ _ z fun q => by rw [q, hp] at z; cases z⟩) id
theorem sqt_d {K : PySem.W.Frag} {p : Addr} {H G : Hp} {a : Addr} {xs : List V} {kvs : List (Key × V)} (e : Kb p H G) (hp : H p = some (.dK kvs)) (h : SqT K H a xs) : SqT K G a xs :=
  h.imp (fun z => z.imp (fun z => e _ _ z fun q => by rw [q, hp] at z; cases z) fun ⟨o, z⟩ => ⟨o, e _ _ z fun q => by rw [q, hp] at z; cases z⟩) id
/-! data of tuples, numbers and texts alone -/
mutual
def flatT : PyData → Bool
  | .none | .bool _ | .int _ | .str _ => true
  | .tuple ds => flatTs ds
  | _ => false
def flatTs : List PyData → Bool
  | [] => true
  | d :: ds => flatT d && flatTs ds
end
mutual
theorem Dd.d {K : PySem.W.Frag} {p : Addr} {H G : Hp} {kvs : List (Key × V)} (e : Kb p H G) (hp : H p = some (.dK kvs)) : ∀ {v : V} {d : PyData}, Dd K H v d → flatT d = true → Dd K G v d
  | _, _, .non, _ => .non
  | _, _, .bl b, _ => .bl b
  | _, _, .int i, _ => .int i
  | _, _, .str x, _ => .str x
  | _, _, .lst h t, f => by cases f
  | _, _, .tup h t, f => .tup (sqt_d e hp h) (DdAll.d e hp t f)
  | _, _, .dct h n t, f => by cases f
theorem DdAll.d {K : PySem.W.Frag} {p : Addr} {H G : Hp} {kvs : List (Key × V)} (e : Kb p H G) (hp : H p = some (.dK kvs)) : ∀ {vs : List V} {ds : List PyData}, DdAll K H vs ds → flatTs ds = true → DdAll K G vs ds
  | _, _, .nil, _ => .nil
  | _, _, .cons h t, f => by
    simp only [flatTs, Bool.and_eq_true] at f
    exact .cons (Dd.d e hp h f.1) (DdAll.d e hp t f.2)
end
end RG
end RLc
section RLd
/-! comprehensions whose items are new objects -/
namespace RG
open PySem PySem.Spec PyProof.Rows L2
/-- what stands at the refs, none of them at D -/
def RefsAt (D : Addr) (G : Hp) (ys : List V) (os : List HO) : Prop := Paired (fun y o => ∃ t, y = V.ref t ∧ t ≠ D ∧ G t = some o) ys os
theorem RefsAt.mono {D : Addr} {H G : Hp} {ys : List V} {os : List HO} (e : ∀ t o, t ≠ D → H t = some o → G t = some o) (h : RefsAt D H ys os) : RefsAt D G ys os :=
  Paired.mapP h fun _ _ ⟨t, a, b, c⟩ => ⟨t, a, b, e t _ b c⟩
theorem refs_step {te : TE} {j : Nat} {σ : L2.St} {H G : Hp} {D : Addr} {x : V} {o : HO} {os : List HO} {i : Nat} {Pn : Hp → Prop} (hD : H D = none) (hz : os.length < sizeLine) (ho : os[i]? = some o)
    (e : Same H G) (ys : List V) (g1 : G D = some (.lst ys)) (g2 : RefsAt D G ys (os.take i))
    (h : ∀ Q : VK, (∀ t G', G t = none → Same G G' → G' t = some o → Q (.ref t) G') → te ((σ.set j none).set j (some x)) G Q)
    (n : ∀ G' zs, Same H G' → G' D = some (.lst zs) → RefsAt D G' zs (os.take (i + 1)) → Pn G') :
    gName j x (wipe σ [j]) G fun σ2 H2 => wipe σ2 [j] = wipe σ [j] ∧ tYes σ2 H2 fun b H3 =>
      if b = true then te σ2 H3 fun y H4 => ∃ acc, H4 D = some (.lst acc) ∧ acc.length < sizeLine ∧ Pn (upd H4 D (.lst (acc ++ [y]))) else Pn H3 := by
  refine ⟨?_, ?_⟩
  · show ((σ.set j none).set j (some x)).set j none = σ.set j none
    rw [List.set_set, List.set_set]
  · show (if true = true then (te ((σ.set j none).set j (some x)) G fun y H4 => ∃ acc, H4 D = some (.lst acc) ∧ acc.length < sizeLine ∧ Pn (upd H4 D (.lst (acc ++ [y])))) else Pn G)
    rw [if_pos rfl]
    have yl := paired_len g2
    rw [List.length_take] at yl
    refine h _ fun t G' ht e2 gt => ⟨ys, e2 _ _ g1, by omega, ?_⟩
    have nt : t ≠ D := fun q => by rw [q, g1] at ht; cases ht
    refine n _ (ys ++ [.ref t]) (same_mut (e.trans e2) hD) upd_same ?_
    rw [← take_snoc ho]
    have q : RefsAt D (upd G' D (.lst (ys ++ [V.ref t]))) ys (os.take i) := RefsAt.mono (fun b o nb z => by rw [upd_ne nb]; exact e2 _ _ z) g2
    exact Paired.snoc q ⟨t, rfl, nt, by rw [upd_ne nt]; exact gt⟩
/-- [e for x in xs], each e a new object -/
theorem comp_refsL {K : PySem.W.Frag} {a D : Addr} {xs : List V} {os : List HO} {te : TE} {j : Nat} {σ : L2.St} {H : Hp} {Qd : Hp → Prop} (hD : H D = none) (ha : SqL K H a xs) (hl : os.length = xs.length) (hz : xs.length < sizeLine)
    (each : ∀ (i : Nat) (x : V) (o : HO), xs[i]? = some x → os[i]? = some o → ∀ G, Same H G → ∀ Q : VK, (∀ t G', G t = none → Same G G' → G' t = some o → Q (.ref t) G') → te ((σ.set j none).set j (some x)) G Q)
    (done : ∀ G ys, Same H G → G D = some (.lst ys) → RefsAt D G ys os → Qd G) :
    ∃ W : Nat → Nat → Hp → Prop, (∃ m, W 0 m (upd H D (.lst []))) ∧ ∀ i m G, W i m G →
      ((Itl K a).stop i G ∧ Qd G) ∨ ((Itl K a).go i G ∧ ∃ Nx : Hp → Prop, (∀ H', Nx H' → ∃ m', m' < m ∧ W (i + 1) m' H') ∧ ∀ x H', (Itl K a).yld i G x H' → gName j x (wipe σ [j]) H' fun σ2 H2 => wipe σ2 [j] = wipe σ [j] ∧ tYes σ2 H2 fun b H3 =>
        if b = true then te σ2 H3 fun y H4 => ∃ acc, H4 D = some (.lst acc) ∧ acc.length < sizeLine ∧ Nx (upd H4 D (.lst (acc ++ [y]))) else Nx H3) := by
  refine lc_list (xs := xs) (fun i G => Same H G ∧ ∃ ys, G D = some (.lst ys) ∧ RefsAt D G ys (os.take i)) ⟨same_new hD, [], upd_same, .nil⟩ (fun i G _ h => sql_same h.1 ha) (fun i x G hi h => ?_) fun G h => ?_
  · obtain ⟨e, ys, g1, g2⟩ := h
    have hlt : i < xs.length := (List.getElem?_eq_some_iff.mp hi).1
    have ho : os[i]? = some (os[i]'(by omega)) := List.getElem?_eq_getElem _
    exact refs_step hD (by omega) ho e ys g1 g2 (each i x _ hi ho G e) fun G' zs e2 h1 h2 => ⟨e2, zs, h1, h2⟩
  · obtain ⟨e, ys, g1, g2⟩ := h
    rw [← hl, List.take_length] at g2
    exact done G ys e g1 g2
theorem comp_refsT {K : PySem.W.Frag} {a D : Addr} {xs : List V} {os : List HO} {te : TE} {j : Nat} {σ : L2.St} {H : Hp} {Qd : Hp → Prop} (hD : H D = none) (ha : SqT K H a xs) (hl : os.length = xs.length) (hz : xs.length < sizeLine)
    (each : ∀ (i : Nat) (x : V) (o : HO), xs[i]? = some x → os[i]? = some o → ∀ G, Same H G → ∀ Q : VK, (∀ t G', G t = none → Same G G' → G' t = some o → Q (.ref t) G') → te ((σ.set j none).set j (some x)) G Q)
    (done : ∀ G ys, Same H G → G D = some (.lst ys) → RefsAt D G ys os → Qd G) :
    ∃ W : Nat → Nat → Hp → Prop, (∃ m, W 0 m (upd H D (.lst []))) ∧ ∀ i m G, W i m G →
      ((Itt K a).stop i G ∧ Qd G) ∨ ((Itt K a).go i G ∧ ∃ Nx : Hp → Prop, (∀ H', Nx H' → ∃ m', m' < m ∧ W (i + 1) m' H') ∧ ∀ x H', (Itt K a).yld i G x H' → gName j x (wipe σ [j]) H' fun σ2 H2 => wipe σ2 [j] = wipe σ [j] ∧ tYes σ2 H2 fun b H3 =>
        if b = true then te σ2 H3 fun y H4 => ∃ acc, H4 D = some (.lst acc) ∧ acc.length < sizeLine ∧ Nx (upd H4 D (.lst (acc ++ [y]))) else Nx H3) := by
  refine lc_tup (xs := xs) (fun i G => Same H G ∧ ∃ ys, G D = some (.lst ys) ∧ RefsAt D G ys (os.take i)) ⟨same_new hD, [], upd_same, .nil⟩ (fun i G _ h => sqt_same h.1 ha) (fun i x G hi h => ?_) fun G h => ?_
  · obtain ⟨e, ys, g1, g2⟩ := h
    have hlt : i < xs.length := (List.getElem?_eq_some_iff.mp hi).1
    have ho : os[i]? = some (os[i]'(by omega)) := List.getElem?_eq_getElem _
    exact refs_step hD (by omega) ho e ys g1 g2 (each i x _ hi ho G e) fun G' zs e2 h1 h2 => ⟨e2, zs, h1, h2⟩
  · obtain ⟨e, ys, g1, g2⟩ := h
    rw [← hl, List.take_length] at g2
    exact done G ys e g1 g2
/-- [e for x in a], a a list or a tuple, each e a new object -/
theorem tLc_refs {K : PySem.W.Frag} {a : Addr} {xs : List V} {os : List HO} {te : TE} {i j : Nat} {σ : L2.St} {H : Hp} {Q : VK} (hv : σ[i]? = some (some (.ref a))) (ha : SqL K H a xs ∨ SqT K H a xs) (hl : os.length = xs.length) (hz : xs.length < sizeLine)
    (each : ∀ (i : Nat) (x : V) (o : HO), xs[i]? = some x → os[i]? = some o → ∀ G, Same H G → ∀ Q : VK, (∀ t G', G t = none → Same G G' → G' t = some o → Q (.ref t) G') → te ((σ.set j none).set j (some x)) G Q)
    (done : ∀ D G ys, Same H G → G D = some (.lst ys) → RefsAt D G ys os → Q (.ref D) G) : tLc (fun σ H R => iList K (tVar i) σ H R ∨ iTup K (tVar i) σ H R) (gName j) tYes te [j] σ H Q := by
  rcases ha with ha | ha
  · exact .inl ⟨_, hv, a, rfl, ⟨_, ha⟩, fun D hD => comp_refsL (K := K) (os := os) hD ha hl hz each (done D)⟩
  · exact .inr ⟨_, hv, a, rfl, ⟨_, ha⟩, fun D hD => comp_refsT (K := K) (os := os) hD ha hl hz each (done D)⟩
/-- [e for x in a], a a list or a tuple, each e a value that is told -/
theorem tLc_vals {K : PySem.W.Frag} {a : Addr} {xs ys : List V} {te : TE} {i j : Nat} {σ : L2.St} {H : Hp} {Q : VK} (hv : σ[i]? = some (some (.ref a))) (ha : SqL K H a xs ∨ SqT K H a xs) (hl : ys.length = xs.length) (hz : xs.length < sizeLine)
    (each : ∀ (i : Nat) (x y : V), xs[i]? = some x → ys[i]? = some y → ∀ G, Same H G → ∀ Q : VK, (∀ G', Same G G' → Q y G') → te ((σ.set j none).set j (some x)) G Q)
    (done : ∀ D G, H D = none → Same H G → G D = some (.lst ys) → Q (.ref D) G) : tLc (fun σ H R => iList K (tVar i) σ H R ∨ iTup K (tVar i) σ H R) (gName j) tYes te [j] σ H Q := by
  rcases ha with ha | ha
  · exact .inl ⟨_, hv, a, rfl, ⟨_, ha⟩, fun D hD => comp_list (K := K) (ys := ys) hD ha hl hz each (fun G => done D G hD)⟩
  · exact .inr ⟨_, hv, a, rfl, ⟨_, ha⟩, fun D hD => comp_tup (K := K) (ys := ys) hD ha hl hz each (fun G => done D G hD)⟩
/-! all but one instance stays -/
theorem sql_x {K : PySem.W.Frag} {p C dx : Addr} {fs : List (Str × V)} {H G : Hp} {a : Addr} {xs : List V} (e : Kb p H G) (hp : H p = some (.ins C dx fs)) (h : SqL K H a xs) : SqL K G a xs :=
  h.imp (fun z => z.imp (fun z => e _ _ z fun q => by rw [q, hp] at z; cases z) fun ⟨o, z⟩ => ⟨o, e _ _ z fun q => by rw [q, hp] at z; cases z⟩) id
theorem sqt_x {K : PySem.W.Frag} {p C dx : Addr} {fs : List (Str × V)} {H G : Hp} {a : Addr} {xs : List V} (e : Kb p H G) (hp : H p = some (.ins C dx fs)) (h : SqT K H a xs) : SqT K G a xs :=
  h.imp (fun z => z.imp (fun z => e _ _ z fun q => by rw [q, hp] at z; cases z) fun ⟨o, z⟩ => ⟨o, e _ _ z fun q => by rw [q, hp] at z; cases z⟩) id
theorem tabS_x {p C dx T : Addr} {fs : List (Str × V)} {H G : Hp} {q : Str} (e : Kb p H G) (hp : H p = some (.ins C dx fs)) (h : LamX.TabS H T q) : LamX.TabS G T q := by
  obtain ⟨ps, h1, h2, h3⟩ := h
  refine ⟨ps, e _ _ h1 fun z => (by rw [z, hp] at h1; cases h1), h2, fun pos cv hc => ?_⟩
  obtain ⟨c, e1, e2⟩ := h3 pos cv hc
  exact ⟨c, e1, e _ _ e2 fun z => (by rw [z, hp] at e2; cases e2)⟩
mutual
theorem Dd.x {K : PySem.W.Frag} {p C dx : Addr} {fs : List (Str × V)} {H G : Hp} (e : Kb p H G) (hp : H p = some (.ins C dx fs)) : ∀ {v : V} {d : PyData}, Dd K H v d → flatT d = true → Dd K G v d
  | _, _, .non, _ => .non
  | _, _, .bl b, _ => .bl b
  | _, _, .int i, _ => .int i
  | _, _, .str x, _ => .str x
  | _, _, .lst h t, f => by cases f
  | _, _, .tup h t, f => .tup (sqt_x e hp h) (DdAll.x e hp t f)
  | _, _, .dct h n t, f => by cases f
theorem DdAll.x {K : PySem.W.Frag} {p C dx : Addr} {fs : List (Str × V)} {H G : Hp} (e : Kb p H G) (hp : H p = some (.ins C dx fs)) : ∀ {vs : List V} {ds : List PyData}, DdAll K H vs ds → flatTs ds = true → DdAll K G vs ds
  | _, _, .nil, _ => .nil
  | _, _, .cons h t, f => by
    simp only [flatTs, Bool.and_eq_true] at f
    exact .cons (Dd.x e hp h f.1) (DdAll.x e hp t f.2)
end
end RG
end RLd
section RLe
/-! dict(zip(t, u)) of two tuples; t.index(x) of flat items -/
namespace RG
open PySem PySem.Spec PyProof.Rows L2
section
variable {prog : Program} {w : World} {A : Around} {E : Value → Shared → Prop} {s : Shared}
theorem zT_item {z TI TO T i1 i2 l1 l2 : Addr} {f : Bool} {oT : Obj} {k1 k2 : Nat} {xs ys : Array Value} {x y : Value} {Q : Value → Shared → Prop} (D : ZipApart z TI TO i1 i2 l1 l2)
    (hz : IsZipHeld s.heap z TI TO T f) (hT : s.heap.get? T = some oT) (hTI : IsPair s.heap TI (.ref i1) (.ref i2))
    (h1 : s.heap.IsTupleIter i1 l1 k1) (h2 : s.heap.IsTupleIter i2 l2 k2) (hl1 : s.heap.IsTuple l1 xs) (hl2 : s.heap.IsTuple l2 ys) (hx : xs[k1]? = some x) (hy : ys[k2]? = some y)
    (hQ : ∀ h', IsZipHeld h' z TI TO T true → h'.IsTupleIter i1 l1 (k1 + 1) → h'.IsTupleIter i2 l2 (k2 + 1) → IsPair h' s.heap.objs.size x y → h'.objs.size = s.heap.objs.size + 1 →
      (∀ c o, c ≠ z → c ≠ i1 → c ≠ i2 → s.heap.get? c = some o → h'.get? c = some o) → Q (.ref s.heap.objs.size) { s with heap := h' }) :
    wpAny (model prog w) A (Builtin.«zip.__next__» ⟨[.ref z], []⟩) (fun fin s' => ∃ v, fin = .done (.ret v) ∧ Q v s') E s := by
  show wpAny _ _ (field (.ref z) 2 >>= _) _ _ _
  refine wpAny_bind (wpAny_field hz rfl (x := .bool false) rfl ?_)
  show wpAny _ _ (field (.ref z) 3 >>= _) _ _ _
  refine wpAny_bind (wpAny_field hz rfl (x := .ref TI) rfl ?_)
  refine wpAny_bind (wpAny_seqItems hTI rfl ?_)
  show wpAny _ _ (Builtin.SmallTypes.ownedTupleIsFree (.ref z) >>= _) _ _ _
  refine wpAny_bind (wpAny_tupleHeld_zip hz hT fun g1 z1 b1 => ?_)
  simp only [Bool.false_eq_true, if_false]
  refine wpAny_bind ?_
  rw [← Array.forIn_toList]
  simp only [List.forIn_cons, List.forIn_nil]
  refine wpAny_bind (wpAny_bind (wpAny_holding ?_))
  show wpAny _ _ (Builtin.SmallTypes.nextOf (.ref i1) >>= _) _ _ _
  refine wpAny_bind (RZ.nextOf_tuple_item (s := { s with heap := g1 }) (h1.extBut b1.extBut D.i1z) (hl1.extBut b1.extBut D.l1z) hx fun g2 j1 b2 => wpAny_pure (wpAny_pure ?_))
  refine wpAny_bind (wpAny_bind (wpAny_holding ?_))
  show wpAny _ _ (Builtin.SmallTypes.nextOf (.ref i2) >>= _) _ _ _
  refine wpAny_bind (RZ.nextOf_tuple_item (s := { s with heap := g2 }) ((h2.extBut b1.extBut D.i2z).extBut b2.extBut D.i12.symm) ((hl2.extBut b1.extBut D.l2z).extBut b2.extBut D.l2i1) hy fun g3 j2 b3 => wpAny_pure (wpAny_pure (wpAny_pure ?_)))
  show wpAny _ _ (newTuple [x, y] >>= _) _ _ _
  refine wpAny_bind (wpAny_newTuple (wpAny_pure ⟨_, rfl, ?_⟩))
  have e : g3.objs.size = s.heap.objs.size := b3.1.trans (b2.1.trans b1.1)
  have p := Heap.get?_push_size g3 (o := ({ cls := .type "tuple", data := .seq #[x, y] } : Obj)) rfl
  have sz : (g3.push { cls := .type "tuple", data := .seq #[x, y] }).objs.size = g3.objs.size + 1 := Heap.size_push ..
  have up : ∀ {c o}, g3.get? c = some o → (g3.push { cls := .type "tuple", data := .seq #[x, y] }).get? c = some o := fun q => Heap.get?_push_of_some _ q
  show Q (.ref g3.objs.size) _
  rw [e] at p sz ⊢
  exact hQ _ (up (b3.extBut _ _ D.i2z.symm (b2.extBut _ _ D.i1z.symm z1))) ((j1.extBut b3.extBut D.i12).at fun o q => up q) (j2.at fun o q => up q) p sz
    fun c o c1 c2 c3 q => up (b3.extBut _ _ c3 (b2.extBut _ _ c2 (b1.extBut _ _ c1 q)))
theorem zT_end {z TI TO T i1 i2 l1 l2 : Addr} {f : Bool} {oT : Obj} {k1 k2 : Nat} {xs ys : Array Value} {Q : Fin → Shared → Prop} (hh : A.handled = none) (D : ZipApart z TI TO i1 i2 l1 l2)
    (hz : IsZipHeld s.heap z TI TO T f) (hT : s.heap.get? T = some oT) (hTI : IsPair s.heap TI (.ref i1) (.ref i2))
    (h1 : s.heap.IsTupleIter i1 l1 k1) (h2 : s.heap.IsTupleIter i2 l2 k2) (hl1 : s.heap.IsTuple l1 xs) (hl2 : s.heap.IsTuple l2 ys) (hend : xs[k1]? = none ∨ ys[k2]? = none)
    (hE : ∀ h' e, (∀ c o, c ≠ z → c ≠ i1 → c ≠ i2 → s.heap.get? c = some o → h'.get? c = some o) → (∃ o, h'.get? e = some o ∧ o.cls = .type "StopIteration") → E (.ref e) { s with heap := h' }) :
    wpAny (model prog w) A (Builtin.«zip.__next__» ⟨[.ref z], []⟩) Q E s := by
  show wpAny _ _ (field (.ref z) 2 >>= _) _ _ _
  refine wpAny_bind (wpAny_field hz rfl (x := .bool false) rfl ?_)
  show wpAny _ _ (field (.ref z) 3 >>= _) _ _ _
  refine wpAny_bind (wpAny_field hz rfl (x := .ref TI) rfl ?_)
  refine wpAny_bind (wpAny_seqItems hTI rfl ?_)
  show wpAny _ _ (Builtin.SmallTypes.ownedTupleIsFree (.ref z) >>= _) _ _ _
  refine wpAny_bind (wpAny_tupleHeld_zip hz hT fun g1 z1 b1 => ?_)
  simp only [Bool.false_eq_true, if_false]
  refine wpAny_bind ?_
  rw [← Array.forIn_toList]
  simp only [List.forIn_cons, List.forIn_nil]
  refine wpAny_bind (wpAny_bind (wpAny_holding ?_))
  show wpAny _ _ (Builtin.SmallTypes.nextOf (.ref i1) >>= _) _ _ _
  cases hx : xs[k1]? with
  | none => exact wpAny_bind (RZ.nextOf_tuple_end (s := { s with heap := g1 }) hh (h1.extBut b1.extBut D.i1z) (hl1.extBut b1.extBut D.l1z) hx fun g2 e b2 he => hE g2 e (fun c o c1 c2 _ q => b2 _ _ c2 (b1.extBut _ _ c1 q)) he)
  | some x =>
    have hy : ys[k2]? = none := hend.resolve_left fun q => by rw [hx] at q; cases q
    refine wpAny_bind (RZ.nextOf_tuple_item (s := { s with heap := g1 }) (h1.extBut b1.extBut D.i1z) (hl1.extBut b1.extBut D.l1z) hx fun g2 j1 b2 => wpAny_pure (wpAny_pure ?_))
    refine wpAny_bind (wpAny_bind (wpAny_holding ?_))
    show wpAny _ _ (Builtin.SmallTypes.nextOf (.ref i2) >>= _) _ _ _
    exact wpAny_bind (RZ.nextOf_tuple_end (s := { s with heap := g2 }) hh ((h2.extBut b1.extBut D.i2z).extBut b2.extBut D.i12.symm) ((hl2.extBut b1.extBut D.l2z).extBut b2.extBut D.l2i1) hy fun g3 e b3 he => hE g3 e (fun c o c1 c2 c3 q => b3 _ _ c3 (b2.extBut _ _ c2 (b1.extBut _ _ c1 q))) he)
theorem pyNext_zT_item {z TI TO T i1 i2 l1 l2 : Addr} {f : Bool} {oT : Obj} {k1 k2 : Nat} {xs ys : Array Value} {x y : Value} {Q : Option Value → Shared → Prop} (D : ZipApart z TI TO i1 i2 l1 l2)
    (hz : IsZipHeld s.heap z TI TO T f) (hT : s.heap.get? T = some oT) (hTI : IsPair s.heap TI (.ref i1) (.ref i2))
    (h1 : s.heap.IsTupleIter i1 l1 k1) (h2 : s.heap.IsTupleIter i2 l2 k2) (hl1 : s.heap.IsTuple l1 xs) (hl2 : s.heap.IsTuple l2 ys) (hx : xs[k1]? = some x) (hy : ys[k2]? = some y)
    (hQ : ∀ h', IsZipHeld h' z TI TO T true → h'.IsTupleIter i1 l1 (k1 + 1) → h'.IsTupleIter i2 l2 (k2 + 1) → IsPair h' s.heap.objs.size x y → h'.objs.size = s.heap.objs.size + 1 →
      (∀ c o, c ≠ z → c ≠ i1 → c ≠ i2 → s.heap.get? c = some o → h'.get? c = some o) → Q (some (.ref s.heap.objs.size)) { s with heap := h' }) :
    wpAny (model prog w) A (pyNext (.ref z)) Q E s := by
  have hTy : s.TypeIs (.ref z) "zip" := ⟨_, hz, rfl⟩
  unfold pyNext
  exact wpAny_bind (wpAny_attempt (wpAny_callSpecial?_slot (name := Str.ofString "__next__") hTy PySem.F.slot_zip_next
    (wpAny_call_entry PySem.F.slot_zip_next hTy PySem.F.entry_zip_next (zT_item D hz hT hTI h1 h2 hl1 hl2 hx hy fun h' a b c d e g => wpAny_pure (hQ h' a b c d e g)) (PySem.F.args_zip_next_1 _))))
theorem pyNext_zT_end {z TI TO T i1 i2 l1 l2 : Addr} {f : Bool} {oT : Obj} {k1 k2 : Nat} {xs ys : Array Value} {Q : Option Value → Shared → Prop} (hh : A.handled = none) (D : ZipApart z TI TO i1 i2 l1 l2)
    (hz : IsZipHeld s.heap z TI TO T f) (hT : s.heap.get? T = some oT) (hTI : IsPair s.heap TI (.ref i1) (.ref i2))
    (h1 : s.heap.IsTupleIter i1 l1 k1) (h2 : s.heap.IsTupleIter i2 l2 k2) (hl1 : s.heap.IsTuple l1 xs) (hl2 : s.heap.IsTuple l2 ys) (hend : xs[k1]? = none ∨ ys[k2]? = none)
    (hQ : ∀ h', (∀ c o, c ≠ z → c ≠ i1 → c ≠ i2 → s.heap.get? c = some o → h'.get? c = some o) → Q none { s with heap := h' }) : wpAny (model prog w) A (pyNext (.ref z)) Q E s := by
  have hTy : s.TypeIs (.ref z) "zip" := ⟨_, hz, rfl⟩
  unfold pyNext
  refine wpAny_bind (wpAny_attempt (wpAny_callSpecial?_slot (name := Str.ofString "__next__") hTy PySem.F.slot_zip_next
    (wpAny_call_entry PySem.F.slot_zip_next hTy PySem.F.entry_zip_next (zT_end hh D hz hT hTI h1 h2 hl1 hl2 hend fun h' e hk he => ?_) (PySem.F.args_zip_next_1 _))))
  obtain ⟨o, ho, hc⟩ := he
  exact wpAny_bind (wpAny_isInstance (T := "StopIteration") (b := true) ⟨o, ho, hc⟩ isSubtype_stop (wpAny_pure (hQ _ hk)))
end
section
variable {prog : Program} {w : World}
/-- zip(t, u), not begun -/
def Zip0 (z TI TO i1 i2 l1 l2 : Addr) (xs ys : Array Value) (h : Heap) : Prop := IsZip h z TI TO .none ∧ IsPair h TI (.ref i1) (.ref i2) ∧ (∃ a b, IsPair h TO a b) ∧ h.IsTupleIter i1 l1 0 ∧ h.IsTupleIter i2 l2 0 ∧ h.IsTuple l1 xs ∧ h.IsTuple l2 ys
/-- behind i turns, while a dict at d is filled -/
def ZipAt (z TI TO i1 i2 l1 l2 d : Addr) (xs ys : Array Value) (i : Nat) (h : Heap) : Prop := IsPair h TI (.ref i1) (.ref i2) ∧ h.IsTupleIter i1 l1 i ∧ h.IsTupleIter i2 l2 i ∧ h.IsTuple l1 xs ∧ h.IsTuple l2 ys ∧
  ((IsZip h z TI TO .none ∧ ∃ a b, IsPair h TO a b) ∨ ∃ T f oT, IsZipHeld h z TI TO T f ∧ h.get? T = some oT ∧ T ≠ z ∧ T ≠ i1 ∧ T ≠ i2 ∧ T ≠ d)
theorem ZipAt.keep {z TI TO i1 i2 l1 l2 d : Addr} {xs ys : Array Value} {i : Nat} {h h' : Heap} (st : ZipAt z TI TO i1 i2 l1 l2 d xs ys i h) (nd : d ∉ [z, TI, TO, i1, i2, l1, l2]) (k : ∀ b o, b ≠ d → h.get? b = some o → h'.get? b = some o) :
    ZipAt z TI TO i1 i2 l1 l2 d xs ys i h' := by
  obtain ⟨a1, a2, a3, a4, a5, a6⟩ := st
  have ne : ∀ {b : Addr}, b ∈ [z, TI, TO, i1, i2, l1, l2] → b ≠ d := fun m e => nd (e ▸ m)
  refine ⟨k _ _ (ne (by simp)) a1, a2.at fun o => k _ o (ne (by simp)), a3.at fun o => k _ o (ne (by simp)), a4.at fun o => k _ o (ne (by simp)), a5.at fun o => k _ o (ne (by simp)), ?_⟩
  rcases a6 with ⟨b1, p, q, b2⟩ | ⟨T, f, oT, b1, b2, n1, n2, n3, n4⟩
  · exact .inl ⟨k _ _ (ne (by simp)) b1, p, q, k _ _ (ne (by simp)) b2⟩
  · exact .inr ⟨T, f, oT, k _ _ (ne (by simp)) b1, k _ _ n4 b2, n1, n2, n3, n4⟩
theorem ZipAt.src {A : Around} (hA : A.handled = none) {z TI TO i1 i2 l1 l2 d : Addr} {xs ys : Array Value} (D : ZipApart z TI TO i1 i2 l1 l2) (nd : d ∉ [z, TI, TO, i1, i2, l1, l2]) :
    PairSrc prog w A z d [z, TO, i1, i2] (min xs.size ys.size) (fun i k v => xs[i]? = some k ∧ ys[i]? = some v) (ZipAt z TI TO i1 i2 l1 l2 d xs ys) where
  off := fun m => nd (by
    simp only [List.mem_cons, List.not_mem_nil, or_false] at m ⊢
    rcases m with h | h | h | h <;> simp [h])
  frame := fun i h h' st k => st.keep nd k
  item := fun i s Q E hi st hd hQ => by
    obtain ⟨a1, a2, a3, a4, a5, a6⟩ := st
    have hx := Array.getElem?_eq_getElem (xs := xs) (i := i) (by omega)
    have hy := Array.getElem?_eq_getElem (xs := ys) (i := i) (by omega)
    have new : ∀ {c : Addr} {o : Obj}, s.heap.get? c = some o → s.heap.objs.size ≠ c := fun e => Nat.ne_of_gt (Heap.lt_size e)
    obtain ⟨o1, q1, _⟩ := id a2
    obtain ⟨o2, q2, _⟩ := id a3
    have off : ∀ {c : Addr}, c ∉ [z, TO, i1, i2] → c ≠ z ∧ c ≠ TO ∧ c ≠ i1 ∧ c ≠ i2 := fun m => by
      simp only [List.mem_cons, List.not_mem_nil, or_false, not_or] at m
      exact m
    rcases a6 with ⟨b1, p, q, b2⟩ | ⟨T, f, oT, b1, b2, n1, n2, n3, n4⟩
    · refine RZ.pyNext_zipT_item D b1 a1 b2 a2 a3 a4 a5 hx hy fun h' c1 c2 c3 c4 c5 c6 k => ?_
      refine hQ s.heap.objs.size _ _ h' s.toks ⟨hx, hy⟩ (.inl ⟨_, c5, rfl, _, rfl⟩) ⟨k _ _ D.TIz D.TITO D.TIi1 D.TIi2 a1, c3, c4, a4.at fun o => k _ o D.l1z D.l1TO D.l1i1 D.l1i2, a5.at fun o => k _ o D.l2z D.l2TO D.l2i1 D.l2i2,
        .inr ⟨s.heap.objs.size, false, _, c1, c5, new b1, new q1, new q2, Nat.ne_of_gt hd⟩⟩ fun c o m e => ?_
      obtain ⟨m1, m2, m3, m4⟩ := off m
      exact k c o m1 m2 m3 m4 e
    · refine pyNext_zT_item D b1 b2 a1 a2 a3 a4 a5 hx hy fun h' c1 c3 c4 c5 c6 k => ?_
      refine hQ s.heap.objs.size _ _ h' s.toks ⟨hx, hy⟩ (.inl ⟨_, c5, rfl, _, rfl⟩) ⟨k _ _ D.TIz D.TIi1 D.TIi2 a1, c3, c4, a4.at fun o => k _ o D.l1z D.l1i1 D.l1i2, a5.at fun o => k _ o D.l2z D.l2i1 D.l2i2,
        .inr ⟨T, true, oT, c1, k _ _ n1 n2 n3 b2, n1, n2, n3, n4⟩⟩ fun c o m e => ?_
      obtain ⟨m1, _, m3, m4⟩ := off m
      exact k c o m1 m3 m4 e
  done := fun s Q E st hQ => by
    obtain ⟨a1, a2, a3, a4, a5, a6⟩ := st
    have hend : xs[min xs.size ys.size]? = none ∨ ys[min xs.size ys.size]? = none := by
      rcases Nat.le_total xs.size ys.size with h | h
      · exact .inl (Array.getElem?_eq_none (by omega))
      · exact .inr (Array.getElem?_eq_none (by omega))
    have off : ∀ {c : Addr}, c ∉ [z, TO, i1, i2] → c ≠ z ∧ c ≠ TO ∧ c ≠ i1 ∧ c ≠ i2 := fun m => by
      simp only [List.mem_cons, List.not_mem_nil, or_false, not_or] at m
      exact m
    rcases a6 with ⟨b1, p, q, b2⟩ | ⟨T, f, oT, b1, b2, n1, n2, n3, n4⟩
    · refine RZ.pyNext_zipT_end hA D b1 a1 b2 a2 a3 a4 a5 hend fun h' k => hQ h' s.toks fun c o m e => ?_
      obtain ⟨m1, m2, m3, m4⟩ := off m
      exact k c o m1 m2 m3 m4 e
    · refine pyNext_zT_end hA D b1 b2 a1 a2 a3 a4 a5 hend fun h' k => hQ h' s.toks fun c o m e => ?_
      obtain ⟨m1, _, m3, m4⟩ := off m
      exact k c o m1 m3 m4 e
theorem zip_arg (z TI TO i1 i2 l1 l2 : Addr) (D : ZipApart z TI TO i1 i2 l1 l2) (xs ys : Array Value) :
    PairArg prog w "zip" z [z, TI, TO, i1, i2, l1, l2] [z, TO, i1, i2] (min xs.size ys.size) (fun i k v => xs[i]? = some k ∧ ys[i]? = some v) (Zip0 z TI TO i1 i2 l1 l2 xs ys) where
  type := fun s ok => ⟨_, ok.1, rfl⟩
  notDict := by decide
  keep := fun h h' ok k => by
    obtain ⟨a1, a2, ⟨p, q, a3⟩, a4, a5, a6, a7⟩ := ok
    exact ⟨k _ _ a1, k _ _ a2, ⟨p, q, k _ _ a3⟩, a4.at fun o => k _ o, a5.at fun o => k _ o, a6.at fun o => k _ o, a7.at fun o => k _ o⟩
  there := fun h ok b hb => by
    obtain ⟨a1, a2, ⟨p, q, a3⟩, ⟨_, a4, _⟩, ⟨_, a5, _⟩, ⟨_, a6, _⟩, ⟨_, a7, _⟩⟩ := ok
    simp only [List.mem_cons, List.not_mem_nil, or_false] at hb
    rcases hb with rfl | rfl | rfl | rfl | rfl | rfl | rfl <;> exact ⟨_, by assumption⟩
  sub := fun b m => by
    simp only [List.mem_cons, List.not_mem_nil, or_false] at m ⊢
    rcases m with h | h | h | h <;> simp [h]
  noKeys := fun A s Q E hA ok h => getAttrOr_miss_zip ok.1 rfl rfl rfl zip_no_keys (by decide +kernel) hA h
  iter := fun A s d Q E hA ok hd nd h => by
    obtain ⟨a1, a2, ⟨p, q, a3⟩, a4, a5, a6, a7⟩ := ok
    exact wpAny_pyIter_zip a1 (h z [z, TO, i1, i2] (ZipAt z TI TO i1 i2 l1 l2 d xs ys) s.heap s.toks (ZipAt.src hA D nd) ⟨a2, a4, a5, a6, a7, .inl ⟨a1, p, q, a3⟩⟩ (fun _ _ e => e) fun b hb => .inl hb)
end
section
variable {X : Cx} {e e2 : Expr} {ta : TA} {p q pos pos2 : Pos}
/-- dict(zip(t, u)), two tuples of one length, keys numbers or texts -/
def tDictZip (K : PySem.W.Frag) (ta : TA) : TE := fun σ H Q => ta σ H fun vs H1 => ∃ (a b : Addr) (ks : List Key) (ys : List V), vs = [.ref a, .ref b] ∧ SqT K H1 a (ks.map kV) ∧ SqT K H1 b ys ∧ ks.length = ys.length ∧
  ∀ d, H1 d = none → Q (.ref d) (upd H1 d (.dK (mergeK [] (ks.zip ys))))
theorem keyIs_of {k : Key} {u : Value} (r : RelV (kV k) u) : keyIs k u = true := by
  cases k with
  | inl i =>
    obtain ⟨t, rfl⟩ := r
    exact beq_self_eq_true i
  | inr z =>
    obtain ⟨t, rfl⟩ := r
    exact beq_self_eq_true z
theorem kv_zip : ∀ {ks : List Key} {us : List Value} {ys : List V} {ws : List Value}, Vals (ks.map kV) us → Vals ys ws → KV (ks.zip ys) (ks.zip ws)
  | [], _, _, _, _, _ => .nil
  | k :: ks, _, _, _, .cons r t, .nil => .nil
  | k :: ks, _, _, _, .cons r t, .cons r2 t2 => .cons ⟨rfl, r2⟩ (kv_zip t t2)
theorem pe_dictZip (hc : X.calm = true) (hg : Gl X "dict") (hm : X.mg "dict" = none) (hg2 : Gl X "zip") (hm2 : X.mg "zip" = none) (ha : PA X [e, e2] ta)
    (hs : starEach [e, e2] X.env = (false, eval e X.env) :: starEach [e2] X.env := by rfl) (hpl : (backTo pos2 (starEach [e2] X.env)).any (·.1) = false := by rfl)
    (hs2 : starEach [.Call (.Name "zip" q) [e, e2] [] pos2] X.env = (false, eval (.Call (.Name "zip" q) [e, e2] [] pos2) X.env) :: starEach [] X.env := by rfl) :
    PE X (.Call (.Name "dict" p) [.Call (.Name "zip" q) [e, e2] [] pos2] [] pos) (tDictZip X.K ta) := by
  refine ⟨fun pins s σ H Q I h => ?_⟩
  refine Call_ (ld_blt I hg hm PyProof.Rows.boot_dict (PyProof.Rows.callWith_type1 ?_ hs2 rfl))
  rw [hs2]
  show wpAny _ _ (spliced ((false, eval (.Call (.Name "zip" q) [e, e2] [] pos2) X.env) :: backTo pos (starEach [] X.env))) _ _ s
  refine PySem.Calls.spliced_cons ?_
  refine Call_ (ld_blt I hg2 hm2 PyProof.Rows.boot_zip (PyProof.Rows.callWith_type1 (thn (ha.run pos2 pins s σ H _ I h) fun us s1 ⟨vs, H1, I1, r1, q1⟩ => ?_) hs hpl))
  obtain ⟨a, b, ks, ys, ex, hqx, hqy, hl, qq⟩ := q1
  subst ex
  cases r1 with
  | cons r rr =>
    cases rr with
    | cons r' rr =>
      cases rr
      cases r
      cases r'
      obtain ⟨its, rv, p1, z1⟩ := I1.tuple hqx
      obtain ⟨its2, rv2, p2, z2⟩ := I1.tuple hqy
      obtain ⟨o1, ho1, _⟩ := id p1
      obtain ⟨o2, ho2, _⟩ := id p2
      have l1 := rv.length
      have l2 := rv2.length
      rw [List.length_map] at l1 z1
      refine RZ.call_zipT (show s1.heap.IsTuple a its.toArray from p1) (show s1.heap.IsTuple b its2.toArray from p2) fun h' hz hTI hTO h1 h2 hsz hk => ?_
      refine PySem.Calls.spliced_nil ?_
      have lt1 := Heap.lt_size ho1
      have lt2 := Heap.lt_size ho2
      refine PySem.call_dict_pairs (knd := mixKind X.prog X.w) (kvs := ks.zip its2) (zip_arg (s1.heap.objs.size + 4) (s1.heap.objs.size + 2) (s1.heap.objs.size + 3) s1.heap.objs.size (s1.heap.objs.size + 1) a b (PySem.W.ktu_apart s1.heap.objs.size a b lt1 lt2) its.toArray its2.toArray) (I1.ok.hd hc)
        ⟨hz, hTI, ⟨_, _, hTO⟩, h1, h2, hk _ _ ho1 |> fun z => ?_, ?_⟩ ⟨?_, fun i key v hv => ?_⟩ ?_ fun h2' tk hd2 k2 => ?_
      · obtain ⟨o, e, r⟩ := p1
        exact ⟨o, hk _ _ e, r⟩
      · obtain ⟨o, e, r⟩ := p2
        exact ⟨o, hk _ _ e, r⟩
      · rw [List.length_zip, List.size_toArray, List.size_toArray, l1]
      · obtain ⟨v1, v2⟩ := hv
        rw [List.getElem?_toArray] at v1 v2
        have li := (List.getElem?_eq_some_iff.mp v1).1
        have hki : ks[i]? = some (ks[i]'(by omega)) := List.getElem?_eq_getElem _
        obtain ⟨u, hu, ru⟩ := rv.get (i := i) (x := kV (ks[i]'(by omega))) (by rw [List.getElem?_map, hki]; rfl)
        rw [v1] at hu
        obtain rfl := Option.some.inj hu
        exact ⟨ks[i]'(by omega), by rw [List.getElem?_zip_eq_some]; exact ⟨hki, v2⟩, keyIs_of ru⟩
      · rw [List.size_toArray, List.size_toArray, ← l1]
        exact Nat.le_trans (Nat.min_le_left _ _) z1
      · have hle : s1.heap.objs.size ≤ h'.objs.size := by rw [hsz]; exact Nat.le_add_right _ _
        have keep : ∀ b o, s1.heap.get? b = some o → h2'.get? b = some o := fun b o e => by
          refine k2 b o (fun m => ?_) (hk _ _ e)
          have lt := Heap.lt_size e
          simp only [List.mem_cons, List.not_mem_nil, or_false] at m
          rcases m with z | z | z | z
          · rw [z] at lt; exact absurd lt (Nat.not_lt.mpr (Nat.le_add_right _ _))
          · rw [z] at lt; exact absurd lt (Nat.not_lt.mpr (Nat.le_add_right _ _))
          · rw [z] at lt; exact absurd lt (Nat.lt_irrefl _)
          · rw [z] at lt; exact absurd lt (Nat.not_lt.mpr (Nat.le_add_right _ _))
        have hbig : (h'.objs.size == sysModules) = false := beq_eq_false_iff_ne.mpr (Nat.ne_of_gt (Nat.lt_of_lt_of_le I1.big hle))
        have hlen : (mergeK [] (ks.zip ys)).length ≤ sizeLine := by
          refine Nat.le_trans (length_mergeK _ []) ?_
          rw [List.length_nil, Nat.zero_add, List.length_zip]
          exact Nat.le_trans (Nat.min_le_left _ _) z1
        exact ⟨.ref h'.objs.size, upd H1 h'.objs.size (.dK (mergeK [] (ks.zip ys))), I1.laid (t' := tk) keep hle (show ObjOk X.prog X.w _ _ _ (.dK (mergeK [] (ks.zip ys))) from ⟨hlen, hbig, merged [] (ks.zip its2), KV.merge (kv_zip rv rv2) .nil, hd2⟩), rfl, qq _ (I1.hok.fresh hle)⟩
end
section
variable {X : Cx}
/-- t.index(x), the first place, flat items -/
def rIdxT (K : PySem.W.Frag) : V → List V → Hp → VK → Prop := fun x xs H Q => ∃ (a : Addr) (ys : List V) (y : V) (j : Nat) (z : V), x = V.ref a ∧ xs = [y] ∧ SqT K H a ys ∧ flatV y = true ∧ ys.all flatV = true ∧ ys[j]? = some z ∧ eqV z y = true ∧
  (∀ (m : Nat) (z' : V), m < j → ys[m]? = some z' → eqV z' y = false) ∧ Q (.int (j : Nat)) H
theorem mt_idxT : MtR X "tuple.index" (rIdxT X.K) := by
  intro pins s σ H x xs v us Q I rx rxs h
  obtain ⟨a, ys, y, j, z, rfl, rfl, hs, fy, fys, hz, hzj, hno, q⟩ := h
  cases rx
  cases rxs with
  | cons ry rt =>
    rename_i uy ut
    cases rt
    obtain ⟨its, rv, ⟨⟨cls, dd, data, sl⟩, ho, hc, n, hd⟩, hlen⟩ := I.tuple hs
    simp only at hc hd
    subst hc hd
    obtain ⟨u, hu, ru⟩ := rv.get hz
    obtain ⟨hjl, hje⟩ := List.getElem?_eq_some_iff.mp hu
    have hvl := rv.length
    have hj : j < its.toArray.size := by simpa using hjl
    refine call_meets PySem.F.slot_tuple_index ⟨_, ho, rfl⟩ PySem.F.entry_tuple_index (PySem.F.args_tuple_index_2 _ _)
      (TI.tuple_indexAt a its.toArray n dd sl uy (eqU y) j hj ?_ ?_) ⟨ho, fun u' hu' => mem_eqAt ry fy rv fys u' (by simpa using hu'), ⟨.int (j : Nat), H, I.tok _, ⟨_, rfl⟩, q⟩⟩
    · have e1 : its.toArray[j] = u := by simpa using hje
      rw [e1, eqU_of ru (flat_at fys hz)]
      exact hzj
    · intro m hm hmj
      have hml : m < its.length := by simpa using hm
      have hmy : m < ys.length := by omega
      have hy' : ys[m]? = some ys[m] := List.getElem?_eq_getElem hmy
      obtain ⟨u2, hu2, ru2⟩ := rv.get hy'
      obtain ⟨_, hme⟩ := List.getElem?_eq_some_iff.mp hu2
      have e1 : its.toArray[m] = u2 := by simpa using hme
      rw [e1, eqU_of ru2 (flat_at fys hy')]
      exact hno m _ hmj hy'
end
end RG
end RLe
section RLf
/-! sorted(xs), xs a list of data alike -/
namespace RG
open PySem PySem.Spec PyProof.Rows L2
section
variable {X : Cx}
def leD : V × PyData → V × PyData → Bool := PySem.W.dataLe false fun b : V × PyData => b.2
/-- data that is read, and not too deep -/
structure Rdb (d : PyData) : Prop where
  sh : d.showable = true
  le : d.shown.length ≤ sizeLine
  dp : d.depth ≤ 8
def rSortD (K : PySem.W.Frag) : List V → Hp → VK → Prop := fun vs H Q => ∃ (a : Addr) (bs : List (V × PyData)), vs = [V.ref a] ∧ SqL K H a (bs.map Prod.fst) ∧ (∀ b ∈ bs, Dd K H b.1 b.2 ∧ Rdb b.2) ∧ PySem.W.AllAlike (bs.map Prod.snd) ∧ PySem.W.Sortable (bs.map Prod.snd) ∧
  ∀ p, H p = none → Q (.ref p) (upd H p (.lst ((bs.mergeSort leD).map Prod.fst)))
theorem each_vals : ∀ {bs : List (V × PyData)} {us : List Value}, Vals (bs.map Prod.fst) us → PySem.W.EachIs (fun v (b : V × PyData) => RelV b.1 v) us bs
  | [], _, .nil => .nil
  | b :: bs, _, .cons r t => .cons r (each_vals t)
theorem vals_each : ∀ {bs : List (V × PyData)} {us : List Value}, PySem.W.EachIs (fun v (b : V × PyData) => RelV b.1 v) us bs → Vals (bs.map Prod.fst) us
  | [], _, .nil => .nil
  | b :: bs, _, .cons r t => .cons r (vals_each t)
theorem each_reads {pins : List (Addr × Obj)} {σ : L2.St} {H : Hp} {s : Shared} (I : L2.Inv X pins σ H s) : ∀ {bs : List (V × PyData)} {us : List Value}, Vals (bs.map Prod.fst) us → (∀ b ∈ bs, Dd X.K H b.1 b.2 ∧ Rdb b.2) → PySem.W.EachIs (fun v (b : V × PyData) => ∃ as, Reads s.heap v b.2 as) us bs
  | [], _, .nil, _ => .nil
  | b :: bs, _, .cons r t, h => by
    obtain ⟨h1, h2⟩ := h b List.mem_cons_self
    obtain ⟨as, _, h3, _⟩ := Dd.tells I h1 r h2.sh h2.le
    exact .cons ⟨as, h3⟩ (each_reads I t fun c hc => h c (List.mem_cons_of_mem _ hc))
theorem cr_sortD (hu : X.A.units + 64 < cLine) : CallR X (.builtin "sorted") (rSortD X.K) := by
  intro pins s σ H vs us Q I r h
  obtain ⟨a, bs, rfl, hs, hb, hal, hso, q⟩ := h
  obtain ⟨its, rv, pl, hz⟩ := I.list hs
  rw [Vals.ref1 r]
  rw [List.length_map] at hz
  refine PySem.W.sorted_data (R := fun v (b : V × PyData) => RelV b.1 v) (enc := Prod.snd) pl.isList (each_vals rv) (each_reads I rv hb) hal hso hz (fun b m => ?_) fun out hlen eo => ?_
  · have := (hb b m).2.dp
    omega
  · obtain ⟨ep, he⟩ := PyProof.Rows.sortedAll_at s.heap its out.toArray
    have hl : ((bs.mergeSort leD).map Prod.fst).length ≤ sizeLine := by
      rw [List.length_map, List.length_mergeSort]
      exact hz
    exact ⟨.ref _, upd H (s.heap.objs.size + 1) (.lst ((bs.mergeSort leD).map Prod.fst)), I.laid (t' := s.toks) (fun _ _ => PyProof.Rows.sortedAll_old) (Nat.le_succ _) ⟨hl, out, ep, vals_each eo, he⟩, rfl, q _ (I.hok.fresh (Nat.le_succ _))⟩
end
/-! methods of a class, as the top has made them -/
structure MethO (P : Program) (w : World) (K : PySem.W.Frag) (mg : Str → Option Value) (base : Heap) (C : Addr) (k : Nat) (m : Str) (sp : Sp) : Prop where
  ex : ∃ (f : Addr) (fd : FuncData) (ps : List Str), FnOk P w K mg base CX0 k f fd ps sp ∧ Meth K C m f ∧ Binds K fd ps []
  cl : Cls K C
section
variable {X : Cx} {k j : Nat} {C : Addr} {m : Str} {sp : Sp} {o e : Expr} {es : List Expr} {ta : TE} {t : TA} {apos pos : Pos}
theorem pe_m0 {pl : Sem Bool} (M : MethO X.prog X.w X.K X.mg X.base C k m sp) (hr : Room j X.A) (hk : k ≤ j) (he : PE X o ta)
    (ht : eval (.Call (.Attribute o m apos) [] [] pos) X.env = (do
      let ov ← eval o X.env
      standAt apos.atName
      let (f, first) ← holding [ov] (getMethod ov m pl)
      callWith pos f first (backTo pos (starEach [] X.env)) (backToKw pos (keywordEach [] X.env))) := by rfl) :
    PE X (.Call (.Attribute o m apos) [] [] pos) (tMeth C m sp [] E0 ta tNil) := by
  obtain ⟨f, fd, ps, F, hm, b⟩ := M.ex
  exact pe_meth0 he M.cl hm F (hr.mono hk) b .nil pass0 ht
theorem pe_m {pl : Sem Bool} (M : MethO X.prog X.w X.K X.mg X.base C k m sp) (hr : Room j X.A) (hk : k ≤ j) (he : PE X o ta) (ha : PA X (e :: es) t)
    (hst : starEach (e :: es) X.env = (false, eval e X.env) :: starEach es X.env := by rfl) (hpl : (backTo pos (starEach es X.env)).any (·.1) = false := by rfl)
    (ht : eval (.Call (.Attribute o m apos) (e :: es) [] pos) X.env = (do
      let ov ← eval o X.env
      standAt apos.atName
      let (f, first) ← holding [ov] (getMethod ov m pl)
      callWith pos f first (backTo pos (starEach (e :: es) X.env)) (backToKw pos (keywordEach [] X.env))) := by rfl) :
    PE X (.Call (.Attribute o m apos) (e :: es) [] pos) (tMeth C m sp [] E0 ta t) := by
  obtain ⟨f, fd, ps, F, hm, b⟩ := M.ex
  exact pe_meth he M.cl hm F (hr.mono hk) b .nil pass0 ha hst hpl ht
end
/-! tuples that are known to have no dict: their methods -/
def FzT (H : Hp) (a : Addr) (xs : List V) : Prop := ∃ ob : Obj, H a = some (.frz ob (.tup xs)) ∧ ob.cls = .type "tuple" ∧ ob.dict = none
theorem FzT.sqt {K : PySem.W.Frag} {H : Hp} {a : Addr} {xs : List V} (h : FzT H a xs) : SqT K H a xs := by
  obtain ⟨ob, h, _⟩ := h
  exact .inl (.inr ⟨ob, h⟩)
theorem FzT.same {H G : Hp} {a : Addr} {xs : List V} (e : Same H G) (h : FzT H a xs) : FzT G a xs := by
  obtain ⟨ob, h1, h2⟩ := h
  exact ⟨ob, e _ _ h1, h2⟩
theorem FzT.n {H G : Hp} {a : Addr} {xs : List V} (e : LamX.ExtN H G) (h : FzT H a xs) : FzT G a xs := by
  obtain ⟨ob, h1, h2⟩ := h
  exact ⟨ob, e _ _ h1 nt_frz, h2⟩
theorem FzT.d {p : Addr} {H G : Hp} {a : Addr} {xs : List V} {kvs : List (Key × V)} (e : Kb p H G) (hp : H p = some (.dK kvs)) (h : FzT H a xs) : FzT G a xs := by
  obtain ⟨ob, h1, h2⟩ := h
  exact ⟨ob, e _ _ h1 (fun q => by rw [q, hp] at h1; cases h1), h2⟩
section
variable {X : Cx}
/-- tuple(xs), xs a list -/
def rTupF (K : PySem.W.Frag) : List V → Hp → VK → Prop := fun xs H Q => ∃ p ys, xs = [.ref p] ∧ SqL K H p ys ∧ ∀ l ob, H l = none → ob.cls = .type "tuple" → ob.dict = none → Q (.ref l) (upd H l (.frz ob (.tup ys)))
theorem call_tuple_frz : CallR X (.type "tuple") (rTupF X.K) := by
  intro pins s σ H xs us Q I r h
  obtain ⟨p, ys, rfl, hq, q⟩ := h
  obtain ⟨u, rfl, rx⟩ := vals1 r
  cases rx
  obtain ⟨its, r', pl, hz⟩ := I.list hq
  have hlen := r'.length
  refine call_tuple_list pl.isList (fun h' kp => ?_) (by simp only [List.size_toArray] <;> omega)
  have I1 : L2.Inv X pins σ H { s with heap := h' } := I.kept (t' := s.toks) kp
  have hn : H h'.objs.size = none := I1.hok.fresh (Nat.le_refl _)
  have I2 : L2.Inv X pins σ (upd H h'.objs.size (.frz { cls := .type "tuple", data := .seq its.toArray } (.tup ys))) { s with heap := h'.push { cls := .type "tuple", data := .seq its.toArray } } :=
    I1.laid (t' := s.toks) (fun b o e => Heap.get?_push_of_some _ e) (Nat.le_refl _) (show ObjOk X.prog X.w _ _ _ (.frz _ (.tup ys)) from ⟨Heap.get?_push_size _ rfl, hz, its, r', IsTup.new _ _⟩)
  exact ⟨.ref h'.objs.size, _, I2, rfl, q _ _ hn rfl rfl⟩
variable {o e : Expr} {es : List Expr} {to : TE} {t : TA} {name : Str} {apos cpos : Pos} {id : String} {r : V → List V → Hp → VK → Prop}
def tBT (r : V → List V → Hp → VK → Prop) (to : TE) (t : TA) : TE := fun σ H Q => to σ H fun x H1 => (∃ a xs, x = .ref a ∧ FzT H1 a xs) ∧ t σ H1 fun xs H2 => r x xs H2 Q
theorem pe_bt (slot : Slot "tuple" name id) (hty : typeOf (.builtin id) = pure (.type "method_descriptor")) (hm : MtR X id r) (ho : PE X o to) (ha : PA X (e :: es) t)
    (hbase : attributeBase o name X.env (eval o X.env) = eval o X.env := by rfl)
    (hfew : ((backTo cpos (starEach (e :: es) X.env)).all (fun x => !x.1) && (backToKw cpos (keywordEach [] X.env)).all (fun x => x.1.isSome)
      && decide ((e :: es).length + ([] : List Keyword).length + (if ([] : List Keyword).isEmpty then 0 else 1) < 30)) = true := by rfl)
    (hline : (apos.endLine == cpos.line) = true := by rfl) (hs : starEach (e :: es) X.env = (false, eval e X.env) :: starEach es X.env := by rfl) (hplain : (backTo cpos (starEach es X.env)).any (·.1) = false := by rfl) :
    PE X (.Call (.Attribute o name apos) (e :: es) [] cpos) (tBT r to t) := by
  refine ⟨fun pins s σ H Q I h => ?_⟩
  refine wpAny_Call_method_late hbase hfew hline rfl (thn (ho.run pins s σ H _ I h) fun v s1 ⟨x, H1, I1, r1, ty, q1⟩ => ?_)
  obtain ⟨a, xs, rfl, ob, hf, hc, hd⟩ := ty
  cases r1
  have hg : s1.heap.get? a = some ob := (I1.hok a _ hf).1
  refine ⟨"tuple", id, PySem.F.plainAttrs_tuple, slot, hty, ⟨ob, hg, hc⟩, fun b e => ?_, ?_⟩
  · cases e
    exact ⟨ob, hg, hd⟩
  · have hA := ha.run cpos pins s1 σ H1 _ I1 q1
    rw [hs] at hA ⊢
    refine Calls.callWith_builtin (by show (false || (backTo cpos (starEach es X.env)).any (·.1)) = false; rw [hplain] <;> rfl) (Calls.evalArgs_plain ?_)
    exact thn hA fun us s2 ⟨vs, H2, I2, r2, q2⟩ => hm pins s2 σ H2 (.ref a) vs (.ref a) us Q I2 rfl r2 q2
end
end RG
end RLf
section RLg
/-! pairs out of a tuple; data of pairs -/
namespace RG
open PySem PySem.Spec PyProof.Rows L2
/-- the same over a tuple -/
theorem lc_dd2t {K : PySem.W.Frag} {a D : Addr} {xs : List V} {ds : List PyData} {te : TE} {j1 j2 : Nat} {σ : L2.St} {H : Hp} {Qd : Hp → Prop} (hj : j1 ≠ j2) (hD : H D = none) (ha : SqT K H a xs) (hl : ds.length = xs.length) (hz : xs.length < sizeLine)
    (nl : ∀ d ∈ ds, noL d = true)
    (R : Nat → V → V → Prop) (pair : ∀ (i : Nat) (x : V), xs[i]? = some x → ∃ t y z, x = .ref t ∧ SqT K H t [y, z] ∧ R i y z)
    (each : ∀ (i : Nat) (y z : V) (d : PyData), R i y z → ds[i]? = some d → ∀ G, Same H G → ∀ Q : VK, (∀ y G', Same G G' → Dd K G' y d → Q y G') → te (((wipe σ [j1, j2]).set j1 (some y)).set j2 (some z)) G Q)
    (done : ∀ G ys, Same H G → G D = some (.lst ys) → DdAll K (rem D G) ys ds → Qd G) :
    ∃ W : Nat → Nat → Hp → Prop, (∃ m, W 0 m (upd H D (.lst []))) ∧ ∀ i m G, W i m G →
      ((Itt K a).stop i G ∧ Qd G) ∨ ((Itt K a).go i G ∧ ∃ Nx : Hp → Prop, (∀ H', Nx H' → ∃ m', m' < m ∧ W (i + 1) m' H') ∧ ∀ x H', (Itt K a).yld i G x H' → gTup K 2 (gCons (gName j1) (gCons (gName j2) gNil)) x (wipe σ [j1, j2]) H' fun σ2 H2 => wipe σ2 [j1, j2] = wipe σ [j1, j2] ∧ tYes σ2 H2 fun b H3 =>
        if b = true then te σ2 H3 fun y H4 => ∃ acc, H4 D = some (.lst acc) ∧ acc.length < sizeLine ∧ Nx (upd H4 D (.lst (acc ++ [y]))) else Nx H3) := by
  refine lc_tup (xs := xs) (fun i G => Same H G ∧ ∃ ys, G D = some (.lst ys) ∧ DdAll K (rem D G) ys (ds.take i)) ⟨same_new hD, [], upd_same, by rw [List.take_zero]; exact .nil⟩ (fun i G _ h => sqt_same h.1 ha) (fun i x G hi h => ?_) fun G h => ?_
  · have hlt : i < xs.length := (List.getElem?_eq_some_iff.mp hi).1
    obtain ⟨d, hd⟩ : ∃ d, ds[i]? = some d := ⟨_, List.getElem?_eq_getElem (by omega)⟩
    obtain ⟨e, ys, g1, g2⟩ := h
    have yl := g2.length
    rw [List.length_take] at yl
    obtain ⟨t, y, z, rfl, ht, hR⟩ := pair i x hi
    refine ⟨t, _, rfl, sqt_same e ht, rfl, ?_⟩
    refine ⟨_, _, rfl, _, _, rfl, rfl, ?_⟩
    refine ⟨wipe_two hj σ _ _, ?_⟩
    unfold tYes
    simp only [if_true]
    refine each i y z d hR hd G e _ fun y G' e2 dd => ⟨ys, e2 _ _ g1, by omega, same_mut (e.trans e2) hD, ys ++ [y], upd_same, ?_⟩
    rw [rem_upd, ← take_snoc hd]
    have s2 : Same (rem D G) (rem D G') := rem_same e2
    exact (g2.same s2).append (.cons (dd.remL (e2 _ _ g1) (nl d (List.mem_of_getElem? hd))) .nil)
  · obtain ⟨e, ys, g1, g2⟩ := h
    rw [← hl, List.take_length] at g2
    exact done G ys e g1 g2
/-- a loop over a list, whatever stands in its turns -/
theorem loop_lst {K : PySem.W.Frag} {a : Addr} {xs : List V} {N : Hp → Prop} {body : V → Hp → (Hp → Prop) → Prop} {H0 : Hp} (Pv : Nat → Hp → Prop) (h0 : Pv 0 H0) (hl : ∀ i H, i ≤ xs.length → Pv i H → SqL K H a xs)
    (hs : ∀ i x H, xs[i]? = some x → Pv i H → body x H (Pv (i + 1))) (hd : ∀ H, Pv xs.length H → N H) :
    ∃ W : Nat → Nat → Hp → Prop, (∃ m, W 0 m H0) ∧ ∀ i m H, W i m H →
      ((Itl K a).stop i H ∧ N H) ∨ ((Itl K a).go i H ∧ ∃ Nx : Hp → Prop, (∀ H', Nx H' → ∃ m', m' < m ∧ W (i + 1) m' H') ∧ ∀ x H', (Itl K a).yld i H x H' → body x H' Nx) := by
  refine ⟨fun i m H => m = xs.length - i ∧ i ≤ xs.length ∧ Pv i H, ⟨xs.length, by simp, Nat.zero_le _, h0⟩, ?_⟩
  rintro i m H ⟨rfl, hi, p⟩
  have q := hl i H hi p
  by_cases hlt : i < xs.length
  · refine .inr ⟨⟨xs, xs[i], q, by simp [hlt]⟩, Pv (i + 1), fun H' p' => ⟨xs.length - (i + 1), by omega, rfl, hlt, p'⟩, fun x H' y => ?_⟩
    obtain ⟨e, y⟩ := y
    subst e
    exact hs i x _ (y xs q) p
  · have e : i = xs.length := by omega
    subst e
    exact .inl ⟨⟨xs, q, Nat.le_refl _⟩, hd H p⟩
/-- a loop over a tuple, whatever stands in its turns -/
theorem loop_tup {K : PySem.W.Frag} {a : Addr} {xs : List V} {N : Hp → Prop} {body : V → Hp → (Hp → Prop) → Prop} {H0 : Hp} (Pv : Nat → Hp → Prop) (h0 : Pv 0 H0) (hl : ∀ i H, i ≤ xs.length → Pv i H → SqT K H a xs)
    (hs : ∀ i x H, xs[i]? = some x → Pv i H → body x H (Pv (i + 1))) (hd : ∀ H, Pv xs.length H → N H) :
    ∃ W : Nat → Nat → Hp → Prop, (∃ m, W 0 m H0) ∧ ∀ i m H, W i m H →
      ((Itt K a).stop i H ∧ N H) ∨ ((Itt K a).go i H ∧ ∃ Nx : Hp → Prop, (∀ H', Nx H' → ∃ m', m' < m ∧ W (i + 1) m' H') ∧ ∀ x H', (Itt K a).yld i H x H' → body x H' Nx) := by
  refine ⟨fun i m H => m = xs.length - i ∧ i ≤ xs.length ∧ Pv i H, ⟨xs.length, by simp, Nat.zero_le _, h0⟩, ?_⟩
  rintro i m H ⟨rfl, hi, p⟩
  have q := hl i H hi p
  by_cases hlt : i < xs.length
  · refine .inr ⟨⟨xs, xs[i], q, by simp [hlt]⟩, Pv (i + 1), fun H' p' => ⟨xs.length - (i + 1), by omega, rfl, hlt, p'⟩, fun x H' y => ?_⟩
    obtain ⟨e, y⟩ := y
    subst e
    exact hs i x _ (y xs q) p
  · have e : i = xs.length := by omega
    subst e
    exact .inl ⟨⟨xs, q, Nat.le_refl _⟩, hd H p⟩
/-! sorted(d), the keys texts -/
section
variable {X : Cx}
def rSortDK : List V → Hp → VK → Prop := fun vs H Q => ∃ (a : Addr) (kvs : List (Key × V)) (ns : List Str), vs = [V.ref a] ∧ H a = some (.dK kvs) ∧ (kvs.map (·.1)) = ns.map Sum.inr ∧
  ∀ (ms : List Str) (p : Addr), ms.Perm ns → ms.Pairwise (fun a b => a.cps.toList ≤ b.cps.toList) → H p = none → Q (.ref p) (upd H p (.lst (strV ms)))
theorem cr_sortDK (hc : X.calm = true) : CallR X (.builtin "sorted") rSortDK := by
  intro pins s σ H vs us Q I r h
  obtain ⟨a, kvs, ns, rfl, hk, hn, q⟩ := h
  rw [Vals.ref1 r]
  obtain ⟨z, lo, ws, rk, hd⟩ := (show ObjOk X.prog X.w H s.heap a (.dK kvs) from I.hok a _ hk)
  obtain ⟨ep, hat⟩ := hd.dictAt
  have hl : kvs.length = ws.length := Paired.length rk
  refine Calls.call_function_entry kind_sorted plain_sorted entry_sorted (args_sorted1 _) ?_
  unfold Builtin.«sorted»
  refine wpAny_bind (m := checkCount "sorted" 1 1 _) (wpAny_pure ?_)
  refine wpAny_bind (PySem.W.kdu_collect (PySem.W.kdl_dict (knd := mixKind X.prog X.w) (kvs := ws) (ep := ep) lo) (I.ok.hd hc) hat (by rw [← hl]; exact z) fun h' tk acc keep hacc => ?_)
  have al : acc.toList.length = kvs.length := by rw [Array.length_toList, hacc.1, hl]
  have nl : kvs.length = ns.length := by
    have := congrArg List.length hn
    rwa [List.length_map, List.length_map] at this
  have hS : StrsAre acc.toList ns := strs_back (vals_of_at (by rw [List.length_map, al, nl]) fun j x w h1 h2 => by
    obtain ⟨k, y, hky, hi⟩ := hacc.2 j w (by rw [← Array.getElem?_toList]; exact h2)
    have e1 : (kvs.map (·.1))[j]? = some k := by
      rw [KV.keys rk, List.getElem?_map, hky] <;> rfl
    rw [hn, List.getElem?_map] at e1
    obtain ⟨z2, e2, rfl⟩ := Option.map_eq_some_iff.mp e1
    rw [List.getElem?_map, e2] at h1
    cases h1
    exact keyIs_rel (k := Sum.inr z2) hi)
  have zl : acc.toList.length ≤ sizeLine := by rw [al]; exact z
  refine wpAny_bind (wpAny_newList ?_ zl)
  have at1 : (h'.push (seqObj "list" acc.toList.toArray 0)).get? h'.objs.size = some (seqObj "list" acc.toList.toArray 0) := Heap.get?_push_size _ rfl
  refine wpAny_bind (wpAny_holding ?_)
  refine wpAny_call_entry slot_list_sort ⟨_, at1, rfl⟩ entry_list_sort (SrtO.list_sort_ord swo_strs at1 zl (fun h2 => strs_sortable hS h2) fun out h1 h2 => ⟨_, rfl, ?_⟩) (args_list_sort _)
  obtain ⟨k1, k2⟩ := strs_out hS h1 h2
  have I1 : L2.Inv X pins σ H { s with heap := h', toks := tk } := I.kept (t' := tk) keep
  obtain ⟨ep2, he2⟩ := sortedHeap_at (out := out.toArray) at1
  have hlen : (strV (out.map strOf)).length ≤ sizeLine := by
    unfold strV
    rw [List.length_map, k2.length_eq, ← nl]
    exact z
  have srt : (out.map strOf).Pairwise fun a b => a.cps.toList ≤ b.cps.toList := List.pairwise_map.mpr (List.Pairwise.imp (fun {a b} h => List.not_lt.mp (of_decide_eq_false (p := (strOf b).cps.toList < (strOf a).cps.toList) h)) h1)
  refine wpAny_pure ⟨_, rfl, .ref h'.objs.size, upd H h'.objs.size (.lst (strV (out.map strOf))), I1.laid (t' := tk) (fun b o e => ?_) (Nat.le_refl _) ⟨hlen, out, ep2, strs_forth k1, he2⟩, rfl, q _ _ k2 srt (I1.hok.fresh (Nat.le_refl _))⟩
  have lt : b < h'.objs.size := Heap.lt_size e
  show (sortedHeap (h'.push _) h'.objs.size _ _).get? b = some o
  rw [sortedHeap_old (Nat.ne_of_lt lt) (by rw [size_push']; exact Nat.lt_succ_of_lt lt)]
  exact Heap.get?_push_of_some _ e
end
end RG
end RLg
section RLh
/-! [e for k in d], d a locked dict, each e a new object; instances -/
namespace RG
open PySem PySem.Spec PyProof.Rows L2
theorem tLc_keys {d : Addr} {od : Obj} {kvs : List (Key × V)} {os : List HO} {te td : TE} {j : Nat} {σ : L2.St} {H : Hp} {Q : VK} (hd : H d = some (.frz od (.dK kvs))) (htd : ∀ Q' : VK, Q' (.ref d) H → td σ H Q') (hl : os.length = kvs.length) (hz : kvs.length < sizeLine)
    (each : ∀ (i : Nat) (k : Key) (v : V) (o : HO), kvs[i]? = some (k, v) → os[i]? = some o → ∀ G, Same H G → ∀ Q : VK, (∀ t G', G t = none → Same G G' → G' t = some o → Q (.ref t) G') → te ((σ.set j none).set j (some (kV k))) G Q)
    (done : ∀ D G ys, H D = none → Same H G → G D = some (.lst ys) → RefsAt D G ys os → Q (.ref D) G) : tLc (iKeys td) (gName j) tYes te [j] σ H Q := by
  refine htd _ ⟨d, od, rfl, .inl ⟨kvs, hd, fun D hD => ?_⟩⟩
  refine lc_it walk_keys (fun i G => Same H G ∧ ∃ ys, G D = some (.lst ys) ∧ RefsAt D G ys (os.take i)) ⟨same_new hD, [], upd_same, .nil⟩ (fun i G _ h => h.1 _ _ hd) (fun i x G G' hi h y => ?_) fun G h => ?_
  · obtain ⟨rfl, k, v, hk, rfl⟩ := y
    obtain ⟨e, ys, g1, g2⟩ := h
    have ho : os[i]? = some (os[i]'(by omega)) := List.getElem?_eq_getElem _
    exact refs_step hD (by omega) ho e ys g1 g2 (each i k v _ hk ho G' e) fun G1 zs e2 h1 h2 => ⟨e2, zs, h1, h2⟩
  · obtain ⟨e, ys, g1, g2⟩ := h
    rw [← hl, List.take_length] at g2
    exact done D G ys hD e g1 g2
/-- behind the lock all is as before -/
theorem same_unlock {H G : Hp} {d : Addr} {od : Obj} {u : HO} (hd : H d = some u) (e : Same (upd H d (.frz od u)) G) : Same H (upd G d u) := fun b o h => by
  by_cases z : b = d
  · subst z
    rw [hd] at h
    rw [upd_same]
    exact h
  · rw [upd_ne z]
    exact e b o (by rw [upd_ne z]; exact h)
/-- a class that is called -/
structure MkO (P : Program) (w : World) (K : PySem.W.Frag) (mg : Str → Option Value) (base : Heap) (C : Addr) (k : Nat) (x : Str) (sp : Sp) : Prop where
  ex : ∃ (f : Addr) (fd : FuncData) (ps : List Str), FnOk P w K mg base CX0 k f fd ps sp ∧ Mk K C f ∧ Binds K fd ps []
  mg : mg x = some (.ref C)
section
variable {X : Cx} {k j : Nat} {C : Addr} {x : Str} {sp : Sp} {e : Expr} {es : List Expr} {t : TA} {p pos : Pos}
theorem pe_mk (M : MkO X.prog X.w X.K X.mg X.base C k x sp) (hr : Room j X.A) (hk : k + 1 ≤ j) (hg : Gl X x) (ha : PA X (e :: es) t) (hdb : (x == ("__debug__" : Str)) = false := by decide)
    (he : starEach (e :: es) X.env = (false, eval e X.env) :: starEach es X.env := by rfl) (hpl : (backTo pos (starEach es X.env)).any (·.1) = false := by rfl) : PE X (.Call (.Name x p) (e :: es) [] pos) (tMake C sp [] E0 t) := by
  obtain ⟨f, fd, ps, F, hm, b⟩ := M.ex
  exact pe_make hm F (hr.mono hk) hg M.mg b .nil pass0 ha hdb he hpl
end
end RG
end RLh
section RLi
/-! a == b by an own __eq__, len(a) by an own __len__ -/
namespace RG
open PySem PySem.Spec PyProof.Rows L2
section
variable {X : Cx} {C : Addr} {k j : Nat} {sp : Sp}
/-- a == b, two instances of the class at C -/
def rEqI (C : Addr) (sp : Sp) : R2 := fun x y H Q => ∃ (a b dx dy : Addr) (fs gs : List (Str × V)), x = .ref a ∧ y = .ref b ∧ H a = some (.ins C dx fs) ∧ H b = some (.ins C dy gs) ∧ sp [.ref a, .ref b] H (fun v H' => ∃ t, v = .bl t ∧ Q (.bl t) H') E0
theorem op_eqI (M : MethO X.prog X.w X.K X.mg X.base C k "__eq__" sp) (hr : Room k X.A) : OpR X (compareOp .Eq) (rEqI C sp) := by
  intro pins s σ H x y v u Q I rx ry hq
  obtain ⟨f, fd, ps, F, hm, bd⟩ := M.ex
  obtain ⟨a, b, dx, dy, fs, gs, rfl, rfl, ha, hb, q⟩ := hq
  cases rx
  cases ry
  obtain ⟨mA, J, _⟩ := ins_get I.hok ha
  obtain ⟨mB, J', _⟩ := ins_get I.hok hb
  obtain ⟨od, J, _⟩ := J.look
  obtain ⟨od', J', _⟩ := J'.look
  obtain ⟨m, hF⟩ := I.fr
  show wpAny (model X.prog X.w) X.A (richCompare .Eq (.ref a) (.ref b)) (EP X pins σ Q) X.xe s
  refine PySem.W.cmp_K (op := .Eq) (tb := .ref C) hr.units0 hF I.ok.mod.kin J J'.type (by simp [PySem.W.notFirst]) hm.at_ hm.fn ?_
  refine wpAny_mono (run_fn (us := [.ref a, .ref b]) (vs := [.ref a, .ref b]) F hr bd .nil pass0 I (.cons rfl (.cons rfl .nil)) q) (fun v s' z => ?_) fun _ _ e => e
  obtain ⟨y, H', I', r, t, rfl, q2⟩ := z
  obtain rfl : v = Value.bool t := r
  exact ⟨.bl t, H', I', rfl, q2⟩
/-- len(a), a an instance of the class at C -/
def rLenI (C : Addr) (sp : Sp) : List V → Hp → VK → Prop := fun vs H Q => ∃ (a dx : Addr) (fs : List (Str × V)), vs = [.ref a] ∧ H a = some (.ins C dx fs) ∧ sp [.ref a] H (fun v H' => ∃ n : Nat, v = .int (n : Int) ∧ n ≤ 1000000 ∧ Q (.int (n : Int)) H') E0
theorem call_lenI (M : MethO X.prog X.w X.K X.mg X.base C k "__len__" sp) (hr : Room (k + 1) X.A) : CallR X (.builtin "len") (rLenI C sp) := by
  intro pins s σ H vs us Q I r hq
  obtain ⟨f, fd, ps, F, hm, bd⟩ := M.ex
  obtain ⟨a, dx, fs, rfl, ha, q⟩ := hq
  rw [Vals.ref1 r]
  obtain ⟨mA, J, _⟩ := ins_get I.hok ha
  obtain ⟨od, J, _⟩ := J.look
  obtain ⟨m, hF⟩ := I.fr
  refine PySem.W.len_K hF I.ok.mod.kin J hm.at_ hm.fn ?_
  have e0 : Env0 X.prog X.w X.K X.mg X.base X.A.in1 X.stack s H := by
    have e := I.env0
    exact ⟨e.frames, e.mod, e.bs, e.bsz, e.funs, e.frf, e.hok, e.bare⟩
  have hl := F.len _ _ _ _ q
  refine wpAny_call (codeAny_mono (F.run X.A.in1 X.stack s H ⟨[.ref a], []⟩ [.ref a] [.ref a] _ E0 hr.in1 e0 (by
    have := bd s [.ref a] I.kIn (by simpa using hl)
    simpa using this) (.cons rfl .nil) q) fun r s' hq => ?_)
  cases r with
  | error e => exact pass0 pins σ H s e s' I hq
  | ok fl =>
    cases fl with
    | ret w =>
      obtain ⟨z, H', I', rz, n, rfl, n1, q2⟩ := I.after hq
      obtain ⟨t, rfl⟩ := rz
      refine ⟨⟨by omega, by omega⟩, .int (n : Int), H', I'.tok _, ⟨_, rfl⟩, q2⟩
    | next => exact False.elim hq
    | brk => exact False.elim hq
    | cont => exact False.elim hq
end
theorem valV_mem {kvs : List (Key × V)} {k : Key} {v : V} (h : valV kvs k = some v) : (k, v) ∈ kvs := by
  unfold valV at h
  obtain ⟨p, hp, e⟩ := Option.map_eq_some_iff.mp h
  have h1 := List.mem_of_find?_eq_some hp
  have h2 := List.find?_some hp
  have h2 : p.1 = k := of_decide_eq_true h2
  subst h2
  subst e
  exact h1
/-! d == e, two dicts whose values are objects that are data -/
def sameDk (d1 d2 : Key → PyData) (ks ls : List (Key × V)) : Bool := ks.all fun p => (valV ls p.1).isSome && PyData.eqv (d1 p.1) (d2 p.1)
def DatOk (K : PySem.W.Frag) (H : Hp) (dat : Key → PyData) (ks : List (Key × V)) : Prop := ∀ p ∈ ks, (∃ a : Addr, p.2 = .ref a) ∧ Dp K H p.2 (dat p.1) ∧ SeqAt.shaped (dat p.1) = true
section
variable {X : Cx}
theorem eqP_dat {pins : List (Addr × Obj)} {σ : L2.St} {H : Hp} {s : Shared} (I : L2.Inv X pins σ H s) {A : Around} (hu : A.units + 64 < cLine) {d e : PyData} {a b : Addr} (h1 : Dp X.K H (.ref a) d) (h2 : Dp X.K H (.ref b) e)
    (s1 : SeqAt.shaped d = true) (s2 : SeqAt.shaped e = true) : SeqAt.EqP X.prog X.w A s (.ref a) (.ref b) (PyData.eqv d e) := by
  obtain ⟨as, r1⟩ := Dp.reads I _ _ (.ref a) h1 rfl
  obtain ⟨bs, r2⟩ := Dp.reads I _ _ (.ref b) h2 rfl
  by_cases q : a = b
  · subst q
    obtain rfl := PySem.SeqAt.Reads.unique _ _ _ _ _ (SeqAt.canLay_of_shaped s1) r1 r2
    rw [PySem.SeqAt.eqv_refl _ (SeqAt.canLay_of_shaped s1)]
    exact (SeqAt.EqAt.same _).eqP
  · exact SeqAt.eqP_refs q fun E Q q => SeqAt.compareEq_shaped r1 r2 s1 s2 hu q
theorem hits_dat {pins : List (Addr × Obj)} {σ : L2.St} {H : Hp} {s : Shared} (I : L2.Inv X pins σ H s) {A : Around} (hu : A.units + 64 < cLine) {d1 d2 : Key → PyData} {ls : List (Key × V)} {vb : List (Key × Value)} (rb : KV ls vb) (hb : DatOk X.K H d2 ls)
    {ks : List (Key × V)} {va : List (Key × Value)} (ra : KV ks va) : DatOk X.K H d1 ks → PySem.W.KeqHitsP X.prog X.w A s vb va (sameDk d1 d2 ks ls) := by
  unfold KV at ra
  induction ra with
  | nil => intro _; exact .nil
  | @cons p q ps qs h t k =>
    intro hp
    obtain ⟨h1, h2⟩ := h
    obtain ⟨key, v⟩ := q
    have h1' : p.1 = key := h1
    have rr : RelO (valV ls p.1) (valueAt vb p.1) := rb.val p.1
    have ih := k fun p' hm => hp p' (List.mem_cons_of_mem _ hm)
    obtain ⟨⟨a, ea⟩, x1, s1⟩ := hp p List.mem_cons_self
    show PySem.W.KeqHitsP X.prog X.w A s vb ((key, v) :: qs) (((valV ls p.1).isSome && PyData.eqv (d1 p.1) (d2 p.1)) && sameDk d1 d2 ps ls)
    cases e : valV ls p.1 with
    | none =>
      rw [e] at rr
      have hn : valueAt vb p.1 = none := by
        cases e2 : valueAt vb p.1 with
        | none => rfl
        | some _ => rw [e2] at rr; exact False.elim rr
      rw [h1'] at hn
      exact .miss hn
    | some u =>
      rw [e] at rr
      obtain ⟨y, hy, ry⟩ := rr.some_of
      rw [h1'] at hy
      have mu : (p.1, u) ∈ ls := valV_mem e
      obtain ⟨⟨b, eb⟩, x2, s2⟩ := hb _ mu
      have eb : u = .ref b := eb
      subst eb
      rw [ea] at h2 x1
      obtain rfl : v = Value.ref a := h2
      obtain rfl : y = Value.ref b := ry
      exact .hit hy (eqP_dat I hu x1 x2 s1 s2) ih
def rEqDk (K : PySem.W.Frag) : R2 := fun x y H Q => ∃ (a b : Addr) (ks ls : List (Key × V)) (d1 d2 : Key → PyData), x = .ref a ∧ y = .ref b ∧ H a = some (.dK ks) ∧ H b = some (.dK ls) ∧ DatOk K H d1 ks ∧ DatOk K H d2 ls ∧ Q (.bl (ks.length == ls.length && sameDk d1 d2 ks ls)) H
theorem op_eqDk (hu : X.A.units + 66 < cLine) : OpR X (compareOp .Eq) (rEqDk X.K) := by
  intro pins s σ H x y v u Q I rx ry h
  obtain ⟨a, b, ks, ls, d1, d2, rfl, rfl, ha, hb, h1, h2, q⟩ := h
  cases (show v = Value.ref a from rx)
  cases (show u = Value.ref b from ry)
  obtain ⟨_, ya, va, ra, da⟩ := (show ObjOk X.prog X.w H s.heap a (.dK ks) from I.hok a _ ha)
  obtain ⟨_, yb, vb, rb, db⟩ := (show ObjOk X.prog X.w H s.heap b (.dK ls) from I.hok b _ hb)
  show wpAny _ _ (richCompare .Eq (.ref a) (.ref b)) _ _ _
  refine PySem.W.rcP_dicts (knd := mixKind X.prog X.w) ya yb da db (by omega) (fun _ => hits_dat I (A := X.A.in1) (by show X.A.units + 1 + 64 < cLine; omega) rb h2 ra h1) _ _ ?_
  have l1 : ks.length = va.length := Paired.length ra
  have l2 : ls.length = vb.length := Paired.length rb
  rw [← l1, ← l2]
  exact ⟨.bl _, H, I, rfl, q⟩
end
end RG
end RLi
section RLj
/-! sorted of a tuple of data; calls with keywords -/
namespace RG
open PySem PySem.Spec PyProof.Rows L2
section
variable {prog : Program} {w : World} {A : Around} {E : Value → Shared → Prop} {s : Shared}
theorem sorted_of_tup {l : Addr} {vs : List Value} {Q : Value → Shared → Prop} (hl : s.heap.IsTuple l vs.toArray) (hL : vs.length ≤ sizeLine)
    (body : ∀ E' : Value → Shared → Prop, wpAny (model prog w) A.in1.in1 (Builtin.«list.sort» ⟨[.ref (s.heap.objs.size + 1)], []⟩) (fun f s' => f = .done (.ret .none) ∧ Q (.ref (s.heap.objs.size + 1)) s') E' { s with heap := PySem.W.copyHeap s.heap vs }) :
    wpAny (model prog w) A (call (.builtin "sorted") [.ref l]) Q E s := by
  refine Calls.call_function_entry kind_sorted plain_sorted entry_sorted (args_sorted1 _) ?_
  unfold Builtin.«sorted»
  refine wpAny_bind (m := checkCount "sorted" 1 1 _) (wpAny_pure ?_)
  refine wpAny_bind (gather_tup hl hL ?_)
  refine wpAny_bind (wpAny_newList ?_ hL)
  have hsz : ((s.heap.push (seqObj "list" #[] 0)).update s.heap.objs.size (Obj.mapSeq (· ++ vs.toArray))).objs.size = s.heap.objs.size + 1 := by
    rw [Heap.size_update, size_push']
  show wpAny _ _ _ _ _ { s with heap := PySem.W.copyHeap s.heap vs }
  rw [hsz]
  refine wpAny_bind (wpAny_holding (wpAny_call_entry slot_list_sort ⟨_, PySem.W.copyHeap_at s.heap vs, rfl⟩ entry_list_sort ?body (args_list_sort _)))
  case body =>
    show wpAny (model prog w) A.in1.in1 (Builtin.«list.sort» ⟨[.ref (s.heap.objs.size + 1)], []⟩) _ _ _
    refine wpAny_mono (body _) (fun f s' hf => ?_) fun _ _ e => e
    obtain ⟨rfl, hq⟩ := hf
    exact ⟨_, rfl, wpAny_pure ⟨_, rfl, hq⟩⟩
theorem sorted_dataT {β : Type} {R : Value → β → Prop} {enc : β → PyData} {vs : List Value} {bs : List β} {l : Addr} {Q : Value → Shared → Prop} (hl : s.heap.IsTuple l vs.toArray) (e : PySem.W.EachIs R vs bs) (er : PySem.W.EachIs (fun v b => ∃ as, Reads s.heap v (enc b) as) vs bs) (hal : PySem.W.AllAlike (bs.map enc)) (hk : PySem.W.Sortable (bs.map enc)) (hL : bs.length ≤ sizeLine)
    (hu : ∀ b, b ∈ bs → A.units + 2 + (enc b).depth < cLine) (h : ∀ out, out.length = bs.length → PySem.W.EachIs R out (bs.mergeSort (PySem.W.dataLe false enc)) → Q (.ref (s.heap.objs.size + 1)) { s with heap := sortedAll s.heap vs (List.toArray out) }) :
    wpAny (model prog w) A (call (.builtin "sorted") [.ref l]) Q E s := by
  have er' : PySem.W.EachIs (fun v b => ∃ as, Reads (PySem.W.sortingHeap (PySem.W.copyHeap s.heap vs) (s.heap.objs.size + 1) vs) v (enc b) as) vs bs := er.mono fun _ _ ⟨as, r⟩ => ⟨as, PyProof.Rows.Reads.keeps (fun _ _ => PySem.W.sorting_copy_old) r⟩
  have hL2 : vs.length ≤ sizeLine := by rw [e.length]; exact hL
  exact sorted_of_tup hl hL2 fun _ => PySem.W.list_sort_vals (s := { s with heap := PySem.W.copyHeap s.heap vs }) (PySem.W.copyHeap_at s.heap vs) (PySem.W.SortsAt.data (s := { s with heap := PySem.W.sortingHeap (PySem.W.copyHeap s.heap vs) (s.heap.objs.size + 1) vs }) (PySem.W.each_map (R := fun v d => ∃ as, Reads (PySem.W.sortingHeap (PySem.W.copyHeap s.heap vs) (s.heap.objs.size + 1) vs) v d as) enc er') hal hk (PySem.W.bound_map hu)) hL2
    ⟨rfl, h _ (by rw [PySem.W.sortVals_length false rfl]; exact e.length) (PySem.W.sortVals_data false e er' hal)⟩
end
section
variable {X : Cx}
/-- sorted(xs), xs a list or a tuple of data alike -/
def rSortLT (K : PySem.W.Frag) : List V → Hp → VK → Prop := fun vs H Q => ∃ (a : Addr) (bs : List (V × PyData)), vs = [V.ref a] ∧ (SqL K H a (bs.map Prod.fst) ∨ SqT K H a (bs.map Prod.fst)) ∧ (∀ b ∈ bs, Dd K H b.1 b.2 ∧ Rdb b.2) ∧ PySem.W.AllAlike (bs.map Prod.snd) ∧ PySem.W.Sortable (bs.map Prod.snd) ∧
  ∀ p, H p = none → Q (.ref p) (upd H p (.lst ((bs.mergeSort leD).map Prod.fst)))
theorem cr_sortLT (hu : X.A.units + 64 < cLine) : CallR X (.builtin "sorted") (rSortLT X.K) := by
  intro pins s σ H vs us Q I r h
  obtain ⟨a, bs, rfl, hs | hs, hb, hal, hso, q⟩ := h
  · exact cr_sortD hu pins s σ H _ us Q I r ⟨a, bs, rfl, hs, hb, hal, hso, q⟩
  · obtain ⟨its, rv, pt, hz⟩ := I.tuple hs
    rw [Vals.ref1 r]
    rw [List.length_map] at hz
    refine sorted_dataT (R := fun v (b : V × PyData) => RelV b.1 v) (enc := Prod.snd) (show s.heap.IsTuple a its.toArray from pt) (each_vals rv) (each_reads I rv hb) hal hso hz (fun b m => ?_) fun out hlen eo => ?_
    · have := (hb b m).2.dp
      omega
    · obtain ⟨ep, he⟩ := PyProof.Rows.sortedAll_at s.heap its out.toArray
      have hl : ((bs.mergeSort leD).map Prod.fst).length ≤ sizeLine := by
        rw [List.length_map, List.length_mergeSort]
        exact hz
      exact ⟨.ref _, upd H (s.heap.objs.size + 1) (.lst ((bs.mergeSort leD).map Prod.fst)), I.laid (t' := s.toks) (fun _ _ => PyProof.Rows.sortedAll_old) (Nat.le_succ _) ⟨hl, out, ep, vals_each eo, he⟩, rfl, q _ (I.hok.fresh (Nat.le_succ _))⟩
end
theorem permInv {α β : Type} {f : α → β} {l1 l2 : List β} (h : l1.Perm l2) : ∀ {l : List α}, l2 = l.map f → ∃ l' : List α, l'.Perm l ∧ l1 = l'.map f := by
  induction h with
  | nil =>
    intro l e
    cases l with
    | nil => exact ⟨[], List.Perm.refl _, rfl⟩
    | cons x l => cases e
  | @cons x l1 l2 _ ih =>
    intro l e
    cases l with
    | nil => cases e
    | cons y l =>
      rw [List.map_cons] at e
      obtain ⟨rfl, e2⟩ := List.cons.inj e
      obtain ⟨l', h1, rfl⟩ := ih e2
      exact ⟨y :: l', h1.cons y, rfl⟩
  | swap x y l0 =>
    intro l e
    cases l with
    | nil => cases e
    | cons a l =>
      cases l with
      | nil => cases e
      | cons b l =>
        rw [List.map_cons, List.map_cons] at e
        obtain ⟨rfl, e2⟩ := List.cons.inj e
        obtain ⟨rfl, rfl⟩ := List.cons.inj e2
        exact ⟨b :: a :: l, List.Perm.swap a b l, rfl⟩
  | trans _ _ ih1 ih2 =>
    intro l e
    obtain ⟨l', h1, e1⟩ := ih2 e
    obtain ⟨l'', h2, e2⟩ := ih1 e1
    exact ⟨l'', h2.trans h1, e2⟩
/-! f(e, .., k = v) -/
structure CgK (P : Program) (w : World) (K : PySem.W.Frag) (mg : Str → Option Value) (base : Heap) (k : Nat) (x : Str) (n : Nat) (ks : List Str) (sp : Sp) : Prop where
  ex : ∃ (f : Addr) (fd : FuncData) (ps : List Str), FnG P w K mg base CX0 k f fd ps sp ∧ mg x = some (.ref f) ∧ PySem.W.keepIn K (.ref f) = true ∧ KBn K fd ps n ks (fun us ws => us ++ ws) (fun vs zs => vs ++ zs)
theorem Fun.bindsK {K : PySem.W.Frag} {x qual : Str} {st : Stmt} {f : Addr} {fd : FuncData} {ps ks : List Str} {n : Nat} (F : Fun K x qual st f fd)
    (h : ∀ (kV doc pm : Value) (an : Option Addr) (cdv ct : Value) (us ws : List Value), us.length = n → ws.length = ks.length → bindArgs (PySem.W.fnOf x qual (defArgs st) (defBody st) (defScope st) .none kV doc pm an cdv ct) ⟨us, ks.zip ws⟩ = pure (ps.zip (us ++ ws))) :
    KBn K fd ps n ks (fun us ws => us ++ ws) (fun vs zs => vs ++ zs) := by
  obtain ⟨oc, od, kV, doc, pm, an, cdv, ct, osl, rfl, lk, hcd⟩ := F.ex
  exact ⟨fun s us ws _ l1 l2 => .of_eq (h kV doc pm an cdv ct us ws l1 l2), fun r1 r2 => r1.append r2⟩
section
variable {X : Cx} {k j n : Nat} {x : Str} {sp : Sp} {ks : List Str} {p pos : Pos} {e : Expr} {es : List Expr} {kws : List Keyword} {t tk : TA}
theorem pe_gK (c : CgK X.prog X.w X.K X.mg X.base k x n ks sp) (hr : Room j X.A) (hg : X.A.guards = some []) (hk : k ≤ j) (hx : Gl X x) (ha : PA X (e :: es) t) (hkw : PK X kws tk)
    (hall : (backToKw pos (keywordEach kws X.env)).all (·.1.isSome) = true := by rfl) (hks : (backToKw pos (keywordEach kws X.env)).filterMap (·.1) = ks := by rfl)
    (hdb : (x == ("__debug__" : Str)) = false := by decide) (he : starEach (e :: es) X.env = (false, eval e X.env) :: starEach es X.env := by rfl)
    (hpl : ((backTo pos (starEach (e :: es) X.env)).any (·.1) || (backToKw pos (keywordEach kws X.env)).any (·.1.isNone)) = false := by rfl) :
    PE X (.Call (.Name x p) (e :: es) kws pos) (tCallN n ks.length sp (fun vs zs => vs ++ zs) E0 t tk) := by
  obtain ⟨f, fd, ps, F, hm, kp, b⟩ := c.ex
  refine ⟨fun pins s σ H Q I h => ?_⟩
  refine wpAny_Call_Name_kw (ld_glob I hx hm ?_ hdb)
  refine PySem.W.callWith_KW (h₀ := X.base) I.ok.mod.kin kp hall (thn (ha.run pos pins s σ H _ I h) fun us s1 ⟨vs, H1, I1, r, q⟩ => ?_) hpl he
  refine thn (hkw.run pos pins s1 σ H1 _ I1 q) fun ws s2 ⟨zs, H2, I2, rz, l1, l2, q2⟩ => ⟨I2.kIn, ?_⟩
  rw [hks]
  have bt := b.to s2 us ws I2.kIn (r.length.symm.trans l1) (rz.length.symm.trans l2)
  refine wpAny_call (codeAny_mono (F.runs X.A X.stack s2 H2 ⟨us, ks.zip ws⟩ (us ++ ws) (vs ++ zs) Q E0 (hr.mono hk) hg I2.env0 bt (b.rel r rz) q2) fun w3 s3 h => ?_)
  cases w3 with
  | error z => exact False.elim h
  | ok fl =>
    cases fl with
    | ret u => exact I2.after h
    | next => exact False.elim h
    | brk => exact False.elim h
    | cont => exact False.elim h
end
end RG
end RLj
section RLk
/-! the signs of what repr writes: a text that can be laid -/
namespace RG
open PySem PySem.Spec PyProof.Rows L2
def OkT (t : Str) : Prop := ∀ c ∈ t.cps.toList, c < 1114112
theorem OkT.strOk {t : Str} (h : OkT t) : PyData.strOk t = true := by
  unfold PyData.strOk
  rw [Array.all_eq_true]
  intro i hi
  rw [decide_eq_true_eq]
  exact h _ (by simp)
theorem okT_of {t : Str} (h : PyData.strOk t = true) : OkT t := fun c hc => by
  unfold PyData.strOk at h
  rw [Array.all_eq_true] at h
  obtain ⟨i, hi, e⟩ := List.getElem_of_mem hc
  have h2 := h i (by simpa using hi)
  rw [decide_eq_true_eq] at h2
  rw [← e]
  simpa using h2
theorem OkT.app {x y : Str} (hx : OkT x) (hy : OkT y) : OkT (x ++ y) := fun c hc => by
  have hc2 : c ∈ (x.cps ++ y.cps).toList := hc
  rw [Array.toList_append] at hc2
  rcases List.mem_append.mp hc2 with h | h
  · exact hx c h
  · exact hy c h
theorem chr_lt (ch : Char) : ch.toNat < 1114112 := by
  have h := ch.valid
  have h : ch.toNat < 0xd800 ∨ (0xdfff < ch.toNat ∧ ch.toNat < 0x110000) := h
  omega
theorem okT_lit (s : String) : OkT (Str.ofString s) := by
  rw [Str.ofString_eq_toList]
  intro c hc
  simp only [List.mem_map] at hc
  obtain ⟨ch, _, rfl⟩ := hc
  exact chr_lt ch
open Builtin Builtin.Str in
theorem reprChar_okT (q c : Nat) (hq : q < 1114112) (hc : c < 1114112) : ∀ d ∈ reprChar q c, d < 1114112 := by
  have hx : ∀ w, ∀ d ∈ (List.replicate (w - ((Nat.toDigits 16 c).map Char.toNat).length) 48 ++ (Nat.toDigits 16 c).map Char.toNat), d < 1114112 := by
    intro w d hd
    rcases List.mem_append.mp hd with h | h
    · rw [List.mem_replicate] at h
      rw [h.2]
      decide
    · obtain ⟨ch, _, rfl⟩ := List.mem_map.mp h
      exact chr_lt ch
  intro d hd
  unfold reprChar at hd
  dsimp only at hd
  repeat' split at hd
  all_goals simp only [List.mem_append, List.mem_cons, List.not_mem_nil, or_false] at hd
  · rcases hd with rfl | rfl
    · decide
    · exact hc
  · rcases hd with rfl | rfl <;> decide
  · rcases hd with rfl | rfl <;> decide
  · rcases hd with rfl | rfl <;> decide
  · rw [hd]; exact hc
  all_goals
    rcases hd with (rfl | rfl) | hd
    · decide
    · decide
    · exact hx _ d (by simpa only [List.mem_append] using hd)
theorem fold_okT (q : Nat) (hq : q < 1114112) : ∀ (l : List Nat) (acc : Array Nat), (∀ c ∈ l, c < 1114112) → (∀ c ∈ acc.toList, c < 1114112) → ∀ c ∈ (l.foldl (fun out c => out ++ (Builtin.Str.reprChar q c).toArray) acc).toList, c < 1114112
  | [], _, _, h => h
  | a :: l, acc, h1, h2 => by
    refine fold_okT q hq l _ (fun c hc => h1 c (List.mem_cons_of_mem _ hc)) fun c hc => ?_
    rw [Array.toList_append] at hc
    rcases List.mem_append.mp hc with h | h
    · exact h2 c h
    · exact reprChar_okT q a hq (h1 a List.mem_cons_self) c (by simpa using h)
theorem OkT.repr {x : Str} (h : OkT x) : OkT (reprText x) := by
  have hq : reprQuote x < 1114112 := by
    unfold reprQuote
    split <;> decide
  intro c hc
  have hc2 : c ∈ ((x.cps.foldl (fun out c => out ++ (Builtin.Str.reprChar (reprQuote x) c).toArray) #[reprQuote x]).push (reprQuote x)).toList := hc
  rw [Array.toList_push, List.mem_append, ← Array.foldl_toList] at hc2
  rcases hc2 with hc2 | hc2
  · refine fold_okT _ hq _ _ h (fun d hd => ?_) c hc2
    have : d = reprQuote x := by simpa using hd
    rw [this]
    exact hq
  · rw [List.mem_singleton] at hc2
    rw [hc2]
    exact hq
theorem okT_from : ∀ (ts : List Str) (k : Nat) (acc : Str), OkT acc → (∀ t ∈ ts, OkT t) → OkT (textFrom k acc ts)
  | [], _, _, h, _ => h
  | t :: ts, k, acc, h, hs => okT_from ts (k + 1) _ ((h.app (okT_lit _)).app (hs t List.mem_cons_self)) fun u hu => hs u (List.mem_cons_of_mem _ hu)
theorem okT_join : ∀ (ts : List Str), (∀ t ∈ ts, OkT t) → OkT (Str.join ", " ts)
  | [], _ => fun c hc => by
    have : c ∈ ([] : List Nat) := hc
    cases this
  | [x], h => h x List.mem_cons_self
  | x :: y :: r, h => ((h x List.mem_cons_self).app (okT_lit _)).app (okT_join (y :: r) fun u hu => h u (List.mem_cons_of_mem _ hu))
theorem okT_list {ts : List Str} (h : ∀ t ∈ ts, OkT t) : OkT (listText ts) := (okT_from ts 0 _ (okT_lit _) h).app (okT_lit _)
theorem okT_tuple {ts : List Str} (h : ∀ t ∈ ts, OkT t) : OkT (tupleText ts) := ((okT_lit _).app (okT_join ts h)).app (okT_lit _)
mutual
theorem shown_okT : ∀ d : PyData, d.canLay0 = true → OkT d.shown
  | .none, _ => by simp only [PyData.shown]; exact okT_lit _
  | .bool b, _ => by
    simp only [PyData.shown]
    split <;> exact okT_lit _
  | .int i, _ => by simp only [PyData.shown]; exact okT_lit _
  | .str x, h => by
    simp only [PyData.shown]
    exact OkT.repr (okT_of (by simpa only [PyData.canLay0] using h))
  | .list xs, h => by
    simp only [PyData.shown]
    exact okT_list (shownAll_okT xs (by simpa only [PyData.canLay0] using h))
  | .tuple xs, h => by
    simp only [PyData.shown]
    exact okT_tuple (shownAll_okT xs (by simpa only [PyData.canLay0] using h))
  | .dict _, h => by simp [PyData.canLay0] at h
theorem shownAll_okT : ∀ ds : List PyData, PyData.canLayAll0 ds = true → ∀ t ∈ PyData.shownAll ds, OkT t
  | [], _, t, ht => by simp [PyData.shownAll] at ht
  | d :: ds, h, t, ht => by
    simp only [PyData.canLayAll0, Bool.and_eq_true] at h
    simp only [PyData.shownAll, List.mem_cons] at ht
    rcases ht with rfl | ht
    · exact shown_okT d h.1
    · exact shownAll_okT ds h.2 t ht
end
end RG
end RLk
section RLl
/-! [e for k in range(..) if ..] -/
namespace RG
open PySem PySem.Spec PyProof.Rows L2
theorem comp_rngT {lo : Int} {n : Nat} {D : Addr} {ys : List V} {bs : List Bool} {te : TE} {tt : TT} {j : Nat} {σ : L2.St} {H : Hp} {Qd : Hp → Prop} (hD : H D = none) (hl : ys.length = n) (hb : bs.length = n) (hz : n < sizeLine)
    (test : ∀ (i : Nat) (b : Bool), bs[i]? = some b → ∀ G, Same H G → ∀ Q : Bool → Hp → Prop, (∀ G', Same G G' → Q b G') → tt ((σ.set j none).set j (some (.int (lo + (i : Int))))) G Q)
    (each : ∀ (i : Nat) (y : V), ys[i]? = some y → ∀ G, Same H G → ∀ Q : VK, (∀ G', Same G G' → Q y G') → te ((σ.set j none).set j (some (.int (lo + (i : Int))))) G Q)
    (done : ∀ G, Same H G → G D = some (.lst (keptV ys bs)) → Qd G) :
    ∃ W : Nat → Nat → Hp → Prop, (∃ m, W 0 m (upd H D (.lst []))) ∧ ∀ i m G, W i m G →
      ((Itr lo n).stop i G ∧ Qd G) ∨ ((Itr lo n).go i G ∧ ∃ Nx : Hp → Prop, (∀ H', Nx H' → ∃ m', m' < m ∧ W (i + 1) m' H') ∧ ∀ x H', (Itr lo n).yld i G x H' → gName j x (wipe σ [j]) H' fun σ2 H2 => wipe σ2 [j] = wipe σ [j] ∧ tt σ2 H2 fun b H3 =>
        if b = true then te σ2 H3 fun y H4 => ∃ acc, H4 D = some (.lst acc) ∧ acc.length < sizeLine ∧ Nx (upd H4 D (.lst (acc ++ [y]))) else Nx H3) := by
  refine lc_it walk_range (fun i G => Same H G ∧ G D = some (.lst (keptV (ys.take i) (bs.take i)))) ⟨same_new hD, by rw [upd_same]; rfl⟩ (fun _ _ _ _ => trivial) (fun i x G G' hi h y => ?_) fun G h => done G h.1 (by rw [h.2, ← hl, List.take_length, hl, ← hb, List.take_length])
  obtain ⟨rfl, rfl⟩ := y
  have hy : ys[i]? = some ys[i] := List.getElem?_eq_getElem (by omega)
  have hbi : bs[i]? = some bs[i] := List.getElem?_eq_getElem (by omega)
  exact lc_stepT hD (by omega) hy hbi h.1 h.2 (test i _ hbi _ h.1) (fun G1 e1 => each i _ hy G1 (h.1.trans e1)) fun G' e1 e2 => ⟨e1, e2⟩
end RG
end RLl
section RLm
/-! [e for .. in xs], each e an object with what hangs on it -/
namespace RG
open PySem PySem.Spec PyProof.Rows L2
theorem comp_P {K : PySem.W.Frag} {a D : Addr} {xs : List V} {α : Type} {ds : List α} {Pf : Hp → V → α → Prop} {g : TG} {vs : List Nat} {te : TE} {σ : L2.St} {H : Hp} {Qd : Hp → Prop} (hD : H D = none) (ha : SqL K H a xs) (hl : ds.length = xs.length) (hz : xs.length < sizeLine)
    (stay : ∀ G G' y d, (∃ l, G D = some (.lst l)) → Kb D G G' → Pf G y d → Pf G' y d)
    (each : ∀ (i : Nat) (x : V) (d : α), xs[i]? = some x → ds[i]? = some d → ∀ G, Same H G → (∃ l, G D = some (.lst l)) → ∀ (Q : VK) (Nx : Hp → Prop), (∀ y G', Same G G' → Pf G' y d → Q y G') →
      g x (wipe σ vs) G fun σ2 H2 => wipe σ2 vs = wipe σ vs ∧ tYes σ2 H2 fun b H3 => if b = true then te σ2 H3 Q else Nx H3)
    (done : ∀ G ys, Same H G → G D = some (.lst ys) → Paired (Pf G) ys ds → Qd G) :
    ∃ W : Nat → Nat → Hp → Prop, (∃ m, W 0 m (upd H D (.lst []))) ∧ ∀ i m G, W i m G →
      ((Itl K a).stop i G ∧ Qd G) ∨ ((Itl K a).go i G ∧ ∃ Nx : Hp → Prop, (∀ H', Nx H' → ∃ m', m' < m ∧ W (i + 1) m' H') ∧ ∀ x H', (Itl K a).yld i G x H' → g x (wipe σ vs) H' fun σ2 H2 => wipe σ2 vs = wipe σ vs ∧ tYes σ2 H2 fun b H3 =>
        if b = true then te σ2 H3 fun y H4 => ∃ acc, H4 D = some (.lst acc) ∧ acc.length < sizeLine ∧ Nx (upd H4 D (.lst (acc ++ [y]))) else Nx H3) := by
  refine lc_list (xs := xs) (fun i G => Same H G ∧ ∃ ys, G D = some (.lst ys) ∧ Paired (Pf G) ys (ds.take i)) ⟨same_new hD, [], upd_same, .nil⟩ (fun i G _ h => sql_same h.1 ha) (fun i x G hi h => ?_) fun G h => ?_
  · obtain ⟨e, ys, g1, g2⟩ := h
    have hlt : i < xs.length := (List.getElem?_eq_some_iff.mp hi).1
    have hd : ds[i]? = some (ds[i]'(by omega)) := List.getElem?_eq_getElem _
    have yl := paired_len g2
    rw [List.length_take] at yl
    refine each i x _ hi hd G e ⟨ys, g1⟩ _ _ fun y G' e2 pf => ⟨ys, e2 _ _ g1, by omega, same_mut (e.trans e2) hD, ys ++ [y], upd_same, ?_⟩
    have kb : Kb D G' (upd G' D (.lst (ys ++ [y]))) := (Kb.refl D G').at
    have g1' := e2 _ _ g1
    rw [← take_snoc hd]
    exact Paired.snoc (Paired.mapP g2 fun y d z => stay _ _ _ _ ⟨ys, g1⟩ ((Kb.of e2).trans kb) z) (stay _ _ _ _ ⟨ys, g1'⟩ kb pf)
  · obtain ⟨e, ys, g1, g2⟩ := h
    rw [← hl, List.take_length] at g2
    exact done G ys e g1 g2
theorem sqt_kl {K : PySem.W.Frag} {p : Addr} {H G : Hp} {a : Addr} {xs l : List V} (e : Kb p H G) (hp : H p = some (.lst l)) (h : SqT K H a xs) : SqT K G a xs :=
  h.imp (fun z => z.imp (fun z => e _ _ z fun q => by rw [q, hp] at z; cases z) fun ⟨o, z⟩ => ⟨o, e _ _ z fun q => by rw [q, hp] at z; cases z⟩) id
end RG
end RLm
section RLn
/-! for, and comprehensions, over zip of two lists -/
namespace RG
open PySem PySem.Spec PyProof.Rows L2
/-- as far as the shorter goes -/
theorem for_zipM {K : PySem.W.Frag} {a b : Addr} {xs ys : List V} {g : TG} {tb : TS} {D : Ends} {σ : L2.St} {H : Hp} (Pv : Nat → L2.St → Hp → Prop) (h0 : Pv 0 σ H) (hq : ∀ i σ H, Pv i σ H → SqL K H a xs ∧ SqL K H b ys)
    (hs : ∀ (i : Nat) (x y : V) (T : Addr) (σ : L2.St) (H : Hp), xs[i]? = some x → ys[i]? = some y → Pv i σ H → H T = none → g (.ref T) σ (upd H T (.tup [x, y])) fun σ2 H2 => tb { D with nx := Pv (i + 1), ct := Pv (i + 1), bk := D.nx } σ2 H2) (hd : ∀ σ H, Pv (min xs.length ys.length) σ H → D.nx σ H) :
    ∃ W : Nat → Nat → L2.St → Hp → Prop, (∃ m, W 0 m σ H) ∧ ∀ i m σ H, W i m σ H →
      ((Itz K a b).stop i H ∧ D.nx σ H) ∨ ((Itz K a b).go i H ∧ ∃ N : L2.St → Hp → Prop, (∀ σ' H', N σ' H' → ∃ m', m' < m ∧ W (i + 1) m' σ' H') ∧ ∀ v H', (Itz K a b).yld i H v H' → g v σ H' fun σ2 H2 => tb { D with nx := N, ct := N, bk := D.nx } σ2 H2) := by
  refine ⟨fun i m σ H => m = min xs.length ys.length - i ∧ i ≤ min xs.length ys.length ∧ Pv i σ H, ⟨min xs.length ys.length, rfl, Nat.zero_le _, h0⟩, ?_⟩
  rintro i m σ H ⟨rfl, hi, p⟩
  obtain ⟨qx, qy⟩ := hq i σ H p
  by_cases hlt : i < min xs.length ys.length
  · have hlt1 : i < xs.length := by omega
    have hlt2 : i < ys.length := by omega
    have hx : xs[i]? = some xs[i] := List.getElem?_eq_getElem hlt1
    have hy : ys[i]? = some ys[i] := List.getElem?_eq_getElem hlt2
    refine .inr ⟨⟨xs, ys, _, _, qx, qy, hx, hy⟩, Pv (i + 1), fun σ' H' p' => ⟨min xs.length ys.length - (i + 1), by omega, rfl, hlt, p'⟩, fun v H' y => ?_⟩
    obtain ⟨T, x', y', rfl, hT, rfl, f1, f2⟩ := y
    exact hs i x' y' T σ H (f1 xs qx) (f2 ys qy) p hT
  · have e : i = min xs.length ys.length := by omega
    subst e
    exact .inl ⟨⟨xs, ys, qx, qy, by omega⟩, hd σ H p⟩
theorem lc_zip {K : PySem.W.Frag} {a b : Addr} {xs ys : List V} {g : TG} {tt : TT} {te : TE} {vs : List Nat} {σ : L2.St} {H1 : Hp} {D : Addr} {Qd : Hp → Prop} (hl : xs.length = ys.length) (Pv : Nat → Hp → Prop) (h0 : Pv 0 (upd H1 D (.lst []))) (hq : ∀ i H, Pv i H → SqL K H a xs ∧ SqL K H b ys)
    (hs : ∀ i x y T H, xs[i]? = some x → ys[i]? = some y → Pv i H → H T = none → g (.ref T) (wipe σ vs) (upd H T (.tup [x, y])) fun σ2 H2 => wipe σ2 vs = wipe σ vs ∧ tt σ2 H2 fun b H3 =>
      if b = true then te σ2 H3 fun y H4 => ∃ acc, H4 D = some (.lst acc) ∧ acc.length < sizeLine ∧ Pv (i + 1) (upd H4 D (.lst (acc ++ [y]))) else Pv (i + 1) H3) (hd : ∀ H, Pv xs.length H → Qd H) :
    ∃ W : Nat → Nat → Hp → Prop, (∃ m, W 0 m (upd H1 D (.lst []))) ∧ ∀ i m H, W i m H →
      ((Itz K a b).stop i H ∧ Qd H) ∨ ((Itz K a b).go i H ∧ ∃ Nx : Hp → Prop, (∀ H', Nx H' → ∃ m', m' < m ∧ W (i + 1) m' H') ∧ ∀ x H', (Itz K a b).yld i H x H' → g x (wipe σ vs) H' fun σ2 H2 => wipe σ2 vs = wipe σ vs ∧ tt σ2 H2 fun b H3 =>
        if b = true then te σ2 H3 fun y H4 => ∃ acc, H4 D = some (.lst acc) ∧ acc.length < sizeLine ∧ Nx (upd H4 D (.lst (acc ++ [y]))) else Nx H3) := by
  refine ⟨fun i m H => m = xs.length - i ∧ i ≤ xs.length ∧ Pv i H, ⟨xs.length, by simp, Nat.zero_le _, h0⟩, ?_⟩
  rintro i m H ⟨rfl, hi, p⟩
  obtain ⟨qx, qy⟩ := hq i H p
  by_cases hlt : i < xs.length
  · have hlt2 : i < ys.length := by omega
    have hx : xs[i]? = some xs[i] := List.getElem?_eq_getElem hlt
    have hy : ys[i]? = some ys[i] := List.getElem?_eq_getElem hlt2
    refine .inr ⟨⟨xs, ys, _, _, qx, qy, hx, hy⟩, Pv (i + 1), fun H' p' => ⟨xs.length - (i + 1), by omega, rfl, hlt, p'⟩, fun v H' y => ?_⟩
    obtain ⟨T, x', y', rfl, hT, rfl, f1, f2⟩ := y
    exact hs i x' y' T H (f1 xs qx) (f2 ys qy) p hT
  · have e : i = xs.length := by omega
    subst e
    exact .inl ⟨⟨xs, ys, qx, qy, Or.inl (Nat.le_refl _)⟩, hd H p⟩
theorem comp_zipP {K : PySem.W.Frag} {a b D : Addr} {xs ys : List V} {α : Type} {ds : List α} {Pf : Hp → V → α → Prop} {g : TG} {vs : List Nat} {te : TE} {σ : L2.St} {H : Hp} {Qd : Hp → Prop} (hD : H D = none) (ha : SqL K H a xs) (hb : SqL K H b ys) (hxy : xs.length = ys.length) (hl : ds.length = xs.length) (hz : xs.length < sizeLine)
    (stay : ∀ G G' y d, (∃ l, G D = some (.lst l)) → Kb D G G' → Pf G y d → Pf G' y d)
    (each : ∀ (i : Nat) (x y : V) (d : α) (T : Addr), xs[i]? = some x → ys[i]? = some y → ds[i]? = some d → ∀ G, Same H G → (∃ l, G D = some (.lst l)) → G T = none → ∀ (Q : VK) (Nx : Hp → Prop), (∀ v G', Same G G' → Pf G' v d → Q v G') →
      g (.ref T) (wipe σ vs) (upd G T (.tup [x, y])) fun σ2 H2 => wipe σ2 vs = wipe σ vs ∧ tYes σ2 H2 fun b H3 => if b = true then te σ2 H3 Q else Nx H3)
    (done : ∀ G zs, Same H G → G D = some (.lst zs) → Paired (Pf G) zs ds → Qd G) :
    ∃ W : Nat → Nat → Hp → Prop, (∃ m, W 0 m (upd H D (.lst []))) ∧ ∀ i m G, W i m G →
      ((Itz K a b).stop i G ∧ Qd G) ∨ ((Itz K a b).go i G ∧ ∃ Nx : Hp → Prop, (∀ H', Nx H' → ∃ m', m' < m ∧ W (i + 1) m' H') ∧ ∀ x H', (Itz K a b).yld i G x H' → g x (wipe σ vs) H' fun σ2 H2 => wipe σ2 vs = wipe σ vs ∧ tYes σ2 H2 fun b H3 =>
        if b = true then te σ2 H3 fun y H4 => ∃ acc, H4 D = some (.lst acc) ∧ acc.length < sizeLine ∧ Nx (upd H4 D (.lst (acc ++ [y]))) else Nx H3) := by
  refine lc_zip (xs := xs) (ys := ys) hxy (fun i G => Same H G ∧ ∃ zs, G D = some (.lst zs) ∧ Paired (Pf G) zs (ds.take i) ∧ i ≤ xs.length) ⟨same_new hD, [], upd_same, .nil, Nat.zero_le _⟩ (fun i G h => ⟨sql_same h.1 ha, sql_same h.1 hb⟩) (fun i x y T G hi hj h hT => ?_) fun G h => ?_
  · obtain ⟨e, zs, g1, g2, _⟩ := h
    have hlt : i < xs.length := (List.getElem?_eq_some_iff.mp hi).1
    have hd : ds[i]? = some (ds[i]'(by omega)) := List.getElem?_eq_getElem _
    have yl := paired_len g2
    rw [List.length_take] at yl
    refine each i x y _ T hi hj hd G e ⟨zs, g1⟩ hT _ _ fun v G' e2 pf => ⟨zs, e2 _ _ g1, by omega, same_mut (e.trans e2) hD, zs ++ [v], upd_same, ?_, hlt⟩
    have kb : Kb D G' (upd G' D (.lst (zs ++ [v]))) := (Kb.refl D G').at
    have g1' := e2 _ _ g1
    rw [← take_snoc hd]
    exact Paired.snoc (Paired.mapP g2 fun y d z => stay _ _ _ _ ⟨zs, g1⟩ ((Kb.of e2).trans kb) z) (stay _ _ _ _ ⟨zs, g1'⟩ kb pf)
  · obtain ⟨e, zs, g1, g2, _⟩ := h
    rw [← hl, List.take_length] at g2
    exact done G zs e g1 g2
end RG
end RLn
section RLo
/-! repr of a dict of data, whatever its first key is -/
namespace RG
open PySem PySem.Spec PyProof.Rows L2
section
variable {X : Cx}
def rReprKv (K : PySem.W.Frag) : List V → Hp → VK → Prop := fun vs H Q => ∃ (a : Addr) (kvs : List (Key × V)) (ds : List (PyData × PyData)), vs = [.ref a] ∧ Rd H a (.dK kvs) ∧ DdKv K H kvs ds ∧ (PyData.dict ds).showable = true ∧ (PyData.dict ds).shown.length ≤ sizeLine ∧ (PyData.dict ds).depth ≤ 60 ∧ Q (.str (PyData.dict ds).shown) H
theorem cr_reprKv (hg : X.A.guards = some []) (hu : X.A.units + 64 < cLine) : CallR X (.builtin "repr") (rReprKv X.K) := by
  intro pins s σ H vs us Q I r h
  obtain ⟨a, kvs, ds, rfl, h1, h2, hs, hz, hd, q⟩ := h
  obtain ⟨u, rfl, rx⟩ := vals1 r
  cases rx
  obtain ⟨z, hy, vs, rel, o, es, ep, g1, g2, g3, g4, g5, g6⟩ := h1.ok I.hok
  simp only [PyData.shown, PyData.depth] at q hz hd
  obtain ⟨w1, w2⟩ := PyData.showableKv_split ds (by simpa [PyData.showable] using hs)
  obtain ⟨as, a2, bs, r1, r2, hb, k1, k2⟩ := DdKv.tells I h2 rel g5 w1 w2 (fun t ht => Nat.le_trans (dictText_mem_le ht) hz)
  have R : Reads s.heap (.ref a) (.dict ds) _ := Reads.dict g1 g2.1 g3 r1 r2
  have hn := not_mem_of_deeper R (by simp only [PyData.depth]; omega) hb
  refine call_repr_slot (by omega) ⟨o, g1, g2.1⟩ F.slot_dict_repr ?_
  rw [PyData.shownKv_eq] at q hz
  exact call_dict_reprK g1 g2.1 g3 hy hn (ReprEntriesK.of_two es.toList _ _ k1 k2) hg (fun b _ => Clear.nil b) (by show X.A.units + 1 + _ < cLine; omega) (fun _ _ e => e)
    (fun g v tk kp => ⟨_, _, rfl, .str _, H, I.kept kp, ⟨_, rfl⟩, q⟩) hz
end
end RG
end RLo
section RLp
/-! own errors over any built-in base: made, their fields set, raised -/
namespace RG
open PySem PySem.Spec PyProof.Rows L2
/-- what is known of a built-in base -/
structure BaseE (B nw ini : String) (tl : List Value) : Prop where
  fac : PySem.ExcBaseFacts B nw ini tl
  sto : PySem.StoreFacts B tl "object.__setattr__" "object"
  ty : PySem.typeOf (.type B) = pure (.type "type")
/-- what a class over it must say of itself -/
def errB (K : PySem.W.Frag) (C : Addr) (nw : String) (tl : List Value) : Bool :=
  [PySem.W.excInitIn K C tl nw, PySem.W.excOver K C tl, PySem.W.hasDictIn K C, PySem.W.keepIn K (.ref C),
   decide (PySem.W.findIn K (.ref C) "__setattr__" = some (some (.builtin "object.__setattr__"))),
   decide (PySem.W.subIn K (.ref C) (.type "BaseException") = some true),
   decide (PySem.W.typeIn K (.ref C) = some (.type "type"))].all id
structure ErrC (K : PySem.W.Frag) (C : Addr) (nw : String) (tl : List Value) : Prop where
  ini : PySem.W.excInitIn K C tl nw = true
  ovr : PySem.W.excOver K C tl = true
  dct : PySem.W.hasDictIn K C = true
  kp : PySem.W.keepIn K (.ref C) = true
  sa : PySem.W.findIn K (.ref C) "__setattr__" = some (some (.builtin "object.__setattr__"))
  sub : PySem.W.subIn K (.ref C) (.type "BaseException") = some true
  typ : PySem.W.typeIn K (.ref C) = some (.type "type")
theorem errC_by {K : PySem.W.Frag} {C : Addr} {nw : String} {tl : List Value} (h : errB K C nw tl = true) : ErrC K C nw tl := by
  simp only [errB, List.all_cons, List.all_nil, id, Bool.and_true, Bool.and_eq_true, decide_eq_true_eq] at h
  obtain ⟨h1, h2, h3, h4, h5, h6, h7⟩ := h
  exact ⟨h1, h2, h3, h4, h5, h6, h7⟩
/-- an object that is there, from now on told of -/
theorem track {X : Cx} {pins : List (Addr × Obj)} {σ : L2.St} {H : Hp} {s : Shared} {a : Addr} {o : HO} (I : Inv X pins σ H s) (hn : H a = none) (new : ObjOk X.prog X.w (upd H a o) s.heap a o) (h0 : X.s_0.heap.get? a = none) (hL : a ≠ X.env.locals)
    (hc : ∀ x c, X.env.cells.lookup x = some c → c ≠ a) (hp : ∀ p ∈ X.pn ++ pins, p.1 ≠ a) : Inv X pins σ (upd H a o) s := by
  have ne : ∀ {b : Addr} {u : HO}, H b = some u → b ≠ a := fun {b u} e z => by rw [z, hn] at e; cases e
  have n0 : ∀ {b : Addr} {u : Obj}, X.s_0.heap.get? b = some u → b ≠ a := fun {b u} e z => by rw [z, h0] at e; cases e
  exact {
    ok := I.ok
    os := I.os
    bare := I.bare
    base := {
      keep := I.base.keep
      slot := I.base.slot
      free := fun b u e n x => by rw [upd_ne (n0 e)]; exact I.base.free b u e n x
      there := I.base.there
      tups := fun b xs e => by have z := I.base.tups b xs e; rw [upd_ne (ne z)]; exact z
      frzs := fun b u v e => by have z := I.base.frzs b u v e; rw [upd_ne (ne z)]; exact z
      tbls := fun b ps e => by
        obtain ⟨m, z⟩ := I.base.tbls b ps e
        exact ⟨m, by rw [upd_ne (ne z)]; exact z⟩ }
    loc := I.loc
    cell := I.cell
    free := by rw [upd_ne (Ne.symm hL)]; exact I.free
    freeC := fun x c e => by rw [upd_ne (hc x c e)]; exact I.freeC x c e
    pin := fun p h => by
      obtain ⟨q1, q2, q3⟩ := I.pin p h
      exact ⟨q1, by rw [upd_ne (hp p h)]; exact q2, q3⟩
    hok := fun b u e => by
      by_cases z : b = a
      · subst z
        rw [upd_same] at e
        cases e
        exact new
      · rw [upd_ne z] at e
        exact (I.hok b u e).stay (fun _ _ _ q => q) (fun c q => by rw [upd_ne (ne q)]; exact q) fun c xs q => by rw [upd_ne (ne q)]; exact q
    len := I.len }
theorem upd_swap {H : Hp} {a b : Addr} {o u : HO} (h : a ≠ b) : upd (upd H a o) b u = upd (upd H b u) a o := by
  funext c
  by_cases ca : c = a
  · subst ca
    rw [upd_ne h, upd_same, upd_same]
  · rw [upd_ne ca]
    by_cases cb : c = b
    · subst cb
      rw [upd_same, upd_same]
    · rw [upd_ne cb, upd_ne cb, upd_ne ca]
section
open PySem.W Builtin Builtin.ObjectAttr
variable {prog : Program} {w : World} {A : Around} {R : Result → Shared → Prop} {hp : Heap} {g : Array GenState} {d : Drawn} {t : Nat} {os : OsState} {K : PySem.W.Frag} {name : Str} {tk : Tok} {v : Value} {x C dx : Addr} {fv : Array Value} {B nw ini : String} {tl : List Value}
theorem none_take (ha : findIn K (.ref C) name = some none) : takerIn K C name = some none := by
  unfold takerIn
  rw [ha]
  rfl
/-- the first field of an error: it gets its dict -/
theorem err_first (D : BaseE B nw ini tl) (T : ErrC K C nw tl) (X : K.In hp) (hx : hp.get? x = some { cls := .ref C, data := .fields fv }) (ha : findIn K (.ref C) name = some none)
    (hq : ∀ h' tk' dx, (∀ b o, b ≠ x → hp.get? b = some o → h'.get? b = some o) → hp.objs.size ≤ dx → dx ≠ x → h'.get? x = some { cls := .ref C, dict := some dx, data := .fields fv } → h'.Ns1 dx (fun y => if y = name then some v else none) →
      R (.ok (.ret .none)) ⟨h', g, d, tk', os⟩) : codeAny (model prog w) A (.call (.builtin "object.__setattr__") ⟨[.ref x, .str name tk, v], []⟩) R ⟨hp, g, d, t, os⟩ := by
  have J : InstAt hp x { cls := .ref C, data := .fields fv } C none := ⟨hx, rfl, rfl, trivial⟩
  refine osa_openX (s := ⟨hp, g, d, t, os⟩) D.sto X J T.ovr (none_take ha) fun b => ?_
  obtain ⟨cd, hcd, hh⟩ := any_some T.dct
  have Lc : Looks (model prog w) hp (classData C) cd := looks_clsIn X hcd
  have ne : x ≠ hp.objs.size := Nat.ne_of_lt (Heap.lt_size hx)
  obtain ⟨nm, bs, mro, ns, qn, hd, sn, sb, ab, col, del⟩ := cd
  dsimp only at hh
  subst hh
  dsimp only
  unfold storeInOwnDict ownDictForStores
  repeat (first | with_reducible refine PySem.HandSPX.store_in_new ?_ ?_ | with_reducible refine wpAny_loadPart_at hx ?_ | with_reducible refine Lc.at ?_ | wp_step)
  · exact ⟨_, #[], _, (Heap.get?_update_ne _ _ _ _ ne.symm).trans (Heap.get?_push_at rfl rfl), rfl, fun e he => absurd he (by simp), fun _ => rfl⟩
  · intro h' tk' hn' hs
    have hx₁ : (hp.push { cls := .type "dict", data := .dict #[] }).get? x = some { cls := .ref C, data := .fields fv } := Heap.get?_push_of_some _ hx
    refine hq h' tk' hp.objs.size (fun c o hc ho => ?_) (Nat.le_refl _) ne.symm ((hs.2 x ne).trans (Heap.get?_update_self _ hx₁ rfl)) hn'
    exact (hs.2 c (Nat.ne_of_lt (Heap.lt_size ho))).trans ((Heap.get?_update_ne _ _ _ _ hc).trans (Heap.get?_push_of_some _ ho))
/-- a further one -/
theorem err_more (D : BaseE B nw ini tl) (T : ErrC K C nw tl) {m0 : Str → Option Value} {nl : List Str} (X : K.In hp) (hx : hp.get? x = some { cls := .ref C, dict := some dx, data := .fields fv }) (hns : hp.Ns1 dx m0) (hw : PySem.Within m0 nl) (hz : nl.length ≤ 1000)
    (ha : findIn K (.ref C) name = some none) (hq : ∀ h' tk', (∀ b o, b ≠ dx → hp.get? b = some o → h'.get? b = some o) → h'.Ns1 dx (fun y => if y = name then some v else m0 y) → R (.ok (.ret .none)) ⟨h', g, d, tk', os⟩) :
    codeAny (model prog w) A (.call (.builtin "object.__setattr__") ⟨[.ref x, .str name tk, v], []⟩) R ⟨hp, g, d, t, os⟩ := by
  obtain ⟨oD, esD, epD, hoD, hdD, _⟩ := hns.count hw
  have J : InstAt hp x { cls := .ref C, dict := some dx, data := .fields fv } C (some oD) := ⟨hx, rfl, rfl, hoD⟩
  refine osa_openX (s := ⟨hp, g, d, t, os⟩) D.sto X J T.ovr (none_take ha) fun b => ?_
  obtain ⟨cd, hcd, hh⟩ := any_some T.dct
  have Lc : Looks (model prog w) hp (classData C) cd := looks_clsIn X hcd
  obtain ⟨nm, bs, mro, ns, qn, hd, sn, sb, ab, col, del⟩ := cd
  dsimp only at hh
  subst hh
  dsimp only
  unfold storeInOwnDict ownDictForStores
  repeat (first | with_reducible refine PySem.OEX.store_in_old hns hw hz ?_ | with_reducible refine wpAny_loadPart_at hx ?_ | with_reducible refine Lc.at ?_ | wp_step)
  intro h' tk' hn' hs
  exact hq h' tk' (fun c o hc ho => (hs.2 c hc).trans ho) hn'
end
section
variable {X : Cx} {pins : List (Addr × Obj)} {σ : L2.St} {H : Hp} {s : Shared} {a C dx : Addr} {f : Str} {y : V} {u : Value} {fs : List (Str × V)} {Q : Unit → Shared → Prop} {E : Value → Shared → Prop} {A : Around} {B nw ini : String} {tl : List Value}
theorem ex_new (D : BaseE B nw ini tl) (T : ErrC X.K C nw tl) (I : Inv X pins σ H s) (e : H a = some (exo a C none)) (hno : PySem.W.findIn X.K (.ref C) f = some none) (ry : RelV y u)
    (h : ∀ dx s', H dx = none → dx ≠ a → Inv X pins σ (upd (upd H dx (exd dx [(f, y)])) a (exo a C (some dx))) s' → Q () s') : wpAny (model X.prog X.w) A (setAttr (.ref a) f u) Q E s := by
  obtain ⟨t1, ho⟩ := exo_at I.hok e
  obtain ⟨hp, g, d, t, os⟩ := s
  refine PySem.W.set_plain I.kIn (ox := { cls := .ref C, dict := none, data := .fields #[.ref t1, .none, .none, .none, .bool false, .none] }) (od := none) ⟨ho, rfl, rfl, trivial⟩ T.sa ?_
  refine err_first D T I.kIn ho hno fun h' tk' dx k dn dne hx hn => ?_
  have hnd : H dx = none := I.hok.fresh dn
  have J := I.write (t' := tk') (x := a) (e := a) (o := exo a C (some dx)) (by rw [e]; exact True.intro) (.inl rfl) k ⟨_, hx⟩ (exo_ok hx)
  have old : ∀ {b : Addr} {o : Obj}, hp.get? b = some o → b ≠ dx := fun {b o} q => Nat.ne_of_lt (Nat.lt_of_lt_of_le (Heap.lt_size q) dn)
  refine h dx _ hnd dne ?_
  rw [upd_swap dne]
  refine track J (by rw [upd_ne dne]; exact hnd) (exd_ok hn (relO_put (fs := []) ry fun g => True.intro)) ?_ (fun z => ?_) (fun x c e z => ?_) fun p hp z => ?_
  · cases q : X.s_0.heap.get? dx with
    | none => rfl
    | some o => exact absurd (Nat.lt_of_lt_of_le (Heap.lt_size q) (Nat.le_trans I.sz dn)) (Nat.lt_irrefl _)
  · exact absurd (Nat.lt_of_lt_of_le I.lt dn) (by rw [z]; exact Nat.lt_irrefl _)
  · obtain ⟨v, o, ho, _⟩ := I.cell x c e
    exact old ho z
  · exact old (I.pin p hp).1 z
theorem ex_old (D : BaseE B nw ini tl) (T : ErrC X.K C nw tl) (I : Inv X pins σ H s) (e : H a = some (exo a C (some dx))) (ed : H dx = some (exd dx fs)) (hl : fs.length ≤ 900) (hno : PySem.W.findIn X.K (.ref C) f = some none) (ry : RelV y u)
    (h : ∀ s', Inv X pins σ (upd H dx (exd dx ((f, y) :: fs))) s' → Q () s') : wpAny (model X.prog X.w) A (setAttr (.ref a) f u) Q E s := by
  obtain ⟨t1, ho⟩ := exo_at I.hok e
  obtain ⟨mA, hns, rel⟩ := exd_at I.hok ed
  have hw := within_of rel
  obtain ⟨hp, g, d, t, os⟩ := s
  obtain ⟨oD, _, _, hoD, _⟩ := hns.count hw
  refine PySem.W.set_plain I.kIn (ox := { cls := .ref C, dict := some dx, data := .fields #[.ref t1, .none, .none, .none, .bool false, .none] }) (od := some oD) ⟨ho, rfl, rfl, hoD⟩ T.sa ?_
  refine err_more D T I.kIn ho hns hw (by rw [List.length_map]; omega) hno fun h' tk' k hn => ?_
  obtain ⟨o, _, _, e', _⟩ := id hn
  exact h _ (I.write (t' := tk') (x := dx) (e := dx) (o := exd dx ((f, y) :: fs)) (by rw [ed]; exact True.intro) (.inl rfl) k ⟨o, e'⟩ (exd_ok hn (relO_put ry rel)))
/-- the base's __init__: nothing of it is told -/
theorem ex_ini {us : List Value} {Q : Value → Shared → Prop} (D : BaseE B nw ini tl) (T : ErrC X.K C nw tl) (I : Inv X pins σ H s) (e : H a = some (exo a C none)) (hl : us.length ≤ sizeLine) (h : ∀ s', Inv X pins σ H s' → Q .none s') :
    wpAny (model X.prog X.w) A (call (.builtin ini) (.ref a :: us)) Q E s := by
  obtain ⟨nm, N, qn, bs, bm, hdct, sn, sub, ab, col, dd, k0, k1, k2, k3, k5, hC, hbm⟩ := PySem.W.excInit_of I.kIn T.ini
  obtain ⟨t1, ho⟩ := exo_at I.hok e
  obtain ⟨hp, g, d, t, os⟩ := s
  refine wpAny_call (PySem.HandSPX.init_base D.fac hbm hC ho hl fun h' t2 k hx => ?_)
  have J := I.write (t' := t) (x := a) (e := a) (o := exo a C none) (by rw [e]; exact True.intro) (.inl rfl) k ⟨_, hx⟩ (exo_ok hx)
  rw [show upd H a (exo a C none) = H from funext fun b => by
    by_cases z : b = a
    · rw [z, upd_same, e]
    · exact upd_ne z] at J
  exact h _ J
end
end RG
end RLp
section RLq
/-! own errors over any built-in base: the rules of their __init__ and of their making -/
namespace RG
open PySem PySem.Spec PyProof.Rows L2
/-- B.__init__(self, ..) -/
def tErrI (K : PySem.W.Frag) (nw : String) (tl : List Value) (ta : TA) : TE := fun σ H Q => ta σ H fun vs G => ∃ (a C : Addr) (ws : List V), vs = .ref a :: ws ∧ ws.length ≤ 1000 ∧ ErrC K C nw tl ∧ G a = some (exo a C none) ∧ Q .non G
/-- self.f = e -/
def tErrF (K : PySem.W.Frag) (nw : String) (tl : List Value) (f : Str) (to te : TE) : TS := fun D σ H => te σ H fun y G => to σ G fun x J => ∃ a C : Addr, x = .ref a ∧ ErrC K C nw tl ∧ PySem.W.findIn K (.ref C) f = some none ∧
  ((J a = some (exo a C none) ∧ ∀ dx, J dx = none → dx ≠ a → D.nx σ (upd (upd J dx (exd dx [(f, y)])) a (exo a C (some dx)))) ∨
    ∃ (dx : Addr) (fs : List (Str × V)), J a = some (exo a C (some dx)) ∧ J dx = some (exd dx fs) ∧ fs.length ≤ 900 ∧ D.nx σ (upd J dx (exd dx ((f, y) :: fs))))
section
variable {X : Cx} {o e : Expr} {es : List Expr} {to te : TE} {ta : TA} {f b : Str} {p p' p1 p2 pos : Pos} {B nw ini : String} {tl : List Value}
theorem pe_errI (D : BaseE B nw ini tl) {pl : Sem Bool} (hg : Gl X b) (hm : X.mg b = none) (hv : bootBuiltins b = some (.type B)) (hn : b ≠ "__name__") (hdb : (b == ("__debug__" : Str)) = false) (stub : Manifest.isStub B = false) (hh : PySem.W.handedIn (.builtin ini) = true)
    (vV : PySem.W.findCls X.K (.type B) (.type "type") "__init__" = some (.val (.builtin ini))) (ha : PA X (e :: es) ta)
    (hc : eval (.Call (.Attribute (.Name b p1) "__init__" p2) (e :: es) [] pos) X.env = (do
      let ov ← eval (.Name b p1) X.env
      standAt p2.atName
      let (f, first) ← holding [ov] (getMethod ov "__init__" pl)
      callWith pos f first (backTo pos (starEach (e :: es) X.env)) (backToKw pos (keywordEach [] X.env))) := by rfl)
    (he : starEach (e :: es) X.env = (false, eval e X.env) :: starEach es X.env := by rfl) (hpl : (backTo pos (starEach es X.env)).any (·.1) = false := by rfl) :
    PE X (.Call (.Attribute (.Name b p1) "__init__" p2) (e :: es) [] pos) (tErrI X.K nw tl ta) := by
  refine ⟨fun pins s σ H Q I h => PySem.W.methodCall_KW (ld_blt I hg hm hv ?_ hn hdb) hc⟩
  obtain ⟨m, fr⟩ := I.fr
  refine PySem.W.method_type fr I.ok.mod.kin D.ty stub vV hh ?_
  show wpAny _ _ (callWith pos (Value.builtin ini) [] (backTo pos (starEach (e :: es) X.env)) []) _ _ _
  refine PyProof.Rows.callWith_method1 (thn (ha.run pos pins _ σ H _ (I.tok _) h) ?_) he hpl
  rintro us s1 ⟨vs, G, J, r, a, C, ws, rfl, hl, T, ea, q⟩
  cases r with
  | cons ra rr =>
    cases ra
    refine ex_ini D T J ea ?_ fun s' J' => ⟨.non, G, J', rfl, q⟩
    rw [← Paired.length rr, sizeLine_eq]
    omega
theorem ps_errF (D : BaseE B nw ini tl) (ho : PE X o to) (he : PE X e te) (hs : swapsWith e (some (.Attribute o f p')) pos.line X.env = pure false := by rfl) : PS X (.Assign [.Attribute o f p'] e pos) (tErrF X.K nw tl f to te) := by
  refine ⟨fun pins s σ H Z I h => plainObj_wpAny_Assign_Attribute (thn (he.run pins s σ H _ I h) ?_) hs⟩
  rintro v s1 ⟨y, G, J, r1, q1⟩
  refine thn (ho.run pins s1 σ G _ J q1) ?_
  rintro u s2 ⟨x, G2, J2, r2, a, C, rfl, T, hno, q⟩
  cases r2
  rcases q with ⟨ea, q⟩ | ⟨dx, fs, ea, ed, hl, q⟩
  · exact ex_new D T J2 ea hno r1 fun dx s' n ne J3 => ⟨σ, _, J3, q dx n ne⟩
  · exact ex_old D T J2 ea ed hl hno r1 fun s' J3 => ⟨σ, _, J3, q⟩
theorem pmk_err {CX : CXT} {x : Str} {C fI : Addr} {k : Nat} {fd : FuncData} {ps : List Str} {sp : Sp} {ds : List Value} {dvs : List V} (D : BaseE B nw ini tl) (T : ErrC X.K C nw tl) (iC : PySem.W.findIn X.K (.ref C) "__init__" = some (some (.ref fI))) (tI : PySem.W.typeIn X.K (.ref fI) = some (.type "function"))
    (F1 : FnOk X.prog X.w X.K X.mg X.base CX k fI fd ps sp) (hr : Room (k + 1) X.A) (hb : Binds X.K fd ps ds) (hd : Vals dvs ds) (hx : Passes CX X (fun _ _ _ => False)) (hg : Gl X x) (hm : X.mg x = some (.ref C)) (ha : PA X (e :: es) ta)
    (hdb : (x == ("__debug__" : Str)) = false := by decide) (he : starEach (e :: es) X.env = (false, eval e X.env) :: starEach es X.env := by rfl) (hpl : (backTo pos (starEach es X.env)).any (·.1) = false := by rfl) :
    PMk X (.Call (.Name x p) (e :: es) [] pos) (tMkO C sp dvs ta) := by
  intro pins s σ H Q I h
  refine wpAny_Call_Name_kw (ld_glob I hg hm (PySem.W.callWith_K (h₀ := X.base) I.ok.mod.kin T.kp (thn (ha.run pos pins s σ H _ I h) ?_) he hpl) hdb)
  rintro us ⟨hp, g, dr, tk, os⟩ ⟨vs, G, J, r, hz, q⟩
  refine ⟨J.kIn, ?_⟩
  obtain ⟨nm, N, qn, bs, bm, hdct, sn, sub, ab, col, dd, k0, k1, k2, k3, k5, hC, hbm⟩ := PySem.W.excInit_of J.kIn T.ini
  have top : hp.objs.size ≤ hp.objs.size + 1 := Nat.le_succ _
  have free : G (hp.objs.size + 1) = none := J.hok.fresh top
  have hsp := q (hp.objs.size + 1) free
  have kk : ∀ b o, hp.get? b = some o → ((hp.push (PySem.W.kdv_tup us)).push (PySem.HandSPX.excO C hp.objs.size)).get? b = some o := fun b o e => Heap.get?_push_of_some _ (Heap.get?_push_of_some _ e)
  have J2 : Inv X pins σ (upd G (hp.objs.size + 1) (exo (hp.objs.size + 1) C none)) ⟨(hp.push (PySem.W.kdv_tup us)).push (PySem.HandSPX.excO C hp.objs.size), g, dr, tk, os⟩ :=
    J.laid (t' := tk) kk top (exo_ok (t1 := hp.objs.size) (by heap_get))
  have r2 : Vals (V.ref (hp.objs.size + 1) :: (vs ++ dvs)) (Value.ref (hp.objs.size + 1) :: (us ++ ds)) := .cons rfl (r.append hd)
  have long : (Value.ref (hp.objs.size + 1) :: us ++ ds).length = ps.length := r2.length.symm.trans (F1.len _ _ _ _ hsp)
  refine wpAny_call (PySem.HandSPX.call_own D.fac hbm hC (PySem.W.looks_findIn J.kIn iC) (fun self => PySem.W.bind_fn J.kIn self tI) (by rw [List.nil_append, ← Paired.length r, sizeLine_eq]; omega) (codeAny_mono
    (F1.run _ X.stack _ _ ⟨Value.ref (hp.objs.size + 1) :: us, []⟩ (Value.ref (hp.objs.size + 1) :: (us ++ ds)) _ _ (fun _ _ _ => False) (hr.make C us []) (J2.env0.make C us []) (hb _ (Value.ref (hp.objs.size + 1) :: us) J2.kIn long) r2 hsp) fun w2 s' z => ?_))
  cases w2 with
  | error er => exact hx pins σ _ _ er s' J2 z
  | ok fl =>
    cases fl with
    | next => exact False.elim z
    | brk => exact False.elim z
    | cont => exact False.elim z
    | ret u =>
      obtain ⟨h2, g2, d2, t2, os'⟩ := s'
      obtain ⟨v, G2, os2, bare2, un2, hok2, rv, rfl, d, fs, ea, ed, hd1, q2⟩ := z
      exact ⟨rv, mk_end (raises_own T.sub T.typ) J top kk un2 hok2 os2 bare2 ea ed hd1 q2⟩
end
end RG
end RLq
section RLr
/-! the built-in bases of own errors -/
namespace RG
open PySem PySem.Spec PyProof.Rows L2 PySem.F
theorem be_value : BaseE "ValueError" "ValueError.__new__" "ValueError.__init__" [.type "ValueError", .type "Exception", .type "BaseException", .type "object"] := ⟨F.excBase_ValueError, F.store_ValueError, by kernel_rfl⟩
theorem be_over : BaseE "OverflowError" "OverflowError.__new__" "OverflowError.__init__" [.type "OverflowError", .type "ArithmeticError", .type "Exception", .type "BaseException", .type "object"] := ⟨F.excBase_OverflowError, F.store_OverflowError, by kernel_rfl⟩
theorem be_index : BaseE "IndexError" "IndexError.__new__" "IndexError.__init__" [.type "IndexError", .type "LookupError", .type "Exception", .type "BaseException", .type "object"] := ⟨F.excBase_IndexError, F.store_IndexError, by kernel_rfl⟩
theorem be_look : BaseE "LookupError" "LookupError.__new__" "LookupError.__init__" [.type "LookupError", .type "Exception", .type "BaseException", .type "object"] := ⟨F.excBase_LookupError, F.store_LookupError, by kernel_rfl⟩
end RG
end RLr
section RLs
/-! an error that is caught and kept: try, its fields and its kinds behind the suite -/
namespace RG
open PySem PySem.Spec PyProof.Rows L2
/-- an error that is kept: its class, where its dict is -/
def kex (a : Addr) (cls : Value) (d : Option Addr) : HO := .ext fun h => ∃ (oe : Obj) (vs : Array Value), h.get? a = some oe ∧ (oe.cls = cls ∧ oe.dict = d) ∧ oe.data = .fields vs
theorem kex_ok {P : Program} {w : World} {H : Hp} {h : Heap} {a : Addr} {cls : Value} {d : Option Addr} {oe : Obj} {vs : Array Value} (e : h.get? a = some oe) (z : oe.cls = cls ∧ oe.dict = d) (f : oe.data = .fields vs) : ObjOk P w H h a (kex a cls d) :=
  ⟨⟨oe, vs, e, z, f⟩, ⟨oe, e⟩, fun h1 h2 q k => by
    obtain ⟨oe, vs, e, r⟩ := q
    exact ⟨oe, vs, k _ e, r⟩⟩
theorem kex_at {P : Program} {w : World} {H : Hp} {h : Heap} {a : Addr} {cls : Value} {d : Option Addr} (hok : HOk P w H h) (e : H a = some (kex a cls d)) : ∃ (oe : Obj) (vs : Array Value), h.get? a = some oe ∧ (oe.cls = cls ∧ oe.dict = d) ∧ oe.data = .fields vs := by
  have z : ObjOk P w H h a (.ext fun h => ∃ (oe : Obj) (vs : Array Value), h.get? a = some oe ∧ (oe.cls = cls ∧ oe.dict = d) ∧ oe.data = .fields vs) := hok a _ e
  exact z.1
/-- what the clause 'except x as n' wishes of an error of the body, the error being kept -/
def wKeep (K : PySem.W.Frag) (c : Value) (i : Nat) (ts : TS) (Wout : WX) (D : Ends) : WX := fun cls d σ H => ∃ b, PySem.W.exmOne K cls c = some b ∧
  (b = true → ∀ a, H a = none → ts ⟨fun σ' G => D.nx (σ'.set i none) G, D.rt, fun σ' G => D.bk (σ'.set i none) G, fun σ' G => D.ct (σ'.set i none) G⟩ (σ.set i (some (.ref a))) (upd H a (kex a cls d))) ∧ (b = false → Wout cls d σ H)
section
variable {X : Cx} {pins pn' : List (Addr × Obj)} {σ : L2.St} {H : Hp} {s : Shared} {a : Addr}
theorem toSuite (I : Inv X pins σ H s) : Inv (X.suite a (X.pn ++ pins)) [] σ H s :=
  { ok := I.ok.suite _ _, os := I.os, bare := I.bare, base := I.base, loc := I.loc, cell := I.cell, free := I.free, freeC := I.freeC, hok := I.hok, len := I.len
    pin := fun p hp => I.pin p (by rw [List.append_nil] at hp; exact hp) }
theorem offSuite (I : Inv (X.suite a (X.pn ++ pins)) pn' σ H s) (ok : X.Ok) : Inv X pins σ H s :=
  { ok := ok, os := I.os, bare := I.bare, base := I.base, loc := I.loc, cell := I.cell, free := I.free, freeC := I.freeC, hok := I.hok, len := I.len
    pin := fun p hp => I.pin p (List.mem_append_left _ hp) }
end
section
variable {X : Cx} {x n : Str} {c : Value} {i : Nat} {body suite : List Stmt} {b₀ : Stmt} {np pos pos' : Pos} {tb : WX → TS} {ts : TS} {Wout : WX}
theorem ps_try_keep (hs : X.stack = X.env :: X.outer) (hf : X.env.frame = some X.env.locals) (hex : X.ex = []) (hN : X.N.Nodup) (hi : X.N[i]? = some n) (hln : X.env.kindOf n = some .local) (hc : Names X x c) (tk : Takes X Wout)
    (hb : ∀ (W : WX) (pn : List (Addr × Obj)) (xe : Value → Shared → Prop), Takes (X.tr pn xe) W → PassesOwn (model X.prog X.w) X.A X.env xe → PSs (X.tr pn xe) body (tb W))
    (hsu : ∀ (a : Addr) (pn : List (Addr × Obj)), PSs (X.suite a pn) (b₀ :: suite) ts) :
    PS X (.Try body [.ExceptHandler (some (.Name x np)) (some n) (b₀ :: suite) pos'] [] [] pos) (fun D σ H => tb (wKeep X.K c i ts Wout D) D σ H) := by
  refine ⟨fun pins s σ H D I h => ?_⟩
  have ok := I.ok
  have frm : X.A.frames = some (X.env :: X.outer) := ok.frames.trans (by rw [hs])
  refine wpAny_Try_except (wpAny_mono ((hb (wKeep X.K c i ts Wout D) (X.pn ++ pins) (fun e s₁ => wpAny (model X.prog X.w) X.A (noteFrame e X.env) (fun _ s₂ => wpAny (model X.prog X.w) X.A (setFlight e none) (fun _ s₃ =>
    wpAny (model X.prog X.w) X.A (handleBy e X.env [.ExceptHandler (some (.Name x np)) (some n) (b₀ :: suite) pos']) (SP X pins D) X.xe s₃) X.xe s₂) X.xe s₁) ?_ PassesOwn.looking).run [] s σ H D (I.toTry _) h) ?_ fun _ _ z => z)
  · rintro u s' ⟨a, B, sI, pins', τ, G, cls, d, rfl, J0, nb, up, sky, na, os, ag, b, hb1, yes, no⟩
    have J : Inv X pins τ G sI := J0.ofTry ok
    have sky2 : Sky B (X.env :: X.outer) a (Zc cls d) X.env.locals s'.heap := hs ▸ sky
    show wpAny (model X.prog X.w) X.A (noteFrame (.ref a) X.env) _ _ _
    refine Sky.land Zc.steady frm hf sky2 fun h3 fl up3 => ?_
    have J3 : Inv X pins τ G { s' with heap := h3 } := J.landed nb fl.1 (up.trans up3) os ag
    obtain ⟨o3, v3, he3, hz3, hd3⟩ := fl.there
    have newB : B.get? a = none := fl.2.1
    have nfr : a ∉ frs X.stack := fun hm => by
      rw [hs] at hm
      obtain ⟨_, o', e', nf⟩ := fl.2.2.1.mem hm
      rw [he3] at e'
      cases e'
      exact nf _ hd3
    have notI : ∀ {o : Obj}, sI.heap.get? a ≠ some o := fun {o} e => by
      have := nb a o e nfr
      rw [newB] at this
      cases this
    have nL : a ≠ X.env.locals := fun z => nfr (by rw [hs]; exact List.mem_filterMap.mpr ⟨X.env, List.mem_cons_self, by rw [hf, z]⟩)
    have LT : PySem.W.Looks (model X.prog X.w) h3 (typeOf (.ref a)) cls := fun A Q E s k q => wpAny_typeOf_ref (k _ _ he3) (by rw [hz3.1]; exact q)
    have LM := PySem.W.exm_one (M := model X.prog X.w) J3.kIn LT hb1
    have T3 : Inv (X.suite a (X.pn ++ pins)) [] τ G { s' with heap := h3 } := toSuite J3
    refine wpAny_handleBy_cons (codeAny_handlers_test ?_) (by intro q; cases q)
    have named : ∀ {Q : Value → Shared → Prop} {E : Value → Shared → Prop}, Q c { s' with heap := h3 } → wpAny (model X.prog X.w) (X.A.mark (some (.ref a))) (eval (.Name x np) X.env) Q E { s' with heap := h3 } := fun {Q E} q => by
      obtain ⟨g1, g2, g3⟩ := hc
      rcases g3 with g3 | ⟨g3, g4, g5⟩
      · exact ld_glob (X := X.suite a (X.pn ++ pins)) T3 g1 g3 q g2
      · exact ld_blt (X := X.suite a (X.pn ++ pins)) T3 g1 g3 g4 q g5 g2
    refine named (LM.here ?_)
    cases b with
    | false =>
      show wpAny _ X.A (handleBy (.ref a) X.env []) _ _ _
      refine wpAny_handleBy_nil ?_
      obtain ⟨_, _, _, oe, vs, T, oT, ts', he, hz, hd, h1, _⟩ := id fl
      have last : wpAny (model X.prog X.w) X.A (setFlight (.ref a) X.env.frame) (fun _ s4 => wpAny (model X.prog X.w) X.A (throw (.ref a) : Sem Flow) (SP X pins D) X.xe s4) X.xe { s' with heap := h3 } := by
        rw [hf]
        refine HandSPX.setFlight_upZ fl fun h4 hh4 up4 => wpAny_throw (tk _ _ ⟨a, B, sI, pins, τ, G, cls, d, rfl, J, nb, (up.trans up3).trans up4, .inr (.inr (hs ▸ hh4)), na, os, ag, no rfl⟩)
      unfold PySem.passOn
      refine wpAny_bind (wpAny_field he hd h1 ?_)
      rw [if_neg (by simp)]
      first
        | exact wpAny_bind (wpAny_pure (wpAny_bind last))
        | exact wpAny_bind last
    | true =>
      refine codeAny_handlers_suite_as (HandSPX.lands_againZ fl fun h4 fl4 up4 => ?_)
      have J4 : Inv X pins τ G { s' with heap := h4 } := J.landed nb fl4.1 ((up.trans up3).trans up4) os ag
      obtain ⟨o4, v4, he4, hz4, hd4⟩ := fl4.there
      have K4 : Inv X pins τ (upd G a (kex a cls d)) { s' with heap := h4 } := by
        refine track J4 na (kex_ok he4 hz4 hd4) ?_ nL (fun y c e z => ?_) fun p hp z => ?_
        · cases q : X.s_0.heap.get? a with
          | none => rfl
          | some o =>
            obtain ⟨o', e'⟩ := J.base.there a o q (by rw [hex]; exact fun z => nomatch z)
            exact absurd e' notI
        · obtain ⟨v, o, ho, hd⟩ := J4.cell y c e
          rw [z] at ho
          have ho : h4.get? a = some o := ho
          rw [he4] at ho
          cases ho
          rw [hd4] at hd
          cases hd
        · have q := (J.pin p hp).1
          rw [z] at q
          exact notI q
      refine store_ok (X := X.suite a (X.pn ++ pins)) (v := .ref a) (toSuite K4) hN hi (.inl hln) rfl (fun s5 S5 => ?_) (.inr hln)
      refine wpAny_mono ((hsu a (X.pn ++ pins)).run [] s5 _ _ _ S5 (yes rfl a na)) (fun f s6 q => ?_) (fun _ _ z => False.elim z)
      have bye : ∀ {ρ : L2.St} {G6 : Hp} {Q : Shared → Prop}, Inv (X.suite a (X.pn ++ pins)) [] ρ G6 s6 → (∀ s7, Inv X pins (ρ.set i none) G6 s7 → Q s7) →
          wpAny (model X.prog X.w) X.A (do bindName X.env n .none; unbindBehindTheSuite X.env n pos') (fun _ s7 => Q s7) X.xe s6 := fun {ρ G6 Q} S6 q => gone_ok (offSuite S6 ok) hN hi hln q
      cases f with
      | next =>
        obtain ⟨ρ, G6, S6, q6⟩ := q
        exact bye S6 fun s7 J7 => ⟨_, _, J7, q6⟩
      | brk =>
        obtain ⟨ρ, G6, S6, q6⟩ := q
        exact bye S6 fun s7 J7 => ⟨_, _, J7, q6⟩
      | cont =>
        obtain ⟨ρ, G6, S6, q6⟩ := q
        exact bye S6 fun s7 J7 => ⟨_, _, J7, q6⟩
      | ret u =>
        obtain ⟨v, ρ, G6, S6, r6, q6⟩ := q
        exact bye S6 fun s7 J7 => ⟨_, _, _, J7, r6, q6⟩
  · intro f s1 q
    cases f with
    | next =>
      obtain ⟨ρ, G, J, q⟩ := q
      exact wpAny_execs_nil ⟨ρ, G, J.ofTry ok, q⟩
    | brk =>
      obtain ⟨ρ, G, J, q⟩ := q
      exact ⟨ρ, G, J.ofTry ok, q⟩
    | cont =>
      obtain ⟨ρ, G, J, q⟩ := q
      exact ⟨ρ, G, J.ofTry ok, q⟩
    | ret u =>
      obtain ⟨v, ρ, G, J, r, q⟩ := q
      exact ⟨v, ρ, G, J.ofTry ok, r, q⟩
end
/-- kept.f -/
def tKex (K : PySem.W.Frag) (f : Str) (te : TE) : TE := fun σ H Q => te σ H fun x G => ∃ (a C dd : Addr) (fs : List (Str × V)) (v : V), x = .ref a ∧ XfC K C ∧ PySem.W.findIn K (.ref C) f = some none ∧ G a = some (kex a (.ref C) (some dd)) ∧ G dd = some (.xd fs) ∧ fs.lookup f = some v ∧ Q v G
theorem pe_kex {X : Cx} {e : Expr} {te : TE} {pos : Pos} {f : Str} (he : PE X e te) (hb : attributeBase e f X.env (eval e X.env) = eval e X.env := by rfl) : PE X (.Attribute e f pos) (tKex X.K f te) := by
  refine ⟨fun pins s σ H Q I h => attr_of hb (thn (he.run pins s σ H _ I h) ?_)⟩
  rintro u s1 ⟨x, G, J, rx, a, C, dd, fs, v, rfl, T, hno, ea, ed, l, q⟩
  cases rx
  obtain ⟨oe, vs, e1, e2, e3⟩ := kex_at J.hok ea
  obtain ⟨mA, hns, hr⟩ : ∃ mA, s1.heap.Ns1 dd mA ∧ ∀ f, RelO (fs.lookup f) (mA f) := J.hok dd _ ed
  obtain ⟨od, ho, hl⟩ := lookIn_ns hns
  obtain ⟨u, hu, ru⟩ := RelO.some_of (v := v) (o := mA f) (by rw [← l]; exact hr f)
  have M : PySem.W.InstAt s1.heap a oe C (some od) := ⟨e1, e2.1, by unfold PySem.W.notCls; rw [e3] <;> rfl, by rw [e2.2]; exact ho⟩
  exact HandSPX.exc_get J.kIn M T.ga T.gg T.exC (PySem.W.findObj_own T.hdC hno rfl (by rw [hl, hu])) (handed_of ru) ⟨v, G, J.tok _, ru, q⟩
/-- isinstance(kept, c) -/
def rKex (K : PySem.W.Frag) : List V → Hp → VK → Prop := fun xs H Q => ∃ (a C dd : Addr) (fs : List (Str × V)), L2.ExcC K C ∧ H a = some (kex a (.ref C) (some dd)) ∧ H dd = some (.xd fs) ∧
  ((∃ (c : V) (cv : Value) (b : Bool), xs = [.ref a, c] ∧ (∀ u, RelV c u → u = cv) ∧ PySem.W.kitOne K (.ref C) cv = some b ∧ Q (.bl b) H) ∨
   (∃ (t : Addr) (cs : List V) (cvs : List Value) (b : Bool), xs = [.ref a, .ref t] ∧ SqT K H t cs ∧ (∀ us, Vals cs us → us = cvs) ∧ PySem.W.kitAny K (.ref C) cvs = some b ∧ Q (.bl b) H))
theorem call_kex {X : Cx} : CallR X (.builtin "isinstance") (rKex X.K) := by
  intro pins s σ H xs us Q I r h
  obtain ⟨a, C, dd, fs, T, ea, ed, h⟩ := h
  obtain ⟨oe, vs, e1, e2, e3⟩ := kex_at I.hok ea
  obtain ⟨mA, hns, hr⟩ : ∃ mA, s.heap.Ns1 dd mA ∧ ∀ f, RelO (fs.lookup f) (mA f) := I.hok dd _ ed
  obtain ⟨od, ho, _⟩ := lookIn_ns hns
  have M : PySem.W.InstAt s.heap a oe C (some od) := ⟨e1, e2.1, by unfold PySem.W.notCls; rw [e3] <;> rfl, by rw [e2.2]; exact ho⟩
  have hcl : (PySem.W.clsIn X.K C).isSome = true := by
    obtain ⟨cd, hc, _⟩ := PySem.W.any_some T.hd
    rw [hc]
    rfl
  have Z : PySem.W.KitX X.K (.ref a) (.ref C) (fun h => PySem.W.InstAt h a oe C (some od)) := PySem.W.kitx_exc hcl T.hg T.hk T.hs T.ha T.hn T.ht T.hm
  rcases h with ⟨c, cv, b, rfl, hcv, e, q⟩ | ⟨t, cs, cvs, b, rfl, ht, hcv, e, q⟩
  · cases r with
    | cons rx rr =>
      cases rr with
      | cons rt rr =>
        cases rr
        cases rx
        have ec := hcv _ rt
        subst ec
        exact PySem.W.kia_one Z I.kIn M e (fun z => nomatch z) fun tk => ⟨.bl b, H, I.kept (t' := tk) fun _ _ z => z, rfl, q⟩
  · cases r with
    | cons rx rr =>
      cases rr with
      | cons rt rr =>
        cases rr
        cases rx
        cases rt
        obtain ⟨its, rv, ht2, _⟩ := I.tuple ht
        have ec := hcv _ rv
        subst ec
        obtain ⟨ob, eo, hc, n, hd⟩ := ht2
        obtain ⟨oc, od2, oda, osl⟩ := ob
        dsimp only at hc hd
        subst hc hd
        exact PySem.W.kia_tup Z I.kIn M eo e (fun z => nomatch z) fun tk => ⟨.bl b, H, I.kept (t' := tk) fun _ _ z => z, rfl, q⟩
/-- what isinstance wants of such a class, asked at once -/
def excB (K : PySem.W.Frag) (D : Addr) : Bool :=
  [decide (PySem.W.findIn K (.ref D) "__getattribute__" = some (some (.builtin "BaseException.__getattribute__"))), decide (PySem.W.findIn K (.ref D) "__getattr__" = some none), decide (PySem.W.subIn K (.ref D) (.type "BaseException") = some true),
   PySem.W.hasDictIn K D, decide (PySem.W.findIn K (.ref D) "__class__" = some (some (.builtin "object.__class__"))), decide (PySem.W.specialIn K (.builtin "object.__class__") "__get__" = some (some (.builtin "getset_descriptor.__get__"))),
   decide (PySem.W.takesIn K (.builtin "object.__class__") = some true), decide (PySem.W.mroIn K D (.type "object") = some true)].all id
theorem excB_ok {K : PySem.W.Frag} {D : Addr} (h : excB K D = true) : L2.ExcC K D := by
  simp only [excB, List.all_cons, List.all_nil, id, Bool.and_true, Bool.and_eq_true, decide_eq_true_eq] at h
  obtain ⟨h1, h2, h3, h4, h5, h6, h7, h8⟩ := h
  exact ⟨h1, h2, h3, h4, h5, h6, h7, h8⟩
end RG
end RLs
section RLt
/-! defs that raise: what they promise, their calls -/
namespace RG
open PySem PySem.Spec PyProof.Rows L2
section
variable {P : Program} {w : World} {K : PySem.W.Frag} {mg : Str → Option Value} {base : Heap} {C1 C2 : CXT} {k j : Nat} {f : Addr} {fd : FuncData} {ps : List Str} {sp sp2 : Sp}
/-- what raises nothing may stand for what raises -/
theorem FnG.calm (F : FnG P w K mg base CX0 k f fd ps sp) : FnG P w K mg base C1 k f fd ps (fun vs H Q E => sp vs H Q E0) :=
  ⟨fun vs H Q E => F.many vs H Q E0, fun A out s H ar us vs Q E hr hg e0 hb hv h => codeAny_mono (F.runs A out s H ar us vs Q E0 hr hg e0 hb hv h) fun r s' z => by
    cases r with
    | error e => exact False.elim z
    | ok fl => cases fl <;> exact z⟩
theorem FnG.imp (F : FnG P w K mg base C1 k f fd ps sp) (h : ∀ vs H Q E, sp2 vs H Q E → sp vs H Q E) : FnG P w K mg base C1 k f fd ps sp2 :=
  ⟨fun vs H Q E q => F.many vs H Q E (h _ _ _ _ q), fun A out s H ar us vs Q E hr hg e0 hb hv q => F.runs A out s H ar us vs Q E hr hg e0 hb hv (h _ _ _ _ q)⟩
/-- either promise -/
theorem FnG.either (F : FnG P w K mg base C1 k f fd ps sp) (G : FnG P w K mg base C1 k f fd ps sp2) : FnG P w K mg base C1 k f fd ps (fun vs H Q E => sp vs H Q E ∨ sp2 vs H Q E) :=
  ⟨fun vs H Q E h => h.elim (F.many vs H Q E) (G.many vs H Q E), fun A out s H ar us vs Q E hr hg e0 hb hv h => h.elim (F.runs A out s H ar us vs Q E hr hg e0 hb hv) (G.runs A out s H ar us vs Q E hr hg e0 hb hv)⟩
end
/-- a def of the module that may raise -/
structure CgE (P : Program) (w : World) (K : PySem.W.Frag) (mg : Str → Option Value) (base : Heap) (k : Nat) (x : Str) (sp : Sp) : Prop where
  ex : ∃ (f : Addr) (fd : FuncData) (ps : List Str), FnG P w K mg base (L2.CX P w) k f fd ps sp ∧ mg x = some (.ref f) ∧ PySem.W.keepIn K (.ref f) = true ∧ Binds K fd ps []
/-- x(..), what it lets out being W's -/
def tCallX (W : WX) (sp : Sp) (t : TA) : TE := fun σ H Q => t σ H fun vs G => sp vs G Q fun cls d J => W cls d σ J
section
variable {X : Cx} {k j : Nat} {x : Str} {sp : Sp} {p pos : Pos} {e : Expr} {es : List Expr} {t : TA} {W : WX}
theorem pe_gX (tk : Takes X W) (c : CgE X.prog X.w X.K X.mg X.base k x sp) (hr : Room j X.A) (hg : X.A.guards = some []) (hk : k ≤ j) (hx : Gl X x) (ha : PA X (e :: es) t)
    (h1 : (x == ("__debug__" : Str)) = false := by decide) (h2 : starEach (e :: es) X.env = (false, eval e X.env) :: starEach es X.env := by rfl) (h3 : (backTo pos (starEach es X.env)).any (·.1) = false := by rfl) :
    PE X (.Call (.Name x p) (e :: es) [] pos) (tCallX W sp t) := by
  obtain ⟨f, fd, ps, F, hm, kp, b⟩ := c.ex
  refine ⟨fun pins s σ H Q I h => wpAny_Call_Name_kw (ld_glob I hx hm ?_ h1)⟩
  refine PySem.W.callWith_K (h₀ := X.base) I.ok.mod.kin kp (thn (ha.run pos pins s σ H _ I h) ?_) h2 h3
  rintro us s1 ⟨vs, G, J, r, q⟩
  refine ⟨J.kIn, ?_⟩
  have bt := b s1 us J.kIn (by rw [List.append_nil, ← r.length]; exact F.many _ _ _ _ q)
  rw [List.append_nil] at bt
  refine wpAny_call (codeAny_mono (F.runs X.A X.stack s1 G _ us vs Q _ (hr.mono hk) hg J.env0 bt r q) fun w2 s2 h => ?_)
  cases w2 with
  | error z => exact tk z s2 (XE.of_call J (fun _ _ _ h => h) h)
  | ok fl =>
    cases fl with
    | ret u => exact J.after h
    | next => exact False.elim h
    | brk => exact False.elim h
    | cont => exact False.elim h
/-- what is never come to -/
theorem ps_nil (X : Cx) (st : Stmt) : PS X st (fun _ _ _ => False) := ⟨fun _ _ _ _ _ _ h => h.elim⟩
theorem pss_nothing (X : Cx) (st : List Stmt) : PSs X st (fun _ _ _ => False) := ⟨fun _ _ _ _ _ _ h => h.elim⟩
end
end RG
end RLt
section RLu
/-! tuples' data: cuts, sums, turned about, as a list -/
namespace RG
open PySem PySem.Spec PyProof.Rows L2
def dTakeT (t : DR) (f : L2.St → Int → Prop) : DR := fun σ H d => ∃ ds k, t σ H (.tuple ds) ∧ f σ ((k : Nat) : Int) ∧ d = .tuple (ds.take k)
def dDropT (t : DR) (f : L2.St → Int → Prop) : DR := fun σ H d => ∃ ds k, t σ H (.tuple ds) ∧ f σ ((k : Nat) : Int) ∧ d = .tuple (ds.drop k)
def dCatT (t u : DR) : DR := fun σ H d => ∃ ds es, t σ H (.tuple ds) ∧ u σ H (.tuple es) ∧ ds.length + es.length ≤ 10000000 ∧ d = .tuple (ds ++ es)
def dRevT (t : DR) : DR := fun σ H d => ∃ ds, t σ H (.tuple ds) ∧ d = .tuple ds.reverse
def dLstT (t : DR) : DR := fun σ H d => ∃ ds, t σ H (.tuple ds) ∧ d = .list ds
theorem DdAll.rev {K : PySem.W.Frag} {H : Hp} : ∀ {xs : List V} {ds : List PyData}, DdAll K H xs ds → DdAll K H xs.reverse ds.reverse
  | _, _, .nil => .nil
  | _, _, .cons a b => by
    rw [List.reverse_cons, List.reverse_cons]
    exact (DdAll.rev b).append (.cons a .nil)
section
variable {X : Cx} {e : Expr} {t : DR} {pos : Pos}
theorem pd_takeT {u : Expr} {tu : TE} {f : L2.St → Int → Prop} {p2 : Pos} (ha : PD X e t) (hu : PE X u tu) (h : ∀ σ H Q i, f σ i → Q (.int i) H → tu σ H Q) : PD X (.Subscript e (.Slice none (some u) none p2) pos) (dTakeT t f) := by
  refine pd_of (pe_slice sl_tupS ha.pe po_none (po_some hu)) (fun σ H Q d q k => ?_) ?_
  · obtain ⟨ds, n, h1, h2, rfl⟩ := q
    refine ⟨_, h1, fun x G e1 d1 => h σ G _ _ h2 ⟨_, rfl, ?_⟩⟩
    cases d1 with
    | @tup a xs ds g1 g2 =>
      refine ⟨a, xs, rfl, g1, fun p G2 e2 g3 => ?_⟩
      rw [cut_front] at g3
      exact k _ _ (e1.trans e2) (.tup g3 ((g2.take n).same e2))
  · rintro σ H H' d e ⟨ds, n, h1, h2⟩
    exact ⟨ds, n, ha.up _ _ _ _ e h1, h2⟩
theorem pd_dropT {u : Expr} {tu : TE} {f : L2.St → Int → Prop} {p2 : Pos} (ha : PD X e t) (hu : PE X u tu) (h : ∀ σ H Q i, f σ i → Q (.int i) H → tu σ H Q) : PD X (.Subscript e (.Slice (some u) none none p2) pos) (dDropT t f) := by
  refine pd_of (pe_slice sl_tupS ha.pe (po_some hu) po_none) (fun σ H Q d q k => ?_) ?_
  · obtain ⟨ds, n, h1, h2, rfl⟩ := q
    refine ⟨_, h1, fun x G e1 d1 => h σ G _ _ h2 ⟨_, rfl, ?_⟩⟩
    cases d1 with
    | @tup a xs ds g1 g2 =>
      refine ⟨a, xs, rfl, g1, fun p G2 e2 g3 => ?_⟩
      rw [cut_back] at g3
      exact k _ _ (e1.trans e2) (.tup g3 ((g2.drop n).same e2))
  · rintro σ H H' d e ⟨ds, n, h1, h2⟩
    exact ⟨ds, n, ha.up _ _ _ _ e h1, h2⟩
theorem pd_catT {a b : Expr} {t u : DR} (ha : PD X a t) (hb : PD X b u) : PD X (.BinOp a .Add b pos) (dCatT t u) := by
  refine pd_of (pe_op op_catS ha.pe hb.pe) (fun σ H Q d q k => ?_) ?_
  · obtain ⟨ds, es, h1, h2, hz, rfl⟩ := q
    refine ⟨_, h1, fun x G e1 d1 => ⟨_, hb.up _ _ _ _ e1 h2, fun y G2 e2 d2 => ?_⟩⟩
    have d1 := d1.same e2
    cases d1 with
    | @tup a1 xs ds g1 g2 =>
      cases d2 with
      | @tup a2 ys es g3 g4 =>
        refine ⟨a1, a2, xs, ys, rfl, rfl, g1, g3, ?_, fun p G3 e3 g5 => k _ _ ((e1.trans e2).trans e3) (.tup g5 ((g2.append g4).same e3))⟩
        rw [g2.length, g4.length]
        exact Nat.le_trans hz (by decide)
  · rintro σ H H' _ e ⟨ds, es, h1, h2, hz, rfl⟩
    exact ⟨ds, es, ha.up _ _ _ _ e h1, hb.up _ _ _ _ e h2, hz, rfl⟩
theorem pd_revT {k : Nat} {p1 p2 p3 : Pos} (ha : PD X e t) : PD X (.Subscript e (.Slice none none (some (.UnaryOp .USub (.Constant (.int 1) k p1) p2)) p3) pos) (dRevT t) := by
  refine pd_of (pe_revT ha.pe) (fun σ H Q d q k => ?_) ?_
  · obtain ⟨ds, h1, rfl⟩ := q
    refine ⟨_, h1, fun x G e1 d1 => ?_⟩
    cases d1 with
    | @tup a xs ds g1 g2 => exact ⟨a, xs, rfl, g1, fun p hp => k _ _ (e1.trans (same_new hp)) (.tup (SqT.of upd_same) ((DdAll.rev g2).same (same_new hp)))⟩
  · rintro σ H H' _ e ⟨ds, h1, rfl⟩
    exact ⟨ds, ha.up _ _ _ _ e h1, rfl⟩
theorem pd_listT {p : Pos} (gl : Gl X "list") (hm : X.mg "list" = none) (h : PD X e t) (na : starEach [e] X.env = (false, eval e X.env) :: starEach [] X.env := by rfl) : PD X (.Call (.Name "list" p) [e] [] pos) (dLstT t) := by
  refine pd_of (pe_callTy call_list_of gl hm b_list (pa_cons h.pe pa_nil na) (he := na)) (fun σ H Q d q k => ?_) ?_
  · obtain ⟨ds, h1, rfl⟩ := q
    refine ⟨_, h1, fun x G e1 d1 => ?_⟩
    cases d1 with
    | @tup a xs ds g1 g2 => exact ⟨a, xs, rfl, .inr g1, fun p hp => k _ _ (e1.trans (same_new hp)) (.lst (SqL.of upd_same) (g2.same (same_new hp)))⟩
  · rintro σ H H' d e ⟨ds, h1, q⟩
    exact ⟨ds, h.up _ _ _ _ e h1, q⟩
end
end RG
end RLu
section RLv
/-! comprehensions whose target is a pair, over whatever walks through a sequence; reversed(list or tuple); texts of parts -/
namespace RG
open PySem PySem.Spec PyProof.Rows L2
theorem walk_revT {K : PySem.W.Frag} {a : Addr} {xs : List V} : Walk (RT.ItvT K a xs.length) xs.length (fun H => SqT K H a xs) (fun i H x H' => H' = H ∧ xs[xs.length - 1 - i]? = some x) :=
  ⟨fun i H hi q => ⟨hi, xs, xs[xs.length - 1 - i]'(by omega), q, List.getElem?_eq_getElem _⟩, fun _ _ => Nat.le_refl _, fun i H x H' _ q y => ⟨y.1, y.2 xs q⟩⟩
/-- a comprehension with a pair as its target -/
theorem lc_pairs {K : PySem.W.Frag} {J : It} {n : Nat} {Gd : Hp → Prop} {at' : Nat → Option V} (w : Walk J n Gd (fun i H x H' => H' = H ∧ at' i = some x)) {D : Addr} {ds : List PyData} {te : TE} {j1 j2 : Nat} {σ : L2.St} {H : Hp} {Qd : Hp → Prop} (hj : j1 ≠ j2) (hD : H D = none) (hGd : ∀ G, Same H G → Gd G) (hl : ds.length = n) (hz : n < sizeLine)
    (nl : ∀ d ∈ ds, noL d = true)
    (R : Nat → V → V → Prop) (pair : ∀ (i : Nat) (x : V), i < n → at' i = some x → ∃ t y z, x = .ref t ∧ SqT K H t [y, z] ∧ R i y z)
    (each : ∀ (i : Nat) (y z : V) (d : PyData), R i y z → ds[i]? = some d → ∀ G, Same H G → ∀ Q : VK, (∀ y G', Same G G' → Dd K G' y d → Q y G') → te (((wipe σ [j1, j2]).set j1 (some y)).set j2 (some z)) G Q)
    (done : ∀ G ys, Same H G → G D = some (.lst ys) → DdAll K (rem D G) ys ds → Qd G) :
    ∃ W : Nat → Nat → Hp → Prop, (∃ m, W 0 m (upd H D (.lst []))) ∧ ∀ i m G, W i m G →
      (J.stop i G ∧ Qd G) ∨ (J.go i G ∧ ∃ Nx : Hp → Prop, (∀ H', Nx H' → ∃ m', m' < m ∧ W (i + 1) m' H') ∧ ∀ x H', J.yld i G x H' → gTup K 2 (gCons (gName j1) (gCons (gName j2) gNil)) x (wipe σ [j1, j2]) H' fun σ2 H2 => wipe σ2 [j1, j2] = wipe σ [j1, j2] ∧ tYes σ2 H2 fun b H3 =>
        if b = true then te σ2 H3 fun y H4 => ∃ acc, H4 D = some (.lst acc) ∧ acc.length < sizeLine ∧ Nx (upd H4 D (.lst (acc ++ [y]))) else Nx H3) := by
  refine lc_it w (fun i G => Same H G ∧ ∃ ys, G D = some (.lst ys) ∧ DdAll K (rem D G) ys (ds.take i)) ⟨same_new hD, [], upd_same, by rw [List.take_zero]; exact .nil⟩ (fun i G _ h => hGd G h.1) (fun i x G G' hlt h hy => ?_) fun G h => ?_
  · obtain ⟨rfl, hi⟩ := hy
    obtain ⟨d, hd⟩ : ∃ d, ds[i]? = some d := ⟨_, List.getElem?_eq_getElem (by omega)⟩
    obtain ⟨e, ys, g1, g2⟩ := h
    have yl := g2.length
    rw [List.length_take] at yl
    obtain ⟨t, y, z, rfl, ht, hR⟩ := pair i x hlt hi
    refine ⟨t, _, rfl, sqt_same e ht, rfl, ?_⟩
    refine ⟨_, _, rfl, _, _, rfl, rfl, ?_⟩
    refine ⟨wipe_two hj σ _ _, ?_⟩
    unfold tYes
    simp only [if_true]
    refine each i y z d hR hd _ e _ fun y G' e2 dd => ⟨ys, e2 _ _ g1, by omega, same_mut (e.trans e2) hD, ys ++ [y], upd_same, ?_⟩
    rw [rem_upd, ← take_snoc hd]
    exact (g2.same (rem_same e2)).append (.cons (dd.remL (e2 _ _ g1) (nl d (List.mem_of_getElem? hd))) .nil)
  · obtain ⟨e, ys, g1, g2⟩ := h
    rw [← hl, List.take_length] at g2
    exact done G ys e g1 g2
/-- a sequence: a list or a tuple, its items data -/
inductive SeqD (K : PySem.W.Frag) (H : Hp) (ds : List PyData) : V → Prop where
  | lst {a : Addr} {xs : List V} : SqL K H a xs → DdAll K H xs ds → SeqD K H ds (.ref a)
  | tup {a : Addr} {xs : List V} : SqT K H a xs → DdAll K H xs ds → SeqD K H ds (.ref a)
theorem SeqD.same {K : PySem.W.Frag} {H G : Hp} {ds : List PyData} {x : V} (h : SeqD K H ds x) (e : Same H G) : SeqD K G ds x := by
  cases h with
  | lst a b => exact .lst (sql_same e a) (b.same e)
  | tup a b => exact .tup (sqt_same e a) (b.same e)
theorem SeqD.ofL {K : PySem.W.Frag} {H : Hp} {ds : List PyData} {x : V} (h : Dd K H x (.list ds)) : SeqD K H ds x := by
  cases h with
  | lst a b => exact .lst a b
theorem SeqD.ofT {K : PySem.W.Frag} {H : Hp} {ds : List PyData} {x : V} (h : Dd K H x (.tuple ds)) : SeqD K H ds x := by
  cases h with
  | tup a b => exact .tup a b
/-- a pair of texts as it stands -/
theorem pair_ofD {K : PySem.W.Frag} {H : Hp} {x : V} {y z : Str} (h : Dd K H x (.tuple [.str y, .str z])) : ∃ t, x = .ref t ∧ SqT K H t [.str y, .str z] := by
  cases h with
  | @tup c zs _ p1 p2 =>
    cases p2 with
    | cons g1 g2 =>
      cases g2 with
      | cons g3 g4 =>
        cases g4
        cases g1
        cases g3
        exact ⟨c, rfl, p1⟩
theorem dda_get {K : PySem.W.Frag} {H : Hp} : ∀ {xs : List V} {ds : List PyData} {i : Nat} {x : V}, DdAll K H xs ds → xs[i]? = some x → ∃ d, ds[i]? = some d ∧ Dd K H x d
  | _, _, 0, x, .cons a _, h => by
    obtain rfl := Option.some.inj h
    exact ⟨_, rfl, a⟩
  | _, _, i + 1, x, .cons _ b, h => by
    obtain ⟨d, h1, h2⟩ := dda_get (i := i) b (by simpa using h)
    exact ⟨d, by simpa using h1, h2⟩
end RG
end RLv
section RLw
/-! data of any kind in a list of texts; a tuple == () -/
namespace RG
open PySem PySem.Spec PyProof.Rows L2
def rInL (K : PySem.W.Frag) (neg : Bool) : R2 := fun x y H Q => ∃ (p : Addr) (zs : List Str) (d : PyData), y = .ref p ∧ SqL K H p (strV zs) ∧ Dd K H x d ∧ Q (.bl (if neg then !zs.any (fun z => isT z d) else zs.any (fun z => isT z d))) H
section
variable {X : Cx}
theorem op_inL (hu : X.A.units + 64 < cLine) : OpR X (compareOp .In) (rInL X.K false) := by
  intro pins s σ H x y v u Q I rx ry h
  obtain ⟨p, zs, d, rfl, hq, hd, q⟩ := h
  cases ry
  obtain ⟨its, r, pl, hz⟩ := I.list hq
  obtain ⟨e1, e2⟩ := strs_of r d
  refine SeqAt.in_listAt (isTv d) pl.isList (fun w hw => ?_) ⟨.bl _, H, I, rfl, ?_⟩
  · obtain ⟨z, t, rfl⟩ := e2 w (by simpa using hw)
    exact eq_strD I hd rx z t (A := X.A.in1) (by show X.A.units + 1 < cLine; omega)
  · rw [show its.toArray.any (isTv d) = its.any (isTv d) by simp, e1]
    exact q
theorem op_notInL (hu : X.A.units + 64 < cLine) : OpR X (compareOp .NotIn) (rInL X.K true) := by
  intro pins s σ H x y v u Q I rx ry h
  obtain ⟨p, zs, d, rfl, hq, hd, q⟩ := h
  cases ry
  obtain ⟨its, r, pl, hz⟩ := I.list hq
  obtain ⟨e1, e2⟩ := strs_of r d
  refine SeqAt.notIn_listAt (isTv d) pl.isList (fun w hw => ?_) ⟨.bl _, H, I, rfl, ?_⟩
  · obtain ⟨z, t, rfl⟩ := e2 w (by simpa using hw)
    exact eq_strD I hd rx z t (A := X.A.in1) (by show X.A.units + 1 < cLine; omega)
  · rw [show its.toArray.any (isTv d) = its.any (isTv d) by simp, e1]
    exact q
/-- t == (), a tuple -/
def rEqNilT (K : PySem.W.Frag) : R2 := fun x y H Q => ∃ a b xs, x = .ref a ∧ y = .ref b ∧ SqT K H a xs ∧ SqT K H b [] ∧ Q (.bl xs.isEmpty) H
theorem op_eqNilT (hu : X.A.units < cLine) : OpR X (compareOp .Eq) (rEqNilT X.K) := by
  intro pins s σ H x y v u Q I rx ry h
  obtain ⟨a, b, xs, rfl, rfl, ha, hb, q⟩ := h
  cases rx
  cases ry
  obtain ⟨i1, r1, p1, _⟩ := I.tuple ha
  obtain ⟨i2, r2, p2, _⟩ := I.tuple hb
  cases r2
  cases r1 with
  | nil => exact SeqAt.RcAt.tuples (e := fun _ => true) (show s.heap.IsTuple a _ from p1) (show s.heap.IsTuple b _ from p2) hu (fun j h1 _ => absurd h1 (by simp)) X.prog X.w _ _ ⟨.bl true, H, I, rfl, q⟩
  | cons r t => exact SeqAt.RcAt.tuples (e := fun _ => true) (show s.heap.IsTuple a _ from p1) (show s.heap.IsTuple b _ from p2) hu (fun j _ h2 => absurd h2 (by simp)) X.prog X.w _ _ ⟨.bl false, H, I, rfl, q⟩
end
end RG
end RLw
namespace T
open PySem PySem.Spec PyProof.Rows L2 RG
def top (i : Nat) : Stmt := PySem.Challenge.pw_recutkeys_k11_what_is_a_stand.main.body.getD i (.Pass ⟨0, 0, 0, 0⟩)
abbrev s_law_draw : Stmt := top 22
abbrev N_law_draw : List Str := ["pen", "many", "digit", "turn", "cell", "primes", "prime", "drawn"]
theorem sc_law_draw : FnScope N_law_draw ["pen", "many"] (defScope s_law_draw) := ⟨rfl, rfl, rfl, by decide +kernel, rfl, by decide +kernel, by decide +kernel⟩
section
variable {P : Program} {w : World} {K : PySem.W.Frag} {mg : Str → Option Value} {base : Heap} {f : Addr} {fd : FuncData}
theorem ok_law_draw (F : Fun K "_law_draw" "_law_draw" s_law_draw f fd) (T : Bt mg) : FnG P w K mg base CX0 1 f fd ["pen", "many"] spDraw := by
  refine fnG0 F sc_law_draw (fun vs H Q E h => ?_) (fun cdv A outer s H vs Q E hr hg h => ?_)
  · obtain ⟨x, m, B, rfl, _⟩ := h
    rfl
  · obtain ⟨⟨p, c, ns⟩, m, B, rfl, hpen, hB, m0, m1, k⟩ := h
    have nd := sc_law_draw.nd
    have hu := hu_of hr
    have hu0 : (A.deeper (envOfC "_law_draw" (defScope s_law_draw) s.heap.objs.size f cdv)).units < cLine := Nat.lt_of_succ_lt hu
    refine ⟨_, (pss_cons (ps_if (pt_cmpR op_gt (pe_dget hu (pv 0) pe_str (fun _ _ => rfl)) pe_int (nomark _))
        (pss_cons (ps_set (i := 2) nd rfl (Or.inl rfl) (pe_op op_modN (pe_dget hu (pv 0) pe_str (fun _ _ => rfl)) (pv 1)))
        (pss_cons (ps_dput hu (pv 0) pe_str (pe_op op_fdivN (pe_dget hu (pv 0) pe_str (fun _ _ => rfl)) (pv 1)) rfl)
        (pss_one (ps_ret (pv 2)))))
        pss_nil)
      (pss_cons (ps_set (i := 3) nd rfl (Or.inl rfl) (pe_dget hu (pv 0) pe_str (fun _ _ => rfl)))
      (pss_cons (ps_dput hu (pv 0) pe_str (pe_op op_add (pv 3) pe_int) rfl)
      (pss_cons (ps_set (i := 4) nd rfl (Or.inl rfl) (pe_op op_add (pe_op op_mul pe_int (pv 3)) pe_int))
      (C8.pss_cut (ps_if (pt_cmpR (op_neNil hu0) (pe_dget hu (pv 0) pe_str (fun _ _ => rfl)) (pe_lst pa_nil) (nomark _))
        (pss_one (ps_set (i := 4) nd rfl (Or.inl rfl) (pe_ix ix_list (pe_dget hu (pv 0) pe_str (fun _ _ => rfl)) (pe_op op_modN (pv 3) (pe_callB call_len_seq (by rfl) T.len b_len (pa_cons (pe_dget hu (pv 0) pe_str (fun _ _ => rfl)) pa_nil))) (fun _ _ => rfl))))
        pss_nil)
      (C8.pss_cut (ps_if (PW.pt (pw_and (pt_cmpR op_lt (pv 3) (pe_callB call_len_seq (by rfl) T.len b_len (pa_cons (pe_dget hu (pv 0) pe_str (fun _ _ => rfl)) pa_nil)) (nomark _)) (pw_and1 (pt_cmpR op_ge (pe_callB call_abs (by rfl) T.abs b_abs (pa_cons (pv 4) pa_nil)) (pe_op op_pow pe_int pe_int) (nomark _)))))
        (pss_cons (ps_dput hu (pv 0) pe_str (pe_op op_fdivN (pe_op op_sub (pe_callB call_abs (by rfl) T.abs b_abs (pa_cons (pv 4) pa_nil)) (pe_op op_pow pe_int pe_int)) (pv 1)) rfl)
        (pss_one (ps_ret (pe_op op_modN (pe_op op_sub (pe_callB call_abs (by rfl) T.abs b_abs (pa_cons (pv 4) pa_nil)) (pe_op op_pow pe_int pe_int)) (pv 1)))))
        pss_nil)
      (pss_cons (ps_set (i := 5) nd rfl (Or.inl rfl) (pe_lst (pa_cons pe_int (pa_cons pe_int (pa_cons pe_int (pa_cons pe_int (pa_cons pe_int pa_nil)))))))
      (pss_cons (ps_set (i := 6) nd rfl (Or.inl rfl) (pe_ix ix_list (pv 5) (pe_op op_mod (pv 3) pe_int) (fun _ _ => rfl)))
      (pss_cons (ps_set (i := 7) nd rfl (Or.inl rfl) (pe_op op_modN (pe_op op_add (pe_op op_add (pe_op op_mul (pe_op op_modN (pv 4) (pv 6)) pe_int) (pe_op op_mul (pe_op op_mul pe_int (pv 3)) (pv 3))) pe_int) (pv 6)))
      (pss_cons (ps_set (i := 7) nd rfl (Or.inl rfl) (pe_op op_modN (pe_op op_mul (pv 7) (pe_op op_add (pv 7) pe_int)) (pe_ix ix_list (pv 5) (pe_op op_mod (pe_op op_add (pv 3) pe_int) pe_int) (fun _ _ => rfl))))
      (pss_one (ps_ret (pe_op op_modN (pe_op op_fdiv (pe_op op_mod (pe_op op_mul (pv 7) (pv 7)) pe_int) pe_int) (pv 1)))))))))))))), ?_⟩
    obtain ⟨t, r, hp, hc, hlen, ht, hr0⟩ := hpen.ex
    simp only at hp hc hlen k
    refine ⟨_, rfl, p, _, rfl, gR hp, _, _, rfl, rfl, _, rfl, ?_⟩
    by_cases hpos : r > 0
    · rw [decide_eq_true hpos]
      refine iteT ?_
      refine ⟨_, rfl, p, _, rfl, gR hp, _, rfl, _, _, rfl, rfl, by omega, ?_⟩
      refine ⟨_, rfl, p, _, rfl, gR hp, _, rfl, _, _, rfl, rfl, ⟨by omega, by omega⟩, _, rfl, p, _, rfl, pR hp, _, rfl, ?_⟩
      have h1 := rest_at (i := r) m0
      refine k _ _ h1.1 h1.2 (Kb.refl p H).at ⟨t, _, upd_same, ?_, hlen, by omega, part_at m0 hr0⟩
      rw [upd_ne (ne_of hc hp (fun z => nomatch z))]
      exact hc
    · rw [decide_eq_false hpos]
      refine iteF ?_
      have hcp : c ≠ p := ne_of hc hp (fun z => nomatch z)
      -- turn, the pen's turn
      refine ⟨_, rfl, p, _, rfl, gT hp, ?_⟩
      refine ⟨_, rfl, _, _, rfl, rfl, _, rfl, p, _, rfl, pT hp, ?_⟩
      -- cell
      refine ⟨_, rfl, _, _, rfl, rfl, .inl ⟨by decide, by decide⟩, _, _, rfl, rfl, ?_⟩
      have hp1 : ∀ (G : Hp), G p = some (.dK (penKv c ((t : Int) + 1) r)) → G p = some (.dK (penKv c ((t : Int) + 1) r)) := fun _ h => h
      refine ⟨fun σ G => ∃ cell : Int, σ = [some (.ref p), some (.int m), none, some (.int t), some (.int cell), none, none, none] ∧ Kb p H G ∧ G p = some (.dK (penKv c ((t : Int) + 1) r)), ?_, ?_⟩
      · refine ⟨_, rfl, p, _, rfl, gC upd_same, (by decide), fun l hl => ?_⟩
        have hlp : l ≠ p := fun e => by
          rw [e, upd_same] at hl
          cases hl
        have hlc : l ≠ c := fun e => by
          rw [e, upd_ne hcp, hc] at hl
          cases hl
        refine ⟨c, l, _, rfl, rfl, .inl ⟨SqL.of (by rw [upd_ne hlc.symm, upd_ne hcp]; exact hc), SqL.of upd_same⟩, _, rfl, ?_⟩
        have keep : Kb p H (upd (upd H p (.dK (penKv c ((t : Int) + 1) r))) l (.lst [])) := by
          refine (Kb.refl p H).at.mut ?_
          rw [upd_ne hlp] at hl
          exact hl
        have hpl : (upd (upd H p (.dK (penKv c ((t : Int) + 1) r))) l (.lst [])) p = some (.dK (penKv c ((t : Int) + 1) r)) := by
          rw [upd_ne hlp.symm, upd_same]
        cases ns with
        | nil => exact ⟨_, rfl, keep, hpl⟩
        | cons n0 ns =>
          refine iteT ?_
          have hcl : (upd (upd H p (.dK (penKv c ((t : Int) + 1) r))) l (.lst [])) c = some (.lst ((n0 :: ns).map V.int)) := keep _ _ hc hcp
          have hpos2 : (0 : Int) < (((n0 :: ns).map V.int).length : Nat) := by simp
          have h1 := rest_at (i := t) hpos2
          obtain ⟨v, h2, h3⟩ := atI_in h1.1 h1.2
          have h4 : ∃ z : Int, v = V.int z := by
            rw [List.getElem?_map] at h3
            obtain ⟨z, _, e⟩ := Option.map_eq_some_iff.mp h3
            exact ⟨z, e.symm⟩
          obtain ⟨z, rfl⟩ := h4
          refine ⟨_, rfl, p, _, rfl, gC hpl, _, rfl, _, rfl, p, _, rfl, gC hpl, c, _, rfl, .inl (SqL.of hcl), _, _, rfl, rfl, by omega, c, _, _, _, rfl, rfl, SqL.of hcl, h2, ?_⟩
          exact ⟨z, rfl, keep, hpl⟩
      · rintro _ G ⟨cell, rfl, keep, hp1⟩
        have hc1 := keep _ _ hc hcp
        refine ⟨fun σ J => σ = [some (.ref p), some (.int m), none, some (.int t), some (.int cell), none, none, none] ∧ J = G, ?_, ?_⟩
        · refine ⟨_, rfl, _, rfl, p, _, rfl, gC hp1, c, _, rfl, .inl (SqL.of hc1), _, _, rfl, rfl, _, rfl, ?_⟩
          by_cases h1 : (t : Int) < ((ns.map V.int).length : Nat)
          · rw [decide_eq_true h1]
            refine iteT ?_
            refine ⟨_, rfl, _, rfl, _, _, rfl, rfl, ⟨by decide, by decide, by decide⟩, _, _, rfl, rfl, _, rfl, ?_⟩
            refine ite2 (fun h2 => ?_) fun _ => ⟨rfl, rfl⟩
            have h2 := of_decide_eq_true h2
            refine ⟨_, rfl, _, rfl, _, _, rfl, rfl, ⟨by decide, by decide, by decide⟩, _, _, rfl, rfl, _, rfl, _, _, rfl, rfl, ⟨by omega, by omega⟩, _, rfl, p, _, rfl, pR hp1, ?_⟩
            refine ⟨_, rfl, _, rfl, _, _, rfl, rfl, ⟨by decide, by decide, by decide⟩, _, _, rfl, rfl, _, rfl, _, _, rfl, rfl, by omega, ?_⟩
            have h3 := rest_at (i := (if cell < 0 then -cell else cell) - 10 ^ (18 : Int).toNat) m0
            refine k _ _ h3.1 h3.2 keep.at ⟨t + 1, _, by rw [upd_same]; rfl, by rw [upd_ne hcp]; exact hc1, hlen, by omega, part_at m0 (by omega)⟩
          · rw [decide_eq_false h1]
            exact ⟨rfl, rfl⟩
        · rintro _ J ⟨rfl, e⟩
          rw [e]
          refine ⟨by decide, fun l hl => ?_⟩
          have hlp : l ≠ p := fun e => by
            rw [e, hp1] at hl
            cases hl
          have hlc : l ≠ c := fun e => by
            rw [e, hc1] at hl
            cases hl
          have hL : (upd G l (.lst [.int 2147483647, .int 2147483629, .int 2147483587, .int 2147483579, .int 2147483563])) l = some (.lst [.int 2147483647, .int 2147483629, .int 2147483587, .int 2147483579, .int 2147483563]) := upd_same
          have prime : ∀ i : Int, ∃ z : Int, atI [V.int 2147483647, .int 2147483629, .int 2147483587, .int 2147483579, .int 2147483563] (i % 5) = some (.int z) ∧ 0 < z ∧ z < 2147483648 := fun i => by
            have h1 : i % 5 = 0 ∨ i % 5 = 1 ∨ i % 5 = 2 ∨ i % 5 = 3 ∨ i % 5 = 4 := by omega
            rcases h1 with e | e | e | e | e <;> rw [e]
            · exact ⟨2147483647, rfl, by decide, by decide⟩
            · exact ⟨2147483629, rfl, by decide, by decide⟩
            · exact ⟨2147483587, rfl, by decide, by decide⟩
            · exact ⟨2147483579, rfl, by decide, by decide⟩
            · exact ⟨2147483563, rfl, by decide, by decide⟩
          obtain ⟨z, hz, z0, z1⟩ := prime t
          obtain ⟨y, hy, y0, y1⟩ := prime ((t : Int) + 3)
          -- prime = primes[turn % 5]
          refine ⟨_, rfl, _, rfl, _, _, rfl, rfl, (by show (0 : Int) < 5; decide), l, _, _, _, rfl, rfl, SqL.of hL, hz, ?_⟩
          have r1 := rest_at (i := cell) z0
          -- drawn
          refine ⟨_, rfl, _, rfl, _, _, rfl, rfl, by omega, _, _, rfl, rfl, .inr ⟨by decide, by decide⟩, _, rfl, _, _, rfl, rfl, .inl ⟨by decide, by decide⟩, _, rfl, _, _, rfl, rfl, .inr ⟨by omega, by omega⟩, _, _, rfl, rfl, _, _, rfl, rfl, _, rfl, _, _, rfl, rfl, by omega, ?_⟩
          generalize hX : (cell.fmod z * 69621 + 40692 * (t : Int) * (t : Int) + 11) = X
          have r2 := rest_at (i := X) z0
          refine ⟨_, rfl, _, rfl, _, _, rfl, rfl, _, _, rfl, rfl, .inl ⟨by omega, by omega⟩, _, rfl, _, rfl, _, _, rfl, rfl, _, _, rfl, rfl, (by show (0 : Int) < 5; decide), l, _, _, _, rfl, rfl, SqL.of hL, hy, _, _, rfl, rfl, by omega, ?_⟩
          generalize hY : X.fmod z * (X.fmod z + 48271) = Y
          have r3 := rest_at (i := Y) y0
          refine ⟨_, rfl, _, rfl, _, _, rfl, rfl, .inl ⟨by omega, by omega⟩, _, _, rfl, rfl, (by show (0 : Int) < 2147483549; decide), _, _, rfl, rfl, ⟨by decide, by decide⟩, _, rfl, _, _, rfl, rfl, by omega, ?_⟩
          generalize hZ : (Y.fmod y * Y.fmod y % 2147483549) / 64 = Z
          have r4 := rest_at (i := Z) m0
          refine k _ _ r4.1 r4.2 (keep.mut (keep.free hlp hl)) ⟨t + 1, r, by rw [upd_ne hlp.symm, hp1]; rfl, by rw [upd_ne hlc.symm]; exact hc1, hlen, by omega, hr0⟩
end
abbrev s_law_pen : Stmt := top 21
abbrev N_law_pen : List Str := ["script"]
theorem sc_law_pen : FnScope N_law_pen ["script"] (defScope s_law_pen) := ⟨rfl, rfl, rfl, by decide +kernel, rfl, by decide +kernel, by decide +kernel⟩
section
variable {P : Program} {w : World} {K : PySem.W.Frag} {mg : Str → Option Value} {base : Heap} {f : Addr} {fd : FuncData}
theorem ok_law_pen (F : Fun K "_law_pen" "_law_pen" s_law_pen f fd) (T : Bt mg) : FnG P w K mg base CX0 1 f fd ["script"] (spPen K) := by
  refine fnG0 F sc_law_pen (fun vs H Q E h => ?_) (fun cdv A outer s H vs Q E hr hg h => ?_)
  · obtain ⟨x, ns, rfl, _⟩ := h
    rfl
  · obtain ⟨a, ns, rfl, ha, hl, k⟩ := h
    refine ⟨_, (pss_one (ps_ret (pe_disp (pps_cons pe_str (pe_callTy call_list_of (by rfl) T.list b_list (pa_cons (pe_slice sl_list (pv 0) po_none (po_some pe_int)) pa_nil)) (pps_cons pe_str pe_int (pps_cons pe_str pe_int pps_nil))) (by rfl) (by rfl) (fun z => by cases z) (by decide)))), ?_⟩
    intro p hp
    refine ⟨_, rfl, 63, rfl, a, _, rfl, sql_same (same_new hp) ha, fun q hq => ?_⟩
    have ec : cutV (ns.map V.int) none (some 63) = ns.map V.int := by
      rw [show (63 : Int) = ((63 : Nat) : Int) from rfl, cut_front, List.take_of_length_le (by rw [List.length_map]; exact hl)]
    rw [ec]
    refine ⟨q, _, rfl, .inl (SqL.of upd_same), fun c hc => ?_⟩
    have hqp : q ≠ p := fun e => by
      rw [e, upd_same] at hq
      cases hq
    have hcq : c ≠ q := fun e => by
      rw [e, upd_same] at hc
      cases hc
    have hcp : c ≠ p := fun e => by
      rw [e, upd_ne hqp.symm, upd_same] at hc
      cases hc
    refine ⟨by rw [upd_ne hcp.symm, upd_ne hqp.symm, upd_same], penKv c 0 0, rfl, (show 3 ≤ 15 by decide), ?_⟩
    rw [penMade]
    have e1 : Same H (upd (upd (upd H p (.dK [])) q (.lst (ns.map V.int))) c (.lst (ns.map V.int))) := by
      have h1 : H q = none := by rw [upd_ne hqp] at hq; exact hq
      have h2 : H c = none := by rw [upd_ne hcq, upd_ne hcp] at hc; exact hc
      exact same_mut (same_mut (same_new hp) h1) h2
    exact k ⟨p, c, ns⟩ _ (same_mut e1 hp) ⟨0, 0, upd_same, by rw [upd_ne hcp, upd_same], hl, Nat.le_refl 0, Int.le_refl 0⟩
end
-- new
abbrev s_law_pick : Stmt := top 23
abbrev N_law_pick : List Str := ["pen", "some"]
theorem sc_law_pick : FnScope N_law_pick ["pen", "some"] (defScope s_law_pick) := ⟨rfl, rfl, rfl, by decide +kernel, rfl, by decide +kernel, by decide +kernel⟩
abbrev s_law_asks : Stmt := top 27
abbrev N_law_asks : List Str := ["pen", "places", "watched", "found", "mark"]
theorem sc_law_asks : FnScope N_law_asks ["pen", "places", "watched"] (defScope s_law_asks) := ⟨rfl, rfl, rfl, by decide +kernel, rfl, by decide +kernel, by decide +kernel⟩
/-- pairs (mark, place) -/
def PairsV (K : PySem.W.Frag) (H : Hp) (ts : List Addr) (ps : List (Int × Int)) : Prop := Paired (fun t p => SqT K H t [.int p.1, .int p.2]) ts ps
theorem PairsV.same {K : PySem.W.Frag} {H G : Hp} {ts : List Addr} {ps : List (Int × Int)} (h : PairsV K H ts ps) (e : Same H G) : PairsV K G ts ps := Paired.mapP h fun _ _ z => sqt_same e z
theorem PairsV.kb {K : PySem.W.Frag} {H G : Hp} {ts : List Addr} {ps : List (Int × Int)} {p : Addr} (h : PairsV K H ts ps) (e : Kb p H G) (hp : PenO H p) : PairsV K G ts ps := Paired.mapP h fun _ _ z => sqt_kb e hp z
/-- asks: some of the watched marks, rising as they are, each with a place -/
def spAsks (K : PySem.W.Frag) : Sp := fun vs H Q _ => ∃ (i : PenI) (B n : Nat) (a : Addr) (ws : List Int), vs = [.ref i.p, .int (n : Int), .ref a] ∧ Pen H i B ∧ B < 2 ^ 40 ∧ 1 ≤ n ∧ n ≤ 1000 ∧ SqT K H a (ws.map V.int) ∧ ws.length ≤ 12 ∧
  ∀ (t : Addr) (ts : List Addr) (ps : List (Int × Int)) (H' : Hp), Kb i.p H H' → Pen H' i (B + 2 * ws.length) → SqT K H' t (ts.map V.ref) → PairsV K H' ts ps → (ps.map (·.1)).Sublist ws → (∀ p ∈ ps, 0 ≤ p.2 ∧ p.2 < (n : Int)) → Q (.ref t) H'
section
variable {P : Program} {w : World} {K : PySem.W.Frag} {mg : Str → Option Value} {base : Heap} {f : Addr} {fd : FuncData}
theorem ok_law_pick (F : Fun K "_law_pick" "_law_pick" s_law_pick f fd) (T : Bt mg) (C1 : Cg P w K mg base 1 "_law_draw" spDraw) : FnG P w K mg base CX0 2 f fd ["pen", "some"] (spPickA K) := by
  refine fnG0 F sc_law_pick (fun vs H Q E h => ?_) (fun cdv A outer s H vs Q E hr hg h => ?_)
  · rcases h with ⟨i, B, a, xs, rfl, _⟩ | ⟨i, B, z, rfl, _⟩
    · rfl
    · rfl
  · refine ⟨_, (pss_one (ps_ret (pe_ix ix_seq (pv 1) (pe_g C1 hr hg (by decide) rfl (pa_cons (pv 0) (pa_cons (pe_callB (call_len_seq.or call_len_str) (by rfl) T.len b_len (pa_cons (pv 1) pa_nil)) pa_nil))) (fun _ _ => rfl)))), ?_⟩
    rcases h with ⟨i, B, a, xs, rfl, hp, hB, ha, h0, h1, k⟩ | ⟨i, B, z, rfl, hp, hB, h0, h1, k⟩
    · refine ⟨_, rfl, _, rfl, _, rfl, .inl ⟨a, xs, rfl, ha, i, _, B, rfl, hp, hB, by omega, by omega, fun d G d0 d1 kb pn => ?_⟩⟩
      obtain ⟨v, h2, h3⟩ := atI_in d0 d1
      have hv := k v G (List.mem_of_getElem? h3) kb pn
      rcases ha with ha | ha
      · exact .inl ⟨a, xs, d, v, rfl, rfl, sql_kb kb hp.o ha, h2, hv⟩
      · exact .inr (.inl ⟨a, xs, d, v, rfl, rfl, sqt_kb kb hp.o ha, h2, hv⟩)
    · have zl : z.cps.toList.length = z.length := by
        rw [Array.length_toList]
        rfl
      refine ⟨_, rfl, _, rfl, _, rfl, .inr ⟨z, rfl, Nat.le_trans (Nat.le_of_lt h1) (by decide), i, _, B, rfl, hp, hB, by omega, by omega, fun d G d0 d1 kb pn => ?_⟩⟩
      obtain ⟨v, h2, h3⟩ := atI_in (xs := z.cps.toList) d0 (by rw [zl]; exact d1)
      exact .inr (.inr ⟨z, d, v, rfl, rfl, Nat.le_trans (Nat.le_of_lt h1) (by decide), h2, k v G (List.mem_of_getElem? h3) kb pn⟩)
theorem ok_law_asks (F : Fun K "_law_asks" "_law_asks" s_law_asks f fd) (T : Bt mg) (C_law_draw : Cg P w K mg base 1 "_law_draw" spDraw) : FnG P w K mg base CX0 2 f fd ["pen", "places", "watched"] (spAsks K) := by
  refine fnG0 F sc_law_asks (fun vs H Q E h => ?_) (fun cdv A outer s H vs Q E hr hg h => ?_)
  · obtain ⟨i, B, n, a, ws, rfl, _⟩ := h
    rfl
  · obtain ⟨i, B, n, a, ws, rfl, pn, hB, n1, n2, ha, wl, k⟩ := h
    have nd := sc_law_asks.nd
    refine ⟨_, (pss_cons (ps_set (i := 3) nd rfl (Or.inl rfl) (pe_lst pa_nil))
      (pss_cons (ps_for PassesOwn.never rfl (pi_tup (pv 2)) (pg_name (i := 4) nd rfl (Or.inl rfl))
        (pss_one (ps_if (pt_cmpR op_eq (pe_g C_law_draw hr hg (by decide) rfl (pa_cons (pv 0) (pa_cons pe_int pa_nil))) pe_int (nomark _))
          (pss_one (ps_expr (pe_bm PySem.F.plainAttrs_list PySem.F.slot_list_append PySem.F.type_list_append mt_append (pv 3) (pa_cons (pe_tup (pa_cons (pv 4) (pa_cons (pe_g C_law_draw hr hg (by decide) rfl (pa_cons (pv 0) (pa_cons (pv 1) pa_nil))) pa_nil))) pa_nil))))
          pss_nil)))
      (pss_one (ps_ret (pe_callTy call_tuple_of (by rfl) T.tuple b_tuple (pa_cons (pv 3) pa_nil)))))), ?_⟩
    refine ⟨by decide, fun l hl => ?_⟩
    have nl := pn.ne hl
    refine ⟨_, rfl, a, rfl, ⟨_, sqt_same (same_new hl) ha⟩, ?_⟩
    refine for_tup (xs := ws.map V.int) (fun j σ G => ∃ (y4 : Option V) (ts : List Addr) (ps : List (Int × Int)), σ = [some (.ref i.p), some (.int (n : Int)), some (.ref a), some (.ref l), y4] ∧ Kb i.p H G ∧ Pen G i (B + 2 * j) ∧ G l = some (.lst (ts.map V.ref)) ∧ PairsV K G ts ps ∧ ts.length ≤ j ∧ (ps.map (·.1)).Sublist (ws.take j) ∧ ∀ p ∈ ps, 0 ≤ p.2 ∧ p.2 < (n : Int))
      ⟨_, [], [], rfl, Kb.new hl, (pn.upd nl).mono (by omega), upd_same, .nil, Nat.le_refl 0, List.Sublist.refl _, fun _ h => nomatch h⟩ (fun j σ G _ z => ?_) (fun j x σ G hj z => ?_) fun σ G z => ?_
    · obtain ⟨_, _, _, _, kb, _⟩ := z
      exact sqt_kb kb pn.o ha
    · obtain ⟨y4, ts, ps, rfl, kb, pj, gl, pp, tl, sub, bd⟩ := z
      obtain ⟨m, hm, rfl⟩ : ∃ m, ws[j]? = some m ∧ V.int m = x := by
        rw [List.getElem?_map] at hj
        exact Option.map_eq_some_iff.mp hj
      have jl : j < ws.length := (List.getElem?_eq_some_iff.mp hm).1
      refine ⟨_, rfl, i, 2, _, rfl, pj, by omega, by decide, by decide, fun d G2 _ _ kb2 pn2 => ⟨rfl, _, rfl, ?_⟩⟩
      have gl2 := kb2 _ _ gl nl.1
      refine ite2 (fun _ => ?_) (fun _ => ?_)
      · refine ⟨_, rfl, .inl ⟨rfl, _, SqL.of gl2⟩, _, rfl, _, rfl, _, rfl, i, _, _, rfl, pn2, by omega, by omega, by omega, fun e G3 e0 e1 kb3 pn3 => ⟨(show 2 ≤ sizeLine by decide), fun t ht => ?_⟩⟩
        have gl3 := kb3 _ _ gl2 nl.1
        have tl' : l ≠ t := fun e => by rw [e, ht] at gl3; cases gl3
        have nt := pn3.ne ht
        have kball := (kb.trans kb2).trans kb3
        refine ⟨l, _, _, rfl, rfl, by rw [upd_ne tl']; exact gl3, by rw [List.length_map]; exact Nat.lt_of_le_of_lt (by omega : ts.length ≤ 12) (by decide), ?_⟩
        have gl4 : (upd G3 t (.tup [.int m, .int e])) l = some (.lst (ts.map V.ref)) := by rw [upd_ne tl']; exact gl3
        refine ⟨_, ts ++ [t], ps ++ [(m, e)], rfl, (kball.mut (kball.free nt.1 ht)).mut hl, ((pn3.upd nt).upd nl).mono (by omega), by rw [upd_same, List.map_append]; rfl, ?_, by rw [List.length_append]; exact Nat.succ_le_succ tl, ?_, fun p hp => ?_⟩
        · exact Paired.snoc (Paired.mapP (((pp.kb kb2 pj.o).kb kb3 pn2.o).same (same_new ht)) fun _ _ z => sqt_put gl4 z) (sqt_put gl4 (SqT.of upd_same))
        · rw [List.map_append, ← take_snoc hm]
          exact List.Sublist.append sub (List.Sublist.refl _)
        · rcases List.mem_append.mp hp with hp | hp
          · exact bd p hp
          · rw [List.mem_singleton] at hp
            rw [hp]
            exact ⟨e0, e1⟩
      · refine ⟨_, ts, ps, rfl, kb.trans kb2, pn2.mono (by omega), gl2, pp.kb kb2 pj.o, Nat.le_succ_of_le tl, ?_, bd⟩
        rw [← take_snoc hm]
        exact List.Sublist.trans sub (List.sublist_append_left _ _)
    · obtain ⟨y4, ts, ps, rfl, kb, pj, gl, pp, tl, sub, bd⟩ := z
      rw [List.length_map] at pj sub
      rw [List.take_length] at sub
      refine ⟨_, rfl, l, _, rfl, .inl ⟨SqL.of gl, fun t ht => ?_⟩⟩
      have nt := pj.ne ht
      exact k t ts ps _ (kb.mut (kb.free nt.1 ht)) (pj.upd nt) (SqT.of upd_same) (pp.same (same_new ht)) sub bd
end
-- new
def spNames : Sp := fun vs H Q _ => ∃ (i : PenI) (B m : Nat), vs = [.ref i.p, .int (m : Int)] ∧ Pen H i B ∧ B < 2 ^ 40 ∧ 1 ≤ m ∧ m ≤ 18 ∧
  ∀ (l : Addr) (zs : List Str) (H' : Hp), zs.length = m → (∀ z ∈ zs, Nm z) → H l = none → Kb i.p H H' → Pen H' i (B + 30) → H' l = some (.lst (strV zs)) → Q (.ref l) H'
abbrev s_law_names : Stmt := top 25
abbrev N_law_names : List Str := ["pen", "many", "words", "turn", "letters", "base", "k", "at", "first", "cut", "step", "found", "tail"]
theorem sc_law_names : FnScope N_law_names ["pen", "many"] (defScope s_law_names) := ⟨rfl, rfl, rfl, by decide +kernel, rfl, by decide +kernel, by decide +kernel⟩
def words1 : List Str := ["room", "door", "places", "watched", "asks", "forth", "back", "at", "do", "wall"]
def words2 : List Str := ["unask", "recut", "ask", "board", "gate", "key", "a", "b"]
def nmB (z : Str) : Bool := z.cps.toList.all (fun c => decide (97 ≤ c) && decide (c ≤ 122)) && decide (1 ≤ z.length) && decide (z.length ≤ 8)
theorem nm_of {z : Str} (h : nmB z = true) : Nm z := by
  unfold nmB at h
  simp only [Bool.and_eq_true, List.all_eq_true, decide_eq_true_eq] at h
  exact ⟨h.1.1, h.1.2, h.2⟩
theorem words_nm : ∀ z ∈ words1 ++ words2, Nm z := by
  have h : (words1 ++ words2).all nmB = true := by decide +kernel
  exact fun z hz => nm_of (List.all_eq_true.mp h z hz)
theorem cut_head {z : Str} {a : Nat} (h : a ≤ z.length) : (cutS z none (some (a : Int))).length = a := by
  unfold cutS
  rw [HT.sIx_nat, HT.sIx_none, List.drop_zero, Nat.sub_zero, Nat.min_eq_left h]
  show (List.toArray _).size = a
  rw [List.size_toArray, List.length_take, Array.length_toList]
  exact Nat.min_eq_left h
theorem cut_tail {z : Str} {a : Nat} (h : a ≤ z.length) : (cutS z (some (a : Int)) none).length = z.length - a := by
  unfold cutS
  rw [HT.sIx_nat, HT.sIx_none, Nat.min_eq_left h]
  show (List.toArray _).size = _
  rw [List.size_toArray, List.length_take, List.length_drop, Array.length_toList]
  exact Nat.min_self _
def abc : Str := "abcdefghijklmnopqrstuvwxyz"
theorem abc_low : Low abc := by
  have h : abc.cps.toList.all (fun c => decide (97 ≤ c) && decide (c ≤ 122)) = true := by decide +kernel
  intro c hc
  have := List.all_eq_true.mp h c hc
  simpa using this
theorem abc_len : abc.length = 26 := by decide +kernel
theorem sum_ones : ∀ {ys : List Str}, (∀ y ∈ ys, Low y ∧ y.length = 1) → (ys.map (·.length)).sum = ys.length
  | [], _ => rfl
  | y :: ys, h => by
    rw [List.map_cons, List.sum_cons, sum_ones fun z hz => h z (List.mem_cons_of_mem _ hz), (h y List.mem_cons_self).2, List.length_cons]
    omega
def NmP (H : Hp) (i : PenI) (C : Nat) (D : Addr) (j : Nat) (G : Hp) : Prop := ∃ ys : List Str, ys.length = j ∧ (∀ y ∈ ys, Low y ∧ y.length = 1) ∧ G D = some (.lst (strV ys)) ∧ Kb i.p H G ∧ Pen G i (C + j)
section
variable {P : Program} {w : World} {K : PySem.W.Frag} {mg : Str → Option Value} {base : Heap} {f : Addr} {fd : FuncData}
theorem ok_law_names (F : Fun K "_law_names" "_law_names" s_law_names f fd) (T : Bt mg) (C_law_draw : Cg P w K mg base 1 "_law_draw" spDraw) (C_law_pick : Cg P w K mg base 2 "_law_pick" (spPickA K)) : FnG P w K mg base CX0 3 f fd ["pen", "many"] spNames := by
  refine fnG0 F sc_law_names (fun vs H Q E h => ?_) (fun cdv A outer s H vs Q E hr hg h => ?_)
  · obtain ⟨i, B, m, rfl, _⟩ := h
    rfl
  · obtain ⟨i, B, m, rfl, pn, hB, m1, m2, k⟩ := h
    have nd := sc_law_names.nd
    refine ⟨_, (pss_cons (ps_if (pt_cmpR op_eq (pe_g C_law_draw hr hg (by decide) rfl (pa_cons (pv 0) (pa_cons pe_int pa_nil))) pe_int (nomark _))
        (pss_cons (ps_set (i := 2) nd rfl (Or.inl rfl) (pe_lst (pa_cons pe_str (pa_cons pe_str (pa_cons pe_str (pa_cons pe_str (pa_cons pe_str (pa_cons pe_str (pa_cons pe_str (pa_cons pe_str (pa_cons pe_str (pa_cons pe_str pa_nil))))))))))))
        (pss_cons (ps_set (i := 3) nd rfl (Or.inl rfl) (pe_g C_law_draw hr hg (by decide) rfl (pa_cons (pv 0) (pa_cons pe_int pa_nil))))
        (pss_one (ps_ret (pe_slice sl_list (pe_slice sl_list (pe_op op_rep (pe_op op_cat (pv 2) (pe_lst (pa_cons pe_str (pa_cons pe_str (pa_cons pe_str (pa_cons pe_str (pa_cons pe_str (pa_cons pe_str (pa_cons pe_str (pa_cons pe_str pa_nil)))))))))) pe_int) (po_some (pv 3)) po_none) po_none (po_some (pv 1)))))))
        pss_nil)
      (pss_cons (ps_set (i := 4) nd rfl (Or.inr rfl) pe_str)
      (pss_cons (ps_set (i := 5) nd rfl (Or.inl rfl) (pe_bm PySem.F.plainAttrs_str PySem.F.slot_str_join PySem.F.type_str_join mt_join pe_str (pa_cons (pe_lc (own := [("k", 6)]) (g := gName 6) rfl nd (pi_range1 (by rfl) T.range (pa_cons (pe_op op_add pe_int (pe_g C_law_draw hr hg (by decide) rfl (pa_cons (pv 0) (pa_cons pe_int pa_nil)))) pa_nil)) (blkOk_by (own := [("k", 6)]) (N := N_law_names) (sc := defScope s_law_names) (by decide +kernel)) (fun _ _ _ _ _ => (pg_name (i := 6) nd rfl (Or.inl rfl))) (fun _ _ _ _ _ => pts_nil) (fun _ _ _ _ _ => (pe_g C_law_pick hr hg (by decide) rfl (pa_cons (pv 0) (pa_cons (pv 4) pa_nil))))) pa_nil)))
      (pss_cons (ps_par3 (i := 7) (j := 8) (l := 9) (by rfl) nd rfl rfl rfl (by decide) (by decide) (by decide) rfl rfl rfl (pa_cons (pe_g C_law_draw hr hg (by decide) rfl (pa_cons (pv 0) (pa_cons (pe_callB call_len_str (by rfl) T.len b_len (pa_cons (pv 5) pa_nil)) pa_nil))) (pa_cons (pe_g C_law_draw hr hg (by decide) rfl (pa_cons (pv 0) (pa_cons pe_int pa_nil))) (pa_cons (pe_g C_law_draw hr hg (by decide) rfl (pa_cons (pv 0) (pa_cons pe_int pa_nil))) pa_nil))) (by rfl))
      (pss_cons (ps_par (i := 10) (j := 11) (by rfl) nd rfl rfl (by decide) rfl rfl (pa_cons (pe_g C_law_pick hr hg (by decide) rfl (pa_cons (pv 0) (pa_cons (pe_lst (pa_cons pe_int (pa_cons pe_int (pa_cons pe_int (pa_cons pe_int (pa_cons pe_int (pa_cons pe_int (pa_cons pe_int (pa_cons pe_int (pa_cons pe_int (pa_cons pe_int (pa_cons pe_int (pa_cons pe_int pa_nil))))))))))))) pa_nil))) (pa_cons (pe_lst pa_nil) pa_nil)) (by rfl))
      (pss_cons (ps_for PassesOwn.never rfl (pi_range1 (by rfl) T.range (pa_cons (pv 1) pa_nil)) (pg_name (i := 6) nd rfl (Or.inl rfl))
        (pss_cons (ps_set (i := 12) nd rfl (Or.inl rfl) (pe_slice sl_str (pe_slice sl_str (pv 5) (po_some (pe_op op_add (pv 7) pe_int)) po_none) po_none (po_some (pe_ix ix_list (pe_lst (pa_cons pe_int (pa_cons (pe_op op_mod (pv 6) pe_int) pa_nil))) (pv 9) (fun _ _ => rfl)))))
        (pss_one (ps_expr (pe_bm PySem.F.plainAttrs_list PySem.F.slot_list_append PySem.F.type_list_append mt_append (pv 11) (pa_cons (pe_op op_add_str (pe_op op_add_str (pe_slice sl_str (pv 5) po_none (po_some (pv 7))) (pe_ix ix_str (pv 4) (pe_op op_mod (pe_op op_add (pv 8) (pe_op op_mul (pv 10) (pv 6))) pe_int) (fun _ _ => rfl))) (pv 12)) pa_nil))))))
      (C8.pss_cut (ps_if (PW.pt (pw_and (pt_cmpR op_gt (pv 7) pe_int (nomark _)) (pw_and1 (pt_cmpR op_eq (pe_g C_law_draw hr hg (by decide) rfl (pa_cons (pv 0) (pa_cons pe_int pa_nil))) pe_int (nomark _)))))
        (pss_one (ps_asg (pe_slice sl_str (pv 5) po_none (po_some (pv 7))) (pg_sub (pv 11) (pe_g C_law_draw hr hg (by decide) rfl (pa_cons (pv 0) (pa_cons (pv 1) pa_nil))) set_list)))
        pss_nil)
      (pss_one (ps_ret (pv 11)))))))))), ?_⟩
    refine ⟨_, rfl, i, 7, B, rfl, pn, by omega, by decide, by decide, fun d G _ _ kb pn1 => ⟨rfl, _, rfl, ?_⟩⟩
    refine ite2 (fun _ => ?_) (fun _ => ?_)
    · refine ⟨(show 10 ≤ sizeLine by decide), fun l hl => ?_⟩
      have nl := pn1.ne hl
      have lH := kb.free nl.1 hl
      have kb1 : Kb i.p H (upd G l (.lst (strV words1))) := kb.mut lH
      have pn2 := pn1.upd (o := .lst (strV words1)) nl
      have g1 : (upd G l (.lst (strV words1))) l = some (.lst (strV words1)) := upd_same
      change gName 2 _ _ (upd G l (.lst (strV words1))) _
      generalize upd G l (.lst (strV words1)) = G1 at kb1 pn2 g1 ⊢
      refine ⟨_, rfl, i, 18, B + 1, rfl, pn2, by omega, by decide, by decide, fun d2 G2 d20 d21 kb2 pn3 => ?_⟩
      have g2 := kb2 _ _ g1 nl.1
      have kb3 := kb1.trans kb2
      refine ⟨_, rfl, (show 8 ≤ sizeLine by decide), fun l2 hl2 => ?_⟩
      have l2l : l ≠ l2 := fun e => by rw [e, hl2] at g2; cases g2
      have n2 := pn3.ne hl2
      have k4 : Kb i.p H (upd G2 l2 (.lst (strV words2))) := kb3.mut (kb3.free n2.1 hl2)
      have p4 := pn3.upd (o := .lst (strV words2)) n2
      refine ⟨l, l2, strV words1, strV words2, rfl, rfl, by rw [upd_ne l2l]; exact g2, upd_same, (show 18 ≤ sizeLine by decide), fun l3 hl3 => ?_⟩
      rw [show strV words1 ++ strV words2 = strV (words1 ++ words2) from rfl]
      have hl3' : (upd G2 l2 (.lst (strV words2))) l3 = none := hl3
      change (tC _ : TE) _ (upd (upd G2 l2 (.lst (strV words2))) l3 (.lst (strV (words1 ++ words2)))) _
      clear hl3
      generalize upd G2 l2 (.lst (strV words2)) = G3 at k4 p4 hl3' ⊢
      have n3 := p4.ne hl3'
      have k5 : Kb i.p H (upd G3 l3 (.lst (strV (words1 ++ words2)))) := k4.mut (k4.free n3.1 hl3')
      have p5 := p4.upd (o := .lst (strV (words1 ++ words2))) n3
      refine ⟨l3, 2, strV (words1 ++ words2), rfl, rfl, upd_same, by decide, by decide, (show 36 ≤ sizeLine by decide), fun l4 hl4 => ?_⟩
      generalize upd G3 l3 (.lst (strV (words1 ++ words2))) = G4 at k5 p5 hl4 ⊢
      have n4 := p5.ne hl4
      have k6 : Kb i.p H (upd G4 l4 (.lst (List.replicate (2 : Int).toNat (strV (words1 ++ words2))).flatten)) := k5.mut (k5.free n4.1 hl4)
      have p6 := p5.upd (o := .lst (List.replicate (2 : Int).toNat (strV (words1 ++ words2))).flatten) n4
      have g6 : (upd G4 l4 (.lst (List.replicate (2 : Int).toNat (strV (words1 ++ words2))).flatten)) l4 = some (.lst (List.replicate (2 : Int).toNat (strV (words1 ++ words2))).flatten) := upd_same
      generalize upd G4 l4 (.lst (List.replicate (2 : Int).toNat (strV (words1 ++ words2))).flatten) = G5 at k6 p6 g6 ⊢
      refine ⟨_, rfl, d2, rfl, l4, _, rfl, SqL.of g6, fun l5 hl5 => ?_⟩
      have n5 := p6.ne hl5
      have k7 := k6.mut (o := .lst (cutV (List.replicate (2 : Int).toNat (strV (words1 ++ words2))).flatten (some d2) none)) (k6.free n5.1 hl5)
      have p7 := p6.upd (o := .lst (cutV (List.replicate (2 : Int).toNat (strV (words1 ++ words2))).flatten (some d2) none)) n5
      refine ⟨_, rfl, (m : Int), rfl, l5, _, rfl, SqL.of upd_same, fun l6 hl6 => ?_⟩
      have n6 := p7.ne hl6
      have e1 : (List.replicate (2 : Int).toNat (strV (words1 ++ words2))).flatten = strV ((words1 ++ words2) ++ (words1 ++ words2)) := rfl
      have e2 : cutV (cutV (List.replicate (2 : Int).toNat (strV (words1 ++ words2))).flatten (some d2) none) none (some (m : Int)) = strV ((((words1 ++ words2) ++ (words1 ++ words2)).drop d2.toNat).take m) := by
        rw [e1, show d2 = ((d2.toNat : Nat) : Int) by omega, cut_back, cut_front, Int.toNat_natCast]
        unfold strV
        rw [List.map_take, List.map_drop]
      refine k l6 ((((words1 ++ words2) ++ (words1 ++ words2)).drop d2.toNat).take m) _ ?_ (fun z hz => ?_) (k7.free n6.1 hl6) (k7.mut (k7.free n6.1 hl6)) ((p7.upd n6).mono (by omega)) (by rw [upd_same, e2])
      · rw [List.length_take, List.length_drop]
        have : ((words1 ++ words2) ++ (words1 ++ words2)).length = 36 := rfl
        omega
      · have h1 := List.mem_of_mem_drop (List.mem_of_mem_take hz)
        rcases List.mem_append.mp h1 with h | h
        · exact words_nm z h
        · exact words_nm z h
    · refine ⟨rfl, _, rfl, i, 8, B + 1, rfl, pn1, by omega, by decide, by decide, fun d2 G2 d20 d21 kb2 pn2 => ⟨_, _, rfl, rfl, _, rfl, by omega, by omega, fun D hD => ?_⟩⟩
      obtain ⟨N, hN, N1, N2⟩ : ∃ N : Nat, (1 + d2).toNat = N ∧ 1 ≤ N ∧ N ≤ 8 := ⟨_, rfl, by omega, by omega⟩
      rw [hN]
      have nD := pn2.ne hD
      have kb02 := kb.trans kb2
      have DH := kb02.free nD.1 hD
      refine lc_range (n := N) (NmP H i (B + 2) D) ⟨[], rfl, (fun _ h => nomatch h), upd_same, kb02.mut DH, (pn2.upd nD).mono (by omega)⟩ (fun j G hj z => ⟨rfl, ?_⟩) fun G z => ?_
      · refine yes_ ?_
        refine iteT ?_
        obtain ⟨ys, yl, yh, gd, kj, pj⟩ := z
        refine ⟨_, rfl, _, rfl, .inr ⟨i, _, abc, rfl, pj, by omega, by rw [abc_len]; decide, by rw [abc_len]; decide, fun c G3 hc kb3 pn3 => ?_⟩⟩
        have gd3 := kb3 _ _ gd nD.1
        refine ⟨_, gd3, by unfold strV; rw [List.length_map, yl]; exact Nat.lt_of_lt_of_le (by omega : j < 8) (by decide), ys ++ [⟨#[c]⟩], by rw [List.length_append, yl]; rfl, fun y hy => ?_, by rw [upd_same]; unfold strV; rw [List.map_append]; rfl, (kj.trans kb3).mut DH, (pn3.upd nD).mono (by omega)⟩
        rcases List.mem_append.mp hy with h | h
        · exact yh y h
        · rw [List.mem_singleton] at h
          rw [h]
          exact ⟨Low.one (abc_low c hc), rfl⟩
      · obtain ⟨ys, yl, yh, gd, kj, pj⟩ := z
        obtain ⟨jl, jn⟩ := low_join yh
        refine ⟨"", D, ys, rfl, rfl, .inl (SqL.of gd), ?_, ?_⟩
        · rw [sum_ones yh, show (("" : Str)).length = 0 by decide +kernel]
          omega
        generalize Txt.join "" ys = bs at jl jn ⊢
        have bl : bs.length ≤ sizeLine := Nat.le_trans (by omega : bs.length ≤ 8) (by decide)
        refine ⟨_, rfl, _, rfl, bs, rfl, bl, i, _, _, rfl, pj, by omega, by omega, by omega, fun at' G3 a0 a1 kb3 pn3 => ?_⟩
        refine ⟨_, rfl, i, 26, _, rfl, pn3, by omega, by decide, by decide, fun fi G4 f0 f1 kb4 pn4 => ?_⟩
        refine ⟨_, rfl, i, 2, _, rfl, pn4, by omega, by decide, by decide, fun cu G5 c0 c1 kb5 pn5 => ⟨_, _, _, rfl, ?_⟩⟩
        have kj5 := ((kj.trans kb3).trans kb4).trans kb5
        refine ⟨_, rfl, (show 12 ≤ sizeLine by decide), fun lq hlq => .inl ⟨i, _, lq, _, rfl, pn5.upd (pn5.ne hlq), by omega, .inl (SqL.of upd_same), (show 0 < 12 by decide), (show 12 < 1000000 by decide), fun x G6 hx kb6 pn6 => ⟨by decide, fun fo hfo => ⟨_, _, rfl, ?_⟩⟩⟩⟩
        obtain ⟨st, rfl⟩ : ∃ st : Int, x = .int st := by
          simp only [List.mem_cons, List.not_mem_nil, or_false] at hx
          rcases hx with h | h | h | h | h | h | h | h | h | h | h | h <;> exact ⟨_, h⟩
        have nq := pn5.ne hlq
        have k6 := (kj5.mut (o := .lst _) (kj5.free nq.1 hlq)).trans kb6
        have nfo := pn6.ne hfo
        have foH := k6.free nfo.1 hfo
        obtain ⟨A', hA, A1⟩ : ∃ A' : Nat, at' = (A' : Int) ∧ A' < bs.length := ⟨at'.toNat, by omega, by omega⟩
        subst hA
        refine ⟨_, rfl, _, rfl, by omega, by omega, ?_⟩
        rw [Int.toNat_natCast]
        refine for_range (n := m) (fun j σ G => ∃ (y6 y12 : Option V) (zs : List Str), σ = [some (.ref i.p), some (.int (m : Int)), none, none, some (.str abc), some (.str bs), y6, some (.int (A' : Int)), some (.int fi), some (.int cu), some (.int st), some (.ref fo), y12] ∧ zs.length = j ∧ (∀ z ∈ zs, Nm z) ∧ G fo = some (.lst (strV zs)) ∧ Kb i.p H G ∧ Pen G i (B + 2 + N + 4))
          ⟨_, _, [], rfl, rfl, (fun _ h => nomatch h), upd_same, k6.mut foH, (pn6.upd nfo).mono (by omega)⟩ (fun j σ G hj z => ?_) fun σ G z => ?_
        · obtain ⟨y6, y12, zs, rfl, zl, zn, gf, kj, pj⟩ := z
          have tl0 : (cutS bs (some ((A' : Int) + 1)) none).length = bs.length - (A' + 1) := by
            have := cut_tail (z := bs) (a := A' + 1) (by omega)
            rw [show ((A' : Int) + 1) = ((A' + 1 : Nat) : Int) by omega]
            exact this
          refine ⟨_, rfl, _, rfl, _, _, rfl, rfl, _, rfl, bs, rfl, bl, ?_⟩
          refine ⟨_, rfl, _, _, rfl, rfl, (by decide : (0 : Int) < 3), (show 2 ≤ sizeLine by decide), fun lw hlw => ?_⟩
          obtain ⟨tv, ht1, ht2⟩ := atI_in (xs := [V.int 8, V.int ((0 + (j : Int)) % 3)]) c0 (by simpa using c1)
          obtain ⟨ti, rfl⟩ : ∃ ti : Int, tv = .int ti := by
            have hm := List.mem_of_getElem? ht2
            simp only [List.mem_cons, List.not_mem_nil, or_false] at hm
            rcases hm with h | h <;> exact ⟨_, h⟩
          have nw := pj.ne hlw
          have wfo : fo ≠ lw := fun e => by rw [e, hlw] at gf; cases gf
          have kj2 : Kb i.p H (upd G lw (.lst [V.int 8, V.int ((0 + (j : Int)) % 3)])) := kj.mut (kj.free nw.1 hlw)
          have pj2 := pj.upd (o := .lst [V.int 8, V.int ((0 + (j : Int)) % 3)]) nw
          have gf2 : (upd G lw (.lst [V.int 8, V.int ((0 + (j : Int)) % 3)])) fo = some (.lst (strV zs)) := by rw [upd_ne wfo]; exact gf
          have gw : (upd G lw (.lst [V.int 8, V.int ((0 + (j : Int)) % 3)])) lw = some (.lst [V.int 8, V.int ((0 + (j : Int)) % 3)]) := upd_same
          change (tVar 9 : TE) _ (upd G lw (.lst [V.int 8, V.int ((0 + (j : Int)) % 3)])) _
          generalize upd G lw (.lst [V.int 8, V.int ((0 + (j : Int)) % 3)]) = G7 at kj2 pj2 gf2 gw ⊢
          have tl1 : (cutS (cutS bs (some ((A' : Int) + 1)) none) none (some ti)).length ≤ bs.length - (A' + 1) := by
            have := cutS_length (cutS bs (some ((A' : Int) + 1)) none) none (some ti)
            omega
          refine ⟨_, rfl, lw, _, _, _, rfl, rfl, SqL.of gw, ht1, _, rfl, _, rfl, Nat.le_trans (by omega : (cutS bs (some ((A' : Int) + 1)) none).length ≤ 8) (by decide), ?_⟩
          have hl := cut_head (z := bs) (a := A') (by omega)
          have rr : 0 ≤ (fi + st * (0 + (j : Int))) % 26 ∧ (fi + st * (0 + (j : Int))) % 26 < ((abc.cps.toList.length : Nat) : Int) := by
            have h1 : abc.cps.toList.length = 26 := by
              rw [Array.length_toList]
              exact abc_len
            rw [h1]
            omega
          obtain ⟨c, hc1, hc2⟩ := atI_in rr.1 rr.2
          refine ⟨_, rfl, .inl ⟨rfl, _, SqL.of gf2⟩, _, rfl, _, rfl, _, rfl, bs, rfl, bl, _, rfl, _, rfl, _, rfl, _, rfl, _, _, rfl, rfl, .inr ⟨by omega, by omega⟩, _, _, rfl, rfl, _, _, rfl, rfl, (by decide : (0 : Int) < 26), abc, _, c, rfl, rfl, (by rw [abc_len]; decide), hc1, ?_⟩
          have one : (⟨#[c]⟩ : Str).length = 1 := rfl
          refine ⟨_, _, rfl, rfl, Nat.le_trans (by rw [hl, one]; omega : (cutS bs none (some (A' : Int))).length + (⟨#[c]⟩ : Str).length ≤ 9) (by decide), _, rfl, _, _, rfl, rfl, ?_, fo, _, _, rfl, rfl, gf2, ?_, ?_⟩
          · rw [strLen_append, hl, one]
            exact Nat.le_trans (by omega : _ ≤ 18) (by decide)
          · unfold strV
            rw [List.length_map, zl]
            exact Nat.lt_of_le_of_lt (by omega : j ≤ 18) (by decide)
          · refine ⟨_, _, zs ++ [cutS bs none (some (A' : Int)) ++ ⟨#[c]⟩ ++ cutS (cutS bs (some ((A' : Int) + 1)) none) none (some ti)], rfl, by rw [List.length_append, zl]; rfl, fun z hz => ?_, by rw [upd_same]; unfold strV; rw [List.map_append]; rfl, kj2.mut foH, pj2.upd nfo⟩
            rcases List.mem_append.mp hz with h | h
            · exact zn z h
            · rw [List.mem_singleton] at h
              rw [h]
              refine ⟨((jl.cut _ _).append (Low.one (abc_low c (List.mem_of_getElem? hc2)))).append ((jl.cut _ _).cut _ _), ?_, ?_⟩
              · rw [strLen_append, strLen_append, one]
                omega
              · rw [strLen_append, strLen_append, one, hl]
                omega
        · obtain ⟨y6, y12, zs, rfl, zl, zn, gf, kj, pj⟩ := z
          refine ⟨fun σ G => ∃ (y6 y12 : Option V) (zs : List Str), σ = [some (.ref i.p), some (.int (m : Int)), none, none, some (.str abc), some (.str bs), y6, some (.int (A' : Int)), some (.int fi), some (.int cu), some (.int st), some (.ref fo), y12] ∧ zs.length = m ∧ (∀ z ∈ zs, Nm z) ∧ G fo = some (.lst (strV zs)) ∧ Kb i.p H G ∧ Pen G i (B + 2 + N + 6), ?_, ?_⟩
          · refine ⟨_, rfl, _, _, rfl, rfl, _, rfl, ?_⟩
            by_cases pos : 0 < A'
            · refine iteT' (by rw [decide_eq_true_eq]; omega) ?_
              refine ⟨_, rfl, i, 3, _, rfl, pj, by omega, by decide, by decide, fun d3 G7 _ _ kb7 pn7 => ⟨rfl, _, rfl, ?_⟩⟩
              refine ite2 (fun _ => ?_) (fun _ => ?_)
              · refine ⟨_, rfl, _, rfl, _, rfl, bs, rfl, bl, ?_⟩
                refine ⟨_, rfl, _, rfl, _, rfl, i, (m : Int), _, rfl, pn7, by omega, by omega, by omega, fun d4 G8 e0 e1 kb8 pn8 => ?_⟩
                have gf8 := kb8 _ _ (kb7 _ _ gf nfo.1) nfo.1
                have zl2 : (strV zs).length = m := by unfold strV; rw [List.length_map, zl]
                refine ⟨fo, strV zs, d4, d4.toNat, rfl, rfl, gf8, ?_, ?_⟩
                · rw [zl2]
                  unfold ixN
                  rw [if_pos e0, if_pos e1]
                refine ⟨_, _, zs.set d4.toNat (cutS bs none (some (A' : Int))), rfl, by rw [List.length_set]; exact zl, fun z hz => ?_, by rw [upd_same]; unfold strV; rw [List.map_set], ((kj.trans kb7).trans kb8).mut foH, (pn8.upd nfo).mono (by omega)⟩
                rcases List.mem_or_eq_of_mem_set hz with h | h
                · exact zn z h
                · rw [h]
                  have hl := cut_head (z := bs) (a := A') (by omega)
                  exact ⟨jl.cut _ _, by omega, by omega⟩
              · exact ⟨_, _, zs, rfl, zl, zn, kb7 _ _ gf nfo.1, kj.trans kb7, pn7.mono (by omega)⟩
            · refine iteF' (by rw [decide_eq_false_iff_not]; omega) ?_
              refine iteF ?_
              exact ⟨_, _, zs, rfl, zl, zn, gf, kj, pj.mono (by omega)⟩
          · rintro σ' G' ⟨y6', y12', zs', rfl, zl', zn', gf', kj', pj'⟩
            exact ⟨_, rfl, k fo zs' G' zl' zn' foH kj' (pj'.mono (by omega)) gf'⟩
end
abbrev s_law_shuffled : Stmt := top 24
abbrev N_law_shuffled : List Str := ["pen", "some", "left", "found"]
theorem sc_law_shuffled : FnScope N_law_shuffled ["pen", "some"] (defScope s_law_shuffled) := ⟨rfl, rfl, rfl, by decide +kernel, rfl, by decide +kernel, by decide +kernel⟩
section
variable {P : Program} {w : World} {K : PySem.W.Frag} {mg : Str → Option Value} {base : Heap} {f : Addr} {fd : FuncData}
theorem ok_law_shuffled (F : Fun K "_law_shuffled" "_law_shuffled" s_law_shuffled f fd) (T : Bt mg) (C1 : Cg P w K mg base 1 "_law_draw" spDraw) : FnG P w K mg base CX0 2 f fd ["pen", "some"] (spShuf K) := by
  refine fnG0 F sc_law_shuffled (fun vs H Q E h => ?_) (fun cdv A outer s H vs Q E hr hg h => ?_)
  · obtain ⟨i, B, a, xs, rfl, _⟩ := h
    rfl
  · obtain ⟨i, B, a, xs, rfl, hp, hB, ha, h1, k⟩ := h
    have nd := sc_law_shuffled.nd
    have hu0 : (A.deeper (envOfC "_law_shuffled" (defScope s_law_shuffled) s.heap.objs.size f cdv)).units < cLine := Nat.lt_of_succ_lt (hu_of hr)
    refine ⟨_, (pss_cons (ps_par (i := 2) (j := 3) (by rfl) nd rfl rfl (by decide) rfl rfl (pa_cons (pe_callTy call_list_of (by rfl) T.list b_list (pa_cons (pv 1) pa_nil)) (pa_cons (pe_lst pa_nil) pa_nil)) (by rfl))
      (pss_cons (ps_while PassesOwn.never (pt_cmpR (op_neNil hu0) (pv 2) (pe_lst pa_nil) (nomark _))
        (pss_one (ps_expr (pe_bm PySem.F.plainAttrs_list PySem.F.slot_list_append PySem.F.type_list_append mt_append (pv 3) (pa_cons (pe_bm PySem.F.plainAttrs_list PySem.F.slot_list_pop PySem.F.type_list_pop mt_popAt (pv 2) (pa_cons (pe_g C1 hr hg (by decide) rfl (pa_cons (pv 0) (pa_cons (pe_callB call_len_seq (by rfl) T.len b_len (pa_cons (pv 2) pa_nil)) pa_nil))) pa_nil)) pa_nil)))))
      (pss_one (ps_ret (pv 3))))), ?_⟩
    refine ⟨_, rfl, a, xs, rfl, ha, fun l hl => ⟨by decide, fun q hq => ⟨_, _, rfl, ?_⟩⟩⟩
    have hlq : q ≠ l := fun e => by
      rw [e, upd_same] at hq
      cases hq
    have hq0 : H q = none := by rw [upd_ne hlq] at hq; exact hq
    have nl := hp.ne hl
    have nq := hp.ne hq0
    refine ⟨fun m σ G => ∃ (left found : List V), m = left.length ∧ σ = [some (.ref i.p), some (.ref a), some (.ref l), some (.ref q)] ∧ Kb i.p H G ∧ Pen G i (B + found.length) ∧ G l = some (.lst left) ∧ G q = some (.lst found) ∧ (found ++ left).Perm xs, ?_, ?_⟩
    · refine ⟨_, xs, [], rfl, rfl, ((Kb.new hl).mut hq0), (hp.upd nl).upd nq, by rw [upd_ne hlq.symm, upd_same], upd_same, by simp⟩
    · rintro m σ G ⟨left, found, rfl, rfl, kb, pn, h2, h3, h4⟩
      have h5 : found.length + left.length = xs.length := by
        have := h4.length_eq
        rw [List.length_append] at this
        exact this
      refine ⟨_, rfl, by decide, fun z hz => ?_⟩
      have zl : z ≠ l := fun e => by rw [e, h2] at hz; cases hz
      have zq : z ≠ q := fun e => by rw [e, h3] at hz; cases hz
      have nz := pn.ne hz
      have zH : H z = none := kb.free nz.1 hz
      have g2 : (upd G z (.lst [])) l = some (.lst left) := by rw [upd_ne zl.symm]; exact h2
      have g3 : (upd G z (.lst [])) q = some (.lst found) := by rw [upd_ne zq.symm]; exact h3
      refine ⟨l, z, left, rfl, rfl, .inl ⟨SqL.of g2, SqL.of upd_same⟩, _, rfl, ?_⟩
      cases left with
      | nil =>
        refine iteF ?_
        refine ⟨_, rfl, ?_⟩
        rw [List.append_nil] at h4
        refine k q found _ h4 hq0 (kb.mut zH) ((pn.upd nz).mono (by simp at h5; omega)) g3
      | cons y left =>
        refine iteT ?_
        refine ⟨fun σ' G' => ∃ (left' found' : List V), left'.length < (y :: left).length ∧ σ' = [some (.ref i.p), some (.ref a), some (.ref l), some (.ref q)] ∧ Kb i.p H G' ∧ Pen G' i (B + found'.length) ∧ G' l = some (.lst left') ∧ G' q = some (.lst found') ∧ (found' ++ left').Perm xs, ?_, ?_⟩
        · rintro σ' G' ⟨l', f', r1, r2⟩
          exact ⟨_, r1, l', f', rfl, r2⟩
        · refine ⟨_, rfl, .inl ⟨rfl, _, SqL.of g3⟩, _, rfl, .inl ⟨rfl, _, SqL.of g2⟩, _, rfl, _, rfl, l, _, rfl, .inl (SqL.of g2), i, _, B + found.length, rfl, pn.upd nz, by omega, by simp, by simp at h5; simp; omega, fun d G' d0 d1 kb2 pn2 => ?_⟩
          have k2 := kb2 _ _ g2 nl.1
          have k3 := kb2 _ _ g3 nq.1
          have d2 : d.toNat < (y :: left).length := by omega
          have hv : (y :: left)[d.toNat]? = some ((y :: left)[d.toNat]'d2) := List.getElem?_eq_getElem d2
          refine ⟨l, _, d, _, _, rfl, rfl, k2, by omega, by simp at h5 d1; omega, seq_in d0 d1, hv, ?_⟩
          have k4 : (upd G' l (.lst ((y :: left).eraseIdx d.toNat))) q = some (.lst found) := by rw [upd_ne hlq]; exact k3
          refine ⟨q, _, _, rfl, rfl, k4, (by simp at h5; exact Nat.lt_of_lt_of_le (by omega : found.length < 1000000) (by decide)), ?_⟩
          have le := erase_len hv
          refine ⟨(y :: left).eraseIdx d.toNat, found ++ [(y :: left)[d.toNat]'d2], by omega, rfl, ?_, ?_, ?_, upd_same, ?_⟩
          · exact (((kb.mut zH).trans kb2).mut hl).mut hq0
          · refine ((pn2.upd nl).upd nq).mono ?_
            rw [List.length_append]
            exact Nat.le_refl _
          · rw [upd_ne hlq.symm, upd_same]
          · rw [List.append_assoc]
            exact ((erase_perm hv).append_left found).trans h4
end
abbrev s_law_arrangement : Stmt := top 26
abbrev N_law_arrangement : List Str := ["pen", "places", "way", "found", "at", "far"]
theorem sc_law_arrangement : FnScope N_law_arrangement ["pen", "places"] (defScope s_law_arrangement) := ⟨rfl, rfl, rfl, by decide +kernel, rfl, by decide +kernel, by decide +kernel⟩
section
variable {P : Program} {w : World} {K : PySem.W.Frag} {mg : Str → Option Value} {base : Heap} {f : Addr} {fd : FuncData}
theorem ok_law_arrangement (F : Fun K "_law_arrangement" "_law_arrangement" s_law_arrangement f fd) (T : Bt mg) (C1 : Cg P w K mg base 1 "_law_draw" spDraw) (C2 : Cg P w K mg base 2 "_law_shuffled" (spShuf K)) : FnG P w K mg base CX0 3 f fd ["pen", "places"] spArr := by
  refine fnG0 F sc_law_arrangement (fun vs H Q E h => ?_) (fun cdv A outer s H vs Q E hr hg h => ?_)
  · obtain ⟨i, B, n, rfl, _⟩ := h
    rfl
  · obtain ⟨i, B, n, rfl, hp, hB, n2, n1, k⟩ := h
    have nd := sc_law_arrangement.nd
    refine ⟨_, (pss_cons (ps_set (i := 2) nd rfl (Or.inl rfl) (pe_g C1 hr hg (by decide) rfl (pa_cons (pv 0) (pa_cons pe_int pa_nil))))
      (pss_cons (ps_if (pt_cmpR op_eq (pv 2) pe_int (nomark _))
        (pss_one (ps_ret (pe_tupRg rfl (by rfl) T.tuple (prg_1 (by rfl) T.range (pv 1)))))
        pss_nil)
      (pss_cons (ps_set (i := 3) nd rfl (Or.inl rfl) (pe_listRg rfl (by rfl) T.list (prg_1 (by rfl) T.range (pv 1))))
      (pss_cons (ps_if (pt_cmpR op_eq (pv 2) pe_int (nomark _))
        (pss_cons (ps_set (i := 4) nd rfl (Or.inl rfl) (pe_g C1 hr hg (by decide) rfl (pa_cons (pv 0) (pa_cons (pv 1) pa_nil))))
        (pss_cons (ps_set (i := 5) nd rfl (Or.inl rfl) (pe_op op_modN (pe_op op_add (pe_op op_add (pv 4) pe_int) (pe_g C1 hr hg (by decide) rfl (pa_cons (pv 0) (pa_cons (pe_op op_sub (pv 1) pe_int) pa_nil)))) (pv 1)))
        (pss_cons (ps_asg (pe_tup (pa_cons (pe_ix ix_list (pv 3) (pv 5) (fun _ _ => rfl)) (pa_cons (pe_ix ix_list (pv 3) (pv 4) (fun _ _ => rfl)) pa_nil))) (pg_tup (by rfl) (pgs_cons (pg_sub (pv 3) (pv 4) set_list) (pgs_cons (pg_sub (pv 3) (pv 5) set_list) pgs_nil))))
        (pss_one (ps_ret (pe_callTy call_tuple_of (by rfl) T.tuple b_tuple (pa_cons (pv 3) pa_nil)))))))
        pss_nil)
      (pss_one (ps_ret (pe_callTy call_tuple_of (by rfl) T.tuple b_tuple (pa_cons (pe_g C2 hr hg (by decide) rfl (pa_cons (pv 0) (pa_cons (pv 3) pa_nil))) pa_nil)))))))), ?_⟩
    refine ⟨_, rfl, i, 5, B, rfl, hp, by omega, by decide, by decide, fun d G d0 d1 kb pn => ?_⟩
    refine ⟨_, rfl, rfl, _, rfl, ?_⟩
    have ok : RgOk 0 (n : Int) := RgOk.of_le (by decide) (by omega) (by decide) (by omega)
    refine ite2 (fun _ => ?_) (fun h0 => ?_)
    · refine ⟨_, rfl, _, rfl, ok, fun t ht => ?_⟩
      have nt := pn.ne ht
      rw [rg_places]
      exact k t (places n) _ (List.Perm.refl _) (kb.mut (kb.free nt.1 ht)) ((pn.upd nt).mono (by omega)) upd_same
    · refine ⟨_, rfl, _, rfl, ok, fun l hl => ?_⟩
      rw [rg_places]
      have nl := pn.ne hl
      have l0 := kb.free nl.1 hl
      have pn1 := pn.upd (o := .lst ((places n).map V.int)) nl
      have kb1 := kb.mut (o := .lst ((places n).map V.int)) l0
      have h1 : (upd G l (.lst ((places n).map V.int))) l = some (.lst ((places n).map V.int)) := upd_same
      generalize (upd G l (.lst ((places n).map V.int))) = G1 at pn1 kb1 h1
      refine ⟨_, rfl, rfl, _, rfl, ?_⟩
      refine ite2 (fun _ => ?_) (fun _ => ?_)
      · refine ⟨_, rfl, _, rfl, i, _, B + 1, rfl, pn1, by omega, by omega, by omega, fun at' G2 a0 a1 kb2 pn2 => ?_⟩
        refine ⟨_, rfl, _, _, rfl, rfl, _, rfl, _, rfl, _, _, rfl, rfl, i, _, B + 2, rfl, pn2, by omega, by omega, by omega, fun e G3 e0 e1 kb3 pn3 => ?_⟩
        refine ⟨_, _, rfl, rfl, _, rfl, _, _, rfl, rfl, by omega, ?_⟩
        have r1 := rest_at (i := at' + 1 + e) (m := (n : Int)) (by omega)
        have k3 : G3 l = some (.lst ((places n).map V.int)) := kb3 _ _ (kb2 _ _ h1 nl.1) nl.1
        have len : ((places n).map V.int).length = n := by rw [List.length_map, places_len]
        obtain ⟨v1, g1, g2⟩ := atI_in (xs := (places n).map V.int) r1.1 (by rw [len]; exact r1.2)
        obtain ⟨v2, g3, g4⟩ := atI_in (xs := (places n).map V.int) a0 (by rw [len]; exact a1)
        refine ⟨_, rfl, _, rfl, l, _, _, _, rfl, rfl, SqL.of k3, g1, _, rfl, _, rfl, l, _, _, _, rfl, rfl, SqL.of k3, g3, (show 2 ≤ sizeLine by decide), fun t ht => ?_⟩
        have ix : ∀ {z : Int}, 0 ≤ z → z < n → ixN ((places n).map V.int).length z = some z.toNat := fun {z} z0 z1 => by
          rw [len]
          unfold ixN
          rw [if_pos z0, if_pos z1]
        have tl : t ≠ l := fun e => by rw [e, k3] at ht; cases ht
        refine ⟨t, _, rfl, SqT.of upd_same, rfl, ?_⟩
        refine ⟨_, _, rfl, _, rfl, _, rfl, l, _, _, _, rfl, rfl, by rw [upd_ne tl.symm]; exact k3, ix a0 a1, ?_⟩
        refine ⟨_, _, rfl, _, rfl, _, rfl, l, _, _, _, rfl, rfl, upd_same, by rw [List.length_set]; exact ix r1.1 r1.2, ?_⟩
        rw [upd_upd]
        refine ⟨rfl, _, rfl, l, _, rfl, .inl ⟨SqL.of upd_same, fun q hq => ?_⟩⟩
        obtain ⟨ks, hk, pk⟩ := perm_ints (swapped_perm g4 g2)
        rw [hk]
        have ql : q ≠ l := fun e => by rw [e, upd_same] at hq; cases hq
        have qt : q ≠ t := fun e => by rw [e, upd_ne tl, upd_same] at hq; cases hq
        have q3 : G3 q = none := by rw [upd_ne ql, upd_ne qt] at hq; exact hq
        have nt := pn3.ne ht
        have nq := pn3.ne q3
        have kb4 := (kb1.trans kb2).trans kb3
        refine k q ks _ pk (((kb4.mut (kb4.free nt.1 ht)).mut l0).mut (kb4.free nq.1 q3)) ((((pn3.upd nt).upd nl).upd nq).mono (by omega)) ?_
        rw [upd_same]
      · refine ⟨_, rfl, _, rfl, i, B + 1, l, _, rfl, pn1, by omega, .inl (SqL.of h1), ?_, fun q ys G2 pm hq kb2 pn2 h2 => ?_⟩
        · rw [List.length_map, places_len]
          omega
        · refine ⟨q, ys, rfl, .inl ⟨SqL.of h2, fun t ht => ?_⟩⟩
          obtain ⟨ks, rfl, pk⟩ := perm_ints pm
          have nt := pn2.ne ht
          rw [List.length_map, places_len] at pn2
          exact k t ks _ pk ((kb1.trans kb2).mut ((kb1.trans kb2).free nt.1 ht)) ((pn2.upd nt).mono (by omega)) upd_same
end
-- new
/-- a drawn door, and where it stands -/
structure DoorI where
  name : Str
  one : Str
  other : Str
  cut : Nat → Nat
  asks : List (Int × Int)
  t : Addr
  c : Addr
  q : Addr
  ts : List Addr
def DoorI.kv (d : DoorI) : Key × V := (.inr d.name, .ref d.t)
structure DoorAt (K : PySem.W.Frag) (H : Hp) (n : Nat) (d : DoorI) : Prop where
  t : SqT K H d.t [.str d.one, .str d.other, .ref d.c, .ref d.q]
  c : SqT K H d.c (arV d.cut n)
  q : SqT K H d.q (d.ts.map V.ref)
  ps : PairsV K H d.ts d.asks
theorem DoorAt.same {K : PySem.W.Frag} {H G : Hp} {n : Nat} {d : DoorI} (h : DoorAt K H n d) (e : Same H G) : DoorAt K G n d := ⟨sqt_same e h.t, sqt_same e h.c, sqt_same e h.q, h.ps.same e⟩
theorem DoorAt.kb {K : PySem.W.Frag} {H G : Hp} {n : Nat} {d : DoorI} {p : Addr} (h : DoorAt K H n d) (e : Kb p H G) (hp : PenO H p) : DoorAt K G n d := ⟨sqt_kb e hp h.t, sqt_kb e hp h.c, sqt_kb e hp h.q, h.ps.kb e hp⟩
def hallKv (n : Nat) (rl dd wt : Addr) : List (Key × V) := [(.inr "places", .int (n : Int)), (.inr "rooms", .ref rl), (.inr "doors", .ref dd), (.inr "watched", .ref wt)]
/-- a drawn hall as it stands -/
structure HallAt (K : PySem.W.Frag) (H : Hp) (h : Addr) (n : Nat) (rl dd wt : Addr) (rooms : List Str) (ws : List Int) (ds : List DoorI) : Prop where
  kv : H h = some (.dK (hallKv n rl dd wt))
  rms : H rl = some (.lst (strV rooms))
  drs : H dd = some (.dK (ds.map DoorI.kv))
  wtf : FzT H wt (ws.map V.int)
  all : ∀ d ∈ ds, DoorAt K H n d
/-- what is drawn -/
structure HallD (n R D M : Nat) (rooms : List Str) (ws : List Int) (ds : List DoorI) : Prop where
  r1 : rooms ≠ []
  r2 : rooms.length ≤ R
  rn : ∀ z ∈ rooms, Nm z
  rs : sortedS rooms = true
  wl : ws.length ≤ M
  wn : ws.Nodup
  wb : ∀ m ∈ ws, 0 ≤ m ∧ m < (n : Int)
  wu : ws.Pairwise (· ≤ ·)
  dl : ds.length ≤ D
  dn : (ds.map DoorI.name).Nodup
  nm : ∀ d ∈ ds, Nm d.name ∧ d.one ∈ rooms ∧ d.other ∈ rooms ∧ IsP n d.cut ∧ (d.asks.map (·.1)).Sublist ws ∧ ∀ p ∈ d.asks, 0 ≤ p.2 ∧ p.2 < (n : Int)
def spHall (K : PySem.W.Frag) : Sp := fun vs H Q _ => ∃ (i : PenI) (B n R D M : Nat), vs = [.ref i.p, .int (n : Int), .int (R : Int), .int (D : Int), .int (M : Int)] ∧ Pen H i B ∧ B < 2 ^ 30 ∧ 2 ≤ n ∧ n ≤ 12 ∧ 1 ≤ R ∧ R + D ≤ 18 ∧ M ≤ 12 ∧
  ∀ (h rl dd wt : Addr) (rooms : List Str) (ws : List Int) (ds : List DoorI) (H' : Hp), HallAt K H' h n rl dd wt rooms ws ds → HallD n R D M rooms ws ds → H h = none → H rl = none → H dd = none → Kb i.p H H' → Pen H' i (B + 1000) → Q (.ref h) H'
abbrev s_law_hall : Stmt := top 28
abbrev N_law_hall : List Str := ["pen", "places", "rooms", "doors", "marks", "names", "hall", "name", "cut", "one", "other"]
theorem sc_law_hall : FnScope N_law_hall ["pen", "places", "rooms", "doors", "marks"] (defScope s_law_hall) := ⟨rfl, rfl, rfl, by decide +kernel, rfl, by decide +kernel, by decide +kernel⟩
theorem key_ne {a b : Str} (h : ¬ a = b) : ¬ ((Sum.inr a : Key) = Sum.inr b) := fun e => h (Sum.inr.inj e)
theorem k_pr : ¬ (("places" : Str) = "rooms") := by decide +kernel
theorem k_pd : ¬ (("places" : Str) = "doors") := by decide +kernel
theorem k_pw : ¬ (("places" : Str) = "watched") := by decide +kernel
theorem k_rd : ¬ (("rooms" : Str) = "doors") := by decide +kernel
theorem k_rw : ¬ (("rooms" : Str) = "watched") := by decide +kernel
theorem k_dw : ¬ (("doors" : Str) = "watched") := by decide +kernel
def hall3 (n : Nat) (rl dd : Addr) : List (Key × V) := [(.inr "places", .int (n : Int)), (.inr "rooms", .ref rl), (.inr "doors", .ref dd)]
theorem hall_made {n : Nat} {rl dd : Addr} : mergeK [] (hall3 n rl dd) = hall3 n rl dd := by
  have h1 := key_ne k_pr
  have h2 := key_ne k_pd
  have h3 := key_ne k_rd
  simp [mergeK, putK, hall3, h1, h2, h3]
theorem hall_put {n : Nat} {rl dd wt : Addr} : putK (hall3 n rl dd) (Sum.inr "watched" : Key) (.ref wt) = hallKv n rl dd wt := by
  have h1 := key_ne k_pw
  have h2 := key_ne k_rw
  have h3 := key_ne k_dw
  simp [putK, hall3, hallKv, h1, h2, h3]
theorem hall_rooms {n : Nat} {rl dd wt : Addr} : valV (hallKv n rl dd wt) (Sum.inr "rooms" : Key) = some (.ref rl) := by
  unfold hallKv
  rw [valV_neg (key_ne k_pr), valV_pos rfl]
theorem hall_doors {n : Nat} {rl dd wt : Addr} : valV (hallKv n rl dd wt) (Sum.inr "doors" : Key) = some (.ref dd) := by
  unfold hallKv
  rw [valV_neg (key_ne k_pd), valV_neg (key_ne k_rd), valV_pos rfl]
theorem hall_watched {n : Nat} {rl dd wt : Addr} : valV (hallKv n rl dd wt) (Sum.inr "watched" : Key) = some (.ref wt) := by
  unfold hallKv
  rw [valV_neg (key_ne k_pw), valV_neg (key_ne k_rw), valV_neg (key_ne k_dw), valV_pos rfl]
theorem strV_take (zs : List Str) (k : Nat) : (strV zs).take k = strV (zs.take k) := by
  unfold strV
  rw [List.map_take]
theorem strV_drop (zs : List Str) (k : Nat) : (strV zs).drop k = strV (zs.drop k) := by
  unfold strV
  rw [List.map_drop]
theorem HallAt.wtc {K : PySem.W.Frag} {H : Hp} {h : Addr} {n : Nat} {rl dd wt : Addr} {rooms : List Str} {ws : List Int} {ds : List DoorI} (x : HallAt K H h n rl dd wt rooms ws ds) : SqT K H wt (ws.map V.int) := x.wtf.sqt
theorem FzT.kb {p : Addr} {H G : Hp} {a : Addr} {xs : List V} (e : Kb p H G) (hp : PenO H p) (h : FzT H a xs) : FzT G a xs := by
  obtain ⟨kvs, h1, _⟩ := hp
  exact FzT.d e h1 h
theorem FzT.putK {G : Hp} {D q : Addr} {kvs kvs2 : List (Key × V)} {ys : List V} (hd : G D = some (.dK kvs)) (h : FzT G q ys) : FzT (upd G D (.dK kvs2)) q ys := by
  obtain ⟨ob, h1, h2⟩ := h
  exact ⟨ob, by rw [upd_ne (fun e => by rw [e, hd] at h1; cases h1)]; exact h1, h2⟩
theorem HallAt.kb {K : PySem.W.Frag} {H G : Hp} {h : Addr} {n : Nat} {rl dd wt : Addr} {rooms : List Str} {ws : List Int} {ds : List DoorI} {p : Addr} (x : HallAt K H h n rl dd wt rooms ws ds) (e : Kb p H G) (hp : PenO H p) (n1 : h ≠ p) (n2 : rl ≠ p) (n3 : dd ≠ p) : HallAt K G h n rl dd wt rooms ws ds :=
  ⟨e _ _ x.kv n1, e _ _ x.rms n2, e _ _ x.drs n3, FzT.kb e hp x.wtf, fun d hd => (x.all d hd).kb e hp⟩
theorem HallAt.same {K : PySem.W.Frag} {H G : Hp} {h : Addr} {n : Nat} {rl dd wt : Addr} {rooms : List Str} {ws : List Int} {ds : List DoorI} (x : HallAt K H h n rl dd wt rooms ws ds) (e : Same H G) : HallAt K G h n rl dd wt rooms ws ds :=
  ⟨e _ _ x.kv, e _ _ x.rms, e _ _ x.drs, FzT.same e x.wtf, fun d hd => (x.all d hd).same e⟩
/-- a tuple stands where a dict is written anew -/
theorem sqt_putK {K : PySem.W.Frag} {G : Hp} {D q : Addr} {kvs kvs2 : List (Key × V)} {ys : List V} (hd : G D = some (.dK kvs)) (h : SqT K G q ys) : SqT K (upd G D (.dK kvs2)) q ys := by
  rcases h with z | z
  · refine .inl ?_
    rcases z with z | ⟨ob, z⟩
    · refine .inl ?_
      rw [upd_ne (ne_of z hd (fun e => nomatch e))]
      exact z
    · refine .inr ⟨ob, ?_⟩
      rw [upd_ne (ne_of z hd (fun e => nomatch e))]
      exact z
  · exact .inr z
theorem DoorAt.putK {K : PySem.W.Frag} {G : Hp} {D : Addr} {kvs kvs2 : List (Key × V)} {n : Nat} {d : DoorI} (hd : G D = some (.dK kvs)) (h : DoorAt K G n d) : DoorAt K (upd G D (.dK kvs2)) n d :=
  ⟨sqt_putK hd h.t, sqt_putK hd h.c, sqt_putK hd h.q, Paired.mapP h.ps fun _ _ z => sqt_putK hd z⟩
/-- the doors so far -/
structure DoorsOk (n : Nat) (rooms : List Str) (ws : List Int) (ds : List DoorI) : Prop where
  dn : (ds.map DoorI.name).Nodup
  nm : ∀ d ∈ ds, Nm d.name ∧ d.one ∈ rooms ∧ d.other ∈ rooms ∧ IsP n d.cut ∧ (d.asks.map (·.1)).Sublist ws ∧ ∀ p ∈ d.asks, 0 ≤ p.2 ∧ p.2 < (n : Int)
/-- a door more, or another one by its name -/
def putD (ds : List DoorI) (d : DoorI) : List DoorI := if d.name ∈ ds.map DoorI.name then ds.map (fun e => if e.name = d.name then d else e) else ds ++ [d]
theorem putD_kv (ds : List DoorI) (d : DoorI) : putK (ds.map DoorI.kv) (Sum.inr d.name : Key) (.ref d.t) = (putD ds d).map DoorI.kv := by
  unfold putK putD
  have e : ((ds.map DoorI.kv).any fun kv => decide (kv.1 = (Sum.inr d.name : Key))) = decide (d.name ∈ ds.map DoorI.name) := by
    rw [Bool.eq_iff_iff, decide_eq_true_eq, List.any_eq_true]
    constructor
    · rintro ⟨kv, h1, h2⟩
      obtain ⟨x, hx, rfl⟩ := List.mem_map.mp h1
      have h3 : (Sum.inr x.name : Key) = Sum.inr d.name := by simpa [DoorI.kv] using h2
      exact List.mem_map.mpr ⟨x, hx, Sum.inr.inj h3⟩
    · intro h
      obtain ⟨x, hx, e⟩ := List.mem_map.mp h
      exact ⟨x.kv, List.mem_map.mpr ⟨x, hx, rfl⟩, by simp [DoorI.kv, e]⟩
  rw [e]
  by_cases h : d.name ∈ ds.map DoorI.name
  · rw [if_pos h, if_pos (decide_eq_true h), List.map_map, List.map_map]
    refine List.map_congr_left fun x hx => ?_
    show (if (Sum.inr x.name : Key) = Sum.inr d.name then ((Sum.inr x.name : Key), V.ref d.t) else x.kv) = DoorI.kv (if x.name = d.name then d else x)
    by_cases q : x.name = d.name
    · rw [if_pos q, if_pos (by rw [q]), q]
      rfl
    · rw [if_neg q, if_neg fun z => q (Sum.inr.inj z)]
  · rw [if_neg h, if_neg (by simpa using h), List.map_append]
    rfl
theorem putD_mem {ds : List DoorI} {d e : DoorI} (h : e ∈ putD ds d) : e = d ∨ e ∈ ds := by
  unfold putD at h
  split at h
  · obtain ⟨x, hx, rfl⟩ := List.mem_map.mp h
    split
    · exact .inl rfl
    · exact .inr hx
  · rcases List.mem_append.mp h with h | h
    · exact .inr h
    · exact .inl (List.mem_singleton.mp h)
theorem putD_len (ds : List DoorI) (d : DoorI) : (putD ds d).length ≤ ds.length + 1 := by
  unfold putD
  split
  · rw [List.length_map]
    exact Nat.le_succ _
  · rw [List.length_append]
    exact Nat.le_refl _
theorem putD_nodup {ds : List DoorI} {d : DoorI} (h : (ds.map DoorI.name).Nodup) : ((putD ds d).map DoorI.name).Nodup := by
  unfold putD
  split
  · rename_i m
    rw [List.map_map]
    have e : ds.map (DoorI.name ∘ fun e => if e.name = d.name then d else e) = ds.map DoorI.name := by
      refine List.map_congr_left fun x _ => ?_
      show (if x.name = d.name then d else x).name = x.name
      split
      · rename_i q
        exact q.symm
      · rfl
    rw [e]
    exact h
  · rename_i m
    rw [List.map_append]
    refine List.nodup_append.mpr ⟨h, by simp, fun a ha b hb e => ?_⟩
    have hb2 : b = d.name := by simpa using hb
    rw [e, hb2] at ha
    exact m ha
section
variable {P : Program} {w : World} {K : PySem.W.Frag} {mg : Str → Option Value} {base : Heap} {f : Addr} {fd : FuncData}
theorem ok_law_hall (F : Fun K "_law_hall" "_law_hall" s_law_hall f fd) (T : Bt mg) (C_law_draw : Cg P w K mg base 1 "_law_draw" spDraw) (C_law_pick : Cg P w K mg base 2 "_law_pick" (spPickA K)) (C_law_shuffled : Cg P w K mg base 2 "_law_shuffled" (spShuf K))
    (C_law_arrangement : Cg P w K mg base 3 "_law_arrangement" spArr) (C_law_names : Cg P w K mg base 3 "_law_names" spNames) (C_law_asks : Cg P w K mg base 2 "_law_asks" (spAsks K)) : FnG P w K mg base CX0 4 f fd ["pen", "places", "rooms", "doors", "marks"] (spHall K) := by
  refine fnG0 F sc_law_hall (fun vs H Q E h => ?_) (fun cdv A outer s H vs Q E hr hg h => ?_)
  · obtain ⟨i, B, n, R, D, M, rfl, _⟩ := h
    rfl
  · obtain ⟨i, B, n, R, D, M, rfl, pn, hB, n2, n12, R1, RD, M2, k⟩ := h
    have nd := sc_law_hall.nd
    have hu := hu_of hr
    refine ⟨_, (pss_cons (ps_set (i := 5) nd rfl (Or.inl rfl) (pe_g C_law_names hr hg (by decide) rfl (pa_cons (pv 0) (pa_cons (pe_op op_add (pv 2) (pv 3)) pa_nil))))
      (pss_cons (ps_set (i := 6) nd rfl (Or.inl rfl) (pe_disp (pps_cons pe_str (pv 1) (pps_cons pe_str (pe_callB cr_sortedS (by rfl) T.sorted b_sorted (pa_cons (pe_slice sl_list (pv 5) po_none (po_some (pe_op op_add pe_int (pe_g C_law_draw hr hg (by decide) rfl (pa_cons (pv 0) (pa_cons (pv 2) pa_nil)))))) pa_nil)) (pps_cons pe_str pe_dnewK pps_nil))) (by rfl) (by rfl) (fun z => by cases z) (by decide)))
      (pss_cons (ps_dput hu (pv 6) pe_str (pe_callTy call_tuple_frz (by rfl) T.tuple b_tuple (pa_cons (pe_callB cr_sorted (by rfl) T.sorted b_sorted (pa_cons (pe_slice sl_list (pe_g C_law_shuffled hr hg (by decide) rfl (pa_cons (pv 0) (pa_cons (pe_listRg rfl (by rfl) T.list (prg_1 (by rfl) T.range (pv 1))) pa_nil))) po_none (po_some (pe_g C_law_draw hr hg (by decide) rfl (pa_cons (pv 0) (pa_cons (pe_op op_add (pv 4) pe_int) pa_nil))))) pa_nil)) pa_nil)) rfl)
      (pss_cons (ps_for PassesOwn.never rfl (pi_list (pe_callB cr_sortedS (by rfl) T.sorted b_sorted (pa_cons (pe_slice sl_list (pe_slice sl_list (pv 5) (po_some (pv 2)) po_none) po_none (po_some (pe_g C_law_draw hr hg (by decide) rfl (pa_cons (pv 0) (pa_cons (pe_op op_add (pv 3) pe_int) pa_nil))))) pa_nil))) (pg_name (i := 7) nd rfl (Or.inl rfl))
        (pss_cons (ps_par (i := 9) (j := 10) (by rfl) nd rfl rfl (by decide) rfl rfl (pa_cons (pe_g C_law_pick hr hg (by decide) rfl (pa_cons (pv 0) (pa_cons (pe_dget hu (pv 6) pe_str (fun _ _ => rfl)) pa_nil))) (pa_cons (pe_g C_law_pick hr hg (by decide) rfl (pa_cons (pv 0) (pa_cons (pe_dget hu (pv 6) pe_str (fun _ _ => rfl)) pa_nil))) pa_nil)) (by rfl))
        (pss_cons (ps_set (i := 8) nd rfl (Or.inl rfl) (pe_g C_law_arrangement hr hg (by decide) rfl (pa_cons (pv 0) (pa_cons (pv 1) pa_nil))))
        (pss_one (ps_dput hu (pe_dget hu (pv 6) pe_str (fun _ _ => rfl)) (pv 7) (pe_tup (pa_cons (pv 9) (pa_cons (pv 10) (pa_cons (pv 8) (pa_cons (pe_g C_law_asks hr hg (by decide) rfl (pa_cons (pv 0) (pa_cons (pv 1) (pa_cons (pe_dget hu (pv 6) pe_str (fun _ _ => rfl)) pa_nil)))) pa_nil))))) rfl)))))
      (pss_one (ps_ret (pv 6))))))), ?_⟩
    refine ⟨_, rfl, _, rfl, _, rfl, _, _, rfl, rfl, i, B, R + D, by rw [Int.natCast_add]; rfl, pn, by omega, by omega, RD, fun nl zs G1 zl zn nlH kb1 pn1 g1 => ?_⟩
    intro h hh
    have e1 : Same G1 (upd G1 h (.dK [])) := same_new hh
    have nh := pn1.ne hh
    have hH := kb1.free nh.1 hh
    have g1' := e1 _ _ g1
    have kb1' := kb1.mut (o := .dK []) hH
    have pn1' := pn1.upd (o := .dK []) nh
    have gh : (upd G1 h (.dK [])) h = some (.dK []) := upd_same
    generalize upd G1 h (.dK []) = G2 at g1' kb1' pn1' gh ⊢
    refine ⟨_, rfl, _, rfl, _, rfl, _, rfl, i, (R : Int), _, rfl, pn1', by omega, by omega, by omega, fun d1 G3 d10 d11 kb3 pn3 => ⟨_, _, rfl, rfl, _, rfl, ?_⟩⟩
    have g3 := kb3 _ _ g1' (pn1.neL g1)
    have gh3 := kb3 _ _ gh nh.1
    have k3 := kb1'.trans kb3
    have cutE : cutV (strV zs) none (some (1 + d1)) = strV (zs.take (1 + d1).toNat) := by
      rw [show 1 + d1 = (((1 + d1).toNat : Nat) : Int) by omega, cut_front, strV_take, Int.toNat_natCast]
    refine ⟨nl, _, rfl, SqL.of g3, fun ls hls => ?_⟩
    rw [cutE]
    have ns' := pn3.ne hls
    have hls3 : h ≠ ls := fun e => by rw [← e, gh3] at hls; cases hls
    have tl : (zs.take (1 + d1).toNat).length = (1 + d1).toNat := by
      rw [List.length_take]
      omega
    refine ⟨ls, zs.take (1 + d1).toNat, rfl, SqL.of upd_same, by omega, fun rooms rl pr sr hrl => ?_⟩
    have k4 := k3.mut (o := .lst (List.map V.str (zs.take (1 + d1).toNat))) (k3.free ns'.1 hls)
    have p4 := pn3.upd (o := .lst (List.map V.str (zs.take (1 + d1).toNat))) ns'
    have g4 : (upd G3 ls (.lst (List.map V.str (zs.take (1 + d1).toNat)))) nl = some (.lst (strV zs)) := by
      rw [upd_ne (ne_of_none g3 hls)]
      exact g3
    have h4 : (upd G3 ls (.lst (List.map V.str (zs.take (1 + d1).toNat)))) h = some (.dK []) := by
      rw [upd_ne hls3]
      exact gh3
    change (upd G3 ls (.lst (List.map V.str (zs.take (1 + d1).toNat)))) rl = none at hrl
    change (tPairs _ _ (upd (upd G3 ls (.lst (List.map V.str (zs.take (1 + d1).toNat)))) rl (.lst (List.map V.str rooms))) _)
    generalize upd G3 ls (.lst (List.map V.str (zs.take (1 + d1).toNat))) = G4 at k4 p4 g4 h4 hrl ⊢
    have nrl := p4.ne hrl
    have hrlH := k4.free nrl.1 hrl
    have hrlh : h ≠ rl := ne_of_none h4 hrl
    have k5 := k4.mut (o := .lst (strV rooms)) hrlH
    have p5 := p4.upd (o := .lst (strV rooms)) nrl
    have g5 : (upd G4 rl (.lst (strV rooms))) nl = some (.lst (strV zs)) := by
      rw [upd_ne (ne_of_none g4 hrl)]
      exact g4
    have h5 : (upd G4 rl (.lst (strV rooms))) h = some (.dK []) := by
      rw [upd_ne hrlh]
      exact h4
    have r5 : (upd G4 rl (.lst (strV rooms))) rl = some (.lst (strV rooms)) := upd_same
    change (tPairs _ _ (upd G4 rl (.lst (strV rooms))) _)
    generalize upd G4 rl (.lst (strV rooms)) = G5 at k5 p5 g5 h5 r5 ⊢
    intro dd hdd
    have ndd := p5.ne hdd
    have hddH := k5.free ndd.1 hdd
    have ddh : h ≠ dd := ne_of_none h5 hdd
    have ddr : rl ≠ dd := ne_of_none r5 hdd
    refine ⟨by rw [upd_ne ddh]; exact h5, hall3 n rl dd, rfl, (show 3 ≤ 15 by decide), ?_⟩
    rw [hall_made]
    have k6 := (k5.mut (o := .dK []) hddH).mut (o := .dK (hall3 n rl dd)) hH
    have p6 := (p5.upd (o := .dK []) ndd).upd (o := .dK (hall3 n rl dd)) nh
    have h6 : (upd (upd G5 dd (.dK [])) h (.dK (hall3 n rl dd))) h = some (.dK (hall3 n rl dd)) := upd_same
    have r6 : (upd (upd G5 dd (.dK [])) h (.dK (hall3 n rl dd))) rl = some (.lst (strV rooms)) := by rw [upd_ne hrlh.symm, upd_ne ddr]; exact r5
    have d6 : (upd (upd G5 dd (.dK [])) h (.dK (hall3 n rl dd))) dd = some (.dK []) := by rw [upd_ne ddh.symm, upd_same]
    have hnl : nl ≠ h := fun e => by
      rw [e, h5] at g5
      cases g5
    have g6 : (upd (upd G5 dd (.dK [])) h (.dK (hall3 n rl dd))) nl = some (.lst (strV zs)) := by
      rw [upd_ne hnl, upd_ne (ne_of_none g5 hdd)]
      exact g5
    change gName 6 _ _ (upd (upd G5 dd (.dK [])) h (.dK (hall3 n rl dd))) _
    generalize upd (upd G5 dd (.dK [])) h (.dK (hall3 n rl dd)) = G6 at k6 p6 h6 r6 d6 g6 ⊢
    clear hls hls3 ns' h5 g5 r5 p5 k5 h4 g4 p4 k4 gh3 g3 k3 pn3 kb3 gh g1' kb1' pn1' hdd hrl
    refine ⟨_, rfl, _, rfl, _, rfl, RgOk.of_le (by decide) (by omega) (by decide) (by omega), fun l0 hl0 => ?_⟩
    rw [rg_places]
    have n0 := p6.ne hl0
    have fr0 : ∀ {b : Addr} {u : HO}, G6 b = some u → (upd G6 l0 (.lst ((places n).map V.int))) b = some u := fun {b u} e => by
      rw [upd_ne (ne_of_none e hl0)]
      exact e
    refine ⟨i, _, l0, _, rfl, p6.upd n0, by omega, .inl (SqL.of upd_same), ?_, fun o ys G7 pm ho kb7 pn7 h7 => ?_⟩
    · rw [List.length_map, places_len]
      omega
    rw [List.length_map, places_len] at pn7
    obtain ⟨ks, rfl, pk⟩ := perm_ints pm
    have kl : ks.length = n := by rw [pk.length_eq, places_len]
    refine ⟨_, rfl, _, rfl, _, _, rfl, rfl, i, (M : Int) + 1, _, rfl, pn7, by omega, by omega, by omega, fun d2 G8 d20 d21 kb8 pn8 => ?_⟩
    have no := pn7.neL h7
    have o8 := kb8 _ _ h7 no
    have keep8 : ∀ {b : Addr} {u : HO}, G6 b = some u → b ≠ i.p → G8 b = some u := fun {b u} e ne => kb8 _ _ (kb7 _ _ (fr0 e) ne) ne
    have k8 : Kb i.p H G8 := ((k6.mut (o := .lst ((places n).map V.int)) (k6.free n0.1 hl0)).trans kb7).trans kb8
    have cutW : cutV (ks.map V.int) none (some d2) = (ks.take d2.toNat).map V.int := by
      rw [show d2 = ((d2.toNat : Nat) : Int) by omega, cut_front, Int.toNat_natCast, List.map_take]
    refine ⟨_, rfl, o, _, rfl, SqL.of o8, fun l5 hl5 => ?_⟩
    rw [cutW]
    have n5 := pn8.ne hl5
    have k9 := k8.mut (o := .lst ((ks.take d2.toNat).map V.int)) (k8.free n5.1 hl5)
    have p9 := pn8.upd (o := .lst ((ks.take d2.toNat).map V.int)) n5
    have keep9 : ∀ {b : Addr} {u : HO}, G6 b = some u → b ≠ i.p → (upd G8 l5 (.lst ((ks.take d2.toNat).map V.int))) b = some u := fun {b u} e ne => by
      have e8 := keep8 e ne
      rw [upd_ne (ne_of_none e8 hl5)]
      exact e8
    have l9 : (upd G8 l5 (.lst ((ks.take d2.toNat).map V.int))) l5 = some (.lst ((ks.take d2.toNat).map V.int)) := upd_same
    change (tNil : TA) _ (upd G8 l5 (.lst ((ks.take d2.toNat).map V.int))) _
    generalize upd G8 l5 (.lst ((ks.take d2.toNat).map V.int)) = G9 at k9 p9 keep9 l9 ⊢
    have wtl : (ks.take d2.toNat).length ≤ M ∧ (ks.take d2.toNat).length ≤ 12 := by
      rw [List.length_take]
      omega
    refine ⟨l5, ks.take d2.toNat, rfl, SqL.of l9, by omega, fun ws sp pws sws hsp => ?_⟩
    have n9 := p9.ne hsp
    have k10 := k9.mut (o := .lst (ws.map V.int)) (k9.free n9.1 hsp)
    have p10 := p9.upd (o := .lst (ws.map V.int)) n9
    have keep10 : ∀ {b : Addr} {u : HO}, G6 b = some u → b ≠ i.p → (upd G9 sp (.lst (ws.map V.int))) b = some u := fun {b u} e ne => by
      have e9 := keep9 e ne
      rw [upd_ne (ne_of_none e9 hsp)]
      exact e9
    have s10 : (upd G9 sp (.lst (ws.map V.int))) sp = some (.lst (ws.map V.int)) := upd_same
    change (tNil : TA) _ (upd G9 sp (.lst (ws.map V.int))) _
    generalize upd G9 sp (.lst (ws.map V.int)) = G10 at k10 p10 keep10 s10 ⊢
    refine ⟨sp, _, rfl, SqL.of s10, fun wt ob hwt oc od => ?_⟩
    have nwt := p10.ne hwt
    have k11 := k10.mut (o := .frz ob (.tup (ws.map V.int))) (k10.free nwt.1 hwt)
    have p11 := p10.upd (o := .frz ob (.tup (ws.map V.int))) nwt
    have keep11 : ∀ {b : Addr} {u : HO}, G6 b = some u → b ≠ i.p → (upd G10 wt (.frz ob (.tup (ws.map V.int)))) b = some u := fun {b u} e ne => by
      have e9 := keep10 e ne
      rw [upd_ne (ne_of_none e9 hwt)]
      exact e9
    have t11 : (upd G10 wt (.frz ob (.tup (ws.map V.int)))) wt = some (.frz ob (.tup (ws.map V.int))) := upd_same
    change (tVar 6 : TE) _ (upd G10 wt (.frz ob (.tup (ws.map V.int)))) _
    generalize upd G10 wt (.frz ob (.tup (ws.map V.int))) = G11 at k11 p11 keep11 t11 ⊢
    have h11 := keep11 h6 nh.1
    refine ⟨_, rfl, h, _, rfl, DPut.k (k := Sum.inr "watched") h11 (show 3 < sizeLine by decide), ?_⟩
    rw [hall_put]
    have wth : wt ≠ h := fun e => by
      rw [e, h11] at t11
      cases t11
    have k12 := k11.mut (o := .dK (hallKv n rl dd wt)) hH
    have p12 := p11.upd (o := .dK (hallKv n rl dd wt)) nh
    have hall0 : HallAt K (upd G11 h (.dK (hallKv n rl dd wt))) h n rl dd wt rooms ws [] := by
      refine ⟨upd_same, by rw [upd_ne hrlh.symm]; exact keep11 r6 nrl.1, by rw [upd_ne ddh.symm]; exact keep11 d6 ndd.1, ⟨ob, by rw [upd_ne wth]; exact t11, oc, od⟩, fun d hd => nomatch hd⟩
    have g12 : (upd G11 h (.dK (hallKv n rl dd wt))) nl = some (.lst (strV zs)) := by
      rw [upd_ne hnl]
      exact keep11 g6 (pn1.neL g1)
    generalize upd G11 h (.dK (hallKv n rl dd wt)) = G12 at k12 p12 hall0 g12 ⊢
    have nnl := pn1.neL g1
    refine ⟨_, rfl, _, rfl, _, rfl, nl, _, rfl, SqL.of g12, fun l6 hl6 => ?_⟩
    rw [cut_back, strV_drop]
    have n6 := p12.ne hl6
    have hall1 : ∀ {G : Hp}, Same G12 G → HallAt K G h n rl dd wt rooms ws [] := fun {G} e => ⟨e _ _ hall0.kv, e _ _ hall0.rms, e _ _ hall0.drs, FzT.same e hall0.wtf, fun _ hd => nomatch hd⟩
    have s6 : Same G12 (upd G12 l6 (.lst (strV (zs.drop R)))) := same_new hl6
    have k13 := k12.mut (o := .lst (strV (zs.drop R))) (k12.free n6.1 hl6)
    have p13 := p12.upd (o := .lst (strV (zs.drop R))) n6
    have l13 : (upd G12 l6 (.lst (strV (zs.drop R)))) l6 = some (.lst (strV (zs.drop R))) := upd_same
    have hall2 := hall1 s6
    refine ⟨_, rfl, _, rfl, _, _, rfl, rfl, i, (D : Int) + 1, _, rfl, p13, by omega, by omega, by omega, fun d3 G13 d30 d31 kb13 pn13 => ?_⟩
    have hall3' := hall2.kb kb13 p13.o nh.1 nrl.1 ndd.1
    have l13' := kb13 _ _ l13 n6.1
    have k14 := k13.trans kb13
    have cutN : cutV (strV (zs.drop R)) none (some d3) = strV ((zs.drop R).take d3.toNat) := by
      rw [show d3 = ((d3.toNat : Nat) : Int) by omega, cut_front, strV_take, Int.toNat_natCast]
    refine ⟨_, rfl, l6, _, rfl, SqL.of l13', fun l7 hl7 => ?_⟩
    rw [cutN]
    have n7 := pn13.ne hl7
    have k15 := k14.mut (o := .lst (strV ((zs.drop R).take d3.toNat))) (k14.free n7.1 hl7)
    have p15 := pn13.upd (o := .lst (strV ((zs.drop R).take d3.toNat))) n7
    have hall4 := hall3'.same (same_new (o := .lst (strV ((zs.drop R).take d3.toNat))) hl7)
    have nl7 : ((zs.drop R).take d3.toNat).length ≤ D ∧ ((zs.drop R).take d3.toNat).length ≤ 18 := by
      rw [List.length_take, List.length_drop]
      omega
    refine ⟨l7, (zs.drop R).take d3.toNat, rfl, SqL.of upd_same, by omega, fun nms np pnm snm hnp => ?_⟩
    have n8 := p15.ne hnp
    have k16 := k15.mut (o := .lst (strV nms)) (k15.free n8.1 hnp)
    have p16 := p15.upd (o := .lst (strV nms)) n8
    have hall5 := hall4.same (same_new (o := .lst (strV nms)) hnp)
    have np16 : (upd (upd G13 l7 (.lst (strV ((zs.drop R).take d3.toNat)))) np (.lst (strV nms))) np = some (.lst (strV nms)) := upd_same
    have nmn : ∀ z ∈ nms, Nm z := fun z hz => zn z (List.mem_of_mem_drop (List.mem_of_mem_take (pnm.mem_iff.mp hz)))
    have nml : nms.length ≤ D ∧ nms.length ≤ 18 := by
      rw [pnm.length_eq]
      exact nl7
    have rl1 : rooms.length = (1 + d1).toNat := by rw [pr.length_eq, tl]
    have rnm : ∀ z ∈ rooms, Nm z := fun z hz => zn z (List.mem_of_mem_take (pr.mem_iff.mp hz))
    refine ⟨np, rfl, ⟨_, SqL.of np16⟩, ?_⟩
    rw [show List.map V.str nms = strV nms from rfl]
    generalize upd (upd G13 l7 (.lst (strV ((zs.drop R).take d3.toNat)))) np (.lst (strV nms)) = G16 at k16 p16 hall5 np16 ⊢
    refine for_list (xs := strV nms) (fun j σ G => ∃ (y7 y8 y9 y10 : Option V) (ds : List DoorI), σ = [some (.ref i.p), some (.int (n : Int)), some (.int (R : Int)), some (.int (D : Int)), some (.int (M : Int)), some (.ref nl), some (.ref h), y7, y8, y9, y10] ∧ HallAt K G h n rl dd wt rooms ws ds ∧ DoorsOk n rooms ws ds ∧ ds.length ≤ j ∧ G np = some (.lst (strV nms)) ∧ Kb i.p H G ∧ Pen G i (B + 100 + j * 45))
      ⟨_, _, _, _, [], rfl, hall5, ⟨List.nodup_nil, fun _ hd => nomatch hd⟩, Nat.le_refl 0, np16, k16, p16.mono (by omega)⟩ (fun j σ G _ z => ?_) (fun j x σ G hj z => ?_) fun σ G z => ?_
    · obtain ⟨_, _, _, _, _, _, _, _, _, q, _⟩ := z
      exact SqL.of q
    · obtain ⟨y7, y8, y9, y10, ds, rfl, ha, dok, dl, gnp, kj, pj⟩ := z
      obtain ⟨nm, hnm, rfl⟩ : ∃ m, nms[j]? = some m ∧ V.str m = x := by
        unfold strV at hj
        rw [List.getElem?_map] at hj
        exact Option.map_eq_some_iff.mp hj
      have jl : j < nms.length := (List.getElem?_eq_some_iff.mp hnm).1
      have jb : j * 45 ≤ 810 := Nat.mul_le_mul_right 45 (by omega : j ≤ 18)
      have r0 : 0 < (strV rooms).length ∧ (strV rooms).length ≤ 18 := by
        unfold strV
        rw [List.length_map, rl1]
        omega
      have gR : ∀ {G : Hp} {ds : List DoorI}, HallAt K G h n rl dd wt rooms ws ds → DGet G h (.str "rooms") (some (.ref rl)) := fun ha => by
        have e := DGet.k (k := Sum.inr "rooms") ha.kv
        rw [hall_rooms] at e
        exact e
      have gW : ∀ {G : Hp} {ds : List DoorI}, HallAt K G h n rl dd wt rooms ws ds → DGet G h (.str "watched") (some (.ref wt)) := fun ha => by
        have e := DGet.k (k := Sum.inr "watched") ha.kv
        rw [hall_watched] at e
        exact e
      have gD : ∀ {G : Hp} {ds : List DoorI}, HallAt K G h n rl dd wt rooms ws ds → DGet G h (.str "doors") (some (.ref dd)) := fun ha => by
        have e := DGet.k (k := Sum.inr "doors") ha.kv
        rw [hall_doors] at e
        exact e
      have inR : ∀ {x : V}, x ∈ strV rooms → ∃ z, x = .str z ∧ z ∈ rooms := fun {x} hx => by
        obtain ⟨z, hz, rfl⟩ := List.mem_map.mp hx
        exact ⟨z, rfl, hz⟩
      refine ⟨_, rfl, _, rfl, h, _, rfl, gR ha, .inl ⟨i, _, rl, _, rfl, pj, by omega, .inl (SqL.of ha.rms), r0.1, by omega, fun x1 K1 hx1 kb1 pn1 => ?_⟩⟩
      have ha1 := ha.kb kb1 pj.o nh.1 nrl.1 ndd.1
      refine ⟨_, rfl, _, rfl, h, _, rfl, gR ha1, .inl ⟨i, _, rl, _, rfl, pn1, by omega, .inl (SqL.of ha1.rms), r0.1, by omega, fun x2 K2 hx2 kb2 pn2 => ⟨_, _, rfl, ?_⟩⟩⟩
      have ha2 := ha1.kb kb2 pn1.o nh.1 nrl.1 ndd.1
      obtain ⟨one, rfl, h1⟩ := inR hx1
      obtain ⟨oth, rfl, h2⟩ := inR hx2
      refine ⟨_, rfl, _, rfl, i, _, n, rfl, pn2, by omega, n2, by omega, fun tc ks2 K3 pk2 kb3 pn3 hc => ?_⟩
      have ha3 := ha2.kb kb3 pn2.o nh.1 nrl.1 ndd.1
      obtain ⟨cp, ec, hcp⟩ := perm_ar pk2
      refine ⟨_, rfl, _, rfl, _, rfl, _, rfl, _, rfl, _, rfl, h, _, rfl, gW ha3, i, _, n, wt, ws, rfl, pn3, by omega, by omega, by omega, ha3.wtc, ?_, fun tq ts ps K4 kb4 pn4 q1 q2 q3 q4 => ⟨(show 4 ≤ sizeLine by decide), fun tt htt => ?_⟩⟩
      · rw [pws.length_eq]
        exact wtl.2
      have wsl : ws.length ≤ 12 := by rw [pws.length_eq]; exact wtl.2
      have ha4 := ha3.kb kb4 pn3.o nh.1 nrl.1 ndd.1
      have st : Same K4 (upd K4 tt (.tup [.str one, .str oth, .ref tc, .ref tq])) := same_new htt
      have ntt := pn4.ne htt
      have ha5 := ha4.same st
      have tt5 : (upd K4 tt (.tup [.str one, .str oth, .ref tc, .ref tq])) tt = some (.tup [.str one, .str oth, .ref tc, .ref tq]) := upd_same
      have kall := (((kj.trans kb1).trans kb2).trans kb3).trans kb4
      have nnp : np ≠ i.p := n8.1
      have gnp5 := st _ _ (kb4 _ _ (kb3 _ _ (kb2 _ _ (kb1 _ _ gnp nnp) nnp) nnp) nnp)
      have hc5 := st _ _ (kb4 _ _ hc (by
        intro e
        have hpo := pn3.o
        obtain ⟨kvs, e1, _⟩ := hpo
        rw [← e, hc] at e1
        cases e1))
      have k5 := kall.mut (o := .tup [.str one, .str oth, .ref tc, .ref tq]) (kall.free ntt.1 htt)
      have p5 := pn4.upd (o := .tup [.str one, .str oth, .ref tc, .ref tq]) ntt
      have q15 := sqt_same st q1
      have q25 := q2.same st
      change (tDGet _ _ : TE) _ (upd K4 tt (.tup [.str one, .str oth, .ref tc, .ref tq])) _
      generalize upd K4 tt (.tup [.str one, .str oth, .ref tc, .ref tq]) = K5 at ha5 tt5 gnp5 hc5 k5 p5 q15 q25 ⊢
      refine ⟨_, rfl, h, _, rfl, gD ha5, _, rfl, dd, _, rfl, DPut.k (k := Sum.inr nm) ha5.drs (by rw [List.length_map]; exact Nat.lt_of_le_of_lt (by omega : ds.length ≤ 18) (by decide)), ?_⟩
      have new : DoorAt K K5 n ⟨nm, one, oth, cp, ps, tt, tc, tq, ts⟩ := ⟨SqT.of tt5, SqT.of (by rw [← ec]; exact hc5), q15, q25⟩
      have e1 : putK (ds.map DoorI.kv) (Sum.inr nm : Key) (.ref tt) = (putD ds ⟨nm, one, oth, cp, ps, tt, tc, tq, ts⟩).map DoorI.kv := putD_kv ds ⟨nm, one, oth, cp, ps, tt, tc, tq, ts⟩
      rw [e1]
      have dl2 := putD_len ds ⟨nm, one, oth, cp, ps, tt, tc, tq, ts⟩
      refine ⟨_, _, _, _, putD ds ⟨nm, one, oth, cp, ps, tt, tc, tq, ts⟩, rfl, ⟨by rw [upd_ne ddh]; exact ha5.kv, by rw [upd_ne ddr]; exact ha5.rms, upd_same, FzT.putK ha5.drs ha5.wtf, fun d hd => ?_⟩, ⟨putD_nodup dok.dn, fun d hd => ?_⟩, by omega, by rw [upd_ne (ne_of gnp5 ha5.drs (fun e => nomatch e))]; exact gnp5, k5.mut hddH, (p5.upd ndd).mono (by omega)⟩
      · rcases putD_mem hd with rfl | h
        · exact new.putK ha5.drs
        · exact (ha5.all d h).putK ha5.drs
      · rcases putD_mem hd with rfl | h
        · exact ⟨nmn nm (List.mem_of_getElem? hnm), h1, h2, hcp, q3, q4⟩
        · exact dok.nm d h
    · obtain ⟨y7, y8, y9, y10, ds, rfl, ha, dok, dl, gnp, kj, pj⟩ := z
      have sl : (strV nms).length = nms.length := by
        unfold strV
        rw [List.length_map]
      rw [sl] at dl pj
      refine ⟨_, rfl, ?_⟩
      refine k h rl dd wt rooms ws ds G ha ⟨?_, by rw [rl1]; omega, rnm, sr, ?_, ?_, ?_, sws, by omega, dok.dn, dok.nm⟩ hH hrlH hddH kj (pj.mono (by have := Nat.mul_le_mul_right 45 nml.2; omega))
      · intro e
        rw [e] at rl1
        simp at rl1
        omega
      · rw [pws.length_eq]
        exact wtl.1
      · refine pws.nodup_iff.mpr ?_
        have kn : ks.Nodup := pk.nodup_iff.mpr (by
          unfold places List.Nodup
          rw [List.pairwise_map]
          exact List.nodup_range.imp fun h e => h (by omega))
        exact kn.sublist (List.take_sublist _ _)
      · intro m hm
        have h1 := pk.mem_iff.mp (List.mem_of_mem_take (pws.mem_iff.mp hm))
        obtain ⟨j, hj, rfl⟩ := List.mem_map.mp h1
        have := List.mem_range.mp hj
        omega
end
-- new
abbrev s_plain_text : Stmt := top 5
abbrev N_plain_text : List Str := ["text"]
theorem sc_plain_text : FnScope N_plain_text ["text"] (defScope s_plain_text) := ⟨rfl, rfl, rfl, by decide +kernel, rfl, by decide +kernel, by decide +kernel⟩
abbrev s_plain_numbers : Stmt := top 6
abbrev N_plain_numbers : List Str := ["numbers", "number"]
theorem sc_plain_numbers : FnScope N_plain_numbers ["numbers"] (defScope s_plain_numbers) := ⟨rfl, rfl, rfl, by decide +kernel, rfl, by decide +kernel, by decide +kernel⟩
/-- the same text -/
def spText : Sp := fun vs H Q _ => ∃ z : Str, vs = [.str z] ∧ z.length ≤ 1000000 ∧ Q (.str z) H
/-- the same numbers, a tuple -/
def spNums (K : PySem.W.Frag) : Sp := fun vs H Q _ => ∃ (a : Addr) (ns : List Int), vs = [.ref a] ∧ (SqL K H a (ns.map V.int) ∨ SqT K H a (ns.map V.int)) ∧ ns.length ≤ 1000 ∧ ∀ t H', H t = none → Same H H' → H' t = some (.tup (ns.map V.int)) → Q (.ref t) H'
section
variable {P : Program} {w : World} {K : PySem.W.Frag} {mg : Str → Option Value} {base : Heap} {f : Addr} {fd : FuncData}
theorem ok_plain_text (F : Fun K "plain_text" "plain_text" s_plain_text f fd) : FnOk P w K mg base CX0 1 f fd ["text"] spText := by
  refine F.ok sc_plain_text (fun vs H Q E h => ?_) (fun cdv A outer s H vs Q E hr h => ?_)
  · obtain ⟨z, rfl, _⟩ := h
    rfl
  · obtain ⟨z, rfl, hz, k⟩ := h
    refine ⟨_, (pss_one (ps_ret (pe_bm PySem.F.plainAttrs_str PySem.F.slot_str_join PySem.F.type_str_join (mt_joinS rfl) pe_str (pa_cons (pv 0) pa_nil)))), ?_⟩
    exact ⟨rfl, _, rfl, z, rfl, rfl, hz, k⟩
theorem ok_plain_numbers (F : Fun K "plain_numbers" "plain_numbers" s_plain_numbers f fd) (T : Bt mg) : FnOk P w K mg base CX0 1 f fd ["numbers"] (spNums K) := by
  refine F.ok sc_plain_numbers (fun vs H Q E h => ?_) (fun cdv A outer s H vs Q E hr h => ?_)
  · obtain ⟨a, ns, rfl, _⟩ := h
    rfl
  · obtain ⟨a, ns, rfl, ha, hl, k⟩ := h
    have nd := sc_plain_numbers.nd
    refine ⟨_, (pss_one (ps_ret (pe_callTy call_tuple_of (by rfl) T.tuple b_tuple (pa_cons (pe_lc (own := [("number", 1)]) (g := gName 1) rfl nd (pi_lt (pv 0)) (blkOk_by (own := [("number", 1)]) (N := N_plain_numbers) (sc := defScope s_plain_numbers) (by decide +kernel)) (fun _ _ _ _ _ => (pg_name (i := 1) nd rfl (Or.inl rfl))) (fun _ _ _ _ _ => pts_nil) (fun _ _ _ _ _ => (pe_callTy call_int1 (by rfl) T.int b_int (pa_cons (pv 1) pa_nil)))) pa_nil)))), ?_⟩
    have size : (ns.map V.int).length < sizeLine := by
      rw [List.length_map]
      exact Nat.lt_of_le_of_lt hl (by decide)
    have each : ∀ (i : Nat) (x y : V), (ns.map V.int)[i]? = some x → (ns.map V.int)[i]? = some y → ∃ m, x = .int m ∧ y = .int m := fun i x y hx hy => by
      rw [hx] at hy
      cases hy
      obtain ⟨m, _, rfl⟩ := List.mem_map.mp (List.mem_of_getElem? hx)
      exact ⟨m, rfl, rfl⟩
    rcases ha with ha | ha
    · refine .inl ⟨_, rfl, a, rfl, ⟨_, ha⟩, fun D hD => ?_⟩
      refine comp_list (K := K) (ys := ns.map V.int) hD ha rfl size (fun i x y hx hy G e Q hq => ?_) fun G e hG => ?_
      · obtain ⟨m, rfl, rfl⟩ := each i x y hx hy
        exact ⟨_, rfl, .inl ⟨_, rfl, hq G (Same.refl G)⟩⟩
      · refine ⟨D, _, rfl, .inl ⟨SqL.of hG, fun t ht => ?_⟩⟩
        exact k t _ (e.free ht) (same_mut e (e.free ht)) upd_same
    · refine .inr ⟨_, rfl, a, rfl, ⟨_, ha⟩, fun D hD => ?_⟩
      refine comp_tup (K := K) (ys := ns.map V.int) hD ha rfl size (fun i x y hx hy G e Q hq => ?_) fun G e hG => ?_
      · obtain ⟨m, rfl, rfl⟩ := each i x y hx hy
        exact ⟨_, rfl, .inl ⟨_, rfl, hq G (Same.refl G)⟩⟩
      · refine ⟨D, _, rfl, .inl ⟨SqL.of hG, fun t ht => ?_⟩⟩
        exact k t _ (e.free ht) (same_mut e (e.free ht)) upd_same
end
/-- a door of a hall -/
structure DR where
  name : Str
  one : Str
  other : Str
  cut : List Int
  asks : List (Int × Int)
def pairD (p : Int × Int) : PyData := .tuple [.int p.1, .int p.2]
def doorD (d : DR) : PyData := .tuple [.str d.one, .str d.other, .tuple (d.cut.map PyData.int), .tuple (d.asks.map pairD)]
def kvD (ds : List DR) (vs : List V) : List (Key × V) := List.zipWith (fun d v => ((Sum.inr d.name : Key), v)) ds vs
/-- a door as it is handed in: tuples at t, of a cut and asks in lists or tuples -/
structure DI extends DR where
  t : Addr
def PairsT (K : PySem.W.Frag) (H : Hp) (ts : List Addr) (ps : List (Int × Int)) : Prop := Paired (fun t p => SqT K H t [.int p.1, .int p.2]) ts ps
structure DIn (K : PySem.W.Frag) (H : Hp) (i : DI) : Prop where
  ex : ∃ (cv av : Addr) (ts : List Addr), SqT K H i.t [.str i.name, .str i.one, .str i.other, .ref cv, .ref av] ∧ (SqL K H cv (i.cut.map V.int) ∨ SqT K H cv (i.cut.map V.int)) ∧ (SqL K H av (ts.map V.ref) ∨ SqT K H av (ts.map V.ref)) ∧ PairsT K H ts i.asks
  small : i.name.length ≤ 1000 ∧ i.one.length ≤ 1000 ∧ i.other.length ≤ 1000 ∧ i.cut.length ≤ 100 ∧ i.asks.length ≤ 100
theorem DIn.n {K : PySem.W.Frag} {H G : Hp} {i : DI} (e : LamX.ExtN H G) (h : DIn K H i) : DIn K G i := by
  obtain ⟨cv, av, ts, h1, h2, h3, h4⟩ := h.ex
  exact ⟨⟨cv, av, ts, sqt_n e h1, h2.imp (sql_n e) (sqt_n e), h3.imp (sql_n e) (sqt_n e), Paired.mapP h4 fun _ _ z => sqt_n e z⟩, h.small⟩
theorem DIn.d {K : PySem.W.Frag} {p : Addr} {H G : Hp} {kvs : List (Key × V)} {i : DI} (e : Kb p H G) (hp : H p = some (.dK kvs)) (h : DIn K H i) : DIn K G i := by
  obtain ⟨cv, av, ts, h1, h2, h3, h4⟩ := h.ex
  exact ⟨⟨cv, av, ts, sqt_d e hp h1, h2.imp (sql_d e hp) (sqt_d e hp), h3.imp (sql_d e hp) (sqt_d e hp), Paired.mapP h4 fun _ _ z => sqt_d e hp z⟩, h.small⟩
def leP (a b : Int × Int) : Prop := a.1 < b.1 ∨ (a.1 = b.1 ∧ a.2 ≤ b.2)
/-- what is kept of a door handed in -/
structure KeptOf (i : DI) (d : DR) : Prop where
  name : d.name = i.name
  one : d.one = i.one
  other : d.other = i.other
  cut : d.cut = i.cut
  perm : d.asks.Perm i.asks
  rise : d.asks.Pairwise leP
def byName (dis : List DI) : List DI := dis.mergeSort fun a b => leS (a.name, a.t) (b.name, b.t)
theorem byName_perm (dis : List DI) : (byName dis).Perm dis := List.mergeSort_perm _ _
theorem byName_refs (dis : List DI) : ((dis.map fun i => (i.name, i.t)).mergeSort leS).map (fun b => V.ref b.2) = (byName dis).map fun i => V.ref i.t := by
  have e := List.map_mergeSort (r := fun a b : DI => leS (a.name, a.t) (b.name, b.t)) (s := leS) (f := fun i : DI => (i.name, i.t)) (l := dis) fun a _ b _ => rfl
  rw [← e, List.map_map]
  rfl
theorem tabS_d {p T : Addr} {H G : Hp} {q : Str} {kvs : List (Key × V)} (e : Kb p H G) (hp : H p = some (.dK kvs)) (h : LamX.TabS H T q) : LamX.TabS G T q := by
  obtain ⟨ps, h1, h2, h3⟩ := h
  refine ⟨ps, e _ _ h1 fun z => (by rw [z, hp] at h1; cases h1), h2, fun pos cv hc => ?_⟩
  obtain ⟨c, e1, e2⟩ := h3 pos cv hc
  exact ⟨c, e1, e _ _ e2 fun z => (by rw [z, hp] at e2; cases e2)⟩
theorem paired_snoc {α β : Type} {F : α → β → Prop} {x : α} {y : β} (h : F x y) : ∀ {xs : List α} {ys : List β}, Paired F xs ys → Paired F (xs ++ [x]) (ys ++ [y])
  | _, _, .nil => .cons h .nil
  | _, _, .cons a t => .cons a (paired_snoc h t)
theorem kvD_keys : ∀ {ds : List DR} {vs : List V}, ds.length = vs.length → (kvD ds vs).map (·.1) = ds.map fun d => (Sum.inr d.name : Key)
  | [], [], _ => rfl
  | d :: ds, v :: vs, h => by
    show (Sum.inr d.name : Key) :: (kvD ds vs).map (·.1) = _
    rw [kvD_keys (by simpa using h)]
    rfl
theorem kvD_snoc {ds : List DR} {vs : List V} (d : DR) (v : V) (h : ds.length = vs.length) : kvD (ds ++ [d]) (vs ++ [v]) = kvD ds vs ++ [((Sum.inr d.name : Key), v)] := by
  unfold kvD
  rw [List.zipWith_append h]
  rfl
theorem kept_names {is : List DI} {ds : List DR} (h : Paired KeptOf is ds) : ds.map (·.name) = is.map (·.name) := by
  induction h with
  | nil => rfl
  | cons a _ ih => rw [List.map_cons, List.map_cons, a.name, ih]
/-- the pair at t -/
def pairAt (G : Hp) : V → Int × Int
  | .ref t => match G t with
    | some (.tup [.int a, .int b]) => (a, b)
    | _ => (0, 0)
  | _ => (0, 0)
theorem pairAt_eq {G : Hp} {t : Addr} {p : Int × Int} (h : G t = some (.tup [.int p.1, .int p.2])) : pairAt G (.ref t) = p := by
  simp only [pairAt, h]
def askO (ps : List (Int × Int)) : List HO := ps.map fun p => .tup [.int p.1, .int p.2]
theorem asks_at {D : Addr} {G : Hp} {ys : List V} {ps : List (Int × Int)} (h : RefsAt D G ys (askO ps)) : ys.map (pairAt G) = ps ∧ ∀ y ∈ ys, ∃ t, y = V.ref t ∧ G t = some (.tup [.int (pairAt G y).1, .int (pairAt G y).2]) := by
  induction ps generalizing ys with
  | nil =>
    have h : RefsAt D G ys [] := h
    cases h
    exact ⟨rfl, fun y hy => absurd hy (by simp)⟩
  | cons p ps ih =>
    have h : RefsAt D G ys (HO.tup [.int p.1, .int p.2] :: askO ps) := h
    cases h with
    | cons a b =>
      obtain ⟨t, rfl, _, ht⟩ := a
      have e := pairAt_eq ht
      obtain ⟨h1, h2⟩ := ih b
      refine ⟨by rw [List.map_cons, e, h1], fun y hy => ?_⟩
      rcases List.mem_cons.mp hy with q | hy
      · subst q
        exact ⟨t, rfl, by rw [e]; exact ht⟩
      · exact h2 y hy
theorem pairs_dd {K : PySem.W.Frag} {G : Hp} {k : V → Int × Int} : ∀ {ys : List V}, (∀ y ∈ ys, ∃ t, y = V.ref t ∧ G t = some (.tup [.int (k y).1, .int (k y).2])) → DdAll K G ys ((ys.map k).map pairD)
  | [], _ => .nil
  | y :: ys, h => by
    obtain ⟨t, rfl, ht⟩ := h y List.mem_cons_self
    exact .cons (.tup (SqT.of ht) (.cons (.int _) (.cons (.int _) .nil))) (pairs_dd fun z hz => h z (List.mem_cons_of_mem _ hz))
theorem srtd_leP {k : V → Int × Int} {ys : List V} (h : SrtO.Srtd (ltP k) ys) : (ys.map k).Pairwise leP := by
  refine List.pairwise_map.mpr (List.Pairwise.imp ?_ h)
  intro a b q
  have := SrtO.lexB_no.mp q
  show (k a).1 < (k b).1 ∨ ((k a).1 = (k b).1 ∧ (k a).2 ≤ (k b).2)
  omega
theorem take_fresh {α β : Type} {f : α → β} {l : List α} {j : Nat} {d : α} (nd : (l.map f).Nodup) (h : l[j]? = some d) : f d ∉ (l.take j).map f := by
  have q : ((l.take j).map f ++ [f d]).Nodup := by
    have e : (l.take j).map f ++ [f d] = (l.take (j + 1)).map f := by rw [← take_snoc h, List.map_append]; rfl
    rw [e]
    exact nd.sublist ((List.take_sublist _ _).map f)
  intro m
  exact (List.nodup_append.mp q).2.2 _ m _ (List.mem_singleton.mpr rfl) rfl
theorem pairsT_at {K : PySem.W.Frag} {H : Hp} : ∀ {ts : List Addr} {ps : List (Int × Int)}, PairsT K H ts ps → ∀ (i : Nat) (x : V) (o : HO), (ts.map V.ref)[i]? = some x → (askO ps)[i]? = some o → ∃ (t : Addr) (p : Int × Int), x = .ref t ∧ SqT K H t [.int p.1, .int p.2] ∧ o = .tup [.int p.1, .int p.2]
  | _, _, .nil, i, x, o, h, _ => by cases h
  | _, _, .cons a b, 0, x, o, h1, h2 => by
    obtain rfl := Option.some.inj h1
    obtain rfl := Option.some.inj h2
    exact ⟨_, _, rfl, a, rfl⟩
  | _, _, .cons a b, i + 1, x, o, h1, h2 => pairsT_at b i x o h1 h2
theorem flat_ints : ∀ ns : List Int, flatTs (ns.map PyData.int) = true
  | [] => rfl
  | n :: ns => by
    show (flatT (.int n) && flatTs (ns.map PyData.int)) = true
    rw [flat_ints ns]
    rfl
theorem flat_pairs : ∀ ps : List (Int × Int), flatTs (ps.map pairD) = true
  | [] => rfl
  | p :: ps => by
    show (flatT (pairD p) && flatTs (ps.map pairD)) = true
    rw [flat_pairs ps]
    rfl
theorem flat_door (d : DR) : flatT (doorD d) = true := by
  show (true && (true && (flatTs (d.cut.map PyData.int) && (flatTs (d.asks.map pairD) && true)))) = true
  rw [flat_ints, flat_pairs]
  rfl
theorem flat_doors : ∀ ds : List DR, flatTs (ds.map doorD) = true
  | [] => rfl
  | d :: ds => by
    show (flatT (doorD d) && flatTs (ds.map doorD)) = true
    rw [flat_doors ds, flat_door]
    rfl
theorem ints_dd {K : PySem.W.Frag} {H : Hp} : ∀ ns : List Int, DdAll K H (ns.map V.int) (ns.map PyData.int)
  | [] => .nil
  | n :: ns => .cons (.int n) (ints_dd ns)
def qKept : Str := ("_kept_doors" : Str) ++ ".<locals>." ++ "<lambda>"
def spKept (K : PySem.W.Frag) (T : Addr) : Sp := fun vs H Q _ => ∃ (a : Addr) (dis : List DI), vs = [.ref a] ∧ SqL K H a (dis.map fun i => V.ref i.t) ∧ (∀ i ∈ dis, DIn K H i) ∧ dis.length ≤ 100 ∧ (dis.map (·.name)).Nodup ∧ LamX.TabS H T qKept ∧
  ∀ da vs ds G, LamX.ExtN H G → LamX.TabS G T qKept → (∀ o, H da = some o → ∃ ps, o = .tbl ps) → G da = some (.dK (kvD ds vs)) → DdAll K G vs (ds.map doorD) → Paired KeptOf (byName dis) ds → Q (.ref da) G
abbrev s_kept_doors : Stmt := top 19
abbrev N_kept_doors : List Str := ["doors", "kept", "name", "one", "other", "cut", "asks", "rising", "ask"]
theorem sc_kept_doors : FnScope N_kept_doors ["doors"] (defScope s_kept_doors) := ⟨rfl, rfl, rfl, by decide +kernel, rfl, by decide +kernel, by decide +kernel⟩
section
variable {P : Program} {w : World} {K : PySem.W.Frag} {mg : Str → Option Value} {base : Heap} {f : Addr}
theorem ok_kept_doors {c T : Addr} {oc dV kV doc pm ct : Value} {od an : Option Addr} {osl : Array (Option Value)} (lk : K.lookup f = some ⟨oc, od, .func (PySem.W.fnOf "_kept_doors" "_kept_doors" (defArgs s_kept_doors) (defBody s_kept_doors) (defScope s_kept_doors) dV kV doc pm an (.ref c) ct), osl⟩)
    (hcd : PySem.W.codeIn K (.ref c) "_kept_doors" = true) (TB : LamX.TabB base mg c T) (B : Bt mg) (C1 : CgO P w K mg base 1 "plain_text" spText) (C2 : CgO P w K mg base 1 "plain_numbers" (spNums K)) :
    FnOk P w K mg base CX0 4 f (PySem.W.fnOf "_kept_doors" "_kept_doors" (defArgs s_kept_doors) (defBody s_kept_doors) (defScope s_kept_doors) dV kV doc pm an (.ref c) ct) ["doors"] (spKept K T) := by
  refine fn_of lk hcd sc_kept_doors (fun vs H Q E h => ?_) (fun A outer s H vs Q E hr h => ?_)
  · obtain ⟨a, dis, rfl, _⟩ := h
    rfl
  · obtain ⟨a, dis, rfl, ha, hin, hl, hnd, hT, k⟩ := h
    have nd := sc_kept_doors.nd
    have hu := hu_of hr
    refine ⟨_, PSs.nox (pss_cons (ps_set (i := 1) nd rfl (Or.inl rfl) pe_dnewK)
      (pss_cons (ps_for PassesOwn.never rfl (pi_list (pe_sortK (P := T) (by rfl) B.sorted (pv 0) TB rfl rfl ⟨rfl, rfl, rfl, rfl, by decide +kernel⟩ (by decide +kernel) (by decide) (hr.mono (by decide)) (fun _ _ _ _ _ _ => rfl))) (pg_tup (by rfl) (pgs_cons (pg_name (i := 2) nd rfl (Or.inl rfl)) (pgs_cons (pg_name (i := 3) nd rfl (Or.inl rfl)) (pgs_cons (pg_name (i := 4) nd rfl (Or.inl rfl)) (pgs_cons (pg_name (i := 5) nd rfl (Or.inl rfl)) (pgs_cons (pg_name (i := 6) nd rfl (Or.inl rfl)) pgs_nil))))))
        (pss_cons (ps_set (i := 7) nd rfl (Or.inl rfl) (pe_callTy call_tuple_of (by rfl) B.tuple b_tuple (pa_cons (pe_callB cr_sortedPO (by rfl) B.sorted b_sorted (pa_cons (pe_lc (own := [("ask", 8)]) (g := gName 8) rfl nd (pi_lt (pv 6)) (blkOk_by (own := [("ask", 8)]) (N := N_kept_doors) (sc := defScope s_kept_doors) (by decide +kernel)) (fun _ _ _ _ _ => (pg_name (i := 8) nd rfl (Or.inl rfl))) (fun _ _ _ _ _ => pts_nil) (fun _ _ _ _ _ => (pe_o C2 hr (by decide) rfl (pa_cons (pv 8) pa_nil)))) pa_nil)) pa_nil)))
        (pss_one (ps_dput hu (pv 1) (pe_o C1 hr (by decide) rfl (pa_cons (pv 2) pa_nil)) (pe_tup (pa_cons (pe_o C1 hr (by decide) rfl (pa_cons (pv 3) pa_nil)) (pa_cons (pe_o C1 hr (by decide) rfl (pa_cons (pv 4) pa_nil)) (pa_cons (pe_o C2 hr (by decide) rfl (pa_cons (pv 5) pa_nil)) (pa_cons (pv 7) pa_nil))))) rfl))))
      (pss_one (ps_ret (pv 1))))), ?_⟩
    refine fun da hda => ?_
    obtain ⟨H1, z1, e1, g1⟩ := new_ex (o := .dK []) hda
    rw [← z1]
    refine ⟨_, rfl, a, dis.map fun i => (i.name, i.t), rfl, sql_same e1 (by rw [List.map_map]; exact ha), fun b hb => ?_, by rw [List.length_map]; omega, hT.ext e1, fun p H2 eN T2 _ hp => ?_⟩
    · obtain ⟨i, hi, rfl⟩ := List.mem_map.mp hb
      obtain ⟨cv, av, ts, h1, _⟩ := (hin i hi).ex
      exact ⟨_, sqt_same e1 h1⟩
    rw [byName_refs] at hp
    have hin2 : ∀ i ∈ byName dis, DIn K H2 i := fun i hi => ((hin i ((byName_perm dis).mem_iff.mp hi)).n (extN_same e1)).n eN
    have hnd2 : ((byName dis).map (·.name)).Nodup := ((byName_perm dis).map _).nodup_iff.mpr hnd
    have hl2 : (byName dis).length ≤ 100 := by rw [(byName_perm dis).length_eq]; exact hl
    have g2 := eN _ _ g1 fun ps z => (by cases z)
    have hN : LamX.ExtN H H2 := (extN_same e1).trans eN
    clear eN hin ha hT z1 e1
    generalize byName dis = bis at hp hin2 hnd2 hl2 k
    refine ⟨p, rfl, ⟨_, SqL.of hp⟩, ?_⟩
    refine for_list (xs := bis.map fun i => V.ref i.t) (fun j σ G => ∃ (y2 y3 y4 y5 y6 y7 y8 : Option V) (vs : List V) (ds : List DR), σ = [some (.ref a), some (.ref da), y2, y3, y4, y5, y6, y7, y8] ∧ Kb da H2 G ∧ G da = some (.dK (kvD ds vs)) ∧ DdAll K G vs (ds.map doorD) ∧ Paired KeptOf (bis.take j) ds)
      ⟨_, _, _, _, _, _, _, [], [], rfl, Kb.of (Same.refl _), g2, .nil, .nil⟩ (fun j σ G _ z => ?_) (fun j x σ G hi z => ?_) fun σ G z => ?_
    · obtain ⟨_, _, _, _, _, _, _, _, _, _, kb, _⟩ := z
      exact SqL.of (kb _ _ hp fun e => by rw [e, g2] at hp; cases hp)
    · obtain ⟨y2, y3, y4, y5, y6, y7, y8, vs, ds, rfl, kb, gd, dd, kp⟩ := z
      rw [List.getElem?_map] at hi
      obtain ⟨d, hd, rfl⟩ := Option.map_eq_some_iff.mp hi
      have hdm := List.mem_of_getElem? hd
      have jl := (List.getElem?_eq_some_iff.mp hd).1
      obtain ⟨⟨cv, av, ts, d1, d2, d3, d4⟩, s1, s2, s3, s4, s5⟩ := (hin2 d hdm).d kb g2
      have tsl := paired_len d4
      refine ⟨d.t, _, rfl, d1, rfl, ?_⟩
      refine ⟨_, _, rfl, _, _, rfl, _, _, rfl, _, _, rfl, _, _, rfl, rfl, ?_⟩
      have dl := DdAll.length dd
      rw [List.length_map] at dl
      have kl := paired_len kp
      have jk : (bis.take j).length = j := by rw [List.length_take]; omega
      have al : (askO d.asks).length = (ts.map V.ref).length := by rw [List.length_map, tsl]; exact List.length_map ..
      have az : (ts.map V.ref).length < sizeLine := by rw [List.length_map, tsl]; exact Nat.lt_of_le_of_lt s5 (by decide)
      dsimp only [tSeq, tAsg, tCB, tCons]
      refine tLc_refs (i := 6) (j := 8) (a := av) (os := askO d.asks) (by rfl) d3 al az (fun i x o hx ho G1 e Q q => ?_) fun D G1 ys e g1 g2 => ?_
      · obtain ⟨t, p, rfl, ht, rfl⟩ := pairsT_at d4 i x o hx ho
        exact ⟨_, rfl, t, [p.1, p.2], rfl, .inr (sqt_same e ht), Nat.le_of_ble_eq_true rfl, fun t' G' h1 h2 h3 => q t' G' h1 h2 h3⟩
      obtain ⟨ym, yt⟩ := asks_at g2
      refine ⟨D, ys, pairAt G1, rfl, SqL.of g1, yt, fun zs p2 sd st hp2 => ?_⟩
      refine ⟨p2, zs, rfl, .inl ⟨SqL.of upd_same, fun tt htt => ?_⟩⟩
      have e2 : Same G1 (upd G1 p2 (.lst zs)) := same_new hp2
      have e3 : Same G1 (upd (upd G1 p2 (.lst zs)) tt (.tup zs)) := e2.trans (same_new htt)
      have gt3 : (upd (upd G1 p2 (.lst zs)) tt (.tup zs)) tt = some (.tup zs) := upd_same
      have gda1 : G1 da = some (.dK (kvD ds vs)) := e _ _ gd
      generalize upd (upd G1 p2 (.lst zs)) tt (.tup zs) = G3 at *
      refine ⟨_, rfl, d.one, rfl, by omega, ⟨_, rfl, d.other, rfl, by omega, ⟨_, rfl, cv, d.cut, rfl, d2.imp (sql_same (e.trans e3)) (sqt_same (e.trans e3)), by omega, fun ct G4 h4 e4 g4 => ⟨_, rfl, ?_⟩⟩⟩⟩
      refine ⟨show 4 ≤ sizeLine by decide, fun vt hvt => ⟨_, rfl, _, rfl, d.name, rfl, by omega, da, _, rfl, DPut.k (k := .inr d.name) (kvs := kvD ds vs) ?_ ?_, ?_⟩⟩
      · exact same_new hvt _ _ (e4 _ _ (e3 _ _ gda1))
      · unfold kvD
        rw [List.length_zipWith]
        have : (100 : Nat) < sizeLine := by decide
        omega
      have e5 : Same G3 (upd G4 vt (.tup [.str d.one, .str d.other, .ref ct, .ref tt])) := e4.trans (same_new hvt)
      have gv5 : (upd G4 vt (.tup [.str d.one, .str d.other, .ref ct, .ref tt])) vt = some (.tup [.str d.one, .str d.other, .ref ct, .ref tt]) := upd_same
      have gc5 : (upd G4 vt (.tup [.str d.one, .str d.other, .ref ct, .ref tt])) ct = some (.tup (d.cut.map V.int)) := same_new hvt _ _ g4
      show ∃ y2 y3 y4 y5 y6 y7 y8 vs' ds', _ = _ ∧ Kb da H2 (upd (upd G4 vt (.tup [.str d.one, .str d.other, .ref ct, .ref tt])) da _) ∧ _
      generalize upd G4 vt (.tup [.str d.one, .str d.other, .ref ct, .ref tt]) = G5 at *
      have gd5 : G5 da = some (.dK (kvD ds vs)) := e5 _ _ (e3 _ _ gda1)
      have gt5 := e5 _ _ gt3
      have e15 : Same G1 G5 := e3.trans e5
      have e05 : Same G G5 := e.trans e15
      have kb5 : Kb da G (upd G5 da (.dK (putK (kvD ds vs) (.inr d.name) (.ref vt)))) := (Kb.of e05).at
      have ne : ∀ {b : Addr} {xs : List V}, G5 b = some (.tup xs) → b ≠ da := fun {b xs} q z => by rw [z, gd5] at q; cases q
      have up : ∀ {b : Addr} {xs : List V}, G5 b = some (.tup xs) → (upd G5 da (.dK (putK (kvD ds vs) (.inr d.name) (.ref vt)))) b = some (.tup xs) := fun {b xs} q => by rw [upd_ne (ne q)]; exact q
      refine ⟨_, _, _, _, _, _, _, vs ++ [.ref vt], ds ++ [⟨d.name, d.one, d.other, d.cut, zs.map (pairAt G1)⟩], rfl, kb.trans kb5, ?_, ?_, ?_⟩
      · rw [upd_same, kvD_snoc _ _ dl.symm, RG.putK_new ?_]
        rw [kvD_keys dl.symm]
        intro m
        obtain ⟨d', hd', e'⟩ := List.mem_map.mp m
        have e' : d'.name = d.name := Sum.inr.inj e'
        refine take_fresh hnd2 hd ?_
        rw [← kept_names kp, ← e']
        exact List.mem_map.mpr ⟨d', hd', rfl⟩
      · rw [List.map_append]
        refine (DdAll.d kb5 gd dd (flat_doors ds)).append (.cons ?_ .nil)
        refine .tup (SqT.of (up gv5)) (.cons (.str _) (.cons (.str _) (.cons (.tup (SqT.of (up gc5)) (ints_dd _)) (.cons (.tup (SqT.of (up gt5)) (pairs_dd fun y hy => ?_)) .nil))))
        obtain ⟨t, e6, h6⟩ := yt y (st.perm.mem_iff.mp hy)
        exact ⟨t, e6, up (e15 _ _ h6)⟩
      · rw [← take_snoc hd]
        refine paired_snoc ⟨rfl, rfl, rfl, rfl, ?_, srtd_leP sd⟩ kp
        have := st.perm.map (pairAt G1)
        rwa [ym] at this
    · obtain ⟨y2, y3, y4, y5, y6, y7, y8, vs, ds, rfl, kb, gd, dd, kp⟩ := z
      rw [List.length_map, List.take_length] at kp
      refine ⟨_, rfl, k da vs ds G (fun b o h1 h2 => kb _ _ (hN b o h1 h2) ?_) (tabS_d kb g2 T2) (fun o q => by rw [hda] at q; cases q) gd dd kp⟩
      intro z
      rw [z, hda] at h1
      cases h1
end
-- new
/-- a hall, as it is kept -/
structure HR where
  places : Int
  watched : List Int
  rooms : List Str
  doors : List DR
theorem n_pw : ¬ (("_places" : Str) = "_watched") := by decide +kernel
theorem n_pr : ¬ (("_places" : Str) = "_rooms") := by decide +kernel
theorem n_pd : ¬ (("_places" : Str) = "_doors") := by decide +kernel
theorem n_wr : ¬ (("_watched" : Str) = "_rooms") := by decide +kernel
theorem n_wd : ¬ (("_watched" : Str) = "_doors") := by decide +kernel
theorem n_rd : ¬ (("_rooms" : Str) = "_doors") := by decide +kernel
def fldH (n : Int) (wt rt dd : Addr) : List (Str × V) := putF "_doors" (.ref dd) (putF "_rooms" (.ref rt) (putF "_watched" (.ref wt) (putF "_places" (.int n) [])))
theorem fldH_places (n : Int) (wt rt dd : Addr) : (fldH n wt rt dd).lookup ("_places" : Str) = some (.int n) := by
  unfold fldH
  rw [lookup_putF, if_neg n_pd, lookup_putF, if_neg n_pr, lookup_putF, if_neg n_pw, lookup_putF, if_pos rfl]
theorem fldH_watched (n : Int) (wt rt dd : Addr) : (fldH n wt rt dd).lookup ("_watched" : Str) = some (.ref wt) := by
  unfold fldH
  rw [lookup_putF, if_neg n_wd, lookup_putF, if_neg n_wr, lookup_putF, if_pos rfl]
theorem fldH_rooms (n : Int) (wt rt dd : Addr) : (fldH n wt rt dd).lookup ("_rooms" : Str) = some (.ref rt) := by
  unfold fldH
  rw [lookup_putF, if_neg n_rd, lookup_putF, if_pos rfl]
theorem fldH_doors (n : Int) (wt rt dd : Addr) : (fldH n wt rt dd).lookup ("_doors" : Str) = some (.ref dd) := by
  unfold fldH
  rw [lookup_putF, if_pos rfl]
theorem fldH_no (n : Int) (wt rt dd : Addr) {m : Str} (h1 : ¬ m = "_places") (h2 : ¬ m = "_watched") (h3 : ¬ m = "_rooms") (h4 : ¬ m = "_doors") : (fldH n wt rt dd).lookup m = none := by
  unfold fldH
  rw [lookup_putF, if_neg h4, lookup_putF, if_neg h3, lookup_putF, if_neg h2, lookup_putF, if_neg h1]
  all_goals rfl
/-- a hall stands at x, its doors' dict at dd -/
structure HouseAt (K : PySem.W.Frag) (C : Addr) (H : Hp) (x dd : Addr) (h : HR) : Prop where
  ex : ∃ (dx wt rt : Addr) (vs : List V), H x = some (.ins C dx (fldH h.places wt rt dd)) ∧ SqT K H wt (h.watched.map V.int) ∧ SqT K H rt (strV h.rooms) ∧ H dd = some (.dK (kvD h.doors vs)) ∧ DdAll K H vs (h.doors.map doorD)
  nd : (h.doors.map (·.name)).Nodup
  few : h.doors.length ≤ 100
theorem HouseAt.n {K : PySem.W.Frag} {C : Addr} {H G : Hp} {x dd : Addr} {h : HR} (e : LamX.ExtN H G) (z : HouseAt K C H x dd h) : HouseAt K C G x dd h := by
  obtain ⟨dx, wt, rt, vs, h1, h2, h3, h4, h5⟩ := z.ex
  exact ⟨⟨dx, wt, rt, vs, e _ _ h1 (fun ps q => by cases q), sqt_n e h2, sqt_n e h3, e _ _ h4 (fun ps q => by cases q), DdAll.n e h5⟩, z.nd, z.few⟩
theorem HouseAt.same {K : PySem.W.Frag} {C : Addr} {H G : Hp} {x dd : Addr} {h : HR} (e : Same H G) (z : HouseAt K C H x dd h) : HouseAt K C G x dd h := z.n (extN_same e)
theorem HouseAt.d {K : PySem.W.Frag} {C : Addr} {H G : Hp} {x dd p : Addr} {h : HR} {kvs : List (Key × V)} (e : Kb p H G) (hp : H p = some (.dK kvs)) (ne : dd ≠ p) (z : HouseAt K C H x dd h) : HouseAt K C G x dd h := by
  obtain ⟨dx, wt, rt, vs, h1, h2, h3, h4, h5⟩ := z.ex
  exact ⟨⟨dx, wt, rt, vs, e _ _ h1 (fun q => by rw [q, hp] at h1; cases h1), sqt_d e hp h2, sqt_d e hp h3, e _ _ h4 ne, DdAll.d e hp h5 (flat_doors _)⟩, z.nd, z.few⟩
/-- what the top has made of the class -/
structure HTxt (K : PySem.W.Frag) (mg : Str → Option Value) (C : Addr) : Prop where
  cl : Cls K C
  n1 : NoAttr K C "_places"
  n2 : NoAttr K C "_watched"
  n3 : NoAttr K C "_rooms"
  n4 : NoAttr K C "_doors"
  mgC : mg "Hall" = some (.ref C)
/-- what is kept of what is handed in -/
structure HKept (n : Int) (ws : List Int) (rs : List Str) (dis : List DI) (h : HR) : Prop where
  places : h.places = n
  watched : h.watched.Perm ws ∧ h.watched.Pairwise (· ≤ ·)
  rooms : h.rooms.Perm rs ∧ sortedS h.rooms = true
  doors : Paired KeptOf (byName dis) h.doors
/-- all but x and the tables stand -/
def ExtX (x : Addr) (H G : Hp) : Prop := ∀ b o, H b = some o → b ≠ x → (∀ ps, o ≠ .tbl ps) → G b = some o
def spInitH (K : PySem.W.Frag) (C T : Addr) : Sp := fun vs H Q _ => ∃ (x dx wa ra da : Addr) (n : Int) (ws : List Int) (rs : List Str) (dis : List DI), vs = [.ref x, .int n, .ref wa, .ref ra, .ref da] ∧ H x = some (.ins C dx []) ∧
  (SqL K H wa (ws.map V.int) ∨ SqT K H wa (ws.map V.int)) ∧ ws.length ≤ 1000 ∧ (SqL K H ra (strV rs) ∨ SqT K H ra (strV rs)) ∧ rs.length < 64 ∧ (∀ z ∈ rs, z.length ≤ 1000) ∧
  SqL K H da (dis.map fun i => V.ref i.t) ∧ (∀ i ∈ dis, DIn K H i) ∧ dis.length ≤ 100 ∧ (dis.map (·.name)).Nodup ∧ LamX.TabS H T qKept ∧
  ∀ dd h G, HouseAt K C G x dd h → HKept n ws rs dis h → ExtX x H G → LamX.TabS G T qKept → (∀ o, H dd = some o → ∃ ps, o = .tbl ps) → Q .non G
abbrev s_init : Stmt := inClass (top 18) 0
abbrev N_init : List Str := ["self", "places", "watched", "rooms", "doors", "room"]
theorem sc_init : FnScope N_init ["self", "places", "watched", "rooms", "doors"] (defScope s_init) := ⟨rfl, rfl, rfl, by decide +kernel, rfl, by decide +kernel, by decide +kernel⟩
theorem DIn.x {K : PySem.W.Frag} {p C dx : Addr} {fs : List (Str × V)} {H G : Hp} {i : DI} (e : Kb p H G) (hp : H p = some (.ins C dx fs)) (h : DIn K H i) : DIn K G i := by
  obtain ⟨cv, av, ts, h1, h2, h3, h4⟩ := h.ex
  exact ⟨⟨cv, av, ts, sqt_x e hp h1, h2.imp (sql_x e hp) (sqt_x e hp), h3.imp (sql_x e hp) (sqt_x e hp), Paired.mapP h4 fun _ _ z => sqt_x e hp z⟩, h.small⟩
section
variable {P : Program} {w : World} {K : PySem.W.Frag} {mg : Str → Option Value} {base : Heap} {f C T : Addr} {fd : FuncData}
theorem ok_init (F : Fun K "__init__" "Hall.__init__" s_init f fd) (B : Bt mg) (X : HTxt K mg C) (C1 : CgO P w K mg base 1 "plain_text" spText) (C2 : CgO P w K mg base 1 "plain_numbers" (spNums K)) (C3 : CgO P w K mg base 4 "_kept_doors" (spKept K T)) :
    FnOk P w K mg base CX0 5 f fd ["self", "places", "watched", "rooms", "doors"] (spInitH K C T) := by
  refine F.ok sc_init (fun vs H Q E h => ?_) (fun cdv A outer s H vs Q E hr h => ?_)
  · obtain ⟨x, dx, wa, ra, da, n, ws, rs, dis, rfl, _⟩ := h
    rfl
  · obtain ⟨x, dx, wa, ra, da, n, ws, rs, dis, rfl, hx, hw, wl, hrm, rl, rz, hd, hi, dl, dnd, hT, k⟩ := h
    have nd := sc_init.nd
    refine ⟨_, pss_cons (ps_fld (pv 0) (pe_callTy call_int1 (by rfl) B.int b_int (pa_cons (pv 1) pa_nil)) rfl)
      (pss_cons (ps_fld (pv 0) (pe_callTy call_tuple_of (by rfl) B.tuple b_tuple (pa_cons (pe_callB cr_sortTI (by rfl) B.sorted b_sorted (pa_cons (pe_o C2 hr (by decide) rfl (pa_cons (pv 2) pa_nil)) pa_nil)) pa_nil)) rfl)
      (pss_cons (ps_fld (pv 0) (pe_callTy call_tuple_of (by rfl) B.tuple b_tuple (pa_cons (pe_callB cr_sortedS (by rfl) B.sorted b_sorted (pa_cons (pe_lc (own := [("room", 5)]) (g := gName 5) rfl nd (pi_lt (pv 3)) (blkOk_by (own := [("room", 5)]) (N := N_init) (sc := defScope s_init) (by decide +kernel)) (fun _ _ _ _ _ => (pg_name (i := 5) nd rfl (Or.inl rfl))) (fun _ _ _ _ _ => pts_nil) (fun _ _ _ _ _ => (pe_o C1 hr (by decide) rfl (pa_cons (pv 5) pa_nil)))) pa_nil)) pa_nil)) rfl)
      (pss_one (ps_fld (pv 0) (pe_o C3 hr (by decide) rfl (pa_cons (pv 4) pa_nil)) rfl)))), ?_⟩
    refine ⟨_, rfl, .inl ⟨_, rfl, _, rfl, x, C, dx, [], rfl, hx, X.cl, X.n1, show 0 < 1000 by decide, ?_⟩⟩
    -- places
    have kb1 : Kb x H (upd H x (.ins C dx (putF "_places" (.int n) []))) := (Kb.refl x H).at
    have x1 : (upd H x (.ins C dx (putF "_places" (.int n) []))) x = some (.ins C dx (putF "_places" (.int n) [])) := upd_same
    change (tSeq _ _ : TS) _ _ (upd H x _)
    generalize upd H x (.ins C dx (putF "_places" (.int n) [])) = U1 at *
    -- watched
    refine ⟨_, rfl, wa, ws, rfl, hw.imp (sql_x kb1 hx) (sqt_x kb1 hx), wl, fun t1 G1 _ e1 g1 => ⟨t1, ws, rfl, SqT.of g1, fun ms p1 pm pw hp1 => ⟨p1, _, rfl, .inl ⟨SqL.of upd_same, fun wt hwt => ?_⟩⟩⟩⟩
    have e2 : Same U1 (upd (upd G1 p1 (.lst (ms.map V.int))) wt (.tup (ms.map V.int))) := (e1.trans (same_new hp1)).trans (same_new hwt)
    have gw : (upd (upd G1 p1 (.lst (ms.map V.int))) wt (.tup (ms.map V.int))) wt = some (.tup (ms.map V.int)) := upd_same
    dsimp only
    generalize upd (upd G1 p1 (.lst (ms.map V.int))) wt (.tup (ms.map V.int)) = G2 at *
    refine ⟨_, rfl, x, C, dx, _, rfl, e2 _ _ x1, X.cl, X.n2, show 1 < 1000 by decide, ?_⟩
    have kb2 : Kb x H (upd G2 x (.ins C dx (putF "_watched" (.ref wt) (putF "_places" (.int n) [])))) := (kb1.trans (Kb.of e2)).at
    have x2 : (upd G2 x (.ins C dx (putF "_watched" (.ref wt) (putF "_places" (.int n) [])))) x = some (.ins C dx (putF "_watched" (.ref wt) (putF "_places" (.int n) []))) := upd_same
    have w2 : (upd G2 x (.ins C dx (putF "_watched" (.ref wt) (putF "_places" (.int n) [])))) wt = some (.tup (ms.map V.int)) := by
      rw [upd_ne]
      · exact gw
      · intro z
        rw [z, e2 _ _ x1] at gw
        cases gw
    change (tSeq _ _ : TS) _ _ (upd G2 x _)
    generalize upd G2 x (.ins C dx (putF "_watched" (.ref wt) (putF "_places" (.int n) []))) = U2 at *
    -- rooms
    dsimp only [tSeq, sFld, tCB, tCons]
    refine tLc_vals (i := 3) (j := 5) (a := ra) (xs := strV rs) (ys := strV rs) (by rfl) (hrm.imp (sql_x kb2 hx) (sqt_x kb2 hx)) rfl ?_ (fun i v y hv hy G e Q q => ?_) fun D G3 hD e3 g3 => ?_
    · unfold strV
      rw [List.length_map]
      exact Nat.lt_trans rl (by decide)
    · rw [hv] at hy
      cases hy
      obtain ⟨z, hz, rfl⟩ := List.mem_map.mp (List.mem_of_getElem? hv)
      exact ⟨_, rfl, z, rfl, Nat.le_trans (rz z hz) (by decide), q G (Same.refl G)⟩
    refine ⟨D, rs, rfl, SqL.of g3, rl, fun ms2 p2 pm2 so hp2 => ⟨p2, _, rfl, .inl ⟨SqL.of upd_same, fun rt hrt => ?_⟩⟩⟩
    have e4 : Same U2 (upd (upd G3 p2 (.lst (ms2.map V.str))) rt (.tup (ms2.map V.str))) := (e3.trans (same_new hp2)).trans (same_new hrt)
    have gr : (upd (upd G3 p2 (.lst (ms2.map V.str))) rt (.tup (ms2.map V.str))) rt = some (.tup (strV ms2)) := upd_same
    generalize upd (upd G3 p2 (.lst (ms2.map V.str))) rt (.tup (ms2.map V.str)) = G4 at *
    refine ⟨_, rfl, x, C, dx, _, rfl, e4 _ _ x2, X.cl, X.n3, show 2 < 1000 by decide, ?_⟩
    have kb3 : Kb x H (upd G4 x (.ins C dx (putF "_rooms" (.ref rt) (putF "_watched" (.ref wt) (putF "_places" (.int n) []))))) := (kb2.trans (Kb.of e4)).at
    have x3 : (upd G4 x (.ins C dx (putF "_rooms" (.ref rt) (putF "_watched" (.ref wt) (putF "_places" (.int n) []))))) x = some (.ins C dx (putF "_rooms" (.ref rt) (putF "_watched" (.ref wt) (putF "_places" (.int n) [])))) := upd_same
    have keep : ∀ {b : Addr} {ys : List V}, G4 b = some (.tup ys) → (upd G4 x (.ins C dx (putF "_rooms" (.ref rt) (putF "_watched" (.ref wt) (putF "_places" (.int n) []))))) b = some (.tup ys) := fun {b ys} q => by
      rw [upd_ne]
      · exact q
      · intro z
        rw [z, e4 _ _ x2] at q
        cases q
    have w3 := keep (e4 _ _ w2)
    have r3 := keep gr
    generalize upd G4 x (.ins C dx (putF "_rooms" (.ref rt) (putF "_watched" (.ref wt) (putF "_places" (.int n) [])))) = U3 at *
    -- doors
    refine ⟨_, rfl, da, dis, rfl, sql_x kb3 hx hd, fun i hi' => (hi i hi').x kb3 hx, dl, dnd, tabS_x kb3 hx hT, fun dd vs ds G5 eN T5 fr gd ddd kp => ?_⟩
    have x5 := eN _ _ x3 (fun ps q => by cases q)
    have w5 := eN _ _ w3 (fun ps q => by cases q)
    have r5 := eN _ _ r3 (fun ps q => by cases q)
    refine ⟨_, rfl, x, C, dx, _, rfl, x5, X.cl, X.n4, show 3 < 1000 by decide, ?_⟩
    have kb6 : Kb x G5 (upd G5 x (.ins C dx (fldH n wt rt dd))) := (Kb.refl x G5).at
    have ndx : dd ≠ x := fun z => by rw [z, x5] at gd; cases gd
    have nms := kept_names kp
    refine k dd ⟨n, ms, ms2, ds⟩ (upd G5 x (.ins C dx (fldH n wt rt dd))) ⟨⟨dx, wt, rt, vs, upd_same, sqt_x kb6 x5 (SqT.of w5), sqt_x kb6 x5 (SqT.of r5), kb6 _ _ gd ndx, DdAll.x kb6 x5 ddd (flat_doors ds)⟩, ?_, ?_⟩ ⟨rfl, ⟨pm, pw⟩, ⟨pm2, so⟩, kp⟩ (fun b o h1 h2 h3 => ?_) (tabS_x kb6 x5 T5) fun o ho => ?_
    · show (ds.map (·.name)).Nodup
      rw [nms]
      exact ((byName_perm dis).map _).nodup_iff.mpr dnd
    · show ds.length ≤ 100
      rw [← paired_len kp, (byName_perm dis).length_eq]
      exact dl
    · rw [upd_ne h2]
      exact eN _ _ (kb3 _ _ h1 h2) h3
    · exact fr o (kb3 _ _ ho ndx)
end
-- new
theorem ps_no {X : Cx} {st : Stmt} : PS X st (fun _ _ _ => False) := ⟨fun _ _ _ _ _ _ h => h.elim⟩
theorem dr_at {K : PySem.W.Frag} {H : Hp} : ∀ {ds : List DR} {vs : List V} {d : DR}, DdAll K H vs (ds.map doorD) → d ∈ ds → (ds.map (·.name)).Nodup → ∃ v, valV (kvD ds vs) (Sum.inr d.name : Key) = some v ∧ Dd K H v (doorD d)
  | [], vs, d, _, h, _ => absurd h (by simp)
  | e :: ds, vs, d, a, h, n => by
    have a : DdAll K H vs (doorD e :: ds.map doorD) := a
    cases a with
    | cons h1 h2 =>
      rcases List.mem_cons.mp h with q | q
      · subst q
        exact ⟨_, valV_pos rfl, h1⟩
      · have n' := List.nodup_cons.mp (show (e.name :: ds.map (·.name)).Nodup from n)
        obtain ⟨v, e1, e2⟩ := dr_at h2 q n'.2
        refine ⟨v, ?_, e2⟩
        show valV (((Sum.inr e.name : Key), _) :: kvD ds _) _ = _
        rw [valV_neg]
        · exact e1
        · intro z
          have z : e.name = d.name := Sum.inr.inj z
          exact n'.1 (z ▸ List.mem_map.mpr ⟨d, q, rfl⟩)
/-- self._watched -/
def spWatched (K : PySem.W.Frag) (C : Addr) : Sp := fun vs H Q _ => ∃ (x dd : Addr) (h : HR), vs = [.ref x] ∧ HouseAt K C H x dd h ∧ ∀ wt, SqT K H wt (h.watched.map V.int) → Q (.ref wt) H
def spPlaces (K : PySem.W.Frag) (C : Addr) : Sp := fun vs H Q _ => ∃ (x dd : Addr) (h : HR), vs = [.ref x] ∧ HouseAt K C H x dd h ∧ Q (.int h.places) H
/-- a new list of texts -/
def spRooms (K : PySem.W.Frag) (C : Addr) : Sp := fun vs H Q _ => ∃ (x dd : Addr) (h : HR), vs = [.ref x] ∧ HouseAt K C H x dd h ∧ ∀ l, H l = none → Q (.ref l) (upd H l (.lst (strV h.rooms)))
def spDoors (K : PySem.W.Frag) (C : Addr) : Sp := fun vs H Q _ => ∃ (x dd : Addr) (h : HR), vs = [.ref x] ∧ HouseAt K C H x dd h ∧ ∀ l, H l = none → Q (.ref l) (upd H l (.lst (strV (h.doors.map (·.name)))))
/-- the door of a name, one of the hall's -/
def spDoor (K : PySem.W.Frag) (C : Addr) : Sp := fun vs H Q _ => ∃ (x dd : Addr) (h : HR) (d : DR), vs = [.ref x, .str d.name] ∧ HouseAt K C H x dd h ∧ d ∈ h.doors ∧ ∀ v, Dd K H v (doorD d) → Q v H
abbrev s_len : Stmt := inClass (top 18) 2
abbrev s_places : Stmt := inClass (top 18) 3
abbrev s_watched : Stmt := inClass (top 18) 4
abbrev s_rooms : Stmt := inClass (top 18) 5
abbrev s_doors : Stmt := inClass (top 18) 6
abbrev s_door : Stmt := inClass (top 18) 7
theorem sc_places : FnScope ["self"] ["self"] (defScope s_places) := ⟨rfl, rfl, rfl, by decide +kernel, rfl, by decide +kernel, by decide +kernel⟩
theorem sc_watched : FnScope ["self"] ["self"] (defScope s_watched) := ⟨rfl, rfl, rfl, by decide +kernel, rfl, by decide +kernel, by decide +kernel⟩
theorem sc_rooms : FnScope ["self"] ["self"] (defScope s_rooms) := ⟨rfl, rfl, rfl, by decide +kernel, rfl, by decide +kernel, by decide +kernel⟩
theorem sc_doors : FnScope ["self"] ["self"] (defScope s_doors) := ⟨rfl, rfl, rfl, by decide +kernel, rfl, by decide +kernel, by decide +kernel⟩
theorem sc_door : FnScope ["self", "name"] ["self", "name"] (defScope s_door) := ⟨rfl, rfl, rfl, by decide +kernel, rfl, by decide +kernel, by decide +kernel⟩
section
variable {P : Program} {w : World} {K : PySem.W.Frag} {mg : Str → Option Value} {base : Heap} {f C : Addr} {fd : FuncData}
theorem ok_places (F : Fun K "places" "Hall.places" s_places f fd) (X : HTxt K mg C) : FnOk P w K mg base CX0 1 f fd ["self"] (spPlaces K C) := by
  refine F.ok sc_places (fun vs H Q E h => ?_) (fun cdv A outer s H vs Q E hr h => ?_)
  · obtain ⟨x, dd, h, rfl, _⟩ := h
    rfl
  · obtain ⟨x, dd, h, rfl, ha, k⟩ := h
    obtain ⟨dx, wt, rt, vs, h1, h2, h3, h4, h5⟩ := ha.ex
    exact ⟨_, pss_one (ps_ret (pe_fld (pv 0) rfl)), _, rfl, x, C, dx, _, _, rfl, h1, X.cl, X.n1, fldH_places _ _ _ _, k⟩
theorem ok_watched (F : Fun K "watched" "Hall.watched" s_watched f fd) (X : HTxt K mg C) : FnOk P w K mg base CX0 1 f fd ["self"] (spWatched K C) := by
  refine F.ok sc_watched (fun vs H Q E h => ?_) (fun cdv A outer s H vs Q E hr h => ?_)
  · obtain ⟨x, dd, h, rfl, _⟩ := h
    rfl
  · obtain ⟨x, dd, h, rfl, ha, k⟩ := h
    obtain ⟨dx, wt, rt, vs, h1, h2, h3, h4, h5⟩ := ha.ex
    exact ⟨_, pss_one (ps_ret (pe_fld (pv 0) rfl)), _, rfl, x, C, dx, _, _, rfl, h1, X.cl, X.n2, fldH_watched _ _ _ _, k wt h2⟩
theorem ok_rooms (F : Fun K "rooms" "Hall.rooms" s_rooms f fd) (B : Bt mg) (X : HTxt K mg C) : FnOk P w K mg base CX0 1 f fd ["self"] (spRooms K C) := by
  refine F.ok sc_rooms (fun vs H Q E h => ?_) (fun cdv A outer s H vs Q E hr h => ?_)
  · obtain ⟨x, dd, h, rfl, _⟩ := h
    rfl
  · obtain ⟨x, dd, h, rfl, ha, k⟩ := h
    obtain ⟨dx, wt, rt, vs, h1, h2, h3, h4, h5⟩ := ha.ex
    exact ⟨_, pss_one (ps_ret (pe_callTy call_list_of (by rfl) B.list b_list (pa_cons (pe_fld (pv 0) rfl) pa_nil))), _, rfl, x, C, dx, _, _, rfl, h1, X.cl, X.n3, fldH_rooms _ _ _ _, rt, _, rfl, .inr h3, fun l hl => k l hl⟩
theorem kvD_kV {K : PySem.W.Frag} {H : Hp} : ∀ {ds : List DR} {vs : List V}, DdAll K H vs (ds.map doorD) → ((kvD ds vs).map fun kv => kV kv.1) = strV (ds.map (·.name))
  | [], _, h => by
    cases h
    rfl
  | d :: ds, vs, h => by
    have h : DdAll K H vs (doorD d :: ds.map doorD) := h
    cases h with
    | cons h1 h2 =>
      show V.str d.name :: ((kvD ds _).map fun kv => kV kv.1) = V.str d.name :: strV (ds.map (·.name))
      rw [kvD_kV h2]
theorem ok_doors (F : Fun K "doors" "Hall.doors" s_doors f fd) (B : Bt mg) (X : HTxt K mg C) : FnOk P w K mg base CX0 1 f fd ["self"] (spDoors K C) := by
  refine F.ok sc_doors (fun vs H Q E h => ?_) (fun cdv A outer s H vs Q E hr h => ?_)
  · obtain ⟨x, dd, h, rfl, _⟩ := h
    rfl
  · obtain ⟨x, dd, h, rfl, ha, k⟩ := h
    obtain ⟨dx, wt, rt, vs, h1, h2, h3, h4, h5⟩ := ha.ex
    refine ⟨_, pss_one (ps_ret (pe_callTy (call_list_dK rfl) (by rfl) B.list b_list (pa_cons (pe_fld (pv 0) rfl) pa_nil))), _, rfl, x, C, dx, _, _, rfl, h1, X.cl, X.n4, fldH_doors _ _ _ _, dd, _, rfl, h4, fun l hl => ?_⟩
    rw [kvD_kV h5]
    exact k l hl
theorem ok_door (F : Fun K "door" "Hall.door" s_door f fd) (T : Bt mg) (X : HTxt K mg C) : FnOk P w K mg base CX0 1 f fd ["self", "name"] (spDoor K C) := by
  refine F.ok sc_door (fun vs H Q E h => ?_) (fun cdv A outer s H vs Q E hr h => ?_)
  · obtain ⟨x, dd, h, d, rfl, _⟩ := h
    rfl
  · obtain ⟨x, dd, h, d, rfl, ha, hd, k⟩ := h
    obtain ⟨dx, wt, rt, vs, h1, h2, h3, h4, h5⟩ := ha.ex
    obtain ⟨v, e1, e2⟩ := dr_at h5 hd ha.nd
    have hu := hu_of hr
    refine ⟨_, pss_cons (ps_if (PW.pt (pw_or (pt_not (pt_val (pe_callB (r := rIsD K) cr_isD (by rfl) T.isinstance b_isinstance (pa_cons (pv 1) (pa_cons (pe_tstr (by rfl) T.str) pa_nil))))) (pw_or1 (pt_cmp (pc_dnotin hu (pv 1) (pe_fld (pv 0) rfl)))))) (pss_one ps_no) pss_nil)
      (pss_one (ps_ret (pe_dget hu (pe_fld (pv 0) rfl) (pv 1) (fun _ _ => rfl)))), ?_⟩
    refine ⟨_, rfl, _, .str d.name, "str", rfl, .str _, by decide, _, rfl, ?_⟩
    refine iteF ?_
    refine ⟨_, rfl, _, rfl, x, C, dx, _, _, rfl, h1, X.cl, X.n4, fldH_doors _ _ _ _, dd, _, rfl, DGet.k (k := Sum.inr d.name) h4, _, rfl, ?_⟩
    rw [e1]
    refine iteF ?_
    exact ⟨_, rfl, x, C, dx, _, _, rfl, h1, X.cl, X.n4, fldH_doors _ _ _ _, _, rfl, dd, v, rfl, e1 ▸ DGet.k (k := Sum.inr d.name) h4, k v e2⟩
end
-- new
/-- v is the tuple of the places to which p brings -/
def Ar (K : PySem.W.Frag) (H : Hp) (v : V) (n : Nat) (p : Nat → Nat) : Prop := ∃ a, v = .ref a ∧ SqT K H a (arV p n)
theorem Ar.same {K : PySem.W.Frag} {H G : Hp} {v : V} {n : Nat} {p : Nat → Nat} (h : Ar K H v n p) (e : Same H G) : Ar K G v n p := by
  obtain ⟨a, h1, h2⟩ := h
  exact ⟨a, h1, sqt_same e h2⟩
theorem Ar.congr {K : PySem.W.Frag} {H : Hp} {v : V} {n : Nat} {p q : Nat → Nat} (h : Ar K H v n p) (e : ∀ k, k < n → p k = q k) : Ar K H v n q := by
  obtain ⟨a, h1, h2⟩ := h
  exact ⟨a, h1, by rw [← arV_congr e]; exact h2⟩
def spBehind (K : PySem.W.Frag) : Sp := fun vs H Q _ => ∃ (x y : V) (n : Nat) (p q : Nat → Nat), vs = [x, y] ∧ Ar K H x n p ∧ Ar K H y n q ∧ (∀ k, k < n → p k < n) ∧ n ≤ 12 ∧
  ∀ v H', Same H H' → Ar K H' v n (fun k => q (p k)) → Q v H'
def spUndone (K : PySem.W.Frag) : Sp := fun vs H Q _ => ∃ (x : V) (n : Nat) (p : Nat → Nat), vs = [x] ∧ Ar K H x n p ∧ IsP n p ∧ n ≤ 12 ∧
  ∀ v r H', Same H H' → (∀ k, k < n → r (p k) = k) → Ar K H' v n r → Q v H'
theorem ixN_nat {n k : Nat} (h : k < n) : ixN n ((k : Nat) : Int) = some k := by
  unfold ixN
  rw [if_pos (by omega), if_pos (by omega), Int.toNat_natCast]
/-- what a list holds, read as a map -/
def readAt (bs : List V) (y : Nat) : Nat := match bs[y]? with
  | some (.int i) => i.toNat
  | _ => 0
theorem read_back {n : Nat} {p : Nat → Nat} {bs : List V} (hp : IsP n p) (hl : bs.length = n) (h : ∀ j, j < n → bs[p j]? = some (V.int (j : Nat))) : bs = arV (readAt bs) n ∧ ∀ k, k < n → readAt bs (p k) = k := by
  have rd : ∀ k, k < n → readAt bs (p k) = k := fun k hk => by
    unfold readAt
    rw [h k hk]
    exact Int.toNat_natCast k
  refine ⟨List.ext_getElem? fun y => ?_, rd⟩
  by_cases hy : y < n
  · obtain ⟨x, hx, rfl⟩ := hp.sur y hy
    rw [arV_get hy, h x hx, rd x hx]
  · rw [List.getElem?_eq_none (by omega), List.getElem?_eq_none (by rw [arV_len]; omega)]
abbrev s_behind : Stmt := top 9
abbrev N_behind : List Str := ["one", "other", "place"]
theorem sc_behind : FnScope N_behind ["one", "other"] (defScope s_behind) := ⟨rfl, rfl, rfl, by decide +kernel, rfl, by decide +kernel, by decide +kernel⟩
abbrev s_undone : Stmt := top 10
abbrev N_undone : List Str := ["one", "back", "start", "end"]
theorem sc_undone : FnScope N_undone ["one"] (defScope s_undone) := ⟨rfl, rfl, rfl, by decide +kernel, rfl, by decide +kernel, by decide +kernel⟩
section
variable {P : Program} {w : World} {K : PySem.W.Frag} {mg : Str → Option Value} {base : Heap} {f : Addr} {fd : FuncData}
theorem ok_behind (F : Fun K "behind" "behind" s_behind f fd) (T : Bt mg) : FnG P w K mg base CX0 1 f fd ["one", "other"] (spBehind K) := by
  refine fnG0 F sc_behind (fun vs H Q E h => ?_) (fun cdv A outer s H vs Q E hr hg h => ?_)
  · obtain ⟨x, y, n, p, q, rfl, _⟩ := h
    rfl
  · obtain ⟨x, y, n, p, q, rfl, ⟨a, rfl, ha⟩, ⟨b, rfl, hb⟩, lt, n12, k⟩ := h
    have nd := sc_behind.nd
    refine ⟨_, (pss_one (ps_ret (pe_callTy call_tuple_of (by rfl) T.tuple b_tuple (pa_cons (pe_lc (own := [("place", 2)]) (g := gName 2) rfl nd (pi_tup (pv 0)) (blkOk_by (own := [("place", 2)]) (N := N_behind) (sc := defScope s_behind) (by decide +kernel)) (fun _ _ _ _ _ => (pg_name (i := 2) nd rfl (Or.inl rfl))) (fun _ _ _ _ _ => pts_nil) (fun _ _ _ _ _ => (pe_callTy call_int1 (by rfl) T.int b_int (pa_cons (pe_ix (r := rIxT K) ix_tup (pv 1) (pv 2) (fun _ _ => rfl)) pa_nil)))) pa_nil)))), ?_⟩
    refine ⟨_, rfl, a, rfl, ⟨_, ha⟩, fun D hD => ?_⟩
    refine comp_tup (K := K) (ys := arV (fun k => q (p k)) n) hD ha (by rw [arV_len, arV_len]) (Nat.lt_of_le_of_lt (by rw [arV_len]; exact n12) (by decide : 12 < sizeLine)) (fun i x y hi hy G e1 Q hq => ?_) fun G e1 hG => ?_
    · have hin : i < n := by
        have := (List.getElem?_eq_some_iff.mp hi).1
        rwa [arV_len] at this
      rw [arV_get hin] at hi hy
      cases hi
      cases hy
      exact ⟨_, rfl, _, rfl, b, _, _, _, rfl, rfl, sqt_same e1 hb, arV_at (lt i hin), .inl ⟨_, rfl, hq G (Same.refl G)⟩⟩
    · refine ⟨D, _, rfl, .inl ⟨SqL.of hG, fun t ht => ?_⟩⟩
      exact k _ _ (same_mut e1 (e1.free ht)) ⟨t, rfl, SqT.of upd_same⟩
theorem ok_undone (F : Fun K "undone" "undone" s_undone f fd) (T : Bt mg) : FnG P w K mg base CX0 1 f fd ["one"] (spUndone K) := by
  refine fnG0 F sc_undone (fun vs H Q E h => ?_) (fun cdv A outer s H vs Q E hr hg h => ?_)
  · obtain ⟨x, n, p, rfl, _⟩ := h
    rfl
  · obtain ⟨x, n, p, rfl, ⟨a, rfl, ha⟩, hp, n12, k⟩ := h
    have nd := sc_undone.nd
    refine ⟨_, (pss_cons (ps_set (i := 1) nd rfl (Or.inl rfl) (pe_op op_rep (pe_lst (pa_cons pe_int pa_nil)) (pe_callB call_len_seq (by rfl) T.len b_len (pa_cons (pv 0) pa_nil))))
      (pss_cons (ps_for PassesOwn.never rfl (pi_enumT (by rfl) T.enumerate (pa_cons (pv 0) pa_nil)) (pg_tup (by rfl) (pgs_cons (pg_name (i := 2) nd rfl (Or.inl rfl)) (pgs_cons (pg_name (i := 3) nd rfl (Or.inl rfl)) pgs_nil)))
        (pss_one (ps_asg (pv 2) (pg_sub (pv 1) (pv 3) set_list))))
      (pss_one (ps_ret (pe_callTy call_tuple_of (by rfl) T.tuple b_tuple (pa_cons (pv 1) pa_nil)))))), ?_⟩
    refine ⟨(show 1 ≤ sizeLine by decide), fun z hz => ?_⟩
    have e1 : Same H (upd H z (.lst [.int 0])) := same_new hz
    have hz1 : (upd H z (.lst [.int 0])) z = some (.lst [.int 0]) := upd_same
    refine ⟨_, rfl, a, _, rfl, .inr (sqt_same e1 ha), z, _, _, rfl, rfl, hz1, by omega, ?_, ?_, fun l hl => ?_⟩
    · rw [arV_len]
      omega
    · rw [arV_len, Int.toNat_natCast]
      exact Nat.le_trans (show 1 * n ≤ 100 by omega) (by decide)
    have s0 : Same H (upd (upd H z (.lst [.int 0])) l (.lst (List.replicate ((arV p n).length : Int).toNat [.int 0]).flatten)) := e1.trans (same_new hl)
    have g0 : (upd (upd H z (.lst [.int 0])) l (.lst (List.replicate ((arV p n).length : Int).toNat [.int 0]).flatten)) l = some (.lst (List.replicate ((arV p n).length : Int).toNat [.int 0]).flatten) := upd_same
    have hl0 : H l = none := e1.free hl
    have b0 : (List.replicate ((arV p n).length : Int).toNat [V.int 0]).flatten.length = n := by
      rw [arV_len, Int.toNat_natCast]
      simp
    change (tSeq _ _ : TS) _ _ (upd (upd H z (.lst [.int 0])) l (.lst (List.replicate ((arV p n).length : Int).toNat [.int 0]).flatten))
    generalize upd (upd H z (.lst [.int 0])) l (.lst (List.replicate ((arV p n).length : Int).toNat [.int 0]).flatten) = G0 at s0 g0 ⊢
    generalize (List.replicate ((arV p n).length : Int).toNat [V.int 0]).flatten = bs0 at g0 b0
    refine ⟨_, rfl, a, _, rfl, sqt_same s0 ha, ?_⟩
    refine for_enumT (xs := arV p n) (fun i σ G => ∃ y2 y3 bs, σ = [some (.ref a), some (.ref l), y2, y3] ∧ Same H G ∧ G l = some (.lst bs) ∧ bs.length = n ∧ ∀ j, j < i → bs[p j]? = some (.int (j : Nat))) ⟨_, _, bs0, rfl, s0, g0, b0, fun j hj => absurd hj (Nat.not_lt_zero j)⟩ (fun i σ G _ q => ?_) (fun i x σ G t hx q ht => ?_) fun σ G q => ?_
    · obtain ⟨_, _, _, _, q, _⟩ := q
      exact sqt_same q ha
    · obtain ⟨y2, y3, bs, rfl, q1, q2, q3, q4⟩ := q
      have hin : i < n := by
        have := (List.getElem?_eq_some_iff.mp hx).1
        rwa [arV_len] at this
      rw [arV_get hin] at hx
      cases hx
      have tl : t ≠ l := fun e => by rw [e, q2] at ht; cases ht
      refine ⟨t, _, rfl, SqT.of upd_same, rfl, ?_⟩
      refine ⟨_, _, rfl, _, _, rfl, rfl, _, rfl, _, rfl, _, rfl, l, _, _, _, rfl, rfl, by rw [upd_ne tl.symm]; exact q2, ixN_nat (by rw [q3]; exact hp.lt i hin), ?_⟩
      refine ⟨_, _, _, rfl, same_mut (q1.trans (same_new ht)) hl0, upd_same, by rw [List.length_set]; exact q3, fun j hj => ?_⟩
      rcases Nat.lt_succ_iff_lt_or_eq.mp hj with hj | rfl
      · have ne : p i ≠ p j := fun e => by
          have := hp.inj i j hin (by omega) e
          omega
        rw [List.getElem?_set_ne ne]
        exact q4 j hj
      · rw [List.getElem?_set_self (by rw [q3]; exact hp.lt j hin)]
    · obtain ⟨y2, y3, bs, rfl, q1, q2, q3, q4⟩ := q
      rw [arV_len] at q4
      obtain ⟨r1, r2⟩ := read_back hp q3 q4
      refine ⟨_, rfl, l, _, rfl, .inl ⟨SqL.of q2, fun t ht => ?_⟩⟩
      rw [r1]
      exact k _ _ _ (same_mut q1 (q1.free ht)) r2 ⟨t, rfl, SqT.of upd_same⟩
end
-- new
/-- where each watched mark lies in a key -/
def posOf (key : List Int) (m : Int) : Int := (key.idxOf m : Nat)
def spSplit (K : PySem.W.Frag) (C : Addr) : Sp := fun vs H Q _ => ∃ (x dd st kt : Addr) (h : HR) (room : Str) (key : List Int), vs = [.ref x, .ref st] ∧ HouseAt K C H x dd h ∧ SqT K H st [.str room, .ref kt] ∧ FzT H kt (key.map V.int) ∧
  room.length ≤ 1000 ∧ (∀ m ∈ h.watched, m ∈ key) ∧ h.watched.length ≤ 1000 ∧
  ∀ t pt G, Same H G → G t = some (.tup [.str room, .ref pt]) → G pt = some (.tup (h.watched.map fun m => V.int (posOf key m))) → Q (.ref t) G
abbrev s_split : Stmt := top 14
abbrev N_split : List Str := ["hall", "stand", "room", "key", "mark"]
theorem sc_split : FnScope N_split ["hall", "stand"] (defScope s_split) := ⟨rfl, rfl, rfl, by decide +kernel, rfl, by decide +kernel, by decide +kernel⟩
theorem idx_first {key : List Int} {m : Int} (h : m ∈ key) : (key.map V.int)[key.idxOf m]? = some (V.int m) ∧ ∀ (j : Nat) (z : V), j < key.idxOf m → (key.map V.int)[j]? = some z → eqV z (.int m) = false := by
  have lt := List.idxOf_lt_length_of_mem h
  refine ⟨by rw [List.getElem?_map, List.getElem?_eq_getElem lt, List.getElem_idxOf lt]; rfl, fun j z hj hz => ?_⟩
  rw [List.getElem?_map] at hz
  have lj : j < key.length := Nat.lt_trans hj lt
  rw [List.getElem?_eq_getElem lj] at hz
  obtain rfl := Option.some.inj hz
  exact List.not_of_lt_findIdx (p := fun z => z == m) (xs := key) hj
theorem ints_flat (ns : List Int) : (ns.map V.int).all flatV = true := by
  rw [List.all_map]
  exact List.all_eq_true.mpr fun _ _ => rfl
section
variable {P : Program} {w : World} {K : PySem.W.Frag} {mg : Str → Option Value} {base : Heap} {f C : Addr} {fd : FuncData}
theorem ok_split (F : Fun K "split" "split" s_split f fd) (T : Bt mg) (C1 : CgO P w K mg base 1 "plain_text" spText) (M : MethO P w K mg base C 1 "watched" (spWatched K C)) :
    FnG P w K mg base CX0 2 f fd ["hall", "stand"] (spSplit K C) := by
  refine fnG0 F sc_split (fun vs H Q E h => ?_) (fun cdv A outer s H vs Q E hr hg h => ?_)
  · obtain ⟨x, dd, st, kt, h, room, key, rfl, _⟩ := h
    rfl
  · obtain ⟨x, dd, st, kt, h, room, key, rfl, ha, hs, hk, rl, hm, wl, k⟩ := h
    have nd := sc_split.nd
    refine ⟨_, (pss_cons (ps_asg (pv 1) (pg_tup (by rfl) (pgs_cons (pg_name (i := 2) nd rfl (Or.inl rfl)) (pgs_cons (pg_name (i := 3) nd rfl (Or.inr rfl)) pgs_nil))))
      (pss_one (ps_ret (pe_tup (pa_cons (pe_o C1 hr (by decide) rfl (pa_cons (pv 2) pa_nil)) (pa_cons (pe_callTy call_tuple_of (by rfl) T.tuple b_tuple (pa_cons (pe_lc (own := [("mark", 4)]) (g := gName 4) rfl nd (pi_tup (pe_m0 M hr (by decide) (pv 0))) (blkOk_by (own := [("mark", 4)]) (N := N_split) (sc := defScope s_split) (by decide +kernel)) (fun _ _ _ _ _ => (pg_name (i := 4) nd rfl (Or.inl rfl))) (fun _ _ _ _ _ => pts_nil) (te := tBT (rIdxT K) (tVar 3) (tCons (tVar 4) tNil)) (fun _ _ _ _ _ => (pe_bt PySem.F.slot_tuple_index PySem.F.type_tuple_index mt_idxT (pv 3) (pa_cons (pv 4) pa_nil)))) pa_nil)) pa_nil)))))), ?_⟩
    obtain ⟨dx, wt, rt, vs, h1, h2, h3, h4, h5⟩ := ha.ex
    refine ⟨_, rfl, st, _, rfl, hs, rfl, ⟨_, _, rfl, _, _, rfl, rfl, ?_⟩⟩
    refine ⟨_, rfl, room, rfl, by omega, ?_⟩
    refine ⟨_, rfl, x, dx, _, rfl, h1, fldH_no _ _ _ _ (by decide +kernel) (by decide +kernel) (by decide +kernel) (by decide +kernel), x, dd, h, rfl, ha, fun w2 hw2 => ⟨w2, rfl, ⟨_, hw2⟩, fun D hD => ?_⟩⟩
    refine comp_tup (K := K) (ys := h.watched.map fun m => V.int (posOf key m)) hD hw2 (by rw [List.length_map, List.length_map]) (by rw [List.length_map]; exact Nat.lt_of_le_of_lt wl (by decide)) (fun i y z hy hz G e Q q => ?_) fun G e g => ?_
    · rw [List.getElem?_map] at hy hz
      obtain ⟨m, hm1, rfl⟩ := Option.map_eq_some_iff.mp hy
      rw [hm1] at hz
      obtain rfl := Option.some.inj hz
      have mk := hm m (List.mem_of_getElem? hm1)
      obtain ⟨f1, f2⟩ := idx_first mk
      exact ⟨_, rfl, ⟨kt, _, rfl, hk.same e⟩, _, rfl, kt, _, .int m, key.idxOf m, .int m, rfl, rfl, (hk.same e).sqt, rfl, ints_flat key, f1, beq_self_eq_true m, f2, q G (Same.refl G)⟩
    · refine ⟨D, _, rfl, .inl ⟨SqL.of g, fun pt hpt => ⟨show 2 ≤ sizeLine by decide, fun t ht => ?_⟩⟩⟩
      refine k t pt _ ((e.trans (same_new hpt)).trans (same_new ht)) upd_same ?_
      rw [upd_ne]
      · exact upd_same
      · intro z
        rw [z, upd_same] at ht
        cases ht
end
-- new
def sd (b : Bool) : Str := if b then "forth" else "back"
/-- the asks that a step meets -/
def askF (fo : Bool) (p : Nat → Nat) (asks : List (Int × Int)) : List (Int × Int) := if fo then asks else asks.map fun a => (a.1, ((p a.2.toNat : Nat) : Int))
def doorF (fo : Bool) (d : DR) : Str := if fo then d.one else d.other
/-- a door whose cut is a map -/
structure CutP (n : Nat) (p : Nat → Nat) (d : DR) : Prop where
  cut : d.cut.map V.int = arV p n
  isp : IsP n p
  n12 : n ≤ 12
  ask : ∀ a ∈ d.asks, 0 ≤ a.2 ∧ a.2 < (n : Int)
  few : d.asks.length ≤ 1000
def spPass (K : PySem.W.Frag) (C : Addr) : Sp := fun vs H Q _ => ∃ (x dd st : Addr) (h : HR) (d : DR) (fo : Bool) (n : Nat) (p : Nat → Nat), vs = [.ref x, .ref st] ∧ HouseAt K C H x dd h ∧ SqT K H st [.str d.name, .str (sd fo)] ∧ d ∈ h.doors ∧ CutP n p d ∧
  ∀ t z1 z2 aq ys G, Same H G → SqT K G t [.str (doorF fo d), z1, z2, .ref aq] → SqT K G aq ys → DdAll K G ys ((askF fo p d.asks).map pairD) → Q (.ref t) G
theorem pair_noL {ps : List (Int × Int)} : ∀ d ∈ ps.map pairD, noL d = true := by
  intro d m
  obtain ⟨p, _, rfl⟩ := List.mem_map.mp m
  rfl
theorem pair_at {K : PySem.W.Frag} {H : Hp} : ∀ {ys : List V} {ps : List (Int × Int)} (i : Nat) (x : V), DdAll K H ys (ps.map pairD) → ys[i]? = some x → ∃ (t : Addr) (p : Int × Int), x = .ref t ∧ ps[i]? = some p ∧ SqT K H t [.int p.1, .int p.2]
  | [], ps, i, x, h, e => by cases e
  | y :: ys, [], i, x, h, e => by cases h
  | y :: ys, p :: ps, 0, x, h, e => by
    have h : DdAll K H (y :: ys) (.tuple [.int p.1, .int p.2] :: ps.map pairD) := h
    obtain rfl := Option.some.inj e
    cases h with
    | cons a b =>
      cases a with
      | tup s d =>
        cases d with
        | cons d1 d2 =>
          cases d2 with
          | cons d2 d3 =>
            cases d1
            cases d2
            cases d3
            exact ⟨_, p, rfl, rfl, s⟩
  | y :: ys, p :: ps, i + 1, x, h, e => by
    have h : DdAll K H (y :: ys) (pairD p :: ps.map pairD) := h
    cases h with
    | cons a b => exact pair_at i x b e
theorem dd_ints {K : PySem.W.Frag} {H : Hp} : ∀ {xs : List V} {ns : List Int}, DdAll K H xs (ns.map PyData.int) → xs = ns.map V.int
  | [], [], _ => rfl
  | [], _ :: _, h => by cases h
  | _ :: _, [], h => by cases h
  | x :: xs, n :: ns, h => by
    have h : DdAll K H (x :: xs) (.int n :: ns.map PyData.int) := h
    cases h with
    | cons a b =>
      cases a
      rw [dd_ints b]
      rfl
/-- a door's tuple, taken apart -/
theorem door_open {K : PySem.W.Frag} {H : Hp} {v : V} {d : DR} (h : Dd K H v (doorD d)) : ∃ (t c a : Addr) (ys : List V), v = .ref t ∧ SqT K H t [.str d.one, .str d.other, .ref c, .ref a] ∧ SqT K H c (d.cut.map V.int) ∧ SqT K H a ys ∧ DdAll K H ys (d.asks.map pairD) := by
  have h : Dd K H v (.tuple [.str d.one, .str d.other, .tuple (d.cut.map PyData.int), .tuple (d.asks.map pairD)]) := h
  cases h with
  | tup s a =>
    cases a with
    | cons a1 a =>
      cases a with
      | cons a2 a =>
        cases a with
        | cons a3 a =>
          cases a with
          | cons a4 a =>
            cases a
            cases a1
            cases a2
            cases a3 with
            | tup s3 b3 =>
              cases a4 with
              | tup s4 b4 =>
                have e := dd_ints b3
                subst e
                exact ⟨_, _, _, _, rfl, s, s3, s4, b4⟩
section
variable {P : Program} {w : World} {K : PySem.W.Frag} {mg : Str → Option Value} {base : Heap} {f C : Addr} {fd : FuncData}
end
def letters : Str := "abcdefghijklmnopqrstuvwxyz"
def lowB (z : Str) : Bool := z.cps.toList.all fun c => decide (c ∈ letters.cps.toList)
def nameB : PyData → Bool
  | .str z => decide (1 ≤ z.length) && decide (z.length ≤ 8) && lowB z
  | _ => false
def isSide (d : PyData) : Bool := (["back", "forth"] : List Str).any fun z => isT z d
def stepB : PyData → Bool
  | .tuple [a, b] => nameB a && isSide b
  | _ => false
/-- texts that aren't too long -/
def ShortT (d : PyData) : Prop := ∀ z, d = .str z → z.length ≤ 10000000
def spName (K : PySem.W.Frag) : Sp := fun vs H Q _ => ∃ (x : V) (d : PyData), vs = [x] ∧ Dd K H x d ∧ ShortT d ∧ ∀ H', Same H H' → Q (.bl (nameB d)) H'
def spStep (K : PySem.W.Frag) : Sp := fun vs H Q _ => ∃ (x : V) (d : PyData), vs = [x] ∧ Dd K H x d ∧ (∀ ds, d = .tuple ds → ∀ e ∈ ds, ShortT e) ∧ ∀ H', Same H H' → Q (.bl (stepB d)) H'
theorem len_toList (z : Str) : z.cps.toList.length = z.length := by
  rw [Array.length_toList]
  rfl
section
variable {P : Program} {w : World} {K : PySem.W.Frag} {mg : Str → Option Value} {base : Heap} {f : Addr} {fd : FuncData}
end
-- new
/-- does a step lead on from a room, with this key -/
def openB (room : Str) (key : List Int) (fo : Bool) (p : Nat → Nat) (d : DR) : Bool := decide (doorF fo d = room) && (askF fo p d.asks).all fun a => decide (posOf key a.1 = a.2)
def spWhy (K : PySem.W.Frag) (C : Addr) : Sp := fun vs H Q _ => ∃ (x dd sp pt st : Addr) (h : HR) (d : DR) (fo : Bool) (n : Nat) (p : Nat → Nat) (room : Str) (key : List Int), vs = [.ref x, .ref sp, .ref st] ∧ HouseAt K C H x dd h ∧
  SqT K H sp [.str room, .ref pt] ∧ SqT K H pt (h.watched.map fun m => V.int (posOf key m)) ∧ SqT K H st [.str d.name, .str (sd fo)] ∧ d ∈ h.doors ∧ CutP n p d ∧ nameB (.str d.name) = true ∧ h.watched.Nodup ∧ h.watched.length ≤ 1000 ∧ (∀ a ∈ d.asks, a.1 ∈ h.watched) ∧
  ∀ v G, Same H G → (openB room key fo p d = true → v = .non) → (openB room key fo p d = false → ∃ z : Str, v = .str z) → Q v G
theorem mergeK_nodup : ∀ {more kvs : List (Key × V)}, ((kvs ++ more).map (·.1)).Nodup → mergeK kvs more = kvs ++ more
  | [], kvs, _ => (List.append_nil kvs).symm
  | kv :: more, kvs, h => by
    have e : kvs ++ kv :: more = (kvs ++ [kv]) ++ more := by rw [List.append_assoc]; rfl
    have nk : kv.1 ∉ kvs.map (·.1) := fun m => by
      rw [List.map_append] at h
      exact (List.nodup_append.mp h).2.2 _ m _ (List.mem_map.mpr ⟨kv, List.mem_cons_self, rfl⟩) rfl
    show mergeK (putK kvs kv.1 kv.2) more = _
    rw [RG.putK_new nk, e]
    exact mergeK_nodup (by rw [← e]; exact h)
theorem side_ok (fo : Bool) : isSide (.str (sd fo)) = true := by cases fo <;> decide +kernel
theorem valV_nodup {kvs : List (Key × V)} (nd : (kvs.map (·.1)).Nodup) {k : Key} {v : V} (h : (k, v) ∈ kvs) : valV kvs k = some v := by
  induction kvs with
  | nil => cases h
  | cons kv kvs ih =>
    have n := List.nodup_cons.mp (show (kv.1 :: kvs.map (·.1)).Nodup from nd)
    rcases List.mem_cons.mp h with e | m
    · subst e
      exact valV_pos rfl
    · rw [valV_neg]
      · exact ih n.2 m
      · intro e
        exact n.1 (List.mem_map.mpr ⟨(k, v), m, e.symm⟩)
theorem inV_str {z : Str} {zs : List Str} (h : z ∈ zs) : inV (.str z) (strV zs) = true := by
  refine List.any_eq_true.mpr ⟨.str z, List.mem_map.mpr ⟨z, h, rfl⟩, ?_⟩
  show (z == z) = true
  exact beq_self_eq_true z
theorem name_short {z : Str} (h : nameB (.str z) = true) : z.length ≤ 8 := by
  simp only [nameB, Bool.and_eq_true, decide_eq_true_eq] at h
  exact h.1.2
theorem askF_mem {fo : Bool} {p : Nat → Nat} {asks : List (Int × Int)} {q : Int × Int} {ws : List Int} (h : q ∈ askF fo p asks) (a : ∀ a ∈ asks, a.1 ∈ ws) : q.1 ∈ ws := by
  cases fo with
  | true => exact a q h
  | false =>
    obtain ⟨r, hr, rfl⟩ := List.mem_map.mp h
    exact a r hr
theorem dd_bools {α : Type} {f : α → Bool} {K : PySem.W.Frag} {H : Hp} : ∀ {xs : List V} {as : List α}, DdAll K H xs (as.map fun a => PyData.bool (f a)) → xs = as.map fun a => V.bl (f a)
  | [], [], _ => rfl
  | [], _ :: _, h => by cases h
  | _ :: _, [], h => by cases h
  | x :: xs, a :: as, h => by
    have h : DdAll K H (x :: xs) (.bool (f a) :: as.map fun a => PyData.bool (f a)) := h
    cases h with
    | cons h1 h2 =>
      cases h1
      rw [dd_bools h2]
      rfl
section
variable {P : Program} {w : World} {K : PySem.W.Frag} {mg : Str → Option Value} {base : Heap} {f C : Addr} {fd : FuncData}
end
-- new
def stepD (t : DR × Bool) : PyData := .tuple [.str t.1.name, .str (sd t.2)]
def bothW (d : DR) : List (DR × Bool) := [(d, false), (d, true)]
/-- the steps that lead on -/
def stepsOf (room : Str) (key : List Int) (pd : DR → Nat → Nat) (ds : List DR) : List (DR × Bool) := (ds.flatMap bothW).filter fun t => openB room key t.2 (pd t.1) t.1
def spSteps (K : PySem.W.Frag) (C : Addr) : Sp := fun vs H Q _ => ∃ (x dd st kt : Addr) (h : HR) (n : Nat) (pd : DR → Nat → Nat) (room : Str) (key : List Int), vs = [.ref x, .ref st] ∧ HouseAt K C H x dd h ∧ SqT K H st [.str room, .ref kt] ∧ FzT H kt (key.map V.int) ∧
  room.length ≤ 1000 ∧ (∀ m ∈ h.watched, m ∈ key) ∧ h.watched.Nodup ∧ h.watched.length ≤ 1000 ∧ (∀ d ∈ h.doors, CutP n (pd d) d ∧ nameB (.str d.name) = true ∧ ∀ a ∈ d.asks, a.1 ∈ h.watched) ∧
  ∀ l ys G, H l = none → Same H G → G l = some (.lst ys) → DdAll K G ys ((stepsOf room key pd h.doors).map stepD) → Q (.ref l) G
theorem both_len : ∀ ds : List DR, (ds.flatMap bothW).length = 2 * ds.length
  | [] => rfl
  | d :: ds => by
    rw [List.flatMap_cons, List.length_append, both_len ds, List.length_cons]
    show 2 + 2 * ds.length = _
    omega
theorem both_mem {ds : List DR} {t : DR × Bool} (h : t ∈ ds.flatMap bothW) : t.1 ∈ ds := by
  obtain ⟨d, hd, m⟩ := List.mem_flatMap.mp h
  have m : t ∈ [(d, false), (d, true)] := m
  simp only [List.mem_cons, List.not_mem_nil, or_false] at m
  rcases m with rfl | rfl <;> exact hd
theorem step_at {K : PySem.W.Frag} {H : Hp} : ∀ {ys : List V} {ts : List (DR × Bool)} {t : DR × Bool} (i : Nat) (x : V), DdAll K H ys (ts.map stepD) → ts[i]? = some t → ys[i]? = some x → ∃ a : Addr, x = .ref a ∧ SqT K H a [.str t.1.name, .str (sd t.2)]
  | [], ts, t, i, x, h, _, e => by cases e
  | y :: ys, [], t, i, x, h, e, _ => by cases e
  | y :: ys, u :: ts, t, 0, x, h, e1, e2 => by
    have h : DdAll K H (y :: ys) (.tuple [.str u.1.name, .str (sd u.2)] :: ts.map stepD) := h
    obtain rfl := Option.some.inj e1
    obtain rfl := Option.some.inj e2
    cases h with
    | cons a b =>
      cases a with
      | tup s d =>
        cases d with
        | cons d1 d2 =>
          cases d2 with
          | cons d2 d3 =>
            cases d1
            cases d2
            cases d3
            exact ⟨_, rfl, s⟩
  | y :: ys, u :: ts, t, i + 1, x, h, e1, e2 => by
    have h : DdAll K H (y :: ys) (stepD u :: ts.map stepD) := h
    cases h with
    | cons a b => exact step_at i x b e1 e2
section
variable {P : Program} {w : World} {K : PySem.W.Frag} {mg : Str → Option Value} {base : Heap} {f C aS : Addr} {fd : FuncData}
end
-- new
/-- a drawn door as it is handed in -/
def ofD (n : Nat) (d : DoorI) (t : Addr) : DI := { name := d.name, one := d.one, other := d.other, cut := (List.range n).map fun k => ((d.cut k : Nat) : Int), asks := d.asks, t := t }
def disOf (n : Nat) (ds : List DoorI) (ts : List Addr) : List DI := List.zipWith (ofD n) ds ts
theorem dis_refs {n : Nat} : ∀ {ds : List DoorI} {ts : List Addr}, ds.length = ts.length → (disOf n ds ts).map (fun i => V.ref i.t) = ts.map V.ref
  | [], [], _ => rfl
  | d :: ds, t :: ts, h => by
    show V.ref t :: (disOf n ds ts).map (fun i => V.ref i.t) = V.ref t :: ts.map V.ref
    rw [dis_refs (by simpa using h)]
theorem dis_names {n : Nat} : ∀ {ds : List DoorI} {ts : List Addr}, ds.length = ts.length → (disOf n ds ts).map (fun i => i.name) = ds.map DoorI.name
  | [], [], _ => rfl
  | d :: ds, t :: ts, h => by
    show d.name :: (disOf n ds ts).map (fun i => i.name) = d.name :: ds.map DoorI.name
    rw [dis_names (by simpa using h)]
def tupO (d : DoorI) : HO := .tup [.str d.name, .str d.one, .str d.other, .ref d.c, .ref d.q]
theorem refs_of {D : Addr} {G : Hp} : ∀ {ys : List V} {ds : List DoorI}, RefsAt D G ys (ds.map tupO) → ∃ ts : List Addr, ys = ts.map V.ref ∧ Paired (fun d t => t ≠ D ∧ G t = some (tupO d)) ds ts
  | [], [], _ => ⟨[], rfl, .nil⟩
  | [], _ :: _, h => by cases h
  | _ :: _, [], h => by cases h
  | y :: ys, d :: ds, h => by
    have h : RefsAt D G (y :: ys) (tupO d :: ds.map tupO) := h
    cases h with
    | cons a b =>
      obtain ⟨t, rfl, n1, ht⟩ := a
      obtain ⟨ts, rfl, p⟩ := refs_of b
      exact ⟨t :: ts, rfl, .cons ⟨n1, ht⟩ p⟩
theorem dis_mem {n : Nat} {F : DoorI → Addr → Prop} : ∀ {ds : List DoorI} {ts : List Addr} {i : DI}, Paired F ds ts → i ∈ disOf n ds ts → ∃ d t, d ∈ ds ∧ F d t ∧ i = ofD n d t
  | _, _, i, .nil, h => absurd h (by simp [disOf])
  | d :: ds, t :: ts, i, .cons a b, h => by
    have h : i ∈ ofD n d t :: disOf n ds ts := h
    rcases List.mem_cons.mp h with e | m
    · exact ⟨d, t, List.mem_cons_self, a, e⟩
    · obtain ⟨d2, t2, h1, h2, h3⟩ := dis_mem b m
      exact ⟨d2, t2, List.mem_cons_of_mem _ h1, h2, h3⟩
theorem cut_arV (n : Nat) (p : Nat → Nat) : ((List.range n).map fun k => ((p k : Nat) : Int)).map V.int = arV p n := by
  unfold arV
  rw [List.map_map]
  rfl
def spMade (K : PySem.W.Frag) (C T : Addr) : Sp := fun vs H Q _ => ∃ (h rl dd wt : Addr) (n R D M : Nat) (rooms : List Str) (ws : List Int) (ds : List DoorI), vs = [.ref h] ∧ HallAt K H h n rl dd wt rooms ws ds ∧ HallD n R D M rooms ws ds ∧ n ≤ 12 ∧ R ≤ 18 ∧ D ≤ 18 ∧ M ≤ 12 ∧ LamX.TabS H T qKept ∧
  ∀ x d2 ts hr G, ds.length = ts.length → HouseAt K C G x d2 hr → HKept n ws rooms (disOf n ds ts) hr → LamX.ExtN H G → LamX.TabS G T qKept → (∀ o, H d2 = some o → ∃ ps, o = .tbl ps) → Q (.ref x) G
abbrev s_law_made : Stmt := top 29
abbrev N_law_made : List Str := ["hall", "doors", "name"]
theorem sc_law_made : FnScope N_law_made ["hall"] (defScope s_law_made) := ⟨rfl, rfl, rfl, by decide +kernel, rfl, by decide +kernel, by decide +kernel⟩
section
variable {P : Program} {w : World} {K : PySem.W.Frag} {mg : Str → Option Value} {base : Heap} {f C T : Addr} {fd : FuncData}
theorem ok_law_made (F : Fun K "_law_made" "_law_made" s_law_made f fd) (B : Bt mg) (M : MkO P w K mg base C 5 "Hall" (spInitH K C T)) : FnG P w K mg base CX0 7 f fd ["hall"] (spMade K C T) := by
  refine fnG0 F sc_law_made (fun vs H Q E h => ?_) (fun cdv A outer s H vs Q E hr hg h => ?_)
  · obtain ⟨h, rl, dd, wt, n, R, D, M, rooms, ws, ds, rfl, _⟩ := h
    rfl
  · obtain ⟨h, rl, dd, wt, n, R, D, M0, rooms, ws, ds, rfl, ha, hd, n12, r18, d18, m12, hT, k⟩ := h
    have nd := sc_law_made.nd
    have hu := hu_of hr
    refine ⟨_, (pss_cons (ps_lock (ps_setLc (i := 1) rfl nd rfl rfl (sw_true rfl rfl rfl (by decide +kernel)) (own := [("name", 2)]) (g := gName 2) (te := tOp (rCatT K) (tTup (tCons (tVar 2) tNil)) (tDGet (tDGet (tVar 0) (tC (.str "doors"))) (tVar 2))) (pi_keys (pe_dget hu (pv 0) pe_str (fun _ _ => rfl))) (blkOk_by (own := [("name", 2)]) (N := N_law_made) (sc := defScope s_law_made) (by decide +kernel)) (fun _ _ _ _ _ => (pg_name (i := 2) nd rfl (Or.inl rfl))) (fun _ _ _ _ _ => pts_nil) (fun _ _ _ _ _ => (pe_op op_catT (pe_tup (pa_cons (pv 2) pa_nil)) (pe_dget hu (pe_dget hu (pv 0) pe_str (fun _ _ => rfl)) (pv 2) (fun _ _ => rfl))))))
      (pss_one (ps_ret (pe_mk M hr (by decide) rfl (pa_cons (pe_dget hu (pv 0) pe_str (fun _ _ => rfl)) (pa_cons (pe_callTy call_list_of (by rfl) B.list b_list (pa_cons (pe_dget hu (pv 0) pe_str (fun _ _ => rfl)) pa_nil)) (pa_cons (pe_callTy call_list_of (by rfl) B.list b_list (pa_cons (pe_dget hu (pv 0) pe_str (fun _ _ => rfl)) pa_nil)) (pa_cons (pv 1) pa_nil)))))))), ?_⟩
    refine ⟨dd, .dK (ds.map DoorI.kv), ha.drs, trivial, fun od => ?_⟩
    have hdd : h ≠ dd := fun z => by
      have e1 := ha.kv
      rw [z, ha.drs] at e1
      have e1 : ds.map DoorI.kv = hallKv n rl dd wt := by
        injection e1 with e1
        injection e1
      cases ds with
      | nil => cases e1
      | cons d ds => 
        injection e1 with e2 _
        have e3 := congrArg Prod.snd e2
        cases e3
    have kb1 : Kb dd H (upd H dd (.frz od (.dK (ds.map DoorI.kv)))) := (Kb.refl dd H).at
    have f1 : (upd H dd (.frz od (.dK (ds.map DoorI.kv)))) dd = some (.frz od (.dK (ds.map DoorI.kv))) := upd_same
    have un : ∀ {G : Hp}, Same (upd H dd (.frz od (.dK (ds.map DoorI.kv)))) G → Same H (upd G dd (.dK (ds.map DoorI.kv))) := fun e => same_unlock ha.drs e
    have kv1 := kb1 _ _ ha.kv hdd
    have dt1 : ∀ d ∈ ds, SqT K (upd H dd (.frz od (.dK (ds.map DoorI.kv)))) d.t [.str d.one, .str d.other, .ref d.c, .ref d.q] := fun d m => sqt_d kb1 ha.drs (ha.all d m).t
    generalize upd H dd (.frz od (.dK (ds.map DoorI.kv))) = H1 at *
    have gdr : ∀ {G : Hp}, Same H1 G → DGet G h (.str "doors") (some (.ref dd)) := fun {G} e => by
      have := DGet.k (k := Sum.inr "doors") (e _ _ kv1)
      rw [hall_doors] at this
      exact this
    have gnm : ∀ {G : Hp} (d : DoorI), Same H1 G → d ∈ ds → DGet G dd (.str d.name) (some (.ref d.t)) := fun {G} d e m => by
      refine .inl ⟨ds.map DoorI.kv, Sum.inr d.name, .inr ⟨od, e _ _ f1⟩, rfl, ?_⟩
      refine (valV_nodup ?_ (List.mem_map.mpr ⟨d, m, rfl⟩)).symm
      rw [List.map_map]
      have : (ds.map DoorI.name).Nodup := hd.dn
      have e2 : (ds.map (Prod.fst ∘ DoorI.kv)) = (ds.map DoorI.name).map Sum.inr := by rw [List.map_map]; rfl
      rw [e2]
      exact List.Pairwise.map _ (fun a b ne e => ne (Sum.inr.inj e)) this
    refine tLc_keys (os := ds.map tupO) f1 (fun Q' q => ⟨_, rfl, h, .ref dd, rfl, gdr (Same.refl H1), q⟩) (by rw [List.length_map, List.length_map]) (by rw [List.length_map]; exact Nat.lt_of_le_of_lt (Nat.le_trans hd.dl d18) (by decide)) (fun i k2 v o hk2 ho G e Q2 q => ?_) fun D0 G ys hD e g1 g2 => ?_
    · rw [List.getElem?_map] at hk2 ho
      obtain ⟨d, hdi, e3⟩ := Option.map_eq_some_iff.mp hk2
      rw [hdi] at ho
      obtain rfl := Option.some.inj ho
      cases e3
      have md := List.mem_of_getElem? hdi
      refine ⟨_, rfl, show 1 ≤ sizeLine by decide, fun p hp => ?_⟩
      have e4 := e.trans (same_new (o := .tup [.str d.name]) hp)
      refine ⟨_, rfl, h, .ref dd, rfl, gdr e4, _, rfl, dd, .ref d.t, rfl, gnm d e4 md, ?_⟩
      refine ⟨p, d.t, _, _, rfl, rfl, SqT.of upd_same, sqt_same e4 (dt1 d md), by simp, show 1 + 4 ≤ sizeLine by decide, (fun z => by cases z), fun _ r hr => ?_⟩
      exact q r _ ((same_new hp).free hr) ((same_new hp).trans (same_new hr)) upd_same
    · have gd : G dd = some (.frz od (.dK (ds.map DoorI.kv))) := e _ _ f1
      refine ⟨gd, ?_⟩
      have e5 := un e
      have Ddd : D0 ≠ dd := fun z => by rw [z, f1] at hD; cases hD
      obtain ⟨ts, rfl, pts⟩ := refs_of g2
      have pts2 : Paired (fun d t => (upd G dd (.dK (ds.map DoorI.kv))) t = some (tupO d)) ds ts := Paired.mapP pts fun d t z => by
        obtain ⟨_, z⟩ := z
        rw [upd_ne]
        · exact z
        · intro q
          rw [q, gd] at z
          cases z
      have gD : (upd G dd (.dK (ds.map DoorI.kv))) D0 = some (.lst (ts.map V.ref)) := by rw [upd_ne Ddd]; exact g1
      dsimp only [tRet]
      generalize upd G dd (.dK (ds.map DoorI.kv)) = G2 at *
      have tl := paired_len pts2
      have ha2 := ha.same e5
      have get : ∀ {J : Hp} {key : Str} {v : V}, Same G2 J → valV (hallKv n rl dd wt) (Sum.inr key : Key) = some v → DGet J h (.str key) (some v) := fun {J key v} e6 e7 => e7 ▸ DGet.k (k := Sum.inr key) (e6 _ _ ha2.kv)
      refine ⟨_, rfl, h, .int n, rfl, get (Same.refl G2) (by unfold hallKv; rw [valV_pos rfl]), ?_⟩
      refine ⟨_, rfl, h, .ref wt, rfl, get (Same.refl G2) hall_watched, wt, _, rfl, .inr ha2.wtc, fun l1 hl1 => ?_⟩
      have e6 : Same G2 (upd G2 l1 (.lst (ws.map V.int))) := same_new hl1
      have g6 : (upd G2 l1 (.lst (ws.map V.int))) l1 = some (.lst (ws.map V.int)) := upd_same
      generalize upd G2 l1 (.lst (ws.map V.int)) = G3 at *
      refine ⟨_, rfl, h, .ref rl, rfl, get e6 hall_rooms, rl, _, rfl, .inl (SqL.of (e6 _ _ ha2.rms)), fun l2 hl2 => ?_⟩
      have e7 : Same G3 (upd G3 l2 (.lst (strV rooms))) := same_new hl2
      have g7 : (upd G3 l2 (.lst (strV rooms))) l2 = some (.lst (strV rooms)) := upd_same
      generalize upd G3 l2 (.lst (strV rooms)) = G4 at *
      refine ⟨_, rfl, fun x dx nx ndx ne => ?_⟩
      have e8 : Same G4 (upd (upd G4 dx (.own x)) x (.ins C dx [])) := same_mut (same_new ndx) nx
      have x8 : (upd (upd G4 dx (.own x)) x (.ins C dx [])) x = some (.ins C dx []) := upd_same
      generalize upd (upd G4 dx (.own x)) x (.ins C dx []) = G5 at *
      have e28 := (e6.trans e7).trans e8
      have eH := e5.trans e28
      have haH := ha.same eH
      refine ⟨x, dx, l1, l2, D0, n, ws, rooms, disOf n ds ts, rfl, x8, .inl (SqL.of (e8 _ _ (e7 _ _ g6))), by have := hd.wl; omega, .inl (SqL.of (e8 _ _ g7)), by have := hd.r2; omega, fun z m => by have := (hd.rn z m).le; omega,
        SqL.of (by rw [dis_refs tl]; exact e28 _ _ gD), fun i m => ?_, by rw [← List.length_map (f := fun i : DI => i.name), dis_names tl, List.length_map]; have := hd.dl; omega, by rw [dis_names tl]; exact hd.dn, hT.ext eH, fun d2 hr2 G6 hA hK ext T6 fr => ?_⟩
      · obtain ⟨d, t, md, ht, rfl⟩ := dis_mem pts2 m
        have dat := haH.all d md
        obtain ⟨nm, n1, n2, _, sub, _⟩ := hd.nm d md
        have al : d.asks.length ≤ 12 := by
          have := sub.length_le
          rw [List.length_map] at this
          have := hd.wl
          omega
        refine ⟨⟨d.c, d.q, d.ts, SqT.of (e28 _ _ ht), .inr ?_, .inr dat.q, dat.ps⟩, by have := nm.le; show d.name.length ≤ 1000; omega, by have := (hd.rn _ n1).le; show d.one.length ≤ 1000; omega, by have := (hd.rn _ n2).le; show d.other.length ≤ 1000; omega, ?_, by show d.asks.length ≤ 100; omega⟩
        · show SqT K G5 d.c (((List.range n).map fun k => ((d.cut k : Nat) : Int)).map V.int)
          rw [cut_arV]
          exact dat.c
        · show ((List.range n).map fun k => ((d.cut k : Nat) : Int)).length ≤ 100
          rw [List.length_map, List.length_range]
          omega
      · have xH : H x = none := ((e5.trans e6).trans e7).free nx
        exact ⟨rfl, k x d2 ts hr2 G6 tl hA hK (fun b o h1 h2 => ext b o (eH _ _ h1) (fun z => by rw [z, xH] at h1; cases h1) h2) T6 fun o ho => fr o (eH _ _ ho)⟩
end
-- new
def spStand (K : PySem.W.Frag) : Sp := fun vs H Q _ => ∃ (i : PenI) (B : Nat) (h rl dd wt : Addr) (n : Nat) (rooms : List Str) (ws : List Int) (ds : List DoorI), vs = [.ref i.p, .ref h] ∧ Pen H i B ∧ B < 2 ^ 40 ∧ HallAt K H h n rl dd wt rooms ws ds ∧ rooms ≠ [] ∧ rooms.length ≤ 18 ∧ n ≤ 12 ∧ h ≠ i.p ∧ rl ≠ i.p ∧ dd ≠ i.p ∧
  ∀ (st kt : Addr) (room : Str) (key : List Int) (G : Hp), room ∈ rooms → key.Perm (places n) → FzT G kt (key.map V.int) → G st = some (.tup [.str room, .ref kt]) → Kb i.p H G → Pen G i (B + 1000) → Q (.ref st) G
abbrev s_law_stand : Stmt := top 30
abbrev N_law_stand : List Str := ["pen", "hall"]
theorem sc_law_stand : FnScope N_law_stand ["pen", "hall"] (defScope s_law_stand) := ⟨rfl, rfl, rfl, by decide +kernel, rfl, by decide +kernel, by decide +kernel⟩
theorem hallKv_places {n : Nat} {rl dd wt : Addr} : valV (hallKv n rl dd wt) (Sum.inr "places" : Key) = some (.int (n : Int)) := by
  unfold hallKv
  rw [valV_pos rfl]
theorem HallAt.get {K : PySem.W.Frag} {H : Hp} {h : Addr} {n : Nat} {rl dd wt : Addr} {rooms : List Str} {ws : List Int} {ds : List DoorI} (x : HallAt K H h n rl dd wt rooms ws ds) {key : Str} {v : V} (e : valV (hallKv n rl dd wt) (Sum.inr key : Key) = some v) : DGet H h (.str key) (some v) := e ▸ DGet.k (k := Sum.inr key) x.kv
/-- the split, as the law takes it -/
def spSplitL (K : PySem.W.Frag) : Sp := fun vs H Q _ => ∃ (h rl dd wt st kt : Addr) (n : Nat) (rooms : List Str) (ws : List Int) (ds : List DoorI) (room : Str) (key : List Int), vs = [.ref h, .ref st] ∧ HallAt K H h n rl dd wt rooms ws ds ∧ SqT K H st [.str room, .ref kt] ∧ FzT H kt (key.map V.int) ∧
  (∀ m ∈ ws, m ∈ key) ∧ ws.length ≤ 1000 ∧ ∀ t pt G, Same H G → G t = some (.tup [.str room, .ref pt]) → G pt = some (.tup (ws.map fun m => V.int (posOf key m))) → Q (.ref t) G
abbrev s_law_split : Stmt := top 31
abbrev N_law_split : List Str := ["hall", "stand", "mark"]
theorem sc_law_split : FnScope N_law_split ["hall", "stand"] (defScope s_law_split) := ⟨rfl, rfl, rfl, by decide +kernel, rfl, by decide +kernel, by decide +kernel⟩
section
variable {P : Program} {w : World} {K : PySem.W.Frag} {mg : Str → Option Value} {base : Heap} {f : Addr} {fd : FuncData}
theorem ok_law_stand (F : Fun K "_law_stand" "_law_stand" s_law_stand f fd) (T : Bt mg) (C_law_pick : Cg P w K mg base 2 "_law_pick" (spPickA K)) (C_law_shuffled : Cg P w K mg base 2 "_law_shuffled" (spShuf K)) :
    FnG P w K mg base CX0 3 f fd ["pen", "hall"] (spStand K) := by
  refine fnG0 F sc_law_stand (fun vs H Q E h => ?_) (fun cdv A outer s H vs Q E hr hg h => ?_)
  · obtain ⟨i, B, h, rl, dd, wt, n, rooms, ws, ds, rfl, _⟩ := h
    rfl
  · obtain ⟨i, B, h, rl, dd, wt, n, rooms, ws, ds, rfl, pn, hB, ha, rne, r18, n12, n1, n2, n3, k⟩ := h
    have nd := sc_law_stand.nd
    have hu := hu_of hr
    refine ⟨_, (pss_one (ps_ret (pe_tup (pa_cons (pe_g C_law_pick hr hg (by decide) rfl (pa_cons (pv 0) (pa_cons (pe_dget hu (pv 1) pe_str (fun _ _ => rfl)) pa_nil))) (pa_cons (pe_callTy call_tuple_frz (by rfl) T.tuple b_tuple (pa_cons (pe_g C_law_shuffled hr hg (by decide) rfl (pa_cons (pv 0) (pa_cons (pe_listRg rfl (by rfl) T.list (prg_1 (by rfl) T.range (pe_dget hu (pv 1) pe_str (fun _ _ => rfl)))) pa_nil))) pa_nil)) pa_nil))))), ?_⟩
    have r0 : 0 < rooms.length := List.length_pos_iff.mpr rne
    have sl : (strV rooms).length = rooms.length := by
      unfold strV
      rw [List.length_map]
    refine ⟨_, rfl, _, rfl, h, _, rfl, ha.get hall_rooms, .inl ⟨i, _, rl, _, rfl, pn, by omega, .inl (SqL.of ha.rms), by rw [sl]; exact r0, by rw [sl]; omega, fun x1 K1 hx1 kb1 pn1 => ?_⟩⟩
    obtain ⟨room, hroom, rfl⟩ := List.mem_map.mp hx1
    have ha1 := ha.kb kb1 pn.o n1 n2 n3
    refine ⟨_, rfl, _, rfl, h, _, rfl, ha1.get hallKv_places, _, rfl, RgOk.of_le (by decide) (by omega) (by decide) (by omega), fun l0 hl0 => ?_⟩
    rw [rg_places]
    have m0 := pn1.ne hl0
    have q0 := kb1.mut (o := .lst ((places n).map V.int)) (kb1.free m0.1 hl0)
    refine ⟨i, _, l0, _, rfl, pn1.upd m0, by omega, .inl (SqL.of upd_same), by rw [List.length_map, places_len]; omega, fun o ys G7 pm ho kb7 pn7 h7 => ?_⟩
    rw [List.length_map, places_len] at pn7
    obtain ⟨ks, rfl, pk⟩ := perm_ints pm
    have q7 := q0.trans kb7
    refine ⟨o, _, rfl, SqL.of h7, fun kt ob hkt oc od => ⟨show 2 ≤ sizeLine by decide, fun st hst => ?_⟩⟩
    have m8 := pn7.ne hkt
    have q8 := q7.mut (o := .frz ob (.tup (ks.map V.int))) (q7.free m8.1 hkt)
    have p8 := pn7.upd (o := .frz ob (.tup (ks.map V.int))) m8
    have m9 := p8.ne hst
    have q9 := q8.mut (o := .tup [.str room, .ref kt]) (q8.free m9.1 hst)
    have p9 := p8.upd (o := .tup [.str room, .ref kt]) m9
    refine k st kt room ks _ hroom pk ⟨ob, ?_, oc, od⟩ upd_same q9 (p9.mono (by omega))
    rw [upd_ne]
    · exact upd_same
    · intro z
      rw [z, upd_same] at hst
      cases hst
theorem ok_law_split (F : Fun K "_law_split" "_law_split" s_law_split f fd) (T : Bt mg) : FnG P w K mg base CX0 1 f fd ["hall", "stand"] (spSplitL K) := by
  refine fnG0 F sc_law_split (fun vs H Q E h => ?_) (fun cdv A outer s H vs Q E hr hg h => ?_)
  · obtain ⟨h, rl, dd, wt, st, kt, n, rooms, ws, ds, room, key, rfl, _⟩ := h
    rfl
  · obtain ⟨h, rl, dd, wt, st, kt, n, rooms, ws, ds, room, key, rfl, ha, hst, hkt, hmk, wl, k⟩ := h
    have nd := sc_law_split.nd
    have hu := hu_of hr
    refine ⟨_, (pss_one (ps_ret (pe_tup (pa_cons (pe_ix ix_tup (pv 1) pe_int (fun _ _ => rfl)) (pa_cons (pe_callTy call_tuple_of (by rfl) T.tuple b_tuple (pa_cons (pe_lc (own := [("mark", 2)]) (g := gName 2) rfl nd (pi_tup (pe_dget hu (pv 0) pe_str (fun _ _ => rfl))) (blkOk_by (own := [("mark", 2)]) (N := N_law_split) (sc := defScope s_law_split) (by decide +kernel)) (fun _ _ _ _ _ => (pg_name (i := 2) nd rfl (Or.inl rfl))) (fun _ _ _ _ _ => pts_nil) (te := tBT (rIdxT K) (tOp (rIxT K) (tVar 1) (tC (.int 1))) (tCons (tVar 2) tNil)) (fun _ _ _ _ _ => (pe_bt PySem.F.slot_tuple_index PySem.F.type_tuple_index mt_idxT (pe_ix (r := rIxT K) ix_tup (pv 1) pe_int (fun _ _ => rfl)) (pa_cons (pv 2) pa_nil)))) pa_nil)) pa_nil))))), ?_⟩
    refine ⟨_, rfl, st, _, 0, _, rfl, rfl, hst, rfl, ?_⟩
    refine ⟨_, rfl, h, _, rfl, ha.get hall_watched, wt, rfl, ⟨_, ha.wtc⟩, fun D hD => ?_⟩
    refine comp_tup (K := K) (ys := ws.map fun m => V.int (posOf key m)) hD ha.wtc (by rw [List.length_map, List.length_map]) (by rw [List.length_map]; exact Nat.lt_of_le_of_lt wl (by decide)) (fun i y z hy hz G e Q q => ?_) fun G e g => ?_
    · rw [List.getElem?_map] at hy hz
      obtain ⟨m, hm1, rfl⟩ := Option.map_eq_some_iff.mp hy
      rw [hm1] at hz
      obtain rfl := Option.some.inj hz
      obtain ⟨f1, f2⟩ := idx_first (hmk m (List.mem_of_getElem? hm1))
      exact ⟨_, rfl, st, _, 1, _, rfl, rfl, sqt_same e hst, rfl, ⟨kt, _, rfl, hkt.same e⟩, _, rfl, kt, _, .int m, key.idxOf m, .int m, rfl, rfl, (hkt.same e).sqt, rfl, ints_flat key, f1, beq_self_eq_true m, f2, q G (Same.refl G)⟩
    · refine ⟨D, _, rfl, .inl ⟨SqL.of g, fun pt hpt => ⟨show 2 ≤ sizeLine by decide, fun t ht => ?_⟩⟩⟩
      refine k t pt _ ((e.trans (same_new hpt)).trans (same_new ht)) upd_same ?_
      rw [upd_ne]
      · exact upd_same
      · intro z
        rw [z, upd_same] at ht
        cases ht
end
abbrev s_is_whole : Stmt := top 3
abbrev N_is_whole : List Str := ["thing"]
theorem sc_is_whole : FnScope N_is_whole ["thing"] (defScope s_is_whole) := ⟨rfl, rfl, rfl, by decide +kernel, rfl, by decide +kernel, by decide +kernel⟩
abbrev s_is_pick : Stmt := top 4
abbrev N_is_pick : List Str := ["thing", "many", "bound", "number"]
theorem sc_is_pick : FnScope N_is_pick ["thing", "many", "bound"] (defScope s_is_pick) := ⟨rfl, rfl, rfl, by decide +kernel, rfl, by decide +kernel, by decide +kernel⟩

def isWhole : PyData → Bool
  | .int _ => true
  | _ => false
def wholeOf : PyData → Int
  | .int i => i
  | _ => 0
def spWhole (K : PySem.W.Frag) : Sp := fun vs H Q _ => ∃ (x : V) (d : PyData), vs = [x] ∧ Dd K H x d ∧ Q (.bl (isWhole d)) H
/-- whether d is a tuple of so many unlike whole numbers below the bound -/
def inB (b : Int) (d : PyData) : Bool := isWhole d && decide (0 ≤ wholeOf d) && decide (wholeOf d < b)
def isPick (m b : Int) : PyData → Bool
  | .tuple ds => decide ((ds.length : Int) = m) && ds.all (inB b) && decide (ds.map wholeOf).Nodup
  | _ => false
theorem inB_int {b v : Int} : inB b (.int v) = (decide (0 ≤ v) && decide (v < b)) := by
  show (true && decide (0 ≤ v) && decide (v < b)) = _
  rw [Bool.true_and]
theorem ints_of {K : PySem.W.Frag} {H : Hp} : ∀ {xs : List V} {ds : List PyData}, DdAll K H xs ds → (∀ d ∈ ds, isWhole d = true) → xs = (ds.map wholeOf).map V.int
  | _, _, .nil, _ => rfl
  | _, _, .cons h t, a => by
    have h2 := ints_of t fun d hd => a d (List.mem_cons_of_mem _ hd)
    have h1 := a _ List.mem_cons_self
    cases h with
    | int v => rw [List.map_cons, List.map_cons, ← h2]; rfl
    | _ => simp [isWhole] at h1
theorem shorter : ∀ ns : List Int, ¬ ns.Nodup → ∃ ps : List Int, ps.length + 1 ≤ ns.length ∧ ∀ k ∈ ns, k ∈ ps
  | [], h => absurd List.nodup_nil h
  | n :: ns, h => by
    by_cases e : n ∈ ns
    · refine ⟨ns, Nat.le_refl _, fun k hk => ?_⟩
      rcases List.mem_cons.mp hk with rfl | hk
      · exact e
      · exact hk
    · have h2 : ¬ ns.Nodup := fun q => h (List.nodup_cons.mpr ⟨e, q⟩)
      obtain ⟨ps, h3, h4⟩ := shorter ns h2
      refine ⟨n :: ps, by simp only [List.length_cons]; omega, fun k hk => ?_⟩
      rcases List.mem_cons.mp hk with rfl | hk
      · exact List.mem_cons_self
      · exact List.mem_cons_of_mem _ (h4 k hk)
theorem nodup_iff {ms ns : List Int} {m : Int} (hn : ms.Nodup) (h : ∀ k, k ∈ ms ↔ k ∈ ns) (hl : (ns.length : Int) = m) : ns.Nodup ↔ (ms.length : Int) = m := by
  subst hl
  constructor
  · intro h2
    exact congrArg Int.ofNat ((List.perm_ext_iff_of_nodup hn h2).mpr h).length_eq
  · intro e
    refine Decidable.byContradiction fun q => ?_
    obtain ⟨ps, h3, h4⟩ := shorter ns q
    have := hn.length_le_of_subset (fun k hk => h4 k ((h k).mp hk))
    omega
def spPickP (K : PySem.W.Frag) : Sp := fun vs H Q _ => ∃ (x : V) (d : PyData) (m b : Int), vs = [x, .int m, .int b] ∧ Dd K H x d ∧ m ≤ 1000 ∧ ∀ H', Same H H' → Q (.bl (isPick m b d)) H'
section
variable {P : Program} {w : World} {K : PySem.W.Frag} {mg : Str → Option Value} {base : Heap} {f : Addr} {fd : FuncData}
theorem ok_is_whole (F : Fun K "is_whole" "is_whole" s_is_whole f fd) (T : Bt mg) : FnG P w K mg base CX0 1 f fd ["thing"] (spWhole K) := by
  refine fnG0 F sc_is_whole (fun vs H Q E h => ?_) (fun cdv A outer s H vs Q E hr hg h => ?_)
  · obtain ⟨x, d, rfl, _⟩ := h
    rfl
  · obtain ⟨x, d, rfl, hx, k⟩ := h
    refine ⟨_, (pss_one (ps_ret (pe_and (pe_callB cr_isD (by rfl) T.isinstance (by decide +kernel) (pa_cons (pv 0) (pa_cons (pe_tint (by rfl) T.int) pa_nil))) (pe_one (pe_not (pe_callB cr_isD (by rfl) T.isinstance (by decide +kernel) (pa_cons (pv 0) (pa_cons (pe_tbool (by rfl) T.bool) pa_nil)))))))), ?_⟩
    cases hx with
    | int y => exact ⟨_, rfl, .int y, .int y, "int", rfl, .int y, by decide, true, rfl, ⟨_, rfl, .int y, .int y, "bool", rfl, .int y, by decide, false, rfl, k⟩⟩
    | bl y => exact ⟨_, rfl, .bl y, .bool y, "int", rfl, .bl y, by decide, true, rfl, ⟨_, rfl, .bl y, .bool y, "bool", rfl, .bl y, by decide, true, rfl, k⟩⟩
    | non => exact ⟨_, rfl, .non, .none, "int", rfl, .non, by decide, false, rfl, k⟩
    | str y => exact ⟨_, rfl, .str y, .str y, "int", rfl, .str y, by decide, false, rfl, k⟩
    | lst h1 h2 => exact ⟨_, rfl, _, _, "int", rfl, .lst h1 h2, by decide, false, rfl, k⟩
    | tup h1 h2 => exact ⟨_, rfl, _, _, "int", rfl, .tup h1 h2, by decide, false, rfl, k⟩
    | dct h1 h0 h2 => exact ⟨_, rfl, _, _, "int", rfl, .dct h1 h0 h2, by decide, false, rfl, k⟩
theorem ok_is_pick (F : Fun K "is_pick" "is_pick" s_is_pick f fd) (T : Bt mg) (C1 : Cg P w K mg base 1 "is_whole" (spWhole K)) : FnG P w K mg base CX0 2 f fd ["thing", "many", "bound"] (spPickP K) := by
  refine fnG0 F sc_is_pick (fun vs H Q E h => ?_) (fun cdv A outer s H vs Q E hr hg h => ?_)
  · obtain ⟨x, d, m, b, rfl, _⟩ := h
    rfl
  · obtain ⟨x, d, m, b, rfl, hx, hm, k⟩ := h
    have nd := sc_is_pick.nd
    refine ⟨_, (pss_cons (ps_if (PW.pt (pw_or (pt_not (pt_val (pe_callB cr_isD (by rfl) T.isinstance b_isinstance (pa_cons (pv 0) (pa_cons (pe_ttuple (by rfl) T.tuple) pa_nil))))) (pw_or1 (pt_cmpR op_ne (pe_callB call_len_seq (by rfl) T.len b_len (pa_cons (pv 0) pa_nil)) (pv 1) (nomark _)))))
        (pss_one (ps_ret pe_bl))
        pss_nil)
      (pss_cons (ps_if (pt_not (pt_val (pe_callB (cr_all rfl) (by rfl) T.all b_all (pa_cons (pe_lc (own := [("number", 3)]) (g := gName 3) rfl nd (pi_tup (pv 0)) (blkOk_by (own := [("number", 3)]) (N := N_is_pick) (sc := defScope s_is_pick) (by decide +kernel)) (fun _ _ _ _ _ => (pg_name (i := 3) nd rfl (Or.inl rfl))) (fun _ _ _ _ _ => pts_nil) (fun _ _ _ _ _ => (pe_and (pe_g C1 hr hg (by decide) rfl (pa_cons (pv 3) pa_nil)) (pe_one (pe_chain op_le op_lt pe_int (pv 3) (pv 2)))))) pa_nil))))
        (pss_one (ps_ret pe_bl))
        pss_nil)
      (pss_one (ps_ret (pe_cmpR op_eq (pe_callB cr_lenSet (by rfl) T.len b_len (pa_cons (pe_callTy (cr_setTI rfl) (by rfl) T.set b_set (pa_cons (pv 0) pa_nil)) pa_nil)) (pv 1) (nomark _)))))), ?_⟩
    · cases hx with
      | @tup a xs ds h1 h2 =>
        have hlen := h2.length
        refine ⟨_, rfl, .ref a, .tuple ds, "tuple", rfl, .tup h1 h2, by decide, true, rfl, ?_⟩
        refine iteF ?_
        refine ⟨_, rfl, a, xs, rfl, .inr h1, _, rfl, rfl, _, rfl, ?_⟩
        by_cases e : (ds.length : Int) = m
        · rw [show (!decide (V.int (xs.length : Int) = V.int m)) = false by simp [hlen, e]]
          refine iteF ?_
          -- all([..])
          refine ⟨_, rfl, a, rfl, ⟨_, h1⟩, fun D hD => ?_⟩
          refine comp_tup (K := K) (ys := ds.map fun d => V.bl (inB b d)) hD h1 (by rw [List.length_map, hlen]) (Nat.lt_of_le_of_lt (by omega : xs.length ≤ 1000) (by decide)) (fun i x y hi hy G e1 q hq => ?_) fun G e1 hG => ?_
          · obtain ⟨d, h3, h4⟩ := h2.get hi
            rw [List.getElem?_map, h3] at hy
            obtain rfl : V.bl (inB b d) = y := Option.some.inj hy
            have hq := hq G (Same.refl G)
            refine ⟨_, rfl, x, d, rfl, h4.same e1, _, rfl, ?_⟩
            cases h4 with
            | int v =>
              refine iteT ?_
              refine ⟨_, rfl, _, _, rfl, rfl, _, rfl, ?_⟩
              by_cases h5 : 0 ≤ v
              · rw [decide_eq_true h5]
                refine ⟨_, rfl, _, _, rfl, rfl, ?_⟩
                rw [inB_int, decide_eq_true h5, Bool.true_and] at hq
                exact hq
              · rw [decide_eq_false h5]
                rw [inB_int, decide_eq_false h5, Bool.false_and] at hq
                exact hq
            | _ => exact hq
          · refine ⟨D, ds.map (inB b), rfl, SqL.of (by rw [hG, List.map_map]; rfl), _, rfl, ?_⟩
            rw [show (ds.map (inB b)).all id = ds.all (inB b) by rw [List.all_map]; rfl]
            cases e2 : ds.all (inB b) with
            | false =>
              rw [show isPick m b (.tuple ds) = false by simp only [isPick, e2, Bool.and_false, Bool.false_and]] at k
              exact k G e1
            | true =>
              refine iteF ?_
              have hi : xs = (ds.map wholeOf).map V.int := by
                refine ints_of h2 fun d hd => ?_
                have := List.all_eq_true.mp e2 d hd
                simp only [inB, Bool.and_eq_true] at this
                exact this.1.1
              rw [hi] at h1
              refine ⟨_, rfl, a, _, rfl, sqt_same e1 h1, by rw [List.length_map]; omega, fun p ms hn hm2 hp => ?_⟩
              refine ⟨p, _, ms.length, rfl, upd_same, _, rfl, rfl, ?_⟩
              have e3 : isPick m b (.tuple ds) = decide (V.int (ms.length : Int) = V.int m) := by
                simp only [isPick, e2, e, decide_true, Bool.true_and]
                rw [Bool.eq_iff_iff, decide_eq_true_eq, decide_eq_true_eq, V.int.injEq]
                exact nodup_iff hn hm2 (by rw [List.length_map, e])
              rw [← e3]
              exact k _ (same_mut e1 (e1.free hp))
        · rw [show (!decide (V.int (xs.length : Int) = V.int m)) = true by simp [hlen, e]]
          refine iteT ?_
          rw [show isPick m b (.tuple ds) = false by simp [isPick, e]] at k
          exact k H (Same.refl H)
      | non => exact ⟨_, rfl, .non, .none, "tuple", rfl, .non, by decide, false, rfl, k H (Same.refl H)⟩
      | bl y => exact ⟨_, rfl, .bl y, .bool y, "tuple", rfl, .bl y, by decide, false, rfl, k H (Same.refl H)⟩
      | int y => exact ⟨_, rfl, .int y, .int y, "tuple", rfl, .int y, by decide, false, rfl, k H (Same.refl H)⟩
      | str y => exact ⟨_, rfl, .str y, .str y, "tuple", rfl, .str y, by decide, false, rfl, k H (Same.refl H)⟩
      | lst h1 h2 => exact ⟨_, rfl, _, _, "tuple", rfl, .lst h1 h2, by decide, false, rfl, k H (Same.refl H)⟩
      | dct h1 h0 h2 => exact ⟨_, rfl, _, _, "tuple", rfl, .dct h1 h0 h2, by decide, false, rfl, k H (Same.refl H)⟩
end
-- new
theorem whole_kinds (d : PyData) : isWhole d = (isKind "int" d && !isKind "bool" d) := by
  cases d <;> rfl
theorem keptV_all : ∀ (ys : List V) (bs : List Bool), bs.length = ys.length → ((keptV ys bs).isEmpty = true ↔ bs.all (!·) = true)
  | [], [], _ => by simp [keptV]
  | [], _ :: _, h => by simp at h
  | _ :: _, [], h => by simp at h
  | y :: ys, b :: bs, h => by
    have ih := keptV_all ys bs (by simpa using h)
    unfold keptV at ih ⊢
    cases b with
    | true => simp
    | false => simpa using ih
theorem places_nodup (n : Nat) : (places n).Nodup := by
  unfold places List.Nodup
  rw [List.pairwise_map]
  exact List.nodup_range.imp fun h e => h (by omega)
theorem perm_places {ns : List Int} {n : Nat} (hl : ns.length = n) (h1 : ns.Nodup) (h2 : ∀ k ∈ ns, 0 ≤ k ∧ k < (n : Int)) : ns.Perm (places n) := by
  have np := places_nodup n
  have sub : ∀ k ∈ ns, k ∈ places n := fun k hk => by
    obtain ⟨a, b⟩ := h2 k hk
    unfold places
    exact List.mem_map.mpr ⟨k.toNat, List.mem_range.mpr (by omega), by omega⟩
  have back : ∀ k ∈ places n, k ∈ ns := fun k hk => by
    refine Decidable.byContradiction fun q => ?_
    have h3 : (k :: ns).Nodup := List.nodup_cons.mpr ⟨q, h1⟩
    have h4 := h3.length_le_of_subset (l₂ := places n) fun j hj => by
      rcases List.mem_cons.mp hj with rfl | hj
      · exact hk
      · exact sub j hj
    rw [places_len, List.length_cons] at h4
    omega
  exact (List.perm_ext_iff_of_nodup h1 np).mpr fun k => ⟨sub k, back k⟩
theorem places_up (n : Nat) : (places n).Pairwise (· ≤ ·) := by
  unfold places
  rw [List.pairwise_map]
  exact List.pairwise_le_range.imp fun h => by omega
theorem places_mem {n : Nat} {k : Int} (h : k ∈ places n) : 0 ≤ k ∧ k < (n : Int) := by
  obtain ⟨j, h1, rfl⟩ := List.mem_map.mp h
  have := List.mem_range.mp h1
  omega
/-- the sorted numbers are all places just where these are an arrangement's -/
theorem sorted_places {ns ms : List Int} {n : Nat} (hl : ns.length = n) (hp : ms.Perm ns) (hs : ms.Pairwise (· ≤ ·)) : ms = places n ↔ (∀ k ∈ ns, 0 ≤ k ∧ k < (n : Int)) ∧ ns.Nodup := by
  constructor
  · intro e
    subst e
    exact ⟨fun k hk => places_mem (hp.mem_iff.mpr hk), hp.nodup_iff.mp (places_nodup n)⟩
  · rintro ⟨h1, h2⟩
    exact List.Perm.eq_of_pairwise (fun a b _ _ h3 h4 => by omega) hs (places_up n) (hp.trans (perm_places hl h2 h1))
abbrev s_is_arrangement : Stmt := top 8
abbrev N_is_arrangement : List Str := ["places", "thing"]
theorem sc_is_arrangement : FnScope N_is_arrangement ["places", "thing"] (defScope s_is_arrangement) := ⟨rfl, rfl, rfl, by decide +kernel, rfl, by decide +kernel, by decide +kernel⟩
abbrev s_law_is_arrangement : Stmt := top 34
abbrev N_law_is_arrangement : List Str := ["places", "thing", "one"]
theorem sc_law_is_arrangement : FnScope N_law_is_arrangement ["places", "thing"] (defScope s_law_is_arrangement) := ⟨rfl, rfl, rfl, by decide +kernel, rfl, by decide +kernel, by decide +kernel⟩
/-- whether data is an arrangement -/
def spIsArr (K : PySem.W.Frag) : Sp := fun vs H Q _ => ∃ (x : V) (d : PyData) (n : Nat), vs = [.int (n : Int), x] ∧ Dd K H x d ∧ n ≤ 1000 ∧ ∀ H', Same H H' → Q (.bl (isPick n n d)) H'
section
variable {P : Program} {w : World} {K : PySem.W.Frag} {mg : Str → Option Value} {base : Heap} {f : Addr} {fd : FuncData}
theorem ok_is_arrangement (F : Fun K "is_arrangement" "is_arrangement" s_is_arrangement f fd) (C1 : Cg P w K mg base 2 "is_pick" (spPickP K)) : FnG P w K mg base CX0 3 f fd ["places", "thing"] (spIsArr K) := by
  refine fnG0 F sc_is_arrangement (fun vs H Q E h => ?_) (fun cdv A outer s H vs Q E hr hg h => ?_)
  · obtain ⟨x, d, n, rfl, _⟩ := h
    rfl
  · obtain ⟨x, d, n, rfl, hx, hn, k⟩ := h
    refine ⟨_, (pss_one (ps_ret (pe_g C1 hr hg (by decide) rfl (pa_cons (pv 1) (pa_cons (pv 0) (pa_cons (pv 0) pa_nil)))))), ?_⟩
    exact ⟨_, rfl, _, rfl, _, rfl, x, d, n, n, rfl, hx, by omega, k⟩
theorem ok_law_is_arrangement (F : Fun K "_law_is_arrangement" "_law_is_arrangement" s_law_is_arrangement f fd) (T : Bt mg) : FnG P w K mg base CX0 1 f fd ["places", "thing"] (spIsArr K) := by
  refine fnG0 F sc_law_is_arrangement (fun vs H Q E h => ?_) (fun cdv A outer s H vs Q E hr hg h => ?_)
  · obtain ⟨x, d, n, rfl, _⟩ := h
    rfl
  · obtain ⟨x, d, n, rfl, hx, hn, k⟩ := h
    have nd := sc_law_is_arrangement.nd
    have hu0 : (A.deeper (envOfC "_law_is_arrangement" (defScope s_law_is_arrangement) s.heap.objs.size f cdv)).units < cLine := Nat.lt_of_succ_lt (hu_of hr)
    have hu64 : (A.deeper (envOfC "_law_is_arrangement" (defScope s_law_is_arrangement) s.heap.objs.size f cdv)).units + 64 < cLine := hr.units
    refine ⟨_, (pss_cons (ps_if (PW.pt (pw_or (pt_not (pt_val (pe_callB (r := rIsD K) cr_isD (by rfl) T.isinstance b_isinstance (pa_cons (pv 1) (pa_cons (pe_ttuple (by rfl) T.tuple) pa_nil))))) (pw_or1 (pt_cmpR op_ne (pe_callB call_len_seq (by rfl) T.len b_len (pa_cons (pv 1) pa_nil)) (pv 0) (nomark _)))))
        (pss_one (ps_ret pe_bl))
        pss_nil)
      (pss_cons (ps_if (pt_cmpR (op_neNil hu0) (pe_lc (own := [("one", 2)]) (g := gName 2) rfl nd (pi_tup (pv 1)) (blkOk_by (own := [("one", 2)]) (N := N_law_is_arrangement) (sc := defScope s_law_is_arrangement) (by decide +kernel)) (fun _ _ _ _ _ => (pg_name (i := 2) nd rfl (Or.inl rfl))) (fun _ _ _ _ _ => (pts_one (PW.pt (pw_or (pt_not (pt_val (pe_callB (r := rIsD K) cr_isD (by rfl) T.isinstance b_isinstance (pa_cons (pv 2) (pa_cons (pe_tint (by rfl) T.int) pa_nil))))) (pw_or1 (pt_val (pe_callB (r := rIsD K) cr_isD (by rfl) T.isinstance b_isinstance (pa_cons (pv 2) (pa_cons (pe_tbool (by rfl) T.bool) pa_nil))))))))) (fun _ _ _ _ _ => (pv 2))) (pe_lst pa_nil) (nomark _))
        (pss_one (ps_ret pe_bl))
        pss_nil)
      (pss_one (ps_ret (pe_cmpR (op_eqD hu64) (pe_callB cr_sortTI (by rfl) T.sorted b_sorted (pa_cons (pv 1) pa_nil)) (pe_listRg rfl (by rfl) T.list (prg_1 (by rfl) T.range (pv 0))) (nomark _)))))), ?_⟩
    cases hx with
    | @tup a xs ds h1 h2 =>
      have hlen := h2.length
      refine ⟨_, rfl, .ref a, .tuple ds, "tuple", rfl, .tup h1 h2, by decide, true, rfl, ?_⟩
      refine iteF ?_
      refine ⟨_, rfl, a, xs, rfl, .inr h1, _, rfl, rfl, _, rfl, ?_⟩
      by_cases e : ds.length = n
      · rw [show (!decide (V.int (xs.length : Int) = V.int n)) = false by simp [hlen, e]]
        refine iteF ?_
        refine ⟨_, rfl, a, rfl, ⟨_, h1⟩, fun D hD => ?_⟩
        refine comp_tupT (K := K) (ys := xs) (bs := ds.map fun d => !isWhole d) hD h1 rfl (by rw [List.length_map, hlen]) (Nat.lt_of_le_of_lt (by omega : xs.length ≤ 1000) (by decide)) (fun i x b hi hb G e1 q hq => ?_) (fun i x y hi hy G e1 q hq => ?_) fun G e1 hG => ?_
        · obtain ⟨d, h3, h4⟩ := h2.get hi
          rw [List.getElem?_map, h3] at hb
          obtain rfl : (!isWhole d) = b := Option.some.inj hb
          rw [whole_kinds] at hq
          have hq := hq G (Same.refl G)
          have h5 := h4.same e1
          refine ⟨_, rfl, x, d, "int", rfl, h5, by decide, _, rfl, ?_⟩
          cases hk : isKind "int" d with
          | false =>
            rw [hk] at hq
            exact hq
          | true =>
            rw [hk] at hq
            refine iteF ?_
            refine ⟨_, rfl, x, d, "bool", rfl, h5, by decide, _, rfl, ?_⟩
            rw [Bool.true_and, Bool.not_not] at hq
            exact hq
        · rw [hi] at hy
          cases hy
          exact ⟨_, rfl, hq G (Same.refl G)⟩
        · refine ⟨by decide, fun z hz => ⟨D, z, _, rfl, rfl, .inl ⟨SqL.of (by rw [upd_ne (ne_of_none hG hz)]; exact hG), SqL.of upd_same⟩, _, rfl, ?_⟩⟩
          have e2 : Same H (upd G z (.lst [])) := same_mut e1 (e1.free hz)
          have ka := keptV_all xs (ds.map fun d => !isWhole d) (by rw [List.length_map, hlen])
          by_cases hw : ds.all isWhole = true
          · have h3 : (keptV xs (ds.map fun d => !isWhole d)).isEmpty = true := ka.mpr (by rw [List.all_map]; simpa [Function.comp_def] using hw)
            rw [h3]
            refine iteF ?_
            have all : ∀ d ∈ ds, isWhole d = true := fun d hd => List.all_eq_true.mp hw d hd
            rw [ints_of h2 all] at h1
            refine ⟨_, rfl, a, _, rfl, sqt_same e2 h1, fun ms p pm up hp => ?_⟩
            refine ⟨_, rfl, _, rfl, RgOk.of_le (by decide) (by omega) (by decide) (by omega), fun q hq => ?_⟩
            rw [rg_places]
            have hpq : p ≠ q := fun e => by rw [← e, upd_same] at hq; cases hq
            refine ⟨_, _, .lst (SqL.of (by rw [upd_ne hpq, upd_same])) (dp_ints ms), .lst (SqL.of upd_same) (dp_ints (places n)), shaped_ints _, shaped_ints _, ?_⟩
            have e3 : PyData.eqv (.list (ms.map PyData.int)) (.list ((places n).map PyData.int)) = isPick n n (.tuple ds) := by
              show PyData.eqvAll _ _ = _
              rw [eqv_ints, Bool.eq_iff_iff, decide_eq_true_eq, sorted_places (by rw [List.length_map]; exact e) pm up]
              simp only [isPick, e, decide_true, Bool.true_and, Bool.and_eq_true, decide_eq_true_eq, List.all_eq_true, inB]
              constructor
              · rintro ⟨g1, g2⟩
                refine ⟨fun d hd => ?_, g2⟩
                obtain ⟨g3, g4⟩ := g1 _ (List.mem_map.mpr ⟨d, hd, rfl⟩)
                exact ⟨⟨all d hd, g3⟩, g4⟩
              · rintro ⟨g1, g2⟩
                refine ⟨fun k hk => ?_, g2⟩
                obtain ⟨d, hd, rfl⟩ := List.mem_map.mp hk
                obtain ⟨⟨_, g3⟩, g4⟩ := g1 d hd
                exact ⟨g3, g4⟩
            rw [e3]
            refine k _ (same_mut (same_mut e2 (e2.free hp)) ?_)
            rw [upd_ne hpq.symm] at hq
            exact e2.free hq
          · have h3 : (keptV xs (ds.map fun d => !isWhole d)).isEmpty = false := by
              cases h4 : (keptV xs (ds.map fun d => !isWhole d)).isEmpty with
              | false => rfl
              | true =>
                have := ka.mp h4
                rw [List.all_map] at this
                exact absurd (by simpa [Function.comp_def] using this) hw
            rw [h3]
            refine iteT ?_
            have e3 : isPick n n (.tuple ds) = false := by
              cases h4 : isPick n n (.tuple ds) with
              | false => rfl
              | true =>
                simp only [isPick, Bool.and_eq_true, List.all_eq_true, inB] at h4
                exact absurd (List.all_eq_true.mpr fun d hd => (h4.1.2 d hd).1.1) hw
            rw [e3] at k
            exact k _ e2
      · have e' : ¬ (ds.length : Int) = n := by omega
        rw [show (!decide (V.int (xs.length : Int) = V.int n)) = true by simp [hlen, e']]
        refine iteT ?_
        rw [show isPick n n (.tuple ds) = false by simp [isPick, e']] at k
        exact k H (Same.refl H)
    | non => exact ⟨_, rfl, .non, .none, "tuple", rfl, .non, by decide, false, rfl, k H (Same.refl H)⟩
    | bl y => exact ⟨_, rfl, .bl y, .bool y, "tuple", rfl, .bl y, by decide, false, rfl, k H (Same.refl H)⟩
    | int y => exact ⟨_, rfl, .int y, .int y, "tuple", rfl, .int y, by decide, false, rfl, k H (Same.refl H)⟩
    | str y => exact ⟨_, rfl, .str y, .str y, "tuple", rfl, .str y, by decide, false, rfl, k H (Same.refl H)⟩
    | lst h1 h2 => exact ⟨_, rfl, _, _, "tuple", rfl, .lst h1 h2, by decide, false, rfl, k H (Same.refl H)⟩
    | dct h1 h0 h2 => exact ⟨_, rfl, _, _, "tuple", rfl, .dct h1 h0 h2, by decide, false, rfl, k H (Same.refl H)⟩
end
-- new
def spBehindF (K : PySem.W.Frag) : Sp := fun vs H Q _ => ∃ (x y : V) (m n : Nat) (p q : Nat → Nat), vs = [x, y] ∧ Ar K H x m p ∧ Ar K H y n q ∧ (∀ k, k < m → p k < n) ∧ m ≤ 12 ∧
  ∀ t H', Same H H' → FzT H' t (arV (fun k => q (p k)) m) → Q (.ref t) H'
def invF (n : Nat) (p : Nat → Nat) (y : Nat) : Nat := ((List.range n).find? fun x => p x == y).getD 0
theorem invF_at {n : Nat} {p : Nat → Nat} (hp : IsP n p) {x : Nat} (hx : x < n) : invF n p (p x) = x := by
  unfold invF
  cases e : (List.range n).find? (fun z => p z == p x) with
  | none =>
    have := List.find?_eq_none.mp e x (List.mem_range.mpr hx)
    simp at this
  | some z =>
    have h1 := List.find?_some e
    have h2 := List.mem_range.mp (List.mem_of_find?_eq_some e)
    have h1 : p z = p x := by simpa using h1
    exact hp.inj z x h2 hx h1
theorem invF_lt {n : Nat} {p : Nat → Nat} (hp : IsP n p) {y : Nat} (hy : y < n) : invF n p y < n ∧ p (invF n p y) = y := by
  obtain ⟨x, hx, rfl⟩ := hp.sur y hy
  rw [invF_at hp hx]
  exact ⟨hx, rfl⟩
theorem invF_isP {n : Nat} {p : Nat → Nat} (hp : IsP n p) : IsP n (invF n p) := by
  refine ⟨fun y hy => (invF_lt hp hy).1, fun x y hx hy e => ?_, fun y hy => ⟨p y, hp.lt y hy, invF_at hp hy⟩⟩
  have h1 := (invF_lt hp hx).2
  have h2 := (invF_lt hp hy).2
  rw [← h1, ← h2, e]
theorem inv_uni {n : Nat} {p r : Nat → Nat} (hp : IsP n p) (h : ∀ k, k < n → r (p k) = k) : ∀ y, y < n → r y = invF n p y := fun y hy => by
  obtain ⟨x, hx, rfl⟩ := hp.sur y hy
  rw [h x hx, invF_at hp hx]
theorem isP_congr {n : Nat} {p r : Nat → Nat} (hp : IsP n p) (e : ∀ k, k < n → r k = p k) : IsP n r := by
  refine ⟨fun x hx => by rw [e x hx]; exact hp.lt x hx, fun x y hx hy h => hp.inj x y hx hy (by rw [← e x hx, ← e y hy]; exact h), fun y hy => ?_⟩
  obtain ⟨x, hx, h⟩ := hp.sur y hy
  exact ⟨x, hx, by rw [e x hx]; exact h⟩
def keyOf (n : Nat) (q : Nat → Nat) : List Int := (List.range n).map fun k => ((q k : Nat) : Int)
theorem keyOf_V (n : Nat) (q : Nat → Nat) : (keyOf n q).map V.int = arV q n := cut_arV n q
theorem keyOf_len (n : Nat) (q : Nat → Nat) : (keyOf n q).length = n := by
  unfold keyOf
  rw [List.length_map, List.length_range]
theorem keyOf_congr {n : Nat} {p q : Nat → Nat} (e : ∀ k, k < n → p k = q k) : keyOf n p = keyOf n q :=
  List.map_congr_left fun k hk => by rw [e k (List.mem_range.mp hk)]
theorem keyOf_mem {n : Nat} {q : Nat → Nat} (hq : IsP n q) {m : Int} (h0 : 0 ≤ m) (h1 : m < (n : Int)) : m ∈ keyOf n q := by
  obtain ⟨x, hx, e⟩ := hq.sur m.toNat (by omega)
  exact List.mem_map.mpr ⟨x, List.mem_range.mpr hx, by omega⟩
theorem keyOf_nd {n : Nat} {q : Nat → Nat} (hq : IsP n q) : (keyOf n q).Nodup := by
  unfold keyOf List.Nodup
  rw [List.pairwise_map]
  refine List.Pairwise.imp_of_mem ?_ List.nodup_range
  intro a b ha hb ne e
  exact ne (hq.inj a b (List.mem_range.mp ha) (List.mem_range.mp hb) (by omega))
theorem pos_at {n : Nat} {q : Nat → Nat} (hq : IsP n q) {k : Nat} (hk : k < n) : posOf (keyOf n q) ((q k : Nat) : Int) = k := by
  have h : (keyOf n q)[k]? = some ((q k : Nat) : Int) := by
    unfold keyOf
    rw [List.getElem?_map, List.getElem?_range hk]
    rfl
  have hl : k < (keyOf n q).length := by rw [keyOf_len]; exact hk
  have e := List.getElem?_eq_getElem hl
  rw [e] at h
  have h := Option.some.inj h
  unfold posOf
  rw [← h, List.Nodup.idxOf_getElem (keyOf_nd hq) k hl]
def spBrings (K : PySem.W.Frag) : Sp := fun vs H Q _ => ∃ (a b : Addr) (n : Nat) (p q : Nat → Nat), vs = [.ref a, .ref b] ∧ SqT K H a (arV p n) ∧ SqT K H b (arV q n) ∧ IsP n p ∧ IsP n q ∧ n ≤ 12 ∧ ∀ t G, Same H G → SqT K G t (arV (fun k => invF n q (p k)) n) → Q (.ref t) G
abbrev s_brings : Stmt := top 15
abbrev N_brings : List Str := ["key", "other"]
theorem sc_brings : FnScope N_brings ["key", "other"] (defScope s_brings) := ⟨rfl, rfl, rfl, by decide +kernel, rfl, by decide +kernel, by decide +kernel⟩
theorem places_arV {n : Nat} {q : Nat → Nat} {ws : List Int} : (ws.map fun m => V.int (posOf (keyOf n q) m)) = arV (fun k => (keyOf n q).idxOf (ws.getD k 0)) ws.length := by
  refine List.ext_getElem? fun k => ?_
  by_cases hk : k < ws.length
  · rw [arV_get hk, List.getElem?_map, List.getElem?_eq_getElem hk, List.getD_eq_getElem?_getD, List.getElem?_eq_getElem hk]
    rfl
  · rw [List.getElem?_eq_none (by rw [List.length_map]; omega), List.getElem?_eq_none (by rw [arV_len]; omega)]
theorem pick_key {n : Nat} {q : Nat → Nat} (hq : IsP n q) : isPick n n (.tuple ((keyOf n q).map PyData.int)) = true := by
  have h1 : ((keyOf n q).map PyData.int).all (inB n) = true := by
    refine List.all_eq_true.mpr fun d hd => ?_
    obtain ⟨m, hm, rfl⟩ := List.mem_map.mp hd
    obtain ⟨k, hk, rfl⟩ := List.mem_map.mp hm
    have := hq.lt k (List.mem_range.mp hk)
    rw [inB_int, decide_eq_true (by omega), decide_eq_true (by omega)]
    rfl
  have h2 : (((keyOf n q).map PyData.int).map wholeOf) = keyOf n q := by
    rw [List.map_map]
    exact (List.map_congr_left fun _ _ => rfl).trans (List.map_id _)
  show (decide ((((keyOf n q).map PyData.int).length : Int) = n) && ((keyOf n q).map PyData.int).all (inB n) && decide ((((keyOf n q).map PyData.int).map wholeOf)).Nodup) = true
  rw [h1, h2, List.length_map, keyOf_len, decide_eq_true rfl, decide_eq_true (keyOf_nd hq)]
  rfl
def spMovedL (K : PySem.W.Frag) : Sp := fun vs H Q _ => ∃ (kt : Addr) (v : V) (n : Nat) (q r : Nat → Nat), vs = [.ref kt, v] ∧ SqT K H kt (arV q n) ∧ Ar K H v n r ∧ IsP n r ∧ n ≤ 12 ∧ ∀ t G, Same H G → SqT K G t (arV (fun k => q (invF n r k)) n) → Q (.ref t) G
abbrev s_law_moved : Stmt := top 33
abbrev N_law_moved : List Str := ["key", "one", "found", "k"]
theorem sc_law_moved : FnScope N_law_moved ["key", "one"] (defScope s_law_moved) := ⟨rfl, rfl, rfl, by decide +kernel, rfl, by decide +kernel, by decide +kernel⟩
theorem write_by {n : Nat} {r q : Nat → Nat} {bs : List V} (hr : IsP n r) (hl : bs.length = n) (h : ∀ j, j < n → bs[r j]? = some (V.int (q j : Nat))) : bs = arV (fun k => q (invF n r k)) n := by
  refine List.ext_getElem? fun y => ?_
  by_cases hy : y < n
  · obtain ⟨x, hx, rfl⟩ := hr.sur y hy
    rw [arV_get hy, h x hx, invF_at hr hx]
  · rw [List.getElem?_eq_none (by omega), List.getElem?_eq_none (by rw [arV_len]; omega)]
section
variable {P : Program} {w : World} {K : PySem.W.Frag} {mg : Str → Option Value} {base : Heap} {f C : Addr} {fd : FuncData}
theorem ok_behindF (F : Fun K "behind" "behind" s_behind f fd) (T : Bt mg) : FnG P w K mg base CX0 1 f fd ["one", "other"] (spBehindF K) := by
  refine fnG0 F sc_behind (fun vs H Q E h => ?_) (fun cdv A outer s H vs Q E hr hg h => ?_)
  · obtain ⟨x, y, m, n, p, q, rfl, _⟩ := h
    rfl
  · obtain ⟨x, y, m, n, p, q, rfl, ⟨a, rfl, ha⟩, ⟨b, rfl, hb⟩, lt, n12, k⟩ := h
    have nd := sc_behind.nd
    refine ⟨_, (pss_one (ps_ret (pe_callTy call_tuple_frz (by rfl) T.tuple b_tuple (pa_cons (pe_lc (own := [("place", 2)]) (g := gName 2) rfl nd (pi_tup (pv 0)) (blkOk_by (own := [("place", 2)]) (N := N_behind) (sc := defScope s_behind) (by decide +kernel)) (fun _ _ _ _ _ => (pg_name (i := 2) nd rfl (Or.inl rfl))) (fun _ _ _ _ _ => pts_nil) (fun _ _ _ _ _ => (pe_callTy call_int1 (by rfl) T.int b_int (pa_cons (pe_ix (r := rIxT K) ix_tup (pv 1) (pv 2) (fun _ _ => rfl)) pa_nil)))) pa_nil)))), ?_⟩
    refine ⟨_, rfl, a, rfl, ⟨_, ha⟩, fun D hD => ?_⟩
    refine comp_tup (K := K) (ys := arV (fun k => q (p k)) m) hD ha (by rw [arV_len, arV_len]) (Nat.lt_of_le_of_lt (by rw [arV_len]; exact n12) (by decide : 12 < sizeLine)) (fun i x y hi hy G e1 Q hq => ?_) fun G e1 hG => ?_
    · have hin : i < m := by
        have := (List.getElem?_eq_some_iff.mp hi).1
        rwa [arV_len] at this
      rw [arV_get hin] at hi hy
      cases hi
      cases hy
      exact ⟨_, rfl, _, rfl, b, _, _, _, rfl, rfl, sqt_same e1 hb, arV_at (lt i hin), .inl ⟨_, rfl, hq G (Same.refl G)⟩⟩
    · refine ⟨D, _, rfl, SqL.of hG, fun t ob ht oc od => ?_⟩
      exact k t _ (e1.trans (same_new ht)) ⟨ob, upd_same, oc, od⟩
theorem ok_brings (F : Fun K "brings" "brings" s_brings f fd) (T : Bt mg) (C3 : Cg P w K mg base 1 "behind" (spBehindF K)) (C4 : Cg P w K mg base 1 "undone" (spUndone K)) : FnG P w K mg base CX0 2 f fd ["key", "other"] (spBrings K) := by
  refine fnG0 F sc_brings (fun vs H Q E h => ?_) (fun cdv A outer s H vs Q E hr hg h => ?_)
  · obtain ⟨a, b, n, p, q, rfl, _⟩ := h
    rfl
  · obtain ⟨a, b, n, p, q, rfl, ha, hb, hp, hq, n12, k⟩ := h
    have nd := sc_brings.nd
    refine ⟨_, (pss_one (ps_ret (pe_g C3 hr hg (by decide) rfl (pa_cons (pv 0) (pa_cons (pe_g C4 hr hg (by decide) rfl (pa_cons (pv 1) pa_nil)) pa_nil))))), ?_⟩
    refine ⟨_, rfl, _, rfl, .ref b, n, q, rfl, ⟨b, rfl, hb⟩, hq, n12, fun v r G1 e1 hr2 har => ?_⟩
    refine ⟨.ref a, v, n, n, p, r, rfl, ⟨a, rfl, sqt_same e1 ha⟩, har, hp.lt, n12, fun t G2 e2 ht => ?_⟩
    refine k t G2 (e1.trans e2) ?_
    have := ht.sqt (K := K)
    rwa [arV_congr (q := fun k => invF n q (p k)) fun k hk => inv_uni hq hr2 _ (hp.lt k hk)] at this
theorem ok_law_moved (F : Fun K "_law_moved" "_law_moved" s_law_moved f fd) (T : Bt mg) : FnG P w K mg base CX0 1 f fd ["key", "one"] (spMovedL K) := by
  refine fnG0 F sc_law_moved (fun vs H Q E h => ?_) (fun cdv A outer s H vs Q E hr hg h => ?_)
  · obtain ⟨kt, v, n, q, r, rfl, _⟩ := h
    rfl
  · obtain ⟨kt, v, n, q, r, rfl, hk, ⟨mt, rfl, hm⟩, hr2, n12, k⟩ := h
    have nd := sc_law_moved.nd
    refine ⟨_, (pss_cons (ps_set (i := 2) nd rfl (Or.inl rfl) (pe_callTy call_list_of (by rfl) T.list b_list (pa_cons (pv 0) pa_nil)))
      (pss_cons (ps_for PassesOwn.never rfl (pi_range1 (by rfl) T.range (pa_cons (pe_callB call_len_seq (by rfl) T.len b_len (pa_cons (pv 0) pa_nil)) pa_nil)) (pg_name (i := 3) nd rfl (Or.inl rfl))
        (pss_one (ps_asg (pe_ix ix_tup (pv 0) (pv 3) (fun _ _ => rfl)) (pg_sub (pv 2) (pe_ix ix_tup (pv 1) (pv 3) (fun _ _ => rfl)) set_list))))
      (pss_one (ps_ret (pe_callTy call_tuple_of (by rfl) T.tuple b_tuple (pa_cons (pv 2) pa_nil)))))), ?_⟩
    refine ⟨_, rfl, kt, _, rfl, .inr hk, fun l hl => ?_⟩
    have s0 : Same H (upd H l (.lst (arV q n))) := same_new hl
    have g0 : (upd H l (.lst (arV q n))) l = some (.lst (arV q n)) := upd_same
    have b0 := arV_len (p := q) (n := n)
    change (tSeq _ _ : TS) _ _ (upd H l (.lst (arV q n)))
    generalize upd H l (.lst (arV q n)) = G0 at s0 g0 ⊢
    generalize arV q n = bs0 at g0 b0
    refine ⟨_, rfl, kt, _, rfl, .inr (sqt_same s0 hk), _, rfl, ?_, ?_, ?_⟩
    · rw [arV_len]; omega
    · rw [arV_len]; omega
    rw [arV_len]
    refine for_range (n := n) (fun i σ G => ∃ y3 bs, σ = [some (.ref kt), some (.ref mt), some (.ref l), y3] ∧ Same H G ∧ G l = some (.lst bs) ∧ bs.length = n ∧ ∀ j, j < i → bs[r j]? = some (.int (q j : Nat))) ⟨_, bs0, rfl, s0, g0, b0, fun j hj => absurd hj (Nat.not_lt_zero j)⟩ (fun i σ G hin z => ?_) fun σ G z => ?_
    · obtain ⟨y3, bs, rfl, q1, q2, q3, q4⟩ := z
      refine ⟨_, rfl, _, rfl, kt, _, _, _, rfl, rfl, sqt_same q1 hk, by rw [Int.zero_add]; exact arV_at hin, _, rfl, _, rfl, _, rfl, mt, _, _, _, rfl, rfl, sqt_same q1 hm, by rw [Int.zero_add]; exact arV_at hin, l, _, _, _, rfl, rfl, q2, ixN_nat (by rw [q3]; exact hr2.lt i hin), ?_⟩
      refine ⟨_, _, rfl, same_mut q1 hl, upd_same, by rw [List.length_set]; exact q3, fun j hj => ?_⟩
      rcases Nat.lt_succ_iff_lt_or_eq.mp hj with hj | rfl
      · have ne : r i ≠ r j := fun e => by
          have := hr2.inj i j hin (by omega) e
          omega
        rw [List.getElem?_set_ne ne]
        exact q4 j hj
      · rw [List.getElem?_set_self (by rw [q3]; exact hr2.lt j hin)]
    · obtain ⟨y3, bs, rfl, q1, q2, q3, q4⟩ := z
      refine ⟨_, rfl, l, _, rfl, .inl ⟨SqL.of q2, fun t ht => ?_⟩⟩
      rw [write_by hr2 q3 q4]
      exact k _ _ (same_mut q1 (q1.free ht)) (SqT.of upd_same)
end
-- new
/-- whether data is a tuple of a room and a thing -/
def inRoomB (rooms : List Str) : PyData → Bool
  | .tuple [a, _] => rooms.any fun z => isT z a
  | _ => false
def secondD : PyData → PyData
  | .tuple [_, b] => b
  | d => d
def isStandB (rooms : List Str) (n : Int) (d : PyData) : Bool := inRoomB rooms d && isPick n n (secondD d)
def isSplitB (rooms : List Str) (m n : Int) (d : PyData) : Bool := inRoomB rooms d && isPick m n (secondD d)
theorem inRoom_len {rooms : List Str} {ds : List PyData} (h : ds.length ≠ 2) : inRoomB rooms (.tuple ds) = false := by
  match ds, h with
  | [], _ => rfl
  | [_], _ => rfl
  | [_, _], h => exact absurd rfl h
  | _ :: _ :: _ :: _, _ => rfl
def spInRoomA (K : PySem.W.Frag) (C : Addr) : Sp := fun vs H Q _ => ∃ (x dd : Addr) (v : V) (h : HR) (d : PyData), vs = [.ref x, v] ∧ HouseAt K C H x dd h ∧ Dd K H v d ∧ ∀ G, Same H G → Q (.bl (inRoomB h.rooms d)) G
def spIsStandA (K : PySem.W.Frag) (C : Addr) : Sp := fun vs H Q _ => ∃ (x dd : Addr) (v : V) (h : HR) (n : Nat) (d : PyData), vs = [.ref x, v] ∧ HouseAt K C H x dd h ∧ h.places = n ∧ n ≤ 1000 ∧ Dd K H v d ∧ ∀ G, Same H G → Q (.bl (isStandB h.rooms n d)) G
def spIsSplitA (K : PySem.W.Frag) (C : Addr) : Sp := fun vs H Q _ => ∃ (x dd : Addr) (v : V) (h : HR) (d : PyData), vs = [.ref x, v] ∧ HouseAt K C H x dd h ∧ h.watched.length ≤ 1000 ∧ Dd K H v d ∧ ∀ G, Same H G → Q (.bl (isSplitB h.rooms h.watched.length h.places d)) G
abbrev s_is_in_room : Stmt := top 16
abbrev N_is_in_room : List Str := ["hall", "thing"]
theorem sc_is_in_room : FnScope N_is_in_room ["hall", "thing"] (defScope s_is_in_room) := ⟨rfl, rfl, rfl, by decide +kernel, rfl, by decide +kernel, by decide +kernel⟩
abbrev s_is_stand : Stmt := top 12
abbrev N_is_stand : List Str := ["hall", "thing"]
theorem sc_is_stand : FnScope N_is_stand ["hall", "thing"] (defScope s_is_stand) := ⟨rfl, rfl, rfl, by decide +kernel, rfl, by decide +kernel, by decide +kernel⟩
abbrev s_is_split : Stmt := top 13
abbrev N_is_split : List Str := ["hall", "thing"]
theorem sc_is_split : FnScope N_is_split ["hall", "thing"] (defScope s_is_split) := ⟨rfl, rfl, rfl, by decide +kernel, rfl, by decide +kernel, by decide +kernel⟩
/-- a pair's data as it stands -/
theorem two_of {K : PySem.W.Frag} {H : Hp} {xs : List V} {ds : List PyData} (h : DdAll K H xs ds) (e : ds.length = 2) : ∃ x0 x1 d0 d1, xs = [x0, x1] ∧ ds = [d0, d1] ∧ Dd K H x0 d0 ∧ Dd K H x1 d1 := by
  match ds, e with
  | [d0, d1], _ =>
    cases h with
    | cons g0 t =>
      cases t with
      | cons g1 t =>
        cases t
        exact ⟨_, _, _, _, rfl, rfl, g0, g1⟩
theorem inRoom_two {rooms : List Str} {d : PyData} (h : inRoomB rooms d = true) : ∃ a b, d = .tuple [a, b] := by
  match d, h with
  | .tuple [a, b], _ => exact ⟨a, b, rfl⟩
section
variable {P : Program} {w : World} {K : PySem.W.Frag} {mg : Str → Option Value} {base : Heap} {f C : Addr} {fd : FuncData}
theorem ok_is_in_room (F : Fun K "_is_in_room" "_is_in_room" s_is_in_room f fd) (T : Bt mg) (M : MethO P w K mg base C 1 "rooms" (spRooms K C)) : FnG P w K mg base CX0 2 f fd ["hall", "thing"] (spInRoomA K C) := by
  refine fnG0 F sc_is_in_room (fun vs H Q E h => ?_) (fun cdv A outer s H vs Q E hr hg h => ?_)
  · obtain ⟨x, dd, v, h, d, rfl, _⟩ := h
    rfl
  · obtain ⟨x, dd, v, h, d, rfl, ha, hv, k⟩ := h
    have nd := sc_is_in_room.nd
    have hu64 : (A.deeper (envOfC "_is_in_room" (defScope s_is_in_room) s.heap.objs.size f cdv)).units + 64 < cLine := hr.units
    refine ⟨_, (pss_one (ps_ret (pe_and (pe_callB (r := rIsD K) cr_isD (by rfl) T.isinstance b_isinstance (pa_cons (pv 1) (pa_cons (pe_ttuple (by rfl) T.tuple) pa_nil))) (pe_and (pe_cmpR op_eq (pe_callB call_len_seq (by rfl) T.len b_len (pa_cons (pv 1) pa_nil)) pe_int (nomark _)) (pe_one (pe_cmpR (op_inL hu64) (pe_ix ix_tup (pv 1) pe_int (fun _ _ => rfl)) (pe_m0 M hr (by decide) (pv 0)) (by rfl))))))), ?_⟩
    obtain ⟨dx, wt, rt, vs, h1, h2, h3, h4, h5⟩ := ha.ex
    refine ⟨_, rfl, v, d, "tuple", rfl, hv, by decide, ?_⟩
    cases hv with
    | @tup a xs ds g1 g2 =>
      refine ⟨_, rfl, iteT ?_⟩
      refine ⟨_, rfl, a, xs, rfl, .inr g1, rfl, _, rfl, ?_⟩
      by_cases e : ds.length = 2
      · obtain ⟨x0, x1, d0, d1, rfl, rfl, q0, q1⟩ := two_of g2 e
        refine iteT ?_
        refine ⟨_, rfl, a, _, 0, _, rfl, rfl, g1, rfl, ?_⟩
        refine ⟨_, rfl, x, dx, _, rfl, h1, fldH_no _ _ _ _ (by decide +kernel) (by decide +kernel) (by decide +kernel) (by decide +kernel), x, dd, h, rfl, ha, fun l hl => ?_⟩
        exact ⟨l, h.rooms, d0, rfl, SqL.of upd_same, q0.same (same_new hl), k _ (same_new hl)⟩
      · have hl := g2.length
        rw [show decide (V.int (xs.length : Int) = V.int 2) = false by simp only [V.int.injEq, decide_eq_false_iff_not]; omega]
        rw [inRoom_len e] at k
        exact iteF (k H (Same.refl H))
    | non => exact ⟨_, rfl, k H (Same.refl H)⟩
    | bl y => exact ⟨_, rfl, k H (Same.refl H)⟩
    | int y => exact ⟨_, rfl, k H (Same.refl H)⟩
    | str y => exact ⟨_, rfl, k H (Same.refl H)⟩
    | lst g1 g2 => exact ⟨_, rfl, k H (Same.refl H)⟩
    | dct g1 g0 g2 => exact ⟨_, rfl, k H (Same.refl H)⟩
theorem ok_is_stand (F : Fun K "is_stand" "is_stand" s_is_stand f fd) (T : Bt mg) (C1 : Cg P w K mg base 2 "_is_in_room" (spInRoomA K C)) (C2 : Cg P w K mg base 3 "is_arrangement" (spIsArr K)) (M : MethO P w K mg base C 1 "places" (spPlaces K C)) : FnG P w K mg base CX0 4 f fd ["hall", "thing"] (spIsStandA K C) := by
  refine fnG0 F sc_is_stand (fun vs H Q E h => ?_) (fun cdv A outer s H vs Q E hr hg h => ?_)
  · obtain ⟨x, dd, v, h, n, d, rfl, _⟩ := h
    rfl
  · obtain ⟨x, dd, v, h, n, d, rfl, ha, hn, n1, hv, k⟩ := h
    have nd := sc_is_stand.nd
    refine ⟨_, (pss_one (ps_ret (pe_and (pe_g C1 hr hg (by decide) rfl (pa_cons (pv 0) (pa_cons (pv 1) pa_nil))) (pe_one (pe_g C2 hr hg (by decide) rfl (pa_cons (pe_m0 M hr (by decide) (pv 0)) (pa_cons (pe_ix ix_tup (pv 1) pe_int (fun _ _ => rfl)) pa_nil))))))), ?_⟩
    obtain ⟨dx, wt, rt, vs, h1, h2, h3, h4, h5⟩ := ha.ex
    refine ⟨_, rfl, _, rfl, x, dd, v, h, d, rfl, ha, hv, fun G e => ⟨_, rfl, ?_⟩⟩
    have k1 := k
    unfold isStandB at k1
    cases hb : inRoomB h.rooms d with
    | false =>
      rw [hb] at k1
      exact k1 G e
    | true =>
      rw [hb] at k1
      obtain ⟨d0, d1, rfl⟩ := inRoom_two hb
      cases hv with
      | @tup a xs _ g1 g2 =>
        obtain ⟨x0, x1, e0, e1, rfl, ed, q0, q1⟩ := two_of g2 rfl
        cases ed
        refine iteT ?_
        refine ⟨_, rfl, x, dx, _, rfl, e _ _ h1, fldH_no _ _ _ _ (by decide +kernel) (by decide +kernel) (by decide +kernel) (by decide +kernel), x, dd, h, rfl, ha.same e, ?_⟩
        refine ⟨_, rfl, a, _, 1, _, rfl, rfl, sqt_same e g1, rfl, ?_⟩
        exact ⟨x1, d1, n, by rw [hn]; rfl, q1.same e, n1, fun G2 e2 => k1 G2 (e.trans e2)⟩
theorem ok_is_split (F : Fun K "is_split" "is_split" s_is_split f fd) (T : Bt mg) (C1 : Cg P w K mg base 2 "_is_in_room" (spInRoomA K C)) (C2 : Cg P w K mg base 2 "is_pick" (spPickP K)) (M : MethO P w K mg base C 1 "places" (spPlaces K C)) (M2 : MethO P w K mg base C 1 "watched" (spWatched K C)) : FnG P w K mg base CX0 3 f fd ["hall", "thing"] (spIsSplitA K C) := by
  refine fnG0 F sc_is_split (fun vs H Q E h => ?_) (fun cdv A outer s H vs Q E hr hg h => ?_)
  · obtain ⟨x, dd, v, h, d, rfl, _⟩ := h
    rfl
  · obtain ⟨x, dd, v, h, d, rfl, ha, n1, hv, k⟩ := h
    have nd := sc_is_split.nd
    refine ⟨_, (pss_one (ps_ret (pe_and (pe_g C1 hr hg (by decide) rfl (pa_cons (pv 0) (pa_cons (pv 1) pa_nil))) (pe_one (pe_g C2 hr hg (by decide) rfl (pa_cons (pe_ix ix_tup (pv 1) pe_int (fun _ _ => rfl)) (pa_cons (pe_callB call_len_seq (by rfl) T.len b_len (pa_cons (pe_m0 M2 hr (by decide) (pv 0)) pa_nil)) (pa_cons (pe_m0 M hr (by decide) (pv 0)) pa_nil)))))))), ?_⟩
    obtain ⟨dx, wt, rt, vs, h1, h2, h3, h4, h5⟩ := ha.ex
    have nof := fldH_no h.places wt rt dd (m := "places") (by decide +kernel) (by decide +kernel) (by decide +kernel) (by decide +kernel)
    have now := fldH_no h.places wt rt dd (m := "watched") (by decide +kernel) (by decide +kernel) (by decide +kernel) (by decide +kernel)
    refine ⟨_, rfl, _, rfl, x, dd, v, h, d, rfl, ha, hv, fun G e => ⟨_, rfl, ?_⟩⟩
    have k1 := k
    unfold isSplitB at k1
    cases hb : inRoomB h.rooms d with
    | false =>
      rw [hb] at k1
      exact k1 G e
    | true =>
      rw [hb] at k1
      obtain ⟨d0, d1, rfl⟩ := inRoom_two hb
      cases hv with
      | @tup a xs _ g1 g2 =>
        obtain ⟨x0, x1, e0, e1, rfl, ed, q0, q1⟩ := two_of g2 rfl
        cases ed
        refine iteT ?_
        refine ⟨_, rfl, a, _, 1, _, rfl, rfl, sqt_same e g1, rfl, ?_⟩
        refine ⟨_, rfl, x, dx, _, rfl, e _ _ h1, now, x, dd, h, rfl, ha.same e, fun wt2 hw2 => ?_⟩
        refine ⟨wt2, _, rfl, .inr hw2, ?_⟩
        refine ⟨_, rfl, x, dx, _, rfl, e _ _ h1, nof, x, dd, h, rfl, ha.same e, ?_⟩
        exact ⟨x1, d1, h.watched.length, h.places, by rw [List.length_map]; rfl, q1.same e, by omega, fun G2 e2 => k1 G2 (e.trans e2)⟩
end
-- new
def spIsStandL (K : PySem.W.Frag) : Sp := fun vs H Q _ => ∃ (h rl dd wt : Addr) (v : V) (n : Nat) (rooms : List Str) (ws : List Int) (ds : List DoorI) (d : PyData), vs = [.ref h, v] ∧ HallAt K H h n rl dd wt rooms ws ds ∧ n ≤ 1000 ∧ Dd K H v d ∧ ∀ G, Same H G → Q (.bl (isStandB rooms n d)) G
def spIsSplitL (K : PySem.W.Frag) : Sp := fun vs H Q _ => ∃ (h rl dd wt : Addr) (v : V) (n : Nat) (rooms : List Str) (ws : List Int) (ds : List DoorI) (d : PyData), vs = [.ref h, v] ∧ HallAt K H h n rl dd wt rooms ws ds ∧ ws.length ≤ 1000 ∧ Dd K H v d ∧ ∀ G, Same H G → Q (.bl (isSplitB rooms ws.length n d)) G
def spBringsL (K : PySem.W.Frag) : Sp := fun vs H Q _ => ∃ (a b : Addr) (n : Nat) (p q : Nat → Nat), vs = [.ref a, .ref b] ∧ SqT K H a (arV p n) ∧ FzT H b (arV q n) ∧ IsP n p ∧ IsP n q ∧ n ≤ 12 ∧ ∀ t G, Same H G → SqT K G t (arV (fun k => invF n q (p k)) n) → Q (.ref t) G
abbrev s_law_is_stand : Stmt := top 38
abbrev N_law_is_stand : List Str := ["hall", "thing"]
theorem sc_law_is_stand : FnScope N_law_is_stand ["hall", "thing"] (defScope s_law_is_stand) := ⟨rfl, rfl, rfl, by decide +kernel, rfl, by decide +kernel, by decide +kernel⟩
abbrev s_law_is_split : Stmt := top 35
abbrev N_law_is_split : List Str := ["hall", "thing", "places", "one"]
theorem sc_law_is_split : FnScope N_law_is_split ["hall", "thing"] (defScope s_law_is_split) := ⟨rfl, rfl, rfl, by decide +kernel, rfl, by decide +kernel, by decide +kernel⟩
abbrev s_law_brings : Stmt := top 32
abbrev N_law_brings : List Str := ["key", "other", "mark"]
theorem sc_law_brings : FnScope N_law_brings ["key", "other"] (defScope s_law_brings) := ⟨rfl, rfl, rfl, by decide +kernel, rfl, by decide +kernel, by decide +kernel⟩
theorem isT_str {rooms : List Str} {d : PyData} (h : isKind "str" d = false) : (rooms.any fun z => isT z d) = false := by
  refine List.any_eq_false.mpr fun z _ => ?_
  cases d with
  | str y => cases h
  | _ => simp [isT]
section
variable {P : Program} {w : World} {K : PySem.W.Frag} {mg : Str → Option Value} {base : Heap} {f : Addr} {fd : FuncData}
theorem ok_law_is_stand (F : Fun K "_law_is_stand" "_law_is_stand" s_law_is_stand f fd) (T : Bt mg) (C1 : Cg P w K mg base 1 "_law_is_arrangement" (spIsArr K)) : FnG P w K mg base CX0 2 f fd ["hall", "thing"] (spIsStandL K) := by
  refine fnG0 F sc_law_is_stand (fun vs H Q E h => ?_) (fun cdv A outer s H vs Q E hr hg h => ?_)
  · obtain ⟨h, rl, dd, wt, v, n, rooms, ws, ds, d, rfl, _⟩ := h
    rfl
  · obtain ⟨h, rl, dd, wt, v, n, rooms, ws, ds, d, rfl, ha, n1, hv, k⟩ := h
    have nd := sc_law_is_stand.nd
    have hu := hu_of hr
    have hu64 : (A.deeper (envOfC "_law_is_stand" (defScope s_law_is_stand) s.heap.objs.size f cdv)).units + 64 < cLine := hr.units
    refine ⟨_, (pss_cons (ps_if (PW.pt (pw_or (pt_not (pt_val (pe_callB (r := rIsD K) cr_isD (by rfl) T.isinstance b_isinstance (pa_cons (pv 1) (pa_cons (pe_ttuple (by rfl) T.tuple) pa_nil))))) (pw_or (pt_cmpR op_ne (pe_callB call_len_seq (by rfl) T.len b_len (pa_cons (pv 1) pa_nil)) pe_int (nomark _)) (pw_or1 (pt_not (pt_val (pe_callB (r := rIsD K) cr_isD (by rfl) T.isinstance b_isinstance (pa_cons (pe_ix ix_tup (pv 1) pe_int (fun _ _ => rfl)) (pa_cons (pe_tstr (by rfl) T.str) pa_nil)))))))))
        (pss_one (ps_ret pe_bl))
        pss_nil)
      (pss_one (ps_ret (pe_and (pe_cmpR (op_inL hu64) (pe_ix ix_tup (pv 1) pe_int (fun _ _ => rfl)) (pe_dget hu (pv 0) pe_str (fun _ _ => rfl)) (by rfl)) (pe_one (pe_g C1 hr hg (by decide) rfl (pa_cons (pe_dget hu (pv 0) pe_str (fun _ _ => rfl)) (pa_cons (pe_ix ix_tup (pv 1) pe_int (fun _ _ => rfl)) pa_nil)))))))), ?_⟩
    refine ⟨_, rfl, v, d, "tuple", rfl, hv, by decide, ?_⟩
    cases hv with
    | @tup a xs es g1 g2 =>
      refine ⟨_, rfl, iteF ?_⟩
      refine ⟨_, rfl, a, xs, rfl, .inr g1, rfl, _, rfl, ?_⟩
      by_cases e : es.length = 2
      · obtain ⟨x0, x1, d0, d1, rfl, rfl, q0, q1⟩ := two_of g2 e
        refine iteF ?_
        refine ⟨_, rfl, a, _, 0, _, rfl, rfl, g1, rfl, x0, d0, "str", rfl, q0, by decide, _, rfl, ?_⟩
        cases hk : isKind "str" d0 with
        | false =>
          refine iteT ?_
          have : isStandB rooms n (.tuple [d0, d1]) = false := by
            show ((rooms.any fun z => isT z d0) && _) = false
            rw [isT_str hk, Bool.false_and]
          rw [this] at k
          exact k H (Same.refl H)
        | true =>
          refine iteF ?_
          refine ⟨_, rfl, a, _, 0, _, rfl, rfl, g1, rfl, ?_⟩
          refine ⟨_, rfl, h, _, rfl, ha.get hall_rooms, rl, rooms, d0, rfl, SqL.of ha.rms, q0, _, rfl, ?_⟩
          have k1 := k
          unfold isStandB at k1
          cases hb : rooms.any (fun z => isT z d0) with
          | false =>
            rw [show inRoomB rooms (.tuple [d0, d1]) = false from hb] at k1
            exact k1 H (Same.refl H)
          | true =>
            rw [show inRoomB rooms (.tuple [d0, d1]) = true from hb] at k1
            refine iteT ?_
            refine ⟨_, rfl, h, _, rfl, ha.get hallKv_places, _, rfl, a, _, 1, _, rfl, rfl, g1, rfl, ?_⟩
            exact ⟨x1, d1, n, rfl, q1, n1, fun G e => k1 G e⟩
      · have hl := g2.length
        rw [show (!decide (V.int (xs.length : Int) = V.int 2)) = true by simp only [Bool.not_eq_true', decide_eq_false_iff_not, V.int.injEq]; omega]
        have : isStandB rooms n (.tuple es) = false := by
          unfold isStandB
          rw [inRoom_len e, Bool.false_and]
        rw [this] at k
        exact iteT (k H (Same.refl H))
    | non => exact ⟨_, rfl, k H (Same.refl H)⟩
    | bl y => exact ⟨_, rfl, k H (Same.refl H)⟩
    | int y => exact ⟨_, rfl, k H (Same.refl H)⟩
    | str y => exact ⟨_, rfl, k H (Same.refl H)⟩
    | lst g1 g2 => exact ⟨_, rfl, k H (Same.refl H)⟩
    | dct g1 g0 g2 => exact ⟨_, rfl, k H (Same.refl H)⟩
theorem ok_law_brings (F : Fun K "_law_brings" "_law_brings" s_law_brings f fd) (T : Bt mg) : FnG P w K mg base CX0 1 f fd ["key", "other"] (spBringsL K) := by
  refine fnG0 F sc_law_brings (fun vs H Q E h => ?_) (fun cdv A outer s H vs Q E hr hg h => ?_)
  · obtain ⟨a, b, n, p, q, rfl, _⟩ := h
    rfl
  · obtain ⟨a, b, n, p, q, rfl, ha, hb, hp, hq, n12, k⟩ := h
    have nd := sc_law_brings.nd
    refine ⟨_, (pss_one (ps_ret (pe_callTy call_tuple_of (by rfl) T.tuple b_tuple (pa_cons (pe_lc (own := [("mark", 2)]) (g := gName 2) rfl nd (pi_tup (pv 0)) (blkOk_by (own := [("mark", 2)]) (N := N_law_brings) (sc := defScope s_law_brings) (by decide +kernel)) (fun _ _ _ _ _ => (pg_name (i := 2) nd rfl (Or.inl rfl))) (fun _ _ _ _ _ => pts_nil) (te := tBT (rIdxT K) (tVar 1) (tCons (tVar 2) tNil)) (fun _ _ _ _ _ => (pe_bt PySem.F.slot_tuple_index PySem.F.type_tuple_index mt_idxT (pv 1) (pa_cons (pv 2) pa_nil)))) pa_nil)))), ?_⟩
    have hb2 : FzT H b ((keyOf n q).map V.int) := by rw [keyOf_V]; exact hb
    have ps : ∀ j, j < n → posOf (keyOf n q) ((p j : Nat) : Int) = (invF n q (p j) : Nat) := fun j hj => by
      obtain ⟨h1, h2⟩ := invF_lt hq (hp.lt j hj)
      have := pos_at hq h1
      rwa [h2] at this
    refine ⟨_, rfl, a, rfl, ⟨_, ha⟩, fun D hD => ?_⟩
    refine comp_tup (K := K) (ys := arV (fun k => invF n q (p k)) n) hD ha (by rw [arV_len, arV_len]) (by rw [arV_len]; exact Nat.lt_of_le_of_lt n12 (by decide)) (fun j y z hy hz G e Q hq2 => ?_) fun G e g => ?_
    · have hj : j < n := by
        have := (List.getElem?_eq_some_iff.mp hy).1
        rwa [arV_len] at this
      rw [arV_get hj] at hy hz
      obtain rfl := Option.some.inj hy
      obtain rfl := Option.some.inj hz
      obtain ⟨f1, f2⟩ := idx_first (keyOf_mem hq (m := ((p j : Nat) : Int)) (by omega) (by have := hp.lt j hj; omega))
      have e2 : V.int (((keyOf n q).idxOf ((p j : Nat) : Int) : Nat) : Int) = V.int ((invF n q (p j) : Nat) : Int) := by
        have := ps j hj
        unfold posOf at this
        rw [this]
      exact ⟨_, rfl, ⟨b, _, rfl, hb2.same e⟩, _, rfl, b, _, .int ((p j : Nat) : Int), (keyOf n q).idxOf ((p j : Nat) : Int), .int ((p j : Nat) : Int), rfl, rfl, (hb2.same e).sqt, rfl, ints_flat _, f1, beq_self_eq_true _, f2, by rw [e2]; exact hq2 G (Same.refl G)⟩
    · refine ⟨D, _, rfl, .inl ⟨SqL.of g, fun pt hpt => ?_⟩⟩
      exact k pt _ (e.trans (same_new hpt)) (SqT.of upd_same)
end
-- new
theorem pick_ints {n : Int} {fs : List PyData} (h : ∀ d ∈ fs, isWhole d = true) : fs.all (inB n) = (fs.map wholeOf).all fun v => decide (0 ≤ v) && decide (v < n) := by
  induction fs with
  | nil => rfl
  | cons d fs ih =>
    rw [List.all_cons, List.map_cons, List.all_cons, ih fun x hx => h x (List.mem_cons_of_mem _ hx)]
    have h1 := h d List.mem_cons_self
    cases d with
    | int v => rw [inB_int]; rfl
    | _ => simp [isWhole] at h1
section
variable {P : Program} {w : World} {K : PySem.W.Frag} {mg : Str → Option Value} {base : Heap} {f : Addr} {fd : FuncData}
theorem ok_law_is_split (F : Fun K "_law_is_split" "_law_is_split" s_law_is_split f fd) (T : Bt mg) : FnG P w K mg base CX0 1 f fd ["hall", "thing"] (spIsSplitL K) := by
  refine fnG0 F sc_law_is_split (fun vs H Q E h => ?_) (fun cdv A outer s H vs Q E hr hg h => ?_)
  · obtain ⟨h, rl, dd, wt, v, n, rooms, ws, ds, d, rfl, _⟩ := h
    rfl
  · obtain ⟨h, rl, dd, wt, v, n, rooms, ws, ds, d, rfl, ha, n1, hv, k⟩ := h
    have nd := sc_law_is_split.nd
    have hu := hu_of hr
    have hu0 : (A.deeper (envOfC "_law_is_split" (defScope s_law_is_split) s.heap.objs.size f cdv)).units < cLine := Nat.lt_of_succ_lt (hu_of hr)
    have hu64 : (A.deeper (envOfC "_law_is_split" (defScope s_law_is_split) s.heap.objs.size f cdv)).units + 64 < cLine := hr.units
    refine ⟨_, (pss_cons (ps_if (PW.pt (pw_or (pt_not (pt_val (pe_callB (r := rIsD K) cr_isD (by rfl) T.isinstance b_isinstance (pa_cons (pv 1) (pa_cons (pe_ttuple (by rfl) T.tuple) pa_nil))))) (pw_or (pt_cmpR op_ne (pe_callB call_len_seq (by rfl) T.len b_len (pa_cons (pv 1) pa_nil)) pe_int (nomark _)) (pw_or1 (pt_cmpR (op_notInL hu64) (pe_ix ix_tup (pv 1) pe_int (fun _ _ => rfl)) (pe_dget hu (pv 0) pe_str (fun _ _ => rfl)) (by rfl))))))
        (pss_one (ps_ret pe_bl))
        pss_nil)
      (pss_cons (ps_set (i := 2) nd rfl (Or.inl rfl) (pe_ix ix_tup (pv 1) pe_int (fun _ _ => rfl)))
      (pss_cons (ps_if (PW.pt (pw_or (pt_not (pt_val (pe_callB (r := rIsD K) cr_isD (by rfl) T.isinstance b_isinstance (pa_cons (pv 2) (pa_cons (pe_ttuple (by rfl) T.tuple) pa_nil))))) (pw_or1 (pt_cmpR op_ne (pe_callB call_len_seq (by rfl) T.len b_len (pa_cons (pv 2) pa_nil)) (pe_callB call_len_seq (by rfl) T.len b_len (pa_cons (pe_dget hu (pv 0) pe_str (fun _ _ => rfl)) pa_nil)) (nomark _)))))
        (pss_one (ps_ret pe_bl))
        pss_nil)
      (pss_cons (ps_if (pt_cmpR (op_neNil hu0) (pe_lc (own := [("one", 3)]) (g := gName 3) rfl nd (pi_tup (pv 2)) (blkOk_by (own := [("one", 3)]) (N := N_law_is_split) (sc := defScope s_law_is_split) (by decide +kernel)) (fun _ _ _ _ _ => (pg_name (i := 3) nd rfl (Or.inl rfl))) (fun _ _ _ _ _ => (pts_one (PW.pt (pw_or (pt_not (pt_val (pe_callB (r := rIsD K) cr_isD (by rfl) T.isinstance b_isinstance (pa_cons (pv 3) (pa_cons (pe_tint (by rfl) T.int) pa_nil))))) (pw_or1 (pt_val (pe_callB (r := rIsD K) cr_isD (by rfl) T.isinstance b_isinstance (pa_cons (pv 3) (pa_cons (pe_tbool (by rfl) T.bool) pa_nil))))))))) (fun _ _ _ _ _ => (pv 3))) (pe_lst pa_nil) (nomark _))
        (pss_one (ps_ret pe_bl))
        pss_nil)
      (pss_one (ps_ret (pe_and (pe_cmpR (op_eqNil hu0) (pe_lc (own := [("one", 3)]) (g := gName 3) rfl nd (pi_tup (pv 2)) (blkOk_by (own := [("one", 3)]) (N := N_law_is_split) (sc := defScope s_law_is_split) (by decide +kernel)) (fun _ _ _ _ _ => (pg_name (i := 3) nd rfl (Or.inl rfl))) (fun _ _ _ _ _ => (pts_one (PW.pt (pw_or (pt_cmpR op_lt (pv 3) pe_int (nomark _)) (pw_or1 (pt_cmpR op_ge (pv 3) (pe_dget hu (pv 0) pe_str (fun _ _ => rfl)) (nomark _))))))) (fun _ _ _ _ _ => (pv 3))) (pe_lst pa_nil) (nomark _)) (pe_one (pe_cmpR op_eq (pe_callB cr_lenSet (by rfl) T.len b_len (pa_cons (pe_callTy (cr_setTI rfl) (by rfl) T.set b_set (pa_cons (pv 2) pa_nil)) pa_nil)) (pe_callB call_len_seq (by rfl) T.len b_len (pa_cons (pv 2) pa_nil)) (nomark _)))))))))), ?_⟩
    have k1 := k
    unfold isSplitB at k1
    refine ⟨_, rfl, v, d, "tuple", rfl, hv, by decide, ?_⟩
    cases hv with
    | @tup a xs es g1 g2 =>
      refine ⟨_, rfl, iteF ?_⟩
      refine ⟨_, rfl, a, xs, rfl, .inr g1, rfl, _, rfl, ?_⟩
      by_cases e : es.length = 2
      · obtain ⟨x0, x1, d0, d1, rfl, rfl, q0, q1⟩ := two_of g2 e
        refine iteF ?_
        refine ⟨_, rfl, a, _, 0, _, rfl, rfl, g1, rfl, ?_⟩
        refine ⟨_, rfl, h, _, rfl, ha.get hall_rooms, rl, rooms, d0, rfl, SqL.of ha.rms, q0, _, rfl, ?_⟩
        cases hb : rooms.any (fun z => isT z d0) with
        | false =>
          rw [show inRoomB rooms (.tuple [d0, d1]) = false from hb] at k1
          exact iteT (k1 H (Same.refl H))
        | true =>
          rw [show inRoomB rooms (.tuple [d0, d1]) = true from hb] at k1
          have k1 : ∀ G, Same H G → Q (.bl (isPick ws.length n d1)) G := k1
          refine iteF ?_
          refine ⟨_, rfl, a, _, 1, _, rfl, rfl, g1, rfl, ?_⟩
          refine ⟨_, rfl, x1, d1, "tuple", rfl, q1, by decide, ?_⟩
          clear hb e k g2 q0
          cases q1 with
          | @tup b ys fs r1 r2 =>
            have hlen := r2.length
            refine ⟨_, rfl, iteF ?_⟩
            refine ⟨_, rfl, b, ys, rfl, .inr r1, _, rfl, h, _, rfl, ha.get hall_watched, wt, _, rfl, .inr ha.wtc, rfl, _, rfl, ?_⟩
            rw [List.length_map]
            by_cases e : fs.length = ws.length
            · rw [show (!decide (V.int (ys.length : Int) = V.int (ws.length : Int))) = false by simp [hlen, e]]
              refine iteF ?_
              have yl : ys.length ≤ 1000 := by omega
              refine ⟨_, rfl, b, rfl, ⟨_, r1⟩, fun D hD => ?_⟩
              refine comp_tupT (K := K) (ys := ys) (bs := fs.map fun d => !isWhole d) hD r1 rfl (by rw [List.length_map, hlen]) (Nat.lt_of_le_of_lt yl (by decide)) (fun i x b hi hb G e1 q hq => ?_) (fun i x y hi hy G e1 q hq => ?_) fun G e1 hG => ?_
              · obtain ⟨d, h3, h4⟩ := r2.get hi
                rw [List.getElem?_map, h3] at hb
                obtain rfl : (!isWhole d) = b := Option.some.inj hb
                rw [whole_kinds] at hq
                have hq := hq G (Same.refl G)
                have h5 := h4.same e1
                refine ⟨_, rfl, x, d, "int", rfl, h5, by decide, _, rfl, ?_⟩
                cases hk : isKind "int" d with
                | false =>
                  rw [hk] at hq
                  exact hq
                | true =>
                  rw [hk] at hq
                  refine iteF ?_
                  refine ⟨_, rfl, x, d, "bool", rfl, h5, by decide, _, rfl, ?_⟩
                  rw [Bool.true_and, Bool.not_not] at hq
                  exact hq
              · rw [hi] at hy
                cases hy
                exact ⟨_, rfl, hq G (Same.refl G)⟩
              · refine ⟨by decide, fun z hz => ⟨D, z, _, rfl, rfl, .inl ⟨SqL.of (by rw [upd_ne (ne_of_none hG hz)]; exact hG), SqL.of upd_same⟩, _, rfl, ?_⟩⟩
                have e2 : Same H (upd G z (.lst [])) := same_mut e1 (e1.free hz)
                generalize upd G z (.lst []) = G2 at *
                have ka := keptV_all ys (fs.map fun d => !isWhole d) (by rw [List.length_map, hlen])
                by_cases hw : fs.all isWhole = true
                · have h3 : (keptV ys (fs.map fun d => !isWhole d)).isEmpty = true := ka.mpr (by rw [List.all_map]; simpa [Function.comp_def] using hw)
                  rw [h3]
                  refine iteF ?_
                  have all : ∀ d ∈ fs, isWhole d = true := fun d hd => List.all_eq_true.mp hw d hd
                  have yi := ints_of r2 all
                  generalize hns : fs.map wholeOf = ns at *
                  subst yi
                  have nl : ns.length = fs.length := by rw [← hns, List.length_map]
                  have pk : isPick ws.length n (.tuple fs) = (ns.all (fun v => decide (0 ≤ v) && decide (v < (n : Int))) && decide ns.Nodup) := by
                    simp only [isPick, e, decide_true, Bool.true_and, hns]
                    rw [← hns, pick_ints all]
                  rw [pk] at k1
                  refine ⟨_, rfl, b, rfl, ⟨_, sqt_same e2 r1⟩, fun D2 hD2 => ?_⟩
                  refine comp_tupT (K := K) (ys := ns.map V.int) (bs := ns.map fun v => decide (v < 0) || decide ((n : Int) ≤ v)) hD2 (sqt_same e2 r1) rfl (by rw [List.length_map, List.length_map]) (Nat.lt_of_le_of_lt yl (by decide)) (fun i x b hi hb G e3 q hq => ?_) (fun i x y hi hy G e3 q hq => ?_) fun G3 e3 hG3 => ?_
                  · rw [List.getElem?_map] at hi hb
                    obtain ⟨v, hv, rfl⟩ := Option.map_eq_some_iff.mp hi
                    rw [hv] at hb
                    obtain rfl := Option.some.inj hb
                    have hq : q (decide (v < 0) || decide ((n : Int) ≤ v)) G := hq G (Same.refl G)
                    refine ⟨_, rfl, _, _, rfl, rfl, _, rfl, ?_⟩
                    cases h0 : decide (v < 0) with
                    | true =>
                      rw [h0] at hq
                      exact iteT hq
                    | false =>
                      rw [h0] at hq
                      refine iteF ?_
                      refine ⟨_, rfl, _, rfl, h, _, rfl, (ha.same (e2.trans e3)).get hallKv_places, _, _, rfl, rfl, _, rfl, ?_⟩
                      exact hq
                  · rw [hi] at hy
                    cases hy
                    exact ⟨_, rfl, hq G (Same.refl G)⟩
                  · refine ⟨by decide, fun z2 hz2 => ⟨D2, z2, _, rfl, rfl, SqL.of (by rw [upd_ne (ne_of_none hG3 hz2)]; exact hG3), SqL.of upd_same, ?_⟩⟩
                    have e4 : Same H (upd G3 z2 (.lst [])) := same_mut (e2.trans e3) ((e2.trans e3).free hz2)
                    generalize upd G3 z2 (.lst []) = G4 at *
                    have kb := keptV_all (ns.map V.int) (ns.map fun v => decide (v < 0) || decide ((n : Int) ≤ v)) (by rw [List.length_map, List.length_map])
                    have same : (keptV (ns.map V.int) (ns.map fun v => decide (v < 0) || decide ((n : Int) ≤ v))).isEmpty = ns.all (fun v => decide (0 ≤ v) && decide (v < (n : Int))) := by
                      rw [Bool.eq_iff_iff, kb, List.all_map, List.all_eq_true, List.all_eq_true]
                      refine forall_congr' fun v => forall_congr' fun _ => ?_
                      simp only [Function.comp_def, Bool.not_eq_true', Bool.or_eq_false_iff, decide_eq_false_iff_not, Bool.and_eq_true, decide_eq_true_eq]
                      omega
                    rw [same]
                    cases hb : ns.all (fun v => decide (0 ≤ v) && decide (v < (n : Int))) with
                    | false =>
                      rw [hb] at k1
                      exact ⟨_, rfl, k1 _ e4⟩
                    | true =>
                      rw [hb, Bool.true_and] at k1
                      refine ⟨_, rfl, iteT ?_⟩
                      refine ⟨_, rfl, b, _, rfl, sqt_same e4 r1, by rw [List.length_map] at yl; omega, fun p ms hn hm2 hp => ?_⟩
                      refine ⟨p, _, ms.length, rfl, upd_same, _, rfl, b, _, rfl, .inr (sqt_same (same_new hp) (sqt_same e4 r1)), rfl, ?_⟩
                      have e5 : decide ns.Nodup = decide (V.int (ms.length : Int) = V.int ((ns.map V.int).length : Int)) := by
                        rw [Bool.eq_iff_iff, decide_eq_true_eq, decide_eq_true_eq, V.int.injEq, List.length_map]
                        exact nodup_iff hn hm2 rfl
                      rw [← e5]
                      exact k1 _ (e4.trans (same_new hp))
                · have h3 : (keptV ys (fs.map fun d => !isWhole d)).isEmpty = false := by
                    cases h4 : (keptV ys (fs.map fun d => !isWhole d)).isEmpty with
                    | false => rfl
                    | true =>
                      have := ka.mp h4
                      rw [List.all_map] at this
                      exact absurd (by simpa [Function.comp_def] using this) hw
                  rw [h3]
                  have : isPick ws.length n (.tuple fs) = false := by
                    show (_ && fs.all (inB n) && _) = false
                    have : fs.all (inB n) = false := by
                      cases h5 : fs.all (inB n) with
                      | false => rfl
                      | true => exact absurd (List.all_eq_true.mpr fun d hd => by have := List.all_eq_true.mp h5 d hd; simp only [inB, Bool.and_eq_true] at this; exact this.1.1) hw
                    rw [this, Bool.and_false, Bool.false_and]
                  rw [this] at k1
                  exact iteT (k1 _ e2)
            · rw [show (!decide (V.int (ys.length : Int) = V.int (ws.length : Int))) = true by simp only [Bool.not_eq_true', decide_eq_false_iff_not, V.int.injEq]; omega]
              have : isPick ws.length n (.tuple fs) = false := by
                show (decide ((fs.length : Int) = ws.length) && _ && _) = false
                rw [decide_eq_false (by omega), Bool.false_and, Bool.false_and]
              rw [this] at k1
              exact iteT (k1 H (Same.refl H))
          | non => exact ⟨_, rfl, k1 H (Same.refl H)⟩
          | bl y => exact ⟨_, rfl, k1 H (Same.refl H)⟩
          | int y => exact ⟨_, rfl, k1 H (Same.refl H)⟩
          | str y => exact ⟨_, rfl, k1 H (Same.refl H)⟩
          | lst g1 g2 => exact ⟨_, rfl, k1 H (Same.refl H)⟩
          | dct g1 g0 g2 => exact ⟨_, rfl, k1 H (Same.refl H)⟩
      · have hl := g2.length
        rw [show (!decide (V.int (xs.length : Int) = V.int 2)) = true by simp only [Bool.not_eq_true', decide_eq_false_iff_not, V.int.injEq]; omega]
        rw [inRoom_len e, Bool.false_and] at k1
        exact iteT (k1 H (Same.refl H))
    | non => exact ⟨_, rfl, k1 H (Same.refl H)⟩
    | bl y => exact ⟨_, rfl, k1 H (Same.refl H)⟩
    | int y => exact ⟨_, rfl, k1 H (Same.refl H)⟩
    | str y => exact ⟨_, rfl, k1 H (Same.refl H)⟩
    | lst g1 g2 => exact ⟨_, rfl, k1 H (Same.refl H)⟩
    | dct g1 g0 g2 => exact ⟨_, rfl, k1 H (Same.refl H)⟩
end
-- new
/-- an odd thing -/
def spOddH (K : PySem.W.Frag) : Sp := fun vs H Q _ => ∃ (i : PenI) (B : Nat) (h rl dd wt : Addr) (n : Nat) (rooms : List Str) (ws : List Int) (ds : List DoorI), vs = [.ref i.p, .ref h] ∧ Pen H i B ∧ B < 2 ^ 40 ∧ HallAt K H h n rl dd wt rooms ws ds ∧ n ≤ 12 ∧ rooms ≠ [] ∧ rooms.length ≤ 20 ∧ ds.length ≤ 20 ∧ (∀ z ∈ rooms, Nm z) ∧ (∀ d ∈ ds, Nm d.name) ∧ h ≠ i.p ∧ rl ≠ i.p ∧ dd ≠ i.p ∧
  ∀ (x : V) (d : PyData) (G : Hp), Kb i.p H G → Pen G i (B + 2) → Dd K G x d → Fit 110 1 d → (∀ es, d = .tuple es → es.length ≤ 1) → Q x G
abbrev s_law_odd : Stmt := top 36
abbrev N_law_odd : List Str := ["pen", "hall", "names", "some"]
theorem sc_law_odd : FnScope N_law_odd ["pen", "hall"] (defScope s_law_odd) := ⟨rfl, rfl, rfl, by decide +kernel, rfl, by decide +kernel, by decide +kernel⟩
theorem nm_cell {z : Str} (h : Nm z) : Cell 100 0 (.str z) := by
  refine (cell_str (M := 8) ?_ h.le).mono (by omega) (Nat.le_refl 0)
  refine List.all_eq_true.mpr fun c hc => ?_
  have := (h.low c hc).2
  rw [decide_eq_true_eq]
  omega
theorem at_head (z : Str) (zs : List Str) : atI (strV (z :: zs)) 0 = some (.str z) := atI_nat (xs := strV (z :: zs)) (j := 0) rfl
/-- the first text of a list in a slot -/
def dHead (K : PySem.W.Frag) (j : Nat) : RG.DR := fun σ H d => ∃ (a : Addr) (z : Str) (zs : List Str), σ[j]? = some (some (.ref a)) ∧ SqL K H a (strV (z :: zs)) ∧ d = .str z
theorem pd_head {X : Cx} {e : Expr} {j k : Nat} {p1 pos : Pos} (he : PE X e (tVar j)) : PD X (.Subscript e (.Constant (.int 0) k p1) pos) (dHead X.K j) := by
  refine pd_of (pe_ix ix_list he pe_int (fun _ _ => rfl)) (fun σ H Q d q k => ?_) ?_
  · obtain ⟨a, z, zs, h1, h2, rfl⟩ := q
    exact ⟨_, h1, a, _, 0, _, rfl, rfl, h2, at_head _ _, k _ _ (Same.refl H) (.str z)⟩
  · rintro σ H H' d e ⟨a, z, zs, h1, h2, rfl⟩
    exact ⟨a, z, zs, h1, sql_same e h2, rfl⟩
theorem pd_pow30 {X : Cx} {i j : Nat} {p1 p2 pos : Pos} : PD X (.BinOp (.Constant (.int 10) i p1) .Pow (.Constant (.int 30) j p2) pos) (fun _ _ d => d = .int (10 ^ (30 : Int).toNat)) :=
  pd_of (pe_op op_pow pe_int pe_int) (fun σ H Q d e h => by
    subst e
    exact ⟨_, _, rfl, rfl, ⟨by decide, by decide, by decide⟩, h _ _ (Same.refl H) (.int _)⟩) fun _ _ _ _ _ h => h
def odd2 (z : Str) : List PyData := [.bool false, .none, .tuple [], .list [], .dict [], .tuple [.int 0], .list [.int 0], .tuple [.str z], .int (10 ^ (30 : Int).toNat)]
def odd1 (x z : Str) (n : Nat) : List PyData := [.str x, .str z, .str "", .str "z", .int 0, .int 1, .int n, .int ((n : Int) - 1), .int (-1), .bool true]
def odd1V (x z : Str) (n : Nat) : List V := [.str x, .str z, .str "", .str "z", .int 0, .int 1, .int n, .int ((n : Int) - 1), .int (-1), .bl true]
theorem odd_fit {x z : Str} {n : Nat} (hx : Nm x) (hz : Nm z) (hn : n ≤ 12) : ∀ d ∈ odd1 x z n ++ odd2 z, Fit 110 1 d ∧ ∀ es, d = .tuple es → es.length ≤ 1 := by
  have fz : Fit 100 0 (.str z) := (nm_cell hz).fit
  have fx : Fit 100 0 (.str x) := (nm_cell hx).fit
  have i0 : Fit 2 0 (.int 0) := fit_int (k := 1) (by decide) (by decide) (by decide)
  intro d hd
  rcases List.mem_append.mp hd with hd | hd
  · simp only [odd1, List.mem_cons, List.not_mem_nil, or_false] at hd
    rcases hd with rfl | rfl | rfl | rfl | rfl | rfl | rfl | rfl | rfl | rfl
    · exact ⟨fx.mono (by decide) (by decide), fun _ e => nomatch e⟩
    · exact ⟨fz.mono (by decide) (by decide), fun _ e => nomatch e⟩
    · exact ⟨⟨rfl, by simp only [PyData.shown]; decide +kernel, by decide⟩, fun _ e => nomatch e⟩
    · exact ⟨⟨rfl, by simp only [PyData.shown]; decide +kernel, by decide⟩, fun _ e => nomatch e⟩
    · exact ⟨i0.mono (by decide) (by decide), fun _ e => nomatch e⟩
    · exact ⟨(fit_int (k := 1) (by decide) (by decide) (by decide)).mono (by decide) (by decide), fun _ e => nomatch e⟩
    · exact ⟨(fit_int (k := 4) (by decide) (by decide) (by omega)).mono (by decide) (by decide), fun _ e => nomatch e⟩
    · exact ⟨(fit_int (k := 4) (by decide) (by decide) (by omega)).mono (by decide) (by decide), fun _ e => nomatch e⟩
    · exact ⟨(fit_int (k := 1) (by decide) (by decide) (by decide)).mono (by decide) (by decide), fun _ e => nomatch e⟩
    · exact ⟨(fit_bool _).mono (by decide) (by decide), fun _ e => nomatch e⟩
  · simp only [odd2, List.mem_cons, List.not_mem_nil, or_false] at hd
    rcases hd with rfl | rfl | rfl | rfl | rfl | rfl | rfl | rfl | rfl
    · exact ⟨(fit_bool _).mono (by decide) (by decide), fun _ e => nomatch e⟩
    · exact ⟨fit_none.mono (by decide) (by decide), fun _ e => nomatch e⟩
    · exact ⟨((Fits.nil (D := 0)).tuple).mono (by decide) (by decide), fun _ e => by cases e; exact Nat.zero_le _⟩
    · exact ⟨((Fits.nil (D := 0)).list).mono (by decide) (by decide), fun _ e => nomatch e⟩
    · exact ⟨⟨rfl, by simp only [PyData.shown, PyData.shownKv]; decide +kernel, by decide⟩, fun _ e => nomatch e⟩
    · exact ⟨((Fits.nil.cons (i0)).tuple).mono (by decide) (by decide), fun _ e => by cases e; exact Nat.le_refl _⟩
    · exact ⟨((Fits.nil.cons (i0)).list).mono (by decide) (by decide), fun _ e => nomatch e⟩
    · exact ⟨((Fits.nil.cons fz).tuple).mono (by decide) (by decide), fun _ e => by cases e; exact Nat.le_refl _⟩
    · exact ⟨(fit_int (k := 31) (by decide) (by decide) (by decide +kernel)).mono (by decide) (by decide), fun _ e => nomatch e⟩
section
variable {P : Program} {w : World} {K : PySem.W.Frag} {mg : Str → Option Value} {base : Heap} {f : Addr} {fd : FuncData}
theorem ok_law_odd (F : Fun K "_law_odd" "_law_odd" s_law_odd f fd) (T : Bt mg) (C2 : Cg P w K mg base 2 "_law_pick" (spPickA K)) : FnG P w K mg base CX0 3 f fd ["pen", "hall"] (spOddH K) := by
  refine fnG0 F sc_law_odd (fun vs H Q E h => ?_) (fun cdv A outer s H vs Q E hr hg h => ?_)
  · obtain ⟨i, B, h, rl, dd, wt, n, rooms, ws, ds, rfl, _⟩ := h
    rfl
  · obtain ⟨i, B, h, rl, dd, wt, n, rooms, ws, ds, rfl, pn, hB, hA, n12, rne, r20, d20, rn, dn, hp1, hp2, hp3, k⟩ := h
    have nd := sc_law_odd.nd
    have hu := hu_of hr
    refine ⟨_, (pss_cons (ps_set (i := 2) nd rfl (Or.inl rfl) (pe_op op_catL (pe_dget hu (pv 1) pe_str (fun _ _ => rfl)) (pe_callTy (call_listD rfl) (by rfl) T.list b_list (pa_cons (pe_dget hu (pv 1) pe_str (fun _ _ => rfl)) pa_nil))))
      (pss_cons (ps_set (i := 3) nd rfl (Or.inl rfl) (pe_lst (pa_cons (pe_g C2 hr hg (by decide) rfl (pa_cons (pv 0) (pa_cons (pv 2) pa_nil))) (pa_cons (pe_ix ix_list (pe_dget hu (pv 1) pe_str (fun _ _ => rfl)) pe_int (fun _ _ => rfl)) (pa_cons pe_str (pa_cons pe_str (pa_cons pe_int (pa_cons pe_int (pa_cons (pe_dget hu (pv 1) pe_str (fun _ _ => rfl)) (pa_cons (pe_op op_sub (pe_dget hu (pv 1) pe_str (fun _ _ => rfl)) pe_int) (pa_cons (pe_un un_neg pe_int) (pa_cons pe_bl pa_nil))))))))))))
      (pss_one (ps_ret (pe_g C2 hr hg (by decide) rfl (pa_cons (pv 0) (pa_cons (pe_op op_catL (pv 3) (pd_lst (pds_cons pd_bl (pds_cons pd_non (pds_cons (pd_tup pds_nil) (pds_cons (pd_lst pds_nil) (pds_cons pd_dnew (pds_cons (pd_tup (pds_cons pd_int pds_nil)) (pds_cons (pd_lst (pds_cons pd_int pds_nil)) (pds_cons (pd_tup (pds_cons (pd_head (pv 2)) pds_nil)) (pds_cons pd_pow30 pds_nil)))))))))).pe) pa_nil))))))), ?_⟩
    refine ⟨_, rfl, h, .ref rl, rfl, hA.get hall_rooms, _, rfl, h, .ref dd, rfl, hA.get hall_doors, dd, _, rfl, .inl hA.drs, fun l1 hl1 => ?_⟩
    have s7 := same_new (o := .lst ((ds.map DoorI.kv).map fun kv => kV kv.1)) hl1
    have g7 : (upd H l1 (.lst ((ds.map DoorI.kv).map fun kv => kV kv.1))) l1 = some (.lst (strV (ds.map DoorI.name))) := by rw [upd_same, List.map_map]; unfold strV; rw [List.map_map]; rfl
    generalize upd H l1 (.lst ((ds.map DoorI.kv).map fun kv => kV kv.1)) = G7 at *
    have sl : ∀ zs : List Str, (strV zs).length = zs.length := fun zs => by unfold strV; rw [List.length_map]
    refine ⟨rl, l1, strV rooms, strV (ds.map DoorI.name), rfl, rfl, SqL.of (s7 _ _ hA.rms), SqL.of g7, ?_, fun l2 hl2 => ?_⟩
    · rw [sl, sl, List.length_map]
      exact Nat.le_trans (show rooms.length + ds.length ≤ 40 by omega) (by decide)
    obtain ⟨z, zs, rfl⟩ := List.exists_cons_of_ne_nil rne
    have ec : strV (z :: zs) ++ strV (ds.map DoorI.name) = strV (z :: (zs ++ ds.map DoorI.name)) := by
      unfold strV
      rw [← List.map_append]
      rfl
    rw [ec]
    have nall : ∀ y ∈ z :: (zs ++ ds.map DoorI.name), Nm y := fun y hy => by
      rcases List.mem_cons.mp hy with rfl | hy
      · exact rn _ List.mem_cons_self
      · rcases List.mem_append.mp hy with hy | hy
        · exact rn _ (List.mem_cons_of_mem _ hy)
        · obtain ⟨d, hd, rfl⟩ := List.mem_map.mp hy
          exact dn d hd
    have nl : (z :: (zs ++ ds.map DoorI.name)).length ≤ 41 := by
      rw [List.length_cons, List.length_append, List.length_map]
      rw [List.length_cons] at r20
      omega
    have n0 : 0 < (strV (z :: (zs ++ ds.map DoorI.name))).length := by rw [sl]; exact Nat.succ_pos _
    have nm1 : (strV (z :: (zs ++ ds.map DoorI.name))).length < 1000000 := by rw [sl]; omega
    generalize zs ++ ds.map DoorI.name = nms at *
    have s8 := same_new (o := .lst (strV (z :: nms))) hl2
    have g8 : (upd G7 l2 (.lst (strV (z :: nms)))) l2 = some (.lst (strV (z :: nms))) := upd_same
    have e8 := s7.trans s8
    change (tSeq _ _ : TS) _ [some (.ref i.p), some (.ref h), some (.ref l2), none] (upd G7 l2 (.lst (strV (z :: nms))))
    generalize upd G7 l2 (.lst (strV (z :: nms))) = G8 at *
    have pn8 := pn.same e8
    have nl2 : l2 ≠ i.p := pn8.neL g8
    refine ⟨_, rfl, _, rfl, .inl ⟨i, B, l2, _, rfl, pn8, by omega, .inl (SqL.of g8), n0, nm1, fun x G9 hx kb9 pn9 => ?_⟩⟩
    obtain ⟨y, hy, rfl⟩ := List.mem_map.mp hx
    have hA9 := (hA.same e8).kb kb9 pn8.o hp1 hp2 hp3
    have g9 := kb9 _ _ g8 nl2
    refine ⟨_, rfl, h, .ref rl, rfl, hA9.get hall_rooms, rl, _, 0, _, rfl, rfl, SqL.of hA9.rms, at_head _ _, ?_⟩
    refine ⟨_, rfl, h, _, rfl, hA9.get hallKv_places, _, rfl, h, _, rfl, hA9.get hallKv_places, _, _, rfl, rfl, _, rfl, show 10 ≤ sizeLine by decide, fun l3 hl3 => ?_⟩
    have s10 := same_new (o := .lst (odd1V y z n)) hl3
    have g10 : (upd G9 l3 (.lst (odd1V y z n))) l3 = some (.lst (odd1V y z n)) := upd_same
    change (tSeq _ _ : TS) _ [some (.ref i.p), some (.ref h), some (.ref l2), some (.ref l3)] (upd G9 l3 (.lst (odd1V y z n)))
    generalize upd G9 l3 (.lst (odd1V y z n)) = G10 at *
    have g2 := s10 _ _ g9
    have pn10 := pn9.same s10
    refine ⟨_, rfl, _, rfl, .list (odd2 z), ⟨odd2 z, ⟨.bool false, _, rfl, ⟨.none, _, rfl, ⟨.tuple [], _, ⟨[], rfl, by decide, rfl⟩, ⟨.list [], _, ⟨[], rfl, by decide, rfl⟩, ⟨.dict [], _, rfl, ⟨.tuple [.int 0], _, ⟨[.int 0], ⟨.int 0, [], rfl, rfl, rfl⟩, by decide, rfl⟩, ⟨.list [.int 0], _, ⟨[.int 0], ⟨.int 0, [], rfl, rfl, rfl⟩, by decide, rfl⟩, ⟨.tuple [.str z], _, ⟨[.str z], ⟨.str z, [], ⟨l2, z, nms, rfl, SqL.of g2, rfl⟩, rfl, rfl⟩, (show 1 ≤ 1000 by decide), rfl⟩, ⟨.int (10 ^ (30 : Int).toNat), [], rfl, rfl, rfl⟩, rfl⟩, rfl⟩, rfl⟩, rfl⟩, rfl⟩, rfl⟩, rfl⟩, rfl⟩, (show 9 ≤ 1000 by decide), rfl⟩, fun v G11 e11 d11 => ?_⟩
    cases d11 with
    | @lst la lxs _ q1 q2 =>
      have ll := q2.length
      have o1 : DdAll K G11 (odd1V y z n) (odd1 y z n) := .cons (.str _) (.cons (.str _) (.cons (.str _) (.cons (.str _) (.cons (.int _) (.cons (.int _) (.cons (.int _) (.cons (.int _) (.cons (.int _) (.cons (.bl _) .nil)))))))))
      have o12 := o1.append q2
      have lt : (odd1V y z n ++ lxs).length = 19 := by
        rw [List.length_append, ll]
        rfl
      refine ⟨l3, la, odd1V y z n, lxs, rfl, rfl, SqL.of (e11 _ _ g10), q1, by rw [← List.length_append, lt]; decide, fun l4 h4 => ?_⟩
      have s12 := same_new (o := .lst (odd1V y z n ++ lxs)) h4
      have pn12 := (pn10.same e11).same s12
      have kb12 : Kb i.p H (upd G11 l4 (.lst (odd1V y z n ++ lxs))) := ((Kb.of e8).trans kb9).trans (Kb.of ((s10.trans e11).trans s12))
      refine .inl ⟨i, B + 1, l4, _, rfl, pn12, by omega, .inl (SqL.of upd_same), by rw [lt]; decide, by rw [lt]; decide, fun x G13 hx kb13 pn13 => ?_⟩
      obtain ⟨d, om, ox⟩ := ((o12.same s12).kb kb13 pn12.o).mem hx
      obtain ⟨f1, f2⟩ := odd_fit (nall y hy) (nall z List.mem_cons_self) n12 d om
      exact k x d G13 (kb12.trans kb13) (pn13.mono (by omega)) ox f1 f2
end
-- new
def atF (j : Nat) : L2.St → Int → Prop := fun σ i => σ[j]? = some (some (.int i))
theorem atF_ok (j : Nat) : ∀ σ (H : Hp) (Q : VK) i, atF j σ i → Q (.int i) H → tVar j σ H Q := fun _ _ _ i h q => ⟨.int i, h, q⟩
def atF1 (j : Nat) : L2.St → Int → Prop := fun σ i => ∃ k : Int, σ[j]? = some (some (.int k)) ∧ i = k + 1
theorem atF1_ok (j : Nat) : ∀ σ (H : Hp) (Q : VK) i, atF1 j σ i → Q (.int i) H → tOp (rI0 fun i j => V.int (i + j)) (tVar j) (tC (.int 1)) σ H Q := fun _ _ _ i h q => by
  obtain ⟨k, h1, rfl⟩ := h
  exact ⟨.int k, h1, k, 1, rfl, rfl, q⟩
theorem catTD {K : PySem.W.Frag} {G : Hp} {x y : V} {ds es : List PyData} {Q : VK} (h1 : Dd K G x (.tuple ds)) (h2 : Dd K G y (.tuple es)) (hz : ds.length + es.length ≤ sizeLine) (k : ∀ z G', Same G G' → Dd K G' z (.tuple (ds ++ es)) → Q z G') : rCatS K x y G Q := by
  cases h1 with
  | @tup a xs _ g1 g2 =>
    cases h2 with
    | @tup b ys _ g3 g4 =>
      exact ⟨a, b, xs, ys, rfl, rfl, g1, g3, by rw [g2.length, g4.length]; exact hz, fun p G2 e2 hp => k _ _ e2 (.tup hp ((g2.append g4).same e2))⟩
def spBentH (K : PySem.W.Frag) : Sp := fun vs H Q _ => ∃ (i : PenI) (B W : Nat) (h rl dd wt : Addr) (n : Nat) (rooms : List Str) (ws : List Int) (ds : List DoorI) (v : V) (d : PyData), vs = [.ref i.p, .ref h, v] ∧ Pen H i B ∧ B < 2 ^ 30 ∧ HallAt K H h n rl dd wt rooms ws ds ∧ n ≤ 12 ∧ rooms ≠ [] ∧ rooms.length ≤ 20 ∧ ds.length ≤ 20 ∧ (∀ z ∈ rooms, Nm z) ∧ (∀ d ∈ ds, Nm d.name) ∧ h ≠ i.p ∧ rl ≠ i.p ∧ dd ≠ i.p ∧
  Dd K H v d ∧ Fit W 4 d ∧ W ≤ 100000 ∧ ∀ (x : V) (d2 : PyData) (G : Hp), Kb i.p H G → Pen G i (B + 8) → Dd K G x d2 → Fit (4 * W + 400) 4 d2 → Q x G
abbrev s_law_bent : Stmt := top 37
abbrev N_law_bent : List Str := ["pen", "hall", "thing", "at", "way", "piece", "k", "some"]
theorem sc_law_bent : FnScope N_law_bent ["pen", "hall", "thing"] (defScope s_law_bent) := ⟨rfl, rfl, rfl, by decide +kernel, rfl, by decide +kernel, by decide +kernel⟩
/-- a thing put in the place of one, an odd one -/
theorem bend_odd {K : PySem.W.Frag} {σ : L2.St} {G : Hp} {Q : VK} {j m c B n : Nat} {i : PenI} {h rl dd wt : Addr} {rooms : List Str} {ws : List Int} {ds : List DoorI} {tv : V} {es : List PyData} (pn : Pen G i B) (hB : B < 2 ^ 40) (hA : HallAt K G h n rl dd wt rooms ws ds) (n12 : n ≤ 12) (rne : rooms ≠ []) (r20 : rooms.length ≤ 20) (d20 : ds.length ≤ 20) (rn : ∀ z ∈ rooms, Nm z) (dn : ∀ d ∈ ds, Nm d.name) (hp1 : h ≠ i.p) (hp2 : rl ≠ i.p) (hp3 : dd ≠ i.p)
    (e0 : σ[0]? = some (some (.ref i.p))) (e1 : σ[1]? = some (some (.ref h))) (ej : σ[j]? = some (some tv)) (em : σ[m]? = some (some (.int (c : Int)))) (dv : Dd K G tv (.tuple es)) (le : es.length ≤ 60000)
    (k : ∀ z od G', Kb i.p G G' → Pen G' i (B + 2) → Dd K G' z (.tuple (es.take c ++ [od] ++ es.drop (c + 1))) → Fit 110 1 od → Q z G') :
    (tOp (rCatS K) (tOp (rCatS K) (tD K (dTakeT (dVar K j) (atF m))) (tTup (tCons (tCall (spOddH K) [] E0 (tCons (tVar 0) (tCons (tVar 1) tNil))) tNil))) (tD K (dDropT (dVar K j) (atF1 m))) : TE) σ G Q := by
  refine ⟨_, ⟨es, c, ⟨tv, ej, dv⟩, em, rfl⟩, fun x1 G1 s1 d1 => ?_⟩
  refine ⟨_, e0, _, e1, i, B, h, rl, dd, wt, n, rooms, ws, ds, rfl, pn.same s1, hB, hA.same s1, n12, rne, r20, d20, rn, dn, hp1, hp2, hp3, fun x od G2 kb pg dx ft _ => ⟨show 1 ≤ sizeLine by decide, fun t ht => ?_⟩⟩
  have s2 := same_new (o := .tup [x]) ht
  have tk : (es.take c).length ≤ 60000 := by rw [List.length_take]; omega
  have dk : (es.drop (c + 1)).length ≤ 60000 := by rw [List.length_drop]; omega
  refine catTD ((d1.kb kb (pn.same s1).o).same s2) (.tup (SqT.of upd_same) (.cons (dx.same s2) .nil) : Dd K (upd G2 t (.tup [x])) (.ref t) (.tuple [od])) (Nat.le_trans (show (es.take c).length + 1 ≤ 60001 by omega) (by decide)) fun z1 G3 s3 d3 => ?_
  have kb03 : Kb i.p G G3 := ((Kb.of s1).trans kb).trans (Kb.of (s2.trans s3))
  refine ⟨_, ⟨es, c + 1, ⟨tv, ej, dv.kb kb03 pn.o⟩, ⟨(c : Int), em, by omega⟩, rfl⟩, fun x4 G4 s4 d4 => ?_⟩
  refine catTD (d3.same s4) d4 (Nat.le_trans (show (es.take c ++ [od]).length + (es.drop (c + 1)).length ≤ 120001 by rw [List.length_append, List.length_singleton]; omega) (by decide)) fun z2 G5 s5 d5 => ?_
  exact k z2 od G5 (kb03.trans (Kb.of (s4.trans s5))) ((pg.same (s2.trans s3)).same (s4.trans s5)) d5 ft
section
variable {P : Program} {w : World} {K : PySem.W.Frag} {mg : Str → Option Value} {base : Heap} {f : Addr} {fd : FuncData}
theorem ok_law_bent (F : Fun K "_law_bent" "_law_bent" s_law_bent f fd) (T : Bt mg) (C1 : Cg P w K mg base 1 "_law_draw" spDraw) (C2 : Cg P w K mg base 2 "_law_pick" (spPickA K)) (C3 : Cg P w K mg base 3 "_law_odd" (spOddH K)) : FnG P w K mg base CX0 4 f fd ["pen", "hall", "thing"] (spBentH K) := by
  refine fnG0 F sc_law_bent (fun vs H Q E h => ?_) (fun cdv A outer s H vs Q E hr hg h => ?_)
  · obtain ⟨i, B, W, h, rl, dd, wt, n, rooms, ws, ds, v, d, rfl, _⟩ := h
    rfl
  · obtain ⟨i, B, W, h, rl, dd, wt, n, rooms, ws, ds, v, d, rfl, pn, hB, hA, n12, rne, r20, d20, rn, dn, hp1, hp2, hp3, hv, fd0, W1, k⟩ := h
    have nd := sc_law_bent.nd
    have hu0 : (A.deeper (envOfC "_law_bent" (defScope s_law_bent) s.heap.objs.size f cdv)).units < cLine := Nat.lt_of_succ_lt (hu_of hr)
    refine ⟨_, (pss_cons (ps_if (PW.pt (pw_or (pt_not (pt_val (pe_callB (r := rIsD K) cr_isD (by rfl) T.isinstance b_isinstance (pa_cons (pv 2) (pa_cons (pe_ttuple (by rfl) T.tuple) pa_nil))))) (pw_or1 (pt_cmpR (op_eqNilT hu0) (pv 2) (pe_tup pa_nil) (nomark _)))))
        (pss_one (ps_ret (pe_g C3 hr hg (by decide) rfl (pa_cons (pv 0) (pa_cons (pv 1) pa_nil)))))
        pss_nil)
      (pss_cons (ps_par (i := 3) (j := 4) (by rfl) nd rfl rfl (by decide) rfl rfl (pa_cons (pe_g C1 hr hg (by decide) rfl (pa_cons (pv 0) (pa_cons (pe_callB call_len_seq (by rfl) T.len b_len (pa_cons (pv 2) pa_nil)) pa_nil))) (pa_cons (pe_g C1 hr hg (by decide) rfl (pa_cons (pv 0) (pa_cons pe_int pa_nil))) pa_nil)) (by rfl))
      (pss_cons (ps_set (i := 5) nd rfl (Or.inl rfl) (pe_ix ix_tup (pv 2) (pv 3) (fun _ _ => rfl)))
      (C8.pss_cut (ps_if (PW.pt (pw_and (pt_cmpR op_lt (pv 4) pe_int (nomark _)) (pw_and (pt_val (pe_callB (r := rIsD K) cr_isD (by rfl) T.isinstance b_isinstance (pa_cons (pv 5) (pa_cons (pe_ttuple (by rfl) T.tuple) pa_nil)))) (pw_and1 (pt_cmpR (op_neNil hu0) (pv 5) (pe_tup pa_nil) (nomark _))))))
        (pss_cons (ps_set (i := 6) nd rfl (Or.inl rfl) (pe_g C1 hr hg (by decide) rfl (pa_cons (pv 0) (pa_cons (pe_callB call_len_seq (by rfl) T.len b_len (pa_cons (pv 5) pa_nil)) pa_nil))))
        (pss_cons (ps_set (i := 7) nd rfl (Or.inl rfl) (pe_lst (pa_cons (pe_op op_catS (pe_op op_catS (pd_takeT (pd_var (pv 5)) (pv 6) (atF_ok 6)).pe (pe_tup (pa_cons (pe_g C3 hr hg (by decide) rfl (pa_cons (pv 0) (pa_cons (pv 1) pa_nil))) pa_nil))) (pd_dropT (pd_var (pv 5)) (pe_op op_add (pv 6) pe_int) (atF1_ok 6)).pe) (pds_cons (pd_catT (pd_takeT (pd_var (pv 5)) (pv 6) (atF_ok 6)) (pd_dropT (pd_var (pv 5)) (pe_op op_add (pv 6) pe_int) (atF1_ok 6))) (pds_cons (pd_catT (pd_var (pv 5)) (pd_dropT (pd_var (pv 5)) (pv 6) (atF_ok 6))) pds_nil)).pa)))
        (pss_one (ps_ret (pe_op op_catS (pe_op op_catS (pd_takeT (pd_var (pv 2)) (pv 3) (atF_ok 3)).pe (pe_tup (pa_cons (pe_g C2 hr hg (by decide) rfl (pa_cons (pv 0) (pa_cons (pd_cat (pd_var (pv 7)) (pd_lst (pds_cons (pd_listT (by rfl) T.list (pd_var (pv 5))) pds_nil))).pe pa_nil))) pa_nil))) (pd_dropT (pd_var (pv 2)) (pe_op op_add (pv 3) pe_int) (atF1_ok 3)).pe)))))
        pss_nil)
      (pss_cons (ps_set (i := 7) nd rfl (Or.inl rfl) (pe_lst (pa_cons (pe_op op_catS (pe_op op_catS (pd_takeT (pd_var (pv 2)) (pv 3) (atF_ok 3)).pe (pe_tup (pa_cons (pe_g C3 hr hg (by decide) rfl (pa_cons (pv 0) (pa_cons (pv 1) pa_nil))) pa_nil))) (pd_dropT (pd_var (pv 2)) (pe_op op_add (pv 3) pe_int) (atF1_ok 3)).pe) (pds_cons (pd_catT (pd_takeT (pd_var (pv 2)) (pv 3) (atF_ok 3)) (pd_dropT (pd_var (pv 2)) (pe_op op_add (pv 3) pe_int) (atF1_ok 3))) pds_nil).pa)))
      (pss_one (ps_ret (pe_g C2 hr hg (by decide) rfl (pa_cons (pv 0) (pa_cons (pd_cat (pd_var (pv 7)) (pd_lst (pds_cons (pd_catT (pd_var (pv 2)) (pd_tup (pds_cons (pd_var (pv 5)) pds_nil))) (pds_cons (pd_listT (by rfl) T.list (pd_var (pv 2))) pds_nil)))).pe pa_nil)))))))))), ?_⟩
    have odd : ∀ G, Same H G → (tRet (tCall (spOddH K) [] E0 (tCons (tVar 0) (tCons (tVar 1) tNil))) : TS) { nx := fun x H' => Q V.non H', rt := Q } (L2.start N_law_bent [.ref i.p, .ref h, v]) G := fun G e =>
      ⟨_, rfl, _, rfl, i, B, h, rl, dd, wt, n, rooms, ws, ds, rfl, pn.same e, by omega, hA.same e, n12, rne, r20, d20, rn, dn, hp1, hp2, hp3, fun x d G kb pg dx ft _ => k x d G ((Kb.of e).trans kb) (pg.mono (by omega)) dx (ft.mono (by omega) (by omega))⟩
    refine ⟨_, rfl, v, d, "tuple", rfl, hv, by decide, ?_⟩
    cases hv with
    | @tup a xs es g1 g2 =>
      have hlen := g2.length
      have fs := tuple_fits fd0
      have el := fits_len fs
      refine ⟨_, rfl, iteF ?_⟩
      refine ⟨_, rfl, Nat.zero_le _, fun t0 ht0 => ?_⟩
      have s1 := same_new (o := .tup []) ht0
      refine ⟨a, t0, xs, rfl, rfl, sqt_same s1 g1, SqT.of upd_same, _, rfl, ?_⟩
      by_cases x0 : xs.isEmpty = true
      · rw [x0]
        exact iteT (odd _ s1)
      · have x0 : xs.isEmpty = false := by simpa using x0
        rw [x0]
        refine iteF ?_
        have xp : 0 < xs.length := List.length_pos_iff.mpr (by intro z; rw [z] at x0; cases x0)
        have hv1 : Dd K (upd H t0 (.tup [])) (.ref a) (.tuple es) := .tup (sqt_same s1 g1) (g2.same s1)
        have pn1 := pn.same s1
        have hA1 := hA.same s1
        change (tSeq _ _ : TS) _ _ (upd H t0 (.tup []))
        generalize upd H t0 (.tup []) = G1 at *
        refine ⟨_, rfl, _, rfl, a, xs, rfl, .inr (sqt_same s1 g1), i, _, B, rfl, pn1, by omega, by omega, by omega, fun at' G2 a0 a1 kb2 pn2 => ?_⟩
        refine ⟨_, rfl, i, 8, B + 1, rfl, pn2, by omega, by decide, by decide, fun wy G3 w0 w1 kb3 pn3 => ⟨_, _, rfl, ?_⟩⟩
        obtain ⟨c, rfl⟩ : ∃ c : Nat, at' = (c : Int) := ⟨at'.toNat, by omega⟩
        have cl : c < xs.length := by omega
        have kb13 := kb2.trans kb3
        have hv3 := hv1.kb kb13 pn1.o
        have hA3 := hA1.kb kb13 pn1.o hp1 hp2 hp3
        have kbH := (Kb.of s1).trans kb13
        clear odd g1 hA hA1 hv1 kb2 kb3 kb13 s1 pn pn1 pn2 ht0 x0
        cases hv3 with
        | @tup _ xs3 _ h1 h2 =>
          have l3 := h2.length
          have cl3 : c < xs3.length := by omega
          obtain ⟨pv, hpv⟩ : ∃ pv, xs3[c]? = some pv := ⟨_, List.getElem?_eq_getElem cl3⟩
          obtain ⟨pe, hpe, dpv⟩ := h2.get hpv
          have pm := List.mem_of_getElem? hpe
          have fpe := fs.mem pm
          have hv3 : Dd K G3 (.ref a) (.tuple es) := .tup h1 h2
          refine ⟨_, rfl, _, rfl, a, xs3, (c : Int), pv, rfl, rfl, h1, atI_nat hpv, ?_⟩
          refine ⟨fun σ G => σ = [some (.ref i.p), some (.ref h), some (.ref a), some (.int (c : Int)), some (.int wy), some pv, none, none] ∧ Same G3 G, ?_, fun σ G4 z => ?_⟩
          · refine ⟨_, rfl, _, _, rfl, rfl, _, rfl, ?_⟩
            have skip : ∀ {D : Ends}, (D.nx = fun σ G => σ = [some (.ref i.p), some (.ref h), some (.ref a), some (.int (c : Int)), some (.int wy), some pv, none, none] ∧ Same G3 G) → ∀ {G : Hp}, Same G3 G → (tNext : TS) D [some (.ref i.p), some (.ref h), some (.ref a), some (.int (c : Int)), some (.int wy), some pv, none, none] G := fun {D} hD {G} e => by
              show D.nx _ _
              rw [hD]
              exact ⟨rfl, e⟩
            by_cases w4 : wy < 4
            · rw [decide_eq_true w4]
              refine iteT ?_
              refine ⟨_, rfl, pv, pe, "tuple", rfl, dpv, by decide, ?_⟩
              cases dpv with
              | @tup pa ys fs3 p1 p2 =>
                refine ⟨_, rfl, iteT ?_⟩
                refine ⟨_, rfl, Nat.zero_le _, fun t0 ht0 => ?_⟩
                have s4 := same_new (o := .tup []) ht0
                refine ⟨pa, t0, ys, rfl, rfl, .inr ⟨sqt_same s4 p1, SqT.of upd_same⟩, _, rfl, ?_⟩
                by_cases y0 : ys.isEmpty = true
                · rw [y0]
                  exact skip rfl s4
                · have y0 : ys.isEmpty = false := by simpa using y0
                  rw [y0]
                  refine iteT ?_
                  have yp : 0 < ys.length := List.length_pos_iff.mpr (by intro z; rw [z] at y0; cases y0)
                  have yl := p2.length
                  have ffs := tuple_fits fpe
                  have fl := fits_len ffs
                  have hv4 := hv3.same s4
                  have dp4 : Dd K (upd G3 t0 (.tup [])) (.ref pa) (.tuple fs3) := .tup (sqt_same s4 p1) (p2.same s4)
                  have pn4 := pn3.same s4
                  have hA4 := hA3.same s4
                  have kb4 := kbH.trans (Kb.of s4)
                  have p1' := sqt_same s4 p1
                  change (tSeq _ _ : TS) _ _ (upd G3 t0 (.tup []))
                  generalize upd G3 t0 (.tup []) = G4 at *
                  refine ⟨_, rfl, _, rfl, pa, _, rfl, .inr p1', i, _, B + 2, rfl, pn4, by omega, by omega, by omega, fun kk G5 k0 k1 kb5 pn5 => ?_⟩
                  obtain ⟨e, rfl⟩ : ∃ e : Nat, kk = (e : Int) := ⟨kk.toNat, by omega⟩
                  have dp5 := dp4.kb kb5 pn4.o
                  have hv5 := hv4.kb kb5 pn4.o
                  have hA5 := hA4.kb kb5 pn4.o hp1 hp2 hp3
                  change (tSeq _ _ : TS) _ [some (.ref i.p), some (.ref h), some (.ref a), some (.int (c : Int)), some (.int wy), some (.ref pa), some (.int (e : Int)), none] G5
                  refine bend_odd pn5 (by omega) hA5 n12 rne r20 d20 rn dn hp1 hp2 hp3 rfl rfl rfl rfl dp5 (by omega) fun z od G6 kb6 pn6 dz fod => ?_
                  have dp6 := dp5.kb kb6 pn5.o
                  have hv6 := hv5.kb kb6 pn5.o
                  have tk : (fs3.take e).length ≤ 60000 := by rw [List.length_take]; omega
                  have dk : (fs3.drop (e + 1)).length ≤ 60000 := by rw [List.length_drop]; omega
                  have dk0 : (fs3.drop e).length ≤ 60000 := by rw [List.length_drop]; omega
                  have v5 : ∀ {u : Option V} {G : Hp}, Dd K G (.ref pa) (.tuple fs3) → dVar K 5 [some (.ref i.p), some (.ref h), some (.ref a), some (.int (c : Int)), some (.int wy), some (.ref pa), some (.int (e : Int)), u] G (.tuple fs3) := fun h => ⟨_, rfl, h⟩
                  refine ⟨[.tuple (fs3.take e ++ fs3.drop (e + 1)), .tuple (fs3 ++ fs3.drop e)], ⟨_, _, ⟨_, _, ⟨fs3, e, v5 dp6, rfl, rfl⟩, ⟨fs3, e + 1, v5 dp6, ⟨(e : Int), rfl, by omega⟩, rfl⟩, by omega, rfl⟩, ⟨_, _, ⟨_, _, v5 dp6, ⟨fs3, e, v5 dp6, rfl, rfl⟩, by omega, rfl⟩, rfl, rfl⟩, rfl⟩, fun xs G7 e7 dxs => ?_⟩
                  have x2 : xs.length = 2 := dxs.length
                  refine ⟨by show xs.length + 1 ≤ sizeLine; rw [x2]; decide, fun l hl => ?_⟩
                  have s8 := same_new (o := .lst (z :: xs)) hl
                  have d3 : Dd K (upd G7 l (.lst (z :: xs))) (.ref l) (.list [.tuple (fs3.take e ++ [od] ++ fs3.drop (e + 1)), .tuple (fs3.take e ++ fs3.drop (e + 1)), .tuple (fs3 ++ fs3.drop e)]) := .lst (SqL.of upd_same) (.cons (dz.same (e7.trans s8)) (dxs.same s8))
                  have e68 := e7.trans s8
                  have dp8 := dp6.same e68
                  have hv8 := hv6.same e68
                  have pn8 := pn6.same e68
                  have kb8 : Kb i.p H (upd G7 l (.lst (z :: xs))) := ((kb4.trans kb5).trans kb6).trans (Kb.of e68)
                  dsimp only [gName]
                  generalize upd G7 l (.lst (z :: xs)) = G8 at *
                  have cut : (es.take c).length ≤ 60000 := by rw [List.length_take]; omega
                  have cut2 : (es.drop (c + 1)).length ≤ 60000 := by rw [List.length_drop]; omega
                  refine ⟨_, ⟨es, c, ⟨_, rfl, hv8⟩, rfl, rfl⟩, fun y1 G9 e9 dy1 => ?_⟩
                  refine ⟨_, rfl, .list ([.tuple (fs3.take e ++ [od] ++ fs3.drop (e + 1)), .tuple (fs3.take e ++ fs3.drop (e + 1)), .tuple (fs3 ++ fs3.drop e)] ++ [.list fs3]), ⟨_, _, ⟨_, rfl, d3.same e9⟩, ⟨[.list fs3], ⟨_, _, ⟨fs3, ⟨_, rfl, dp8.same e9⟩, rfl⟩, rfl, rfl⟩, show 1 ≤ 1000 by decide, rfl⟩, show 3 + 1 ≤ 10000000 by decide, rfl⟩, fun y2 G10 e10 dy2 => ?_⟩
                  have e810 := e9.trans e10
                  have pn10 := pn8.same e810
                  cases dy2 with
                  | @lst l2 vs2 _ q3 q4 =>
                    have vl : vs2.length = 4 := q4.length
                    refine .inl ⟨i, B + 5, l2, vs2, rfl, pn10, by omega, .inl q3, by omega, by omega, fun x G11 hx kb11 pn11 => ?_⟩
                    obtain ⟨q, hq, vq⟩ := (q4.kb kb11 pn10.o).mem hx
                    have fq : Fit (2 * W + 130) 3 q := by
                      have f0 := ((Fits.append (Fits.append (ffs.take e) ((Fits.nil (D := 2)).cons (fod.mono (Nat.le_refl _) (by omega)))) (ffs.drop (e + 1))).tuple).mono (show _ ≤ 2 * W + 130 by omega) (Nat.le_refl _)
                      have f1 := ((Fits.append (ffs.take e) (ffs.drop (e + 1))).tuple).mono (show _ ≤ 2 * W + 130 by omega) (Nat.le_refl _)
                      have f2 := ((Fits.append ffs (ffs.drop e)).tuple).mono (show _ ≤ 2 * W + 130 by omega) (Nat.le_refl _)
                      have f3 := ffs.list.mono (show _ ≤ 2 * W + 130 by omega) (Nat.le_refl _)
                      simp only [List.mem_append, List.mem_cons, List.not_mem_nil, or_false] at hq
                      rcases hq with (rfl | rfl | rfl) | rfl
                      · exact f0
                      · exact f1
                      · exact f2
                      · exact f3
                    refine ⟨show 1 ≤ sizeLine by decide, fun t ht => ?_⟩
                    have s12 := same_new (o := .tup [x]) ht
                    refine catTD (((dy1.same e10).kb kb11 pn10.o).same s12) (.tup (SqT.of upd_same) (.cons (vq.same s12) .nil) : Dd K (upd G11 t (.tup [x])) (.ref t) (.tuple [q])) (Nat.le_trans (show (es.take c).length + 1 ≤ 60001 by omega) (by decide)) fun z1 G12 e12 dz1 => ?_
                    have kb812 : Kb i.p G8 G12 := ((Kb.of e810).trans kb11).trans (Kb.of (s12.trans e12))
                    refine ⟨_, ⟨es, c + 1, ⟨_, rfl, hv8.kb kb812 pn8.o⟩, ⟨(c : Int), rfl, by omega⟩, rfl⟩, fun y4 G13 e13 dy4 => ?_⟩
                    refine catTD (dz1.same e13) dy4 (Nat.le_trans (show (es.take c ++ [q]).length + (es.drop (c + 1)).length ≤ 120001 by rw [List.length_append, List.length_singleton]; omega) (by decide)) fun z2 G14 e14 dz2 => ?_
                    refine k z2 _ G14 (kb8.trans (kb812.trans (Kb.of (e13.trans e14)))) ((pn11.same ((s12.trans e12).trans (e13.trans e14))).mono (by omega)) dz2 ?_
                    exact ((Fits.append (Fits.append (fs.take c) ((Fits.nil (D := 3)).cons fq)) (fs.drop (c + 1))).tuple).mono (by omega) (Nat.le_refl _)
              | non => exact ⟨_, rfl, skip rfl (Same.refl G3)⟩
              | bl y => exact ⟨_, rfl, skip rfl (Same.refl G3)⟩
              | int y => exact ⟨_, rfl, skip rfl (Same.refl G3)⟩
              | str y => exact ⟨_, rfl, skip rfl (Same.refl G3)⟩
              | lst q1 q2 => exact ⟨_, rfl, skip rfl (Same.refl G3)⟩
              | dct q1 q0 q2 => exact ⟨_, rfl, skip rfl (Same.refl G3)⟩
            · rw [decide_eq_false w4]
              exact skip rfl (Same.refl G3)
          · obtain ⟨rfl, e4⟩ := z
            have hv4 := hv3.same e4
            have dpv4 := dpv.same e4
            have pn4 := pn3.same e4
            have hA4 := hA3.same e4
            have cut : (es.take c).length ≤ 60000 := by rw [List.length_take]; omega
            have cut2 : (es.drop (c + 1)).length ≤ 60000 := by rw [List.length_drop]; omega
            refine bend_odd pn4 (by omega) hA4 n12 rne r20 d20 rn dn hp1 hp2 hp3 rfl rfl rfl rfl hv4 (by omega) fun z od G6 kb6 pn6 dz fod => ?_
            have hv6 := hv4.kb kb6 pn4.o
            have dpv6 := dpv4.kb kb6 pn4.o
            refine ⟨[.tuple (es.take c ++ es.drop (c + 1))], ⟨_, _, ⟨_, _, ⟨es, c, ⟨_, rfl, hv6⟩, rfl, rfl⟩, ⟨es, c + 1, ⟨_, rfl, hv6⟩, ⟨(c : Int), rfl, by omega⟩, rfl⟩, by omega, rfl⟩, rfl, rfl⟩, fun xs G7 e7 dxs => ?_⟩
            have x1 : xs.length = 1 := dxs.length
            refine ⟨by show xs.length + 1 ≤ sizeLine; rw [x1]; decide, fun l hl => ?_⟩
            have s8 := same_new (o := .lst (z :: xs)) hl
            have d3 : Dd K (upd G7 l (.lst (z :: xs))) (.ref l) (.list [.tuple (es.take c ++ [od] ++ es.drop (c + 1)), .tuple (es.take c ++ es.drop (c + 1))]) := .lst (SqL.of upd_same) (.cons (dz.same (e7.trans s8)) (dxs.same s8))
            have e68 := e7.trans s8
            have hv8 := hv6.same e68
            have dpv8 := dpv6.same e68
            have pn8 := pn6.same e68
            have kb8 : Kb i.p H (upd G7 l (.lst (z :: xs))) := ((kbH.trans (Kb.of e4)).trans kb6).trans (Kb.of e68)
            dsimp only [gName]
            generalize upd G7 l (.lst (z :: xs)) = G8 at *
            refine ⟨_, rfl, .list ([.tuple (es.take c ++ [od] ++ es.drop (c + 1)), .tuple (es.take c ++ es.drop (c + 1))] ++ [.tuple (es ++ [pe]), .list es]), ⟨_, _, ⟨_, rfl, d3⟩, ⟨[.tuple (es ++ [pe]), .list es], ⟨_, _, ⟨es, [pe], ⟨_, rfl, hv8⟩, ⟨[pe], ⟨_, _, ⟨_, rfl, dpv8⟩, rfl, rfl⟩, show 1 ≤ 1000 by decide, rfl⟩, by show es.length + 1 ≤ 10000000; omega, rfl⟩, ⟨_, _, ⟨es, ⟨_, rfl, hv8⟩, rfl⟩, rfl, rfl⟩, rfl⟩, show 2 ≤ 1000 by decide, rfl⟩, show 2 + 2 ≤ 10000000 by decide, rfl⟩, fun y2 G10 e10 dy2 => ?_⟩
            have pn10 := pn8.same e10
            cases dy2 with
            | @lst l2 vs2 _ q3 q4 =>
              have vl : vs2.length = 4 := q4.length
              refine .inl ⟨i, B + 4, l2, vs2, rfl, pn10, by omega, .inl q3, by omega, by omega, fun x G11 hx kb11 pn11 => ?_⟩
              obtain ⟨q, hq, vq⟩ := (q4.kb kb11 pn10.o).mem hx
              refine k x q G11 (kb8.trans ((Kb.of e10).trans kb11)) (pn11.mono (by omega)) vq ?_
              have f0 := ((Fits.append (Fits.append (fs.take c) ((Fits.nil (D := 3)).cons (fod.mono (Nat.le_refl _) (by omega)))) (fs.drop (c + 1))).tuple).mono (show _ ≤ 4 * W + 400 by omega) (Nat.le_refl _)
              have f1 := ((Fits.append (fs.take c) (fs.drop (c + 1))).tuple).mono (show _ ≤ 4 * W + 400 by omega) (Nat.le_refl _)
              have f2 := ((Fits.append fs ((Fits.nil (D := 3)).cons fpe)).tuple).mono (show _ ≤ 4 * W + 400 by omega) (Nat.le_refl _)
              have f3 := fs.list.mono (show _ ≤ 4 * W + 400 by omega) (Nat.le_refl _)
              simp only [List.mem_append, List.mem_cons, List.not_mem_nil, or_false] at hq
              rcases hq with (rfl | rfl) | (rfl | rfl)
              · exact f0
              · exact f1
              · exact f2
              · exact f3
    | non => exact ⟨_, rfl, odd H (Same.refl H)⟩
    | bl y => exact ⟨_, rfl, odd H (Same.refl H)⟩
    | int y => exact ⟨_, rfl, odd H (Same.refl H)⟩
    | str y => exact ⟨_, rfl, odd H (Same.refl H)⟩
    | lst g1 g2 => exact ⟨_, rfl, odd H (Same.refl H)⟩
    | dct g1 g0 g2 => exact ⟨_, rfl, odd H (Same.refl H)⟩
end
-- new
def spLawT (K : PySem.W.Frag) (T : Addr) : Sp := fun vs H Q _ => ∃ (a : Addr) (ns : List Int), vs = [.ref a] ∧ SqL K H a (ns.map V.int) ∧ ns.length ≤ 63 ∧ LamX.TabS H T qKept ∧ ∀ H', Q (.bl true) H'
abbrev s_law : Stmt := top 39
abbrev N_law : List Str := ["script", "pen", "bout", "hall", "spot", "one", "some", "k", "thing", "built", "stand", "other", "kept", "told", "due"]
theorem sc_law : FnScope N_law ["script"] (defScope s_law) := ⟨rfl, rfl, rfl, by decide +kernel, rfl, by decide +kernel, by decide +kernel⟩
theorem ne_same {x y : V} {H : Hp} {R : VK} (f : scal x y = true) (e : x = y) (q : R (.bl false) H) : rNe x y H R := ⟨f, by rw [decide_eq_true e]; exact q⟩
theorem HallAt.n {K : PySem.W.Frag} {H G : Hp} {h : Addr} {n : Nat} {rl dd wt : Addr} {rooms : List Str} {ws : List Int} {ds : List DoorI} (x : HallAt K H h n rl dd wt rooms ws ds) (e : LamX.ExtN H G) : HallAt K G h n rl dd wt rooms ws ds :=
  ⟨e _ _ x.kv (fun ps q => by cases q), e _ _ x.rms (fun ps q => by cases q), e _ _ x.drs (fun ps q => by cases q), FzT.n e x.wtf, fun d hd => ⟨sqt_n e (x.all d hd).t, sqt_n e (x.all d hd).c, sqt_n e (x.all d hd).q, Paired.mapP (x.all d hd).ps fun _ _ z => sqt_n e z⟩⟩
theorem eqvS {d : PyData} (h : SeqAt.shaped d = true) : PyData.eqv d d = true := by
  unfold SeqAt.shaped at h
  rw [Bool.and_eq_true] at h
  exact PySem.SeqAt.eqv_refl _ h.1
def keyD (key : List Int) : PyData := .tuple (key.map PyData.int)
def stdD (room : Str) (key : List Int) : PyData := .tuple [.str room, keyD key]
theorem key_fit {key : List Int} (hl : key.length ≤ 12) (hk : ∀ m ∈ key, 0 ≤ m ∧ m < 12) : Fit 100 1 (keyD key) := by
  have f := (fits_ints (ns := key) fun k h => by have := hk k h; omega).tuple
  exact f.mono (by omega) (Nat.le_refl _)
theorem std_fit {room : Str} {key : List Int} (h : Nm room) (hl : key.length ≤ 12) (hk : ∀ m ∈ key, 0 ≤ m ∧ m < 12) : Fit 400 2 (stdD room key) :=
  ((Fits.cons ((nm_cell h).fit.mono (Nat.le_refl _) (Nat.zero_le 1)) (Fits.cons (key_fit hl hk) Fits.nil)).tuple).mono (by omega) (Nat.le_refl _)
/-- what stands in the law's bout -/
structure BaseF (K : PySem.W.Frag) (C T : Addr) (G : Hp) (h rl dd wt : Addr) (n : Nat) (rooms : List Str) (ws : List Int) (ds : List DoorI) (x d2 : Addr) (hr : HR) (st sp : Addr) (sd pd : PyData) : Prop where
  hall : HallAt K G h n rl dd wt rooms ws ds
  house : HouseAt K C G x d2 hr
  stand : Dd K G (.ref st) sd
  spot : Dd K G (.ref sp) pd
  tab : LamX.TabS G T qKept
theorem BaseF.kb {K : PySem.W.Frag} {C T : Addr} {G J : Hp} {h rl dd wt : Addr} {n : Nat} {rooms : List Str} {ws : List Int} {ds : List DoorI} {x d2 : Addr} {hr : HR} {st sp : Addr} {sd pd : PyData} {p : Addr} (b : BaseF K C T G h rl dd wt n rooms ws ds x d2 hr st sp sd pd) (e : Kb p G J) (po : PenO G p) (n1 : h ≠ p) (n2 : rl ≠ p) (n3 : dd ≠ p) (n4 : d2 ≠ p) : BaseF K C T J h rl dd wt n rooms ws ds x d2 hr st sp sd pd := by
  obtain ⟨kvs, h1, h2⟩ := id po
  exact ⟨b.hall.kb e po n1 n2 n3, b.house.d e h1 n4, b.stand.kb e po, b.spot.kb e po, tabS_d e h1 b.tab⟩
theorem BaseF.same {K : PySem.W.Frag} {C T : Addr} {G J : Hp} {h rl dd wt : Addr} {n : Nat} {rooms : List Str} {ws : List Int} {ds : List DoorI} {x d2 : Addr} {hr : HR} {st sp : Addr} {sd pd : PyData} (b : BaseF K C T G h rl dd wt n rooms ws ds x d2 hr st sp sd pd) (e : Same G J) : BaseF K C T J h rl dd wt n rooms ws ds x d2 hr st sp sd pd :=
  ⟨b.hall.same e, b.house.same e, b.stand.same e, b.spot.same e, b.tab.ext e⟩
/-- the list at so, its items data, behind it what stands -/
structure HoldT (K : PySem.W.Frag) (C T : Addr) (H : Hp) (i : PenI) (so : Addr) (B N : Nat) (items : List V) (es : List PyData) (h rl dd wt : Addr) (n : Nat) (rooms : List Str) (ws : List Int) (ds : List DoorI) (x d2 : Addr) (hr : HR) (st sp : Addr) (sd pd : PyData) : Prop where
  at' : H so = some (.lst items)
  pen : Pen (rem so H) i B
  base : BaseF K C T (rem so H) h rl dd wt n rooms ws ds x d2 hr st sp sd pd
  all : DdAll K (rem so H) items es
  fit : ∀ d ∈ es, Fit 20000 4 d
  len : items.length ≤ N
theorem HoldT.add {K : PySem.W.Frag} {C T : Addr} {H J : Hp} {i : PenI} {so : Addr} {B B2 N : Nat} {items : List V} {es : List PyData} {h rl dd wt : Addr} {n : Nat} {rooms : List Str} {ws : List Int} {ds : List DoorI} {x d2 : Addr} {hr : HR} {st sp : Addr} {sd pd : PyData} {v : V} {d : PyData}
    (q : HoldT K C T H i so B N items es h rl dd wt n rooms ws ds x d2 hr st sp sd pd) (n1 : h ≠ i.p) (n2 : rl ≠ i.p) (n3 : dd ≠ i.p) (n4 : d2 ≠ i.p) (gn : J so = none) (kb : Kb i.p (rem so H) J) (pn : Pen J i B2) (hv : Dd K J v d) (f : Fit 20000 4 d) :
    HoldT K C T (upd (upd J so (.lst items)) so (.lst (items ++ [v]))) i so B2 (N + 1) (items ++ [v]) (es ++ [d]) h rl dd wt n rooms ws ds x d2 hr st sp sd pd := by
  have er : rem so (upd (upd J so (.lst items)) so (.lst (items ++ [v]))) = J := by rw [rem_upd, rem_upd, rem_none gn]
  refine ⟨upd_same, by rw [er]; exact pn, by rw [er]; exact q.base.kb kb q.pen.o n1 n2 n3 n4, by rw [er]; exact (q.all.kb kb q.pen.o).append (.cons hv .nil), fun e he => ?_, by rw [List.length_append]; exact Nat.succ_le_succ q.len⟩
  rcases List.mem_append.mp he with he | he
  · exact q.fit e he
  · rw [List.mem_singleton] at he
    rw [he]
    exact f
theorem ints_ddA {K : PySem.W.Frag} {G : Hp} : ∀ l : List Int, DdAll K G (l.map V.int) (l.map PyData.int)
  | [] => .nil
  | m :: l => .cons (.int m) (ints_ddA l)
/-- the first room -/
def dRoom0 (K : PySem.W.Frag) (j : Nat) : RG.DR := fun σ H d => ∃ (h rl dd wt : Addr) (n : Nat) (z : Str) (zs : List Str) (ws : List Int) (ds : List DoorI), σ[j]? = some (some (.ref h)) ∧ HallAt K H h n rl dd wt (z :: zs) ws ds ∧ d = .str z
theorem pd_room0 {X : Cx} {e : Expr} {j k : Nat} {p1 pos : Pos} (he : PE X e (tDGet (tVar j) (tC (.str "rooms")))) : PD X (.Subscript e (.Constant (.int 0) k p1) pos) (dRoom0 X.K j) := by
  refine pd_of (pe_ix ix_list he pe_int (fun _ _ => rfl)) (fun σ H Q d q k => ?_) ?_
  · obtain ⟨h, rl, dd, wt, n, z, zs, ws, ds, h1, h2, rfl⟩ := q
    exact ⟨_, h1, h, .ref rl, rfl, h2.get hall_rooms, rl, _, 0, _, rfl, rfl, SqL.of h2.rms, at_head _ _, k _ _ (Same.refl H) (.str z)⟩
  · rintro σ H H' d e ⟨h, rl, dd, wt, n, z, zs, ws, ds, h1, h2, rfl⟩
    exact ⟨h, rl, dd, wt, n, z, zs, ws, ds, h1, h2.same e, rfl⟩
theorem pos_pick {n : Nat} {key ws : List Int} (hk : key.Perm (places n)) (wn : ws.Nodup) (wb : ∀ m ∈ ws, 0 ≤ m ∧ m < (n : Int)) : isPick ws.length n (keyD (ws.map (posOf key))) = true := by
  have mem : ∀ m ∈ ws, m ∈ key := fun m hm => hk.mem_iff.mpr (by
    obtain ⟨h0, h1⟩ := wb m hm
    unfold places
    exact List.mem_map.mpr ⟨m.toNat, List.mem_range.mpr (by omega), by omega⟩)
  have kl : key.length = n := by rw [hk.length_eq, places_len]
  have h1 : ((ws.map (posOf key)).map PyData.int).all (inB n) = true := by
    refine List.all_eq_true.mpr fun d hd => ?_
    obtain ⟨j, hj, rfl⟩ := List.mem_map.mp hd
    obtain ⟨m, hm, rfl⟩ := List.mem_map.mp hj
    have := List.idxOf_lt_length_of_mem (mem m hm)
    unfold posOf
    rw [inB_int, decide_eq_true (by omega), decide_eq_true (by omega)]
    rfl
  have h2 : ((ws.map (posOf key)).map PyData.int).map wholeOf = ws.map (posOf key) := by
    rw [List.map_map]
    exact (List.map_congr_left fun _ _ => rfl).trans (List.map_id _)
  have h3 : (ws.map (posOf key)).Nodup := by
    unfold List.Nodup
    rw [List.pairwise_map]
    refine List.Pairwise.imp_of_mem ?_ wn
    intro x y hx hy ne e
    unfold posOf at e
    have e : key.idxOf x = key.idxOf y := by omega
    have a1 := List.getElem_idxOf (List.idxOf_lt_length_of_mem (mem x hx))
    have a2 := List.getElem_idxOf (List.idxOf_lt_length_of_mem (mem y hy))
    simp only [e] at a1
    exact ne (a1.symm.trans a2)
  show (decide ((((ws.map (posOf key)).map PyData.int).length : Int) = ws.length) && ((ws.map (posOf key)).map PyData.int).all (inB n) && decide ((((ws.map (posOf key)).map PyData.int).map wholeOf)).Nodup) = true
  rw [h1, h2, List.length_map, List.length_map, decide_eq_true rfl, decide_eq_true h3]
  rfl
theorem room_any {rooms : List Str} {z : Str} (h : z ∈ rooms) : (rooms.any fun y => isT y (.str z)) = true := List.any_eq_true.mpr ⟨z, h, by show (z == z) = true; exact beq_self_eq_true z⟩
theorem room_perm {r1 r2 : List Str} (h : r1.Perm r2) (d : PyData) : inRoomB r1 d = inRoomB r2 d := by
  have : ∀ a, (r1.any fun z => isT z a) = r2.any fun z => isT z a := fun a => by
    rw [Bool.eq_iff_iff, List.any_eq_true, List.any_eq_true]
    exact ⟨fun ⟨z, hz, e⟩ => ⟨z, h.mem_iff.mp hz, e⟩, fun ⟨z, hz, e⟩ => ⟨z, h.mem_iff.mpr hz, e⟩⟩
  match d with
  | .tuple [a, b] => exact this a
  | .tuple [] => rfl
  | .tuple [_] => rfl
  | .tuple (_ :: _ :: _ :: _) => rfl
  | .none => rfl
  | .bool _ => rfl
  | .int _ => rfl
  | .str _ => rfl
  | .list _ => rfl
  | .dict _ => rfl
def someD (sd pd : PyData) (z : Str) : List PyData := [sd, pd, .none, .tuple [], .list [], .dict [], .str "", .int 0, .tuple [.int 0, .int 0], .tuple [.tuple [], .tuple []], .tuple [.str z, .tuple []], .tuple [.str z]]
theorem some_fit {sd pd : PyData} {z : Str} (h1 : Fit 400 2 sd) (h2 : Fit 400 2 pd) (hz : Nm z) : ∀ d ∈ someD sd pd z, Fit 20000 4 d := by
  have fz : Fit 100 0 (.str z) := (nm_cell hz).fit
  have i0 : Fit 2 0 (.int 0) := fit_int (k := 1) (by decide) (by decide) (by decide)
  have n0 : Fit 10 1 (.tuple []) := ((Fits.nil (D := 0)).tuple).mono (by decide) (by decide)
  intro d hd
  simp only [someD, List.mem_cons, List.not_mem_nil, or_false] at hd
  rcases hd with rfl | rfl | rfl | rfl | rfl | rfl | rfl | rfl | rfl | rfl | rfl | rfl
  · exact h1.mono (by decide) (by decide)
  · exact h2.mono (by decide) (by decide)
  · exact fit_none.mono (by decide) (by decide)
  · exact n0.mono (by decide) (by decide)
  · exact ((Fits.nil (D := 0)).list).mono (by decide) (by decide)
  · exact ⟨rfl, by simp only [PyData.shown, PyData.shownKv]; decide +kernel, by decide⟩
  · exact ⟨rfl, by simp only [PyData.shown]; decide +kernel, by decide⟩
  · exact i0.mono (by decide) (by decide)
  · exact (((Fits.nil.cons i0).cons i0).tuple).mono (by decide) (by decide)
  · exact (((Fits.nil.cons n0).cons n0).tuple).mono (by decide) (by decide)
  · exact (((Fits.nil.cons n0).cons (fz.mono (Nat.le_refl _) (by decide))).tuple).mono (by decide) (by decide)
  · exact ((Fits.nil.cons fz).tuple).mono (by decide) (by decide)
section
variable {P : Program} {w : World} {K : PySem.W.Frag} {mg : Str → Option Value} {base : Heap} {f C T : Addr} {fd : FuncData}
theorem ok_law (F : Fun K "law" "law" s_law f fd) (B : Bt mg) (C_law_pen : Cg P w K mg base 1 "_law_pen" (spPen K)) (C_law_draw : Cg P w K mg base 1 "_law_draw" spDraw) (C_law_hall : Cg P w K mg base 4 "_law_hall" (spHall K)) (C_law_made : Cg P w K mg base 7 "_law_made" (spMade K C T))
    (C_law_stand : Cg P w K mg base 3 "_law_stand" (spStand K)) (C_law_split : Cg P w K mg base 1 "_law_split" (spSplitL K)) (C_split : Cg P w K mg base 2 "split" (spSplit K C)) (C_is_split : Cg P w K mg base 3 "is_split" (spIsSplitA K C)) (C_is_stand : Cg P w K mg base 4 "is_stand" (spIsStandA K C)) (C_brings : Cg P w K mg base 2 "brings" (spBrings K)) (C_law_brings : Cg P w K mg base 1 "_law_brings" (spBringsL K)) (C_law_moved : Cg P w K mg base 1 "_law_moved" (spMovedL K))
    (C_law_bent : Cg P w K mg base 4 "_law_bent" (spBentH K)) (C_law_is_stand : Cg P w K mg base 2 "_law_is_stand" (spIsStandL K)) (C_law_is_split : Cg P w K mg base 1 "_law_is_split" (spIsSplitL K)) : FnG P w K mg base CX0 8 f fd ["script"] (spLawT K T) := by
  refine fnG0 F sc_law (fun vs H Q E h => ?_) (fun cdv A outer s H vs Q E hr0 hg h => ?_)
  · obtain ⟨a, ns, rfl, _⟩ := h
    rfl
  · obtain ⟨a, ns, rfl, ha, hl, hT, k⟩ := h
    have nd := sc_law.nd
    have hu := hu_of hr0
    have hu64 : (A.deeper (envOfC "law" (defScope s_law) s.heap.objs.size f cdv)).units + 64 < cLine := hr0.units
    refine ⟨_, (pss_cons (ps_set (i := 1) nd rfl (Or.inl rfl) (pe_g C_law_pen hr0 hg (by decide) rfl (pa_cons (pv 0) pa_nil)))
      (pss_cons (ps_for PassesOwn.never rfl (pi_range1 (by rfl) B.range (pa_cons (pe_op op_add pe_int (pe_callB (call_min2 rfl) (by rfl) B.min b_min (pa_cons pe_int (pa_cons (pe_callB call_len_seq (by rfl) B.len b_len (pa_cons (pv 0) pa_nil)) pa_nil)))) pa_nil)) (pg_name (i := 2) nd rfl (Or.inl rfl))
        (pss_cons (ps_set (i := 3) nd rfl (Or.inl rfl) (pe_g C_law_hall hr0 hg (by decide) rfl (pa_cons (pv 1) (pa_cons (pe_op op_add pe_int (pe_g C_law_draw hr0 hg (by decide) rfl (pa_cons (pv 1) (pa_cons pe_int pa_nil)))) (pa_cons pe_int (pa_cons pe_int (pa_cons pe_int pa_nil)))))))
        (pss_cons (ps_par3 (i := 9) (j := 10) (l := 11) (by rfl) nd rfl rfl rfl (by decide) (by decide) (by decide) rfl rfl rfl (pa_cons (pe_g C_law_made hr0 hg (by decide) rfl (pa_cons (pv 3) pa_nil)) (pa_cons (pe_g C_law_stand hr0 hg (by decide) rfl (pa_cons (pv 1) (pa_cons (pv 3) pa_nil))) (pa_cons (pe_g C_law_stand hr0 hg (by decide) rfl (pa_cons (pv 1) (pa_cons (pv 3) pa_nil))) pa_nil))) (by rfl))
        (pss_cons (ps_set (i := 4) nd rfl (Or.inl rfl) (pe_g C_law_split hr0 hg (by decide) rfl (pa_cons (pv 3) (pa_cons (pv 10) pa_nil))))
        (C8.pss_cut (ps_if (PW.pt (pw_or (pt_cmpR op_ne (pe_callB (cr_repr hg hu64) (by rfl) B.repr b_repr (pa_cons (pe_g C_split hr0 hg (by decide) rfl (pa_cons (pv 9) (pa_cons (pv 10) pa_nil))) pa_nil)) (pe_callB (cr_repr hg hu64) (by rfl) B.repr b_repr (pa_cons (pv 4) pa_nil)) (nomark _)) (pw_or1 (pt_cmpR op_ne (pe_callB (cr_repr hg hu64) (by rfl) B.repr b_repr (pa_cons (pe_g C_is_split hr0 hg (by decide) rfl (pa_cons (pv 9) (pa_cons (pv 4) pa_nil))) pa_nil)) pe_str (nomark _)))))
          (pss_one (ps_ret pe_bl))
          pss_nil)
        (pss_cons (ps_set (i := 5) nd rfl (Or.inl rfl) (pe_g C_brings hr0 hg (by decide) rfl (pa_cons (pe_ix ix_tup (pv 10) pe_int (fun _ _ => rfl)) (pa_cons (pe_ix ix_tup (pv 11) pe_int (fun _ _ => rfl)) pa_nil))))
        (C8.pss_cut (ps_if (PW.pt (pw_or (pt_cmpR op_ne (pe_callB (cr_repr hg hu64) (by rfl) B.repr b_repr (pa_cons (pv 5) pa_nil)) (pe_callB (cr_repr hg hu64) (by rfl) B.repr b_repr (pa_cons (pe_g C_law_brings hr0 hg (by decide) rfl (pa_cons (pe_ix ix_tup (pv 10) pe_int (fun _ _ => rfl)) (pa_cons (pe_ix ix_tup (pv 11) pe_int (fun _ _ => rfl)) pa_nil))) pa_nil)) (nomark _)) (pw_or1 (pt_cmpR (op_neD hu64) (pe_g C_law_moved hr0 hg (by decide) rfl (pa_cons (pe_ix ix_tup (pv 10) pe_int (fun _ _ => rfl)) (pa_cons (pv 5) pa_nil))) (pe_ix ix_tup (pv 11) pe_int (fun _ _ => rfl)) (nomark _)))))
          (pss_one (ps_ret pe_bl))
          pss_nil)
        (C8.pss_cut (ps_set (i := 6) nd rfl (Or.inl rfl) (pe_lst (pds_cons (pd_var (pv 10)) (pds_cons (pd_var (pv 4)) (pds_cons pd_non (pds_cons (pd_tup pds_nil) (pds_cons (pd_lst pds_nil) (pds_cons pd_dnew (pds_cons pd_str (pds_cons pd_int (pds_cons (pd_tup (pds_cons pd_int (pds_cons pd_int pds_nil))) (pds_cons (pd_tup (pds_cons (pd_tup pds_nil) (pds_cons (pd_tup pds_nil) pds_nil))) (pds_cons (pd_tup (pds_cons (pd_room0 (pe_dget hu (pv 3) pe_str (fun _ _ => rfl))) (pds_cons (pd_tup pds_nil) pds_nil))) (pds_cons (pd_tup (pds_cons (pd_room0 (pe_dget hu (pv 3) pe_str (fun _ _ => rfl))) pds_nil)) pds_nil)))))))))))).pa))
        (C8.pss_cut (ps_for PassesOwn.never rfl (pi_range1 (by rfl) B.range (pa_cons pe_int pa_nil)) (pg_name (i := 7) nd rfl (Or.inl rfl))
          (pss_cons (ps_expr (pe_bm PySem.F.plainAttrs_list PySem.F.slot_list_append PySem.F.type_list_append mt_append (pv 6) (pa_cons (pe_gH C_law_bent hr0 hg (by decide) rfl (pa_cons (pv 1) (pa_cons (pv 3) (pa_cons (pv 10) pa_nil)))) pa_nil)))
          (pss_cons (ps_expr (pe_bm PySem.F.plainAttrs_list PySem.F.slot_list_append PySem.F.type_list_append mt_append (pv 6) (pa_cons (pe_gH C_law_bent hr0 hg (by decide) rfl (pa_cons (pv 1) (pa_cons (pv 3) (pa_cons (pe_ix ix_list (pv 6) (pe_un un_neg pe_int) (fun _ _ => rfl)) pa_nil)))) pa_nil)))
          (pss_cons (ps_expr (pe_bm PySem.F.plainAttrs_list PySem.F.slot_list_append PySem.F.type_list_append mt_append (pv 6) (pa_cons (pe_gH C_law_bent hr0 hg (by decide) rfl (pa_cons (pv 1) (pa_cons (pv 3) (pa_cons (pv 4) pa_nil)))) pa_nil)))
          (pss_one (ps_expr (pe_bm PySem.F.plainAttrs_list PySem.F.slot_list_append PySem.F.type_list_append mt_append (pv 6) (pa_cons (pe_gH C_law_bent hr0 hg (by decide) rfl (pa_cons (pv 1) (pa_cons (pv 3) (pa_cons (pe_ix ix_list (pv 6) (pe_un un_neg pe_int) (fun _ _ => rfl)) pa_nil)))) pa_nil))))))))
        (pss_one (ps_for PassesOwn.never rfl (pi_list (pv 6)) (pg_name (i := 8) nd rfl (Or.inl rfl))
          (pss_cons (ps_set (i := 12) nd rfl (Or.inl rfl) (pe_callB (cr_repr hg hu64) (by rfl) B.repr b_repr (pa_cons (pv 8) pa_nil)))
          (pss_cons (ps_set (i := 13) nd rfl (Or.inl rfl) (pe_lst (pa_cons (pe_g C_is_stand hr0 hg (by decide) rfl (pa_cons (pv 9) (pa_cons (pv 8) pa_nil))) (pa_cons (pe_g C_is_split hr0 hg (by decide) rfl (pa_cons (pv 9) (pa_cons (pv 8) pa_nil))) pa_nil))))
          (pss_cons (ps_set (i := 14) nd rfl (Or.inl rfl) (pe_lst (pa_cons (pe_g C_law_is_stand hr0 hg (by decide) rfl (pa_cons (pv 3) (pa_cons (pv 8) pa_nil))) (pa_cons (pe_g C_law_is_split hr0 hg (by decide) rfl (pa_cons (pv 3) (pa_cons (pv 8) pa_nil))) pa_nil))))
          (pss_one (ps_if (PW.pt (pw_or (pt_cmpR op_ne (pe_callB (cr_repr hg hu64) (by rfl) B.repr b_repr (pa_cons (pv 13) pa_nil)) (pe_callB (cr_repr hg hu64) (by rfl) B.repr b_repr (pa_cons (pv 14) pa_nil)) (nomark _)) (pw_or1 (pt_cmpR op_ne (pe_callB (cr_repr hg hu64) (by rfl) B.repr b_repr (pa_cons (pv 8) pa_nil)) (pv 12) (nomark _)))))
            (pss_one (ps_ret pe_bl))
            pss_nil))))))))))))))))
      (pss_one (ps_ret pe_bl)))), ?_⟩
    refine ⟨_, rfl, a, ns, rfl, ha, hl, fun i G e pn => ?_⟩
    refine ⟨_, rfl, a, _, rfl, .inl (sql_same e ha), _, _, rfl, _, _, rfl, rfl, _, rfl, ?_, ?_, ?_⟩
    · rw [List.length_map]; split <;> omega
    · rw [List.length_map]; split <;> omega
    have T0 := hT.ext e
    have TK : ∀ {X Y : Hp}, LamX.TabS X T qKept → Kb i.p X Y → PenO X i.p → LamX.TabS Y T qKept := fun t kb po => by
      obtain ⟨kvs, h1, _⟩ := po
      exact tabS_d kb h1 t
    refine for_range (fun b σ G => ∃ x2 x3 x4 x5 x6 x7 x8 x9 x10 x11 x12 x13 x14, σ = [some (.ref a), some (.ref i.p), x2, x3, x4, x5, x6, x7, x8, x9, x10, x11, x12, x13, x14] ∧ Pen G i (b * 5000) ∧ LamX.TabS G T qKept) ⟨_, _, _, _, _, _, _, _, _, _, _, _, _, rfl, pn.mono (Nat.zero_le _), T0⟩ (fun b σ G1 hb z => ?_) (fun σ G1 z => k G1)
    have hb2 : b < 100 := by
      refine Nat.lt_of_lt_of_le hb ?_
      rw [List.length_map]
      split <;> omega
    clear hb
    obtain ⟨x2, x3, x4, x5, x6, x7, x8, x9, x10, x11, x12, x13, x14, rfl, pn1, T1⟩ := z
    clear e pn ha T0
    refine ⟨_, rfl, _, rfl, i, 7, _, rfl, pn1, by omega, by decide, by decide, fun d G2 d0 d1 kb2 pn2 => ⟨_, _, rfl, rfl, ?_⟩⟩
    obtain ⟨c, rfl⟩ : ∃ c : Nat, d = (c : Int) := ⟨d.toNat, by omega⟩
    refine ⟨i, _, c + 2, 4, 4, 2, by rw [show ((c + 2 : Nat) : Int) = 2 + (c : Int) by omega]; rfl, pn2, by omega, by omega, by omega, by omega, by omega, by omega, fun h rl dd wt rooms ws ds G3 hA hD fh frl fdd kb3 pn3 => ?_⟩
    have T3 := TK (TK T1 kb2 pn1.o) kb3 pn2.o
    obtain ⟨pk, hpk⟩ : ∃ kvs, G2 i.p = some (.dK kvs) := by
      obtain ⟨kvs, h1, _⟩ := pn2.o
      exact ⟨kvs, h1⟩
    have hp1 : h ≠ i.p := fun z => by rw [z, hpk] at fh; cases fh
    have hp2 : rl ≠ i.p := fun z => by rw [z, hpk] at frl; cases frl
    have hp3 : dd ≠ i.p := fun z => by rw [z, hpk] at fdd; cases fdd
    have n12 : c + 2 ≤ 12 := by omega
    have n2 : 2 ≤ c + 2 := by omega
    refine ⟨_, rfl, h, rl, dd, wt, c + 2, 4, 4, 2, rooms, ws, ds, rfl, hA, hD, n12, by omega, by omega, by omega, T3, fun x d2 ts hr G4 tl hH hK eN T4 fr => ?_⟩
    have pn4 := pen_n eN pn3
    have hA4 := hA.n eN
    have d2p : d2 ≠ i.p := fun z => by
      obtain ⟨kvs, h1, _⟩ := pn3.o
      obtain ⟨ps, h2⟩ := fr _ (by rw [z]; exact h1)
      cases h2
    have wt1 : hr.watched = ws := List.Perm.eq_of_pairwise (fun a b _ _ q1 q2 => by omega) hK.watched.2 hD.wu hK.watched.1
    have rp := hK.rooms.1
    have pl : hr.places = ((c + 2 : Nat) : Int) := hK.places
    have hwl : ws.length ≤ 2 := hD.wl
    clear hA T1 T3 kb2 kb3 pn1 pn2 pn3 hpk pk fh frl fdd fr eN tl hK
    generalize c + 2 = n at *
    have HK : ∀ {X Y : Hp}, HouseAt K C X x d2 hr → Kb i.p X Y → PenO X i.p → HouseAt K C Y x d2 hr := fun t kb po => by
      obtain ⟨kvs, h1, _⟩ := po
      exact t.d kb h1 d2p
    refine ⟨_, rfl, _, rfl, i, _, h, rl, dd, wt, n, rooms, ws, ds, rfl, pn4, by omega, hA4, hD.r1, by have := hD.r2; omega, n12, hp1, hp2, hp3, fun st kt room key G5 rm pk fk hst kb5 pn5 => ?_⟩
    have hA5 := hA4.kb kb5 pn4.o hp1 hp2 hp3
    refine ⟨_, rfl, _, rfl, i, _, h, rl, dd, wt, n, rooms, ws, ds, rfl, pn5, by omega, hA5, hD.r1, by have := hD.r2; omega, n12, hp1, hp2, hp3, fun st2 kt2 room2 key2 G6 rm2 pk2 fk2 hst2 kb6 pn6 => ⟨_, _, _, rfl, ?_⟩⟩
    have hH6 := (HK hH kb5 pn4.o |> fun q => HK q kb6 pn5.o)
    have T6 := TK (TK T4 kb5 pn4.o) kb6 pn5.o
    have hA6 := hA5.kb kb6 pn5.o hp1 hp2 hp3
    have sst6 : SqT K G6 st [.str room, .ref kt] := sqt_kb kb6 pn5.o (SqT.of hst)
    have fk6 := FzT.kb kb6 pn5.o fk
    have sst26 : SqT K G6 st2 [.str room2, .ref kt2] := SqT.of hst2
    have wb := hD.wb
    have mk : ∀ m ∈ ws, m ∈ key := fun m hm => pk.mem_iff.mpr (by
      obtain ⟨h0, h1⟩ := wb m hm
      unfold places
      exact List.mem_map.mpr ⟨m.toNat, List.mem_range.mpr (by omega), by omega⟩)
    have kl : key.length = n := by rw [pk.length_eq, places_len]
    have k12 : ∀ m ∈ key, 0 ≤ m ∧ m < 12 := fun m hm => by have := places_mem (pk.mem_iff.mp hm); omega
    have rnm := hD.rn room rm
    clear hA4 hA5 hH T4 pn4 pn5 kb5 kb6 hst hst2 fk
    refine ⟨_, rfl, _, rfl, h, rl, dd, wt, st, kt, n, rooms, ws, ds, room, key, rfl, hA6, sst6, fk6, mk, by omega, fun sp pt G7 e7 gsp gpt => ?_⟩
    have posV : (ws.map fun m => V.int (posOf key m)) = (ws.map (posOf key)).map V.int := by rw [List.map_map]; rfl
    rw [posV] at gpt
    have ddI : ∀ {G : Hp} {t : Addr} {l : List Int}, SqT K G t (l.map V.int) → Dd K G (.ref t) (keyD l) := fun h => .tup h (ints_ddA _)
    have spD : Dd K G7 (.ref sp) (stdD room (ws.map (posOf key))) := .tup (SqT.of gsp) (.cons (.str _) (.cons (ddI (SqT.of gpt)) .nil))
    have stD : Dd K G7 (.ref st) (stdD room key) := .tup (sqt_same e7 sst6) (.cons (.str _) (.cons (ddI ((fk6.same e7).sqt)) .nil))
    have plen : (ws.map (posOf key)).length ≤ 12 := by rw [List.length_map]; omega
    have p12 : ∀ m ∈ ws.map (posOf key), 0 ≤ m ∧ m < 12 := fun j hj => by
      obtain ⟨m, hm, rfl⟩ := List.mem_map.mp hj
      have := List.idxOf_lt_length_of_mem (mk m hm)
      unfold posOf
      omega
    have fsp := std_fit rnm plen p12
    have fst := std_fit rnm (by omega : key.length ≤ 12) k12
    have zsp : (stdD room (ws.map (posOf key))).shown.length ≤ sizeLine := Nat.le_trans fsp.le (by decide)
    have ysp : (stdD room (ws.map (posOf key))).depth ≤ 60 := Nat.le_trans fsp.dp (by decide)
    have hsplit : isSplitB hr.rooms hr.watched.length hr.places (stdD room (ws.map (posOf key))) = true := by
      unfold isSplitB
      rw [show inRoomB hr.rooms (stdD room (ws.map (posOf key))) = true from room_any (rp.mem_iff.mpr rm), wt1, pl]
      exact pos_pick pk hD.wn wb
    refine ⟨fun σ G => σ = [some (.ref a), some (.ref i.p), some (.int (0 + (b : Int))), some (.ref h), some (.ref sp), x5, x6, x7, x8, some (.ref x), some (.ref st), some (.ref st2), x12, x13, x14] ∧ Same G7 G, ?_, fun σ G8 z => ?_⟩
    · refine ⟨_, rfl, _, rfl, x, d2, st, kt, hr, room, key, rfl, hH6.same e7, sqt_same e7 sst6, fk6.same e7, Nat.le_trans rnm.le (by decide), by rw [wt1]; exact mk, by rw [wt1]; omega, fun t pt2 G8 e8 gt gpt2 => ?_⟩
      rw [wt1, posV] at gpt2
      refine ⟨.ref t, stdD room (ws.map (posOf key)), rfl, .tup (SqT.of gt) (.cons (.str _) (.cons (ddI (SqT.of gpt2)) .nil)), fsp.sh, zsp, ysp, ?_⟩
      refine ⟨_, rfl, .ref sp, _, rfl, spD.same e8, fsp.sh, zsp, ysp, ne_same rfl rfl ⟨_, rfl, iteF ?_⟩⟩
      refine ⟨_, rfl, _, rfl, x, d2, .ref sp, hr, _, rfl, hH6.same (e7.trans e8), by rw [wt1]; omega, spD.same e8, fun G9 e9 => ?_⟩
      rw [hsplit]
      refine ⟨.bl true, .bool true, rfl, .bl true, rfl, by decide +kernel, by decide, ?_⟩
      have e0 : V.str (PyData.bool true).shown = V.str "True" := congrArg V.str (by decide +kernel)
      refine ⟨rfl, _, rfl, ?_⟩
      rw [decide_eq_true e0]
      refine iteF ?_
      exact ⟨rfl, e8.trans e9⟩
    · obtain ⟨rfl, e8⟩ := z
      obtain ⟨q1, eq1, hq1⟩ := perm_ar pk
      obtain ⟨q2, eq2, hq2⟩ := perm_ar pk2
      have spD8 := spD.same e8
      have stD8 := stD.same e8
      have e68 := e7.trans e8
      have hA8 := hA6.same e68
      have hH8 := hH6.same e68
      have T8 := T6.ext e68
      have pn8 := pn6.same e68
      have sst8 := sqt_same e68 sst6
      have sst28 := sqt_same e68 sst26
      have kt8 : SqT K G8 kt (arV q1 n) := by rw [← eq1]; exact (fk6.same e68).sqt
      have kt28 : FzT G8 kt2 (arV q2 n) := by rw [← eq2]; exact fk2.same e68
      clear hA6 hH6 T6 pn6 sst6 sst26 fk6 fk2 spD stD e7 e8 e68 gsp gpt
      have hr1 : IsP n (fun k => invF n q2 (q1 k)) := hq1.comp (invF_isP hq2)
      have mv : ∀ j, j < n → q1 (invF n (fun k => invF n q2 (q1 k)) j) = q2 j := fun j hj => by
        obtain ⟨l1, l2⟩ := invF_lt hr1 hj
        have l3 := (invF_lt hq2 (hq1.lt _ l1)).2
        rw [l2] at l3
        exact l3.symm
      refine ⟨_, rfl, st, _, 1, _, rfl, rfl, sst8, rfl, _, rfl, st2, _, 1, _, rfl, rfl, sst28, rfl, kt, kt2, n, q1, q2, rfl, kt8, kt28.sqt, hq1, hq2, n12, fun ot G9 e9 hot => ?_⟩
      have fr1 : Fit 100 1 (keyD (keyOf n fun k => invF n q2 (q1 k))) := key_fit (by rw [keyOf_len]; exact n12) fun m hm => by
        unfold keyOf at hm
        obtain ⟨j, hj, rfl⟩ := List.mem_map.mp hm
        have : invF n q2 (q1 j) < n := hr1.lt j (List.mem_range.mp hj)
        show 0 ≤ ((invF n q2 (q1 j) : Nat) : Int) ∧ ((invF n q2 (q1 j) : Nat) : Int) < 12
        omega
      have zr : (keyD (keyOf n fun k => invF n q2 (q1 k))).shown.length ≤ sizeLine := Nat.le_trans fr1.le (by decide)
      have yr : (keyD (keyOf n fun k => invF n q2 (q1 k))).depth ≤ 60 := Nat.le_trans fr1.dp (by decide)
      refine ⟨fun σ G => σ = [some (.ref a), some (.ref i.p), some (.int (0 + (b : Int))), some (.ref h), some (.ref sp), some (.ref ot), x6, x7, x8, some (.ref x), some (.ref st), some (.ref st2), x12, x13, x14] ∧ Same G8 G, ?_, fun σ GA z => ?_⟩
      · have dk : ∀ {G : Hp} {t : Addr}, SqT K G t (arV (fun k => invF n q2 (q1 k)) n) → Dd K G (.ref t) (keyD (keyOf n fun k => invF n q2 (q1 k))) := fun h => ddI (by rw [keyOf_V]; exact h)
        refine ⟨_, rfl, .ref ot, _, rfl, dk hot, fr1.sh, zr, yr, ?_⟩
        refine ⟨_, rfl, st, _, 1, _, rfl, rfl, sqt_same e9 sst8, rfl, _, rfl, st2, _, 1, _, rfl, rfl, sqt_same e9 sst28, rfl, kt, kt2, n, q1, q2, rfl, sqt_same e9 kt8, kt28.same e9, hq1, hq2, n12, fun t G10 e10 ht => ?_⟩
        refine ⟨.ref t, _, rfl, dk ht, fr1.sh, zr, yr, ne_same rfl rfl ⟨_, rfl, iteF ?_⟩⟩
        refine ⟨_, rfl, st, _, 1, _, rfl, rfl, sqt_same (e9.trans e10) sst8, rfl, _, rfl, ?_⟩
        refine ⟨kt, .ref ot, n, q1, _, rfl, sqt_same (e9.trans e10) kt8, ⟨ot, rfl, sqt_same e10 hot⟩, hr1, n12, fun t2 G11 e11 ht2 => ?_⟩
        have e811 := (e9.trans e10).trans e11
        rw [arV_congr mv] at ht2
        refine ⟨_, rfl, st2, _, 1, _, rfl, rfl, sqt_same e811 sst28, rfl, ?_⟩
        have dpK : ∀ {G : Hp} {t : Addr}, SqT K G t (arV q2 n) → Dp K G (.ref t) (keyD (keyOf n q2)) := fun h => .tup (by rw [keyOf_V]; exact h) (dp_ints _)
        refine ⟨keyD (keyOf n q2), keyD (keyOf n q2), dpK ht2, dpK ((kt28.same e811).sqt), shaped_intsT _, shaped_intsT _, _, rfl, ?_⟩
        rw [eqvS (show SeqAt.shaped (keyD (keyOf n q2)) = true from shaped_intsT _)]
        refine iteF ?_
        exact ⟨rfl, e811⟩
      · obtain ⟨rfl, eA⟩ := z
        have stDA := stD8.same eA
        have spDA := spD8.same eA
        have hAA := hA8.same eA
        have hHA := hH8.same eA
        have TA := T8.ext eA
        have pnA := pn8.same eA
        clear stD8 spD8 hA8 hH8 T8 pn8 eA kt8 kt28 sst8 sst28 e9 hot fr1 zr yr
        obtain ⟨z0, zs0, rfl⟩ := List.exists_cons_of_ne_nil hD.r1
        have znm : Nm z0 := hD.rn z0 List.mem_cons_self
        refine ⟨fun σ G => ∃ so xs, σ = [some (.ref a), some (.ref i.p), some (.int (0 + (b : Int))), some (.ref h), some (.ref sp), some (.ref ot), some (.ref so), x7, x8, some (.ref x), some (.ref st), some (.ref st2), x12, x13, x14] ∧ HoldT K C T G i so (b * 5000 + 3500) 12 xs (someD (stdD room key) (stdD room (ws.map (posOf key))) z0) h rl dd wt n (z0 :: zs0) ws ds x d2 hr st sp (stdD room key) (stdD room (ws.map (posOf key))), ?_, fun σ GB z => ?_⟩
        · have r0 : dRoom0 K 3 [some (.ref a), some (.ref i.p), some (.int (0 + (b : Int))), some (.ref h), some (.ref sp), some (.ref ot), x6, x7, x8, some (.ref x), some (.ref st), some (.ref st2), x12, x13, x14] GA (.str z0) := ⟨h, rl, dd, wt, n, z0, zs0, ws, ds, rfl, hAA, rfl⟩
          have nilT : dTup dNil [some (.ref a), some (.ref i.p), some (.int (0 + (b : Int))), some (.ref h), some (.ref sp), some (.ref ot), x6, x7, x8, some (.ref x), some (.ref st), some (.ref st2), x12, x13, x14] GA (.tuple []) := ⟨[], rfl, by decide, rfl⟩
          refine ⟨someD (stdD room key) (stdD room (ws.map (posOf key))) z0, ⟨_, _, ⟨_, rfl, stDA⟩, ⟨_, _, ⟨_, rfl, spDA⟩, ⟨_, _, rfl, ⟨_, _, nilT, ⟨.list [], _, ⟨[], rfl, by decide, rfl⟩, ⟨_, _, rfl, ⟨_, _, rfl, ⟨_, _, rfl, ⟨.tuple [.int 0, .int 0], _, ⟨[.int 0, .int 0], ⟨_, _, rfl, ⟨_, _, rfl, rfl, rfl⟩, rfl⟩, by decide, rfl⟩, ⟨.tuple [.tuple [], .tuple []], _, ⟨[.tuple [], .tuple []], ⟨_, _, nilT, ⟨_, _, nilT, rfl, rfl⟩, rfl⟩, by decide, rfl⟩, ⟨.tuple [.str z0, .tuple []], _, ⟨[.str z0, .tuple []], ⟨_, _, r0, ⟨_, _, nilT, rfl, rfl⟩, rfl⟩, show 2 ≤ 1000 by decide, rfl⟩, ⟨.tuple [.str z0], [], ⟨[.str z0], ⟨_, _, r0, rfl, rfl⟩, show 1 ≤ 1000 by decide, rfl⟩, rfl, rfl⟩, rfl⟩, rfl⟩, rfl⟩, rfl⟩, rfl⟩, rfl⟩, rfl⟩, rfl⟩, rfl⟩, rfl⟩, rfl⟩, fun xs GB eB dxs => ?_⟩
          have xl : xs.length = 12 := dxs.length
          refine ⟨by rw [xl]; decide, fun so hso => ?_⟩
          have er : rem so (upd GB so (.lst xs)) = GB := by rw [rem_upd, rem_none hso]
          refine ⟨so, xs, rfl, upd_same, by rw [er]; exact (pnA.same eB).mono (by omega), by rw [er]; exact ⟨hAA.same eB, hHA.same eB, stDA.same eB, spDA.same eB, TA.ext eB⟩, by rw [er]; exact dxs, some_fit fst fsp znm, by omega⟩
        · obtain ⟨so, xs, rfl, hold⟩ := z
          have rl20 : (z0 :: zs0).length ≤ 20 := Nat.le_trans hD.r2 (by decide)
          have dl20 : ds.length ≤ 20 := Nat.le_trans hD.dl (by decide)
          have dnm : ∀ d ∈ ds, Nm d.name := fun d hd => (hD.nm d hd).1
          clear znm stDA spDA hAA hHA TA pnA
          refine ⟨fun σ G => ∃ y7 items es, σ = [some (.ref a), some (.ref i.p), some (.int (0 + (b : Int))), some (.ref h), some (.ref sp), some (.ref ot), some (.ref so), y7, x8, some (.ref x), some (.ref st), some (.ref st2), x12, x13, x14] ∧ HoldT K C T G i so (b * 5000 + 3700) 36 items es h rl dd wt n (z0 :: zs0) ws ds x d2 hr st sp (stdD room key) (stdD room (ws.map (posOf key))), ?_, fun σ GC z => ?_⟩
          · refine ⟨6, rfl, by decide, by decide, ?_⟩
            refine for_range (n := 6) (fun m σ G => ∃ y7 items es, σ = [some (.ref a), some (.ref i.p), some (.int (0 + (b : Int))), some (.ref h), some (.ref sp), some (.ref ot), some (.ref so), y7, x8, some (.ref x), some (.ref st), some (.ref st2), x12, x13, x14] ∧ HoldT K C T G i so (b * 5000 + 3500 + 32 * m) (12 + 4 * m) items es h rl dd wt n (z0 :: zs0) ws ds x d2 hr st sp (stdD room key) (stdD room (ws.map (posOf key)))) ⟨_, _, _, rfl, hold⟩ (fun m σ G hm z => ?_) (fun σ G z => ?_)
            · clear hold
              obtain ⟨y7, I0, es, rfl, q0⟩ := z
              refine ⟨_, rfl, .inl ⟨rfl, _, SqL.of q0.at'⟩, _, rfl, _, rfl, _, rfl, callH1 q0.at' ?_⟩
              refine ⟨i, _, 400, h, rl, dd, wt, n, z0 :: zs0, ws, ds, .ref st, _, rfl, q0.pen, by omega, q0.base.hall, n12, by simp, rl20, dl20, hD.rn, dnm, hp1, hp2, hp3, q0.base.stand, fst.mono (by decide) (by decide), by decide, fun v1 d1 J1 kb1 pn1 dd1 ft1 gn1 => ?_⟩
              refine ⟨so, _, _, rfl, rfl, upd_same, Nat.lt_of_le_of_lt q0.len (Nat.lt_of_lt_of_le (show _ < 100 by omega) (by decide)), ?_⟩
              have q1 := q0.add hp1 hp2 hp3 d2p gn1 kb1 pn1 dd1 (ft1.mono (by decide) (by decide))
              have dx1 : Dd K (rem so (upd (upd J1 so (.lst I0)) so (.lst (I0 ++ [v1])))) v1 d1 := by rw [rem_upd, rem_upd, rem_none gn1]; exact dd1
              generalize upd (upd J1 so (.lst I0)) so (.lst (I0 ++ [v1])) = G21 at q1 dx1 ⊢
              clear dd1 kb1 pn1 gn1
              refine ⟨_, rfl, .inl ⟨rfl, _, SqL.of q1.at'⟩, _, rfl, _, rfl, _, rfl, _, rfl, so, _, _, _, rfl, rfl, SqL.of q1.at', atI_last _ _, callH1 q1.at' ?_⟩
              refine ⟨i, _, 2000, h, rl, dd, wt, n, z0 :: zs0, ws, ds, v1, _, rfl, q1.pen, by omega, q1.base.hall, n12, by simp, rl20, dl20, hD.rn, dnm, hp1, hp2, hp3, dx1, ft1.mono (by decide) (by decide), by decide, fun v2 d2 J2 kb2 pn2 dd2 ft2 gn2 => ?_⟩
              refine ⟨so, _, _, rfl, rfl, upd_same, Nat.lt_of_le_of_lt q1.len (Nat.lt_of_lt_of_le (show _ < 100 by omega) (by decide)), ?_⟩
              have q2 := q1.add hp1 hp2 hp3 d2p gn2 kb2 pn2 dd2 (ft2.mono (by decide) (by decide))
              have dx2 : Dd K (rem so (upd (upd J2 so (.lst (I0 ++ [v1]))) so (.lst ((I0 ++ [v1]) ++ [v2])))) v2 d2 := by rw [rem_upd, rem_upd, rem_none gn2]; exact dd2
              generalize upd (upd J2 so (.lst (I0 ++ [v1]))) so (.lst ((I0 ++ [v1]) ++ [v2])) = G22 at q2 dx2 ⊢
              clear dd2 kb2 pn2 gn2
              refine ⟨_, rfl, .inl ⟨rfl, _, SqL.of q2.at'⟩, _, rfl, _, rfl, _, rfl, callH1 q2.at' ?_⟩
              refine ⟨i, _, 400, h, rl, dd, wt, n, z0 :: zs0, ws, ds, .ref sp, _, rfl, q2.pen, by omega, q2.base.hall, n12, by simp, rl20, dl20, hD.rn, dnm, hp1, hp2, hp3, q2.base.spot, fsp.mono (by decide) (by decide), by decide, fun v3 d3 J3 kb3 pn3 dd3 ft3 gn3 => ?_⟩
              refine ⟨so, _, _, rfl, rfl, upd_same, Nat.lt_of_le_of_lt q2.len (Nat.lt_of_lt_of_le (show _ < 100 by omega) (by decide)), ?_⟩
              have q3 := q2.add hp1 hp2 hp3 d2p gn3 kb3 pn3 dd3 (ft3.mono (by decide) (by decide))
              have dx3 : Dd K (rem so (upd (upd J3 so (.lst (I0 ++ [v1] ++ [v2]))) so (.lst ((I0 ++ [v1] ++ [v2]) ++ [v3])))) v3 d3 := by rw [rem_upd, rem_upd, rem_none gn3]; exact dd3
              generalize upd (upd J3 so (.lst (I0 ++ [v1] ++ [v2]))) so (.lst ((I0 ++ [v1] ++ [v2]) ++ [v3])) = G23 at q3 dx3 ⊢
              clear dd3 kb3 pn3 gn3
              refine ⟨_, rfl, .inl ⟨rfl, _, SqL.of q3.at'⟩, _, rfl, _, rfl, _, rfl, _, rfl, so, _, _, _, rfl, rfl, SqL.of q3.at', atI_last _ _, callH1 q3.at' ?_⟩
              refine ⟨i, _, 2000, h, rl, dd, wt, n, z0 :: zs0, ws, ds, v3, _, rfl, q3.pen, by omega, q3.base.hall, n12, by simp, rl20, dl20, hD.rn, dnm, hp1, hp2, hp3, dx3, ft3.mono (by decide) (by decide), by decide, fun v4 d4 J4 kb4 pn4 dd4 ft4 gn4 => ?_⟩
              refine ⟨so, _, _, rfl, rfl, upd_same, Nat.lt_of_le_of_lt q3.len (Nat.lt_of_lt_of_le (show _ < 100 by omega) (by decide)), ?_⟩
              have q4 := q3.add hp1 hp2 hp3 d2p gn4 kb4 pn4 dd4 (ft4.mono (by decide) (by decide))
              exact ⟨_, _, _, rfl, q4.at', q4.pen.mono (by omega), q4.base, q4.all, q4.fit, by have := q4.len; omega⟩
            · obtain ⟨y7, items, es, rfl, q⟩ := z
              exact ⟨_, items, es, rfl, q.at', q.pen.mono (by omega), q.base, q.all, q.fit, by have := q.len; omega⟩
          · obtain ⟨y7, items, es, rfl, q⟩ := z
            have sS : ∀ d, isStandB hr.rooms n d = isStandB (z0 :: zs0) n d := fun d => by
              unfold isStandB
              rw [room_perm rp]
            have sP : ∀ d, isSplitB hr.rooms hr.watched.length hr.places d = isSplitB (z0 :: zs0) ws.length n d := fun d => by
              unfold isSplitB
              rw [room_perm rp, wt1, pl]
            have bse := q.base.same (same_rem (s := so) (H := GC))
            refine ⟨_, rfl, so, rfl, ⟨_, SqL.of q.at'⟩, ?_⟩
            refine for_list (xs := items) (fun m σ H => ∃ y8 y12 y13 y14, σ = [some (.ref a), some (.ref i.p), some (.int (0 + (b : Int))), some (.ref h), some (.ref sp), some (.ref ot), some (.ref so), y7, y8, some (.ref x), some (.ref st), some (.ref st2), y12, y13, y14] ∧ Same GC H) ⟨_, _, _, _, rfl, Same.refl _⟩ (fun j σ H _ z => ?_) (fun j v σ GD hj z => ?_) fun σ GD z => ?_
            · obtain ⟨y8, y12, y13, y14, _, e⟩ := z
              exact SqL.of (e _ _ q.at')
            · obtain ⟨y8, y12, y13, y14, rfl, e⟩ := z
              obtain ⟨dv, h5, h6⟩ := q.all.get hj
              have ft := q.fit dv (List.mem_of_getElem? h5)
              have z1 : dv.shown.length ≤ sizeLine := Nat.le_trans ft.le (by decide)
              have z2 : dv.depth ≤ 60 := Nat.le_trans ft.dp (by decide)
              have dG := h6.same (same_rem.trans e)
              have hH := bse.house.same e
              have hA := bse.hall.same e
              refine ⟨_, rfl, v, dv, rfl, dG, ft.sh, z1, z2, ?_⟩
              refine ⟨_, rfl, _, rfl, x, d2, v, hr, n, dv, rfl, hH, pl, by omega, dG, fun G1 e1 => ?_⟩
              refine ⟨_, rfl, _, rfl, x, d2, v, hr, dv, rfl, hH.same e1, by rw [wt1]; omega, dG.same e1, fun G2 e2 => ⟨show 2 ≤ sizeLine by decide, fun l1 hl1 => ?_⟩⟩
              rw [sS, sP]
              have s3 := same_new (o := .lst [V.bl (isStandB (z0 :: zs0) n dv), V.bl (isSplitB (z0 :: zs0) ws.length n dv)]) hl1
              have g3 : (upd G2 l1 (.lst [V.bl (isStandB (z0 :: zs0) n dv), V.bl (isSplitB (z0 :: zs0) ws.length n dv)])) l1 = some (.lst [V.bl (isStandB (z0 :: zs0) n dv), V.bl (isSplitB (z0 :: zs0) ws.length n dv)]) := upd_same
              generalize upd G2 l1 (.lst [V.bl (isStandB (z0 :: zs0) n dv), V.bl (isSplitB (z0 :: zs0) ws.length n dv)]) = G3 at *
              have e03 := (e1.trans e2).trans s3
              refine ⟨_, rfl, _, rfl, h, rl, dd, wt, v, n, z0 :: zs0, ws, ds, dv, rfl, hA.same e03, by omega, dG.same e03, fun G4 e4 => ?_⟩
              refine ⟨_, rfl, _, rfl, h, rl, dd, wt, v, n, z0 :: zs0, ws, ds, dv, rfl, hA.same (e03.trans e4), by omega, dG.same (e03.trans e4), fun G5 e5 => ⟨show 2 ≤ sizeLine by decide, fun l2 hl2 => ?_⟩⟩
              have s6 := same_new (o := .lst [V.bl (isStandB (z0 :: zs0) n dv), V.bl (isSplitB (z0 :: zs0) ws.length n dv)]) hl2
              have e36 := (e4.trans e5).trans s6
              have f2 : Fit 20 1 (.list [.bool (isStandB (z0 :: zs0) n dv), .bool (isSplitB (z0 :: zs0) ws.length n dv)]) := (((Fits.nil.cons (fit_bool _)).cons (fit_bool _)).list).mono (by decide) (Nat.le_refl _)
              have w1 : (PyData.list [.bool (isStandB (z0 :: zs0) n dv), .bool (isSplitB (z0 :: zs0) ws.length n dv)]).shown.length ≤ sizeLine := Nat.le_trans f2.le (by decide)
              have w2 : (PyData.list [.bool (isStandB (z0 :: zs0) n dv), .bool (isSplitB (z0 :: zs0) ws.length n dv)]).depth ≤ 60 := Nat.le_trans f2.dp (by decide)
              refine ⟨_, rfl, .ref l1, _, rfl, .lst (SqL.of (e36 _ _ g3)) (.cons (.bl _) (.cons (.bl _) .nil)), f2.sh, w1, w2, ?_⟩
              refine ⟨_, rfl, .ref l2, .list [.bool (isStandB (z0 :: zs0) n dv), .bool (isSplitB (z0 :: zs0) ws.length n dv)], rfl, .lst (SqL.of upd_same) (.cons (.bl _) (.cons (.bl _) .nil)), f2.sh, w1, w2, ne_same rfl rfl ⟨_, rfl, iteF ?_⟩⟩
              refine ⟨_, rfl, v, dv, rfl, dG.same (e03.trans e36), ft.sh, z1, z2, _, rfl, ne_same rfl rfl ⟨_, rfl, iteF ?_⟩⟩
              exact ⟨_, _, _, _, rfl, e.trans (e03.trans e36)⟩
            · obtain ⟨y8, y12, y13, y14, rfl, e⟩ := z
              exact ⟨_, _, _, _, _, _, _, _, _, _, _, _, _, rfl, (q.pen.same (same_rem.trans e)).mono (by omega), bse.tab.ext e⟩
end
theorem all_mk {l : PySem.W.OpenLaw} {w : World} {K : PySem.W.Frag} {h : Heap} {mg : Str → Option Value} {fa CC TL cL : Addr}
    {f1 : Addr} {od1 an1 : Option Addr} {sl1 : Array (Option Value)} {oc1 kV1 dc1 pm1 cd1 ct1 : Value}
    {f2 : Addr} {od2 an2 : Option Addr} {sl2 : Array (Option Value)} {oc2 kV2 dc2 pm2 cd2 ct2 : Value}
    {f3 : Addr} {od3 an3 : Option Addr} {sl3 : Array (Option Value)} {oc3 kV3 dc3 pm3 ct3 : Value}
    {f4 : Addr} {od4 an4 : Option Addr} {sl4 : Array (Option Value)} {oc4 kV4 dc4 pm4 cd4 ct4 : Value}
    {f5 : Addr} {od5 an5 : Option Addr} {sl5 : Array (Option Value)} {oc5 kV5 dc5 pm5 cd5 ct5 : Value}
    {f6 : Addr} {od6 an6 : Option Addr} {sl6 : Array (Option Value)} {oc6 kV6 dc6 pm6 cd6 ct6 : Value}
    {f7 : Addr} {od7 an7 : Option Addr} {sl7 : Array (Option Value)} {oc7 kV7 dc7 pm7 cd7 ct7 : Value}
    {f8 : Addr} {od8 an8 : Option Addr} {sl8 : Array (Option Value)} {oc8 kV8 dc8 pm8 cd8 ct8 : Value}
    {f9 : Addr} {od9 an9 : Option Addr} {sl9 : Array (Option Value)} {oc9 kV9 dc9 pm9 cd9 ct9 : Value}
    {f10 : Addr} {od10 an10 : Option Addr} {sl10 : Array (Option Value)} {oc10 kV10 dc10 pm10 cd10 ct10 : Value}
    {f11 : Addr} {od11 an11 : Option Addr} {sl11 : Array (Option Value)} {oc11 kV11 dc11 pm11 cd11 ct11 : Value}
    {f12 : Addr} {od12 an12 : Option Addr} {sl12 : Array (Option Value)} {oc12 kV12 dc12 pm12 cd12 ct12 : Value}
    {f13 : Addr} {od13 an13 : Option Addr} {sl13 : Array (Option Value)} {oc13 kV13 dc13 pm13 cd13 ct13 : Value}
    {f14 : Addr} {od14 an14 : Option Addr} {sl14 : Array (Option Value)} {oc14 kV14 dc14 pm14 cd14 ct14 : Value}
    {f15 : Addr} {od15 an15 : Option Addr} {sl15 : Array (Option Value)} {oc15 kV15 dc15 pm15 cd15 ct15 : Value}
    {f16 : Addr} {od16 an16 : Option Addr} {sl16 : Array (Option Value)} {oc16 kV16 dc16 pm16 cd16 ct16 : Value}
    {f17 : Addr} {od17 an17 : Option Addr} {sl17 : Array (Option Value)} {oc17 kV17 dc17 pm17 cd17 ct17 : Value}
    {f18 : Addr} {od18 an18 : Option Addr} {sl18 : Array (Option Value)} {oc18 kV18 dc18 pm18 cd18 ct18 : Value}
    {f19 : Addr} {od19 an19 : Option Addr} {sl19 : Array (Option Value)} {oc19 kV19 dc19 pm19 cd19 ct19 : Value}
    {f20 : Addr} {od20 an20 : Option Addr} {sl20 : Array (Option Value)} {oc20 kV20 dc20 pm20 cd20 ct20 : Value}
    {f21 : Addr} {od21 an21 : Option Addr} {sl21 : Array (Option Value)} {oc21 kV21 dc21 pm21 cd21 ct21 : Value}
    {f22 : Addr} {od22 an22 : Option Addr} {sl22 : Array (Option Value)} {oc22 kV22 dc22 pm22 cd22 ct22 : Value}
    {f23 : Addr} {od23 an23 : Option Addr} {sl23 : Array (Option Value)} {oc23 kV23 dc23 pm23 cd23 ct23 : Value}
    {f24 : Addr} {od24 an24 : Option Addr} {sl24 : Array (Option Value)} {oc24 kV24 dc24 pm24 cd24 ct24 : Value}
    {f25 : Addr} {od25 an25 : Option Addr} {sl25 : Array (Option Value)} {oc25 kV25 dc25 pm25 cd25 ct25 : Value}
    {f26 : Addr} {od26 an26 : Option Addr} {sl26 : Array (Option Value)} {oc26 kV26 dc26 pm26 cd26 ct26 : Value}
    {f27 : Addr} {od27 an27 : Option Addr} {sl27 : Array (Option Value)} {oc27 kV27 dc27 pm27 cd27 ct27 : Value}
    {f28 : Addr} {od28 an28 : Option Addr} {sl28 : Array (Option Value)} {oc28 kV28 dc28 pm28 cd28 ct28 : Value}
    {f29 : Addr} {od29 an29 : Option Addr} {sl29 : Array (Option Value)} {oc29 kV29 dc29 pm29 cd29 ct29 : Value}
    {f30 : Addr} {od30 an30 : Option Addr} {sl30 : Array (Option Value)} {oc30 kV30 dc30 pm30 cd30 ct30 : Value}
    {f31 : Addr} {od31 an31 : Option Addr} {sl31 : Array (Option Value)} {oc31 kV31 dc31 pm31 cd31 ct31 : Value}
    {f32 : Addr} {od32 an32 : Option Addr} {sl32 : Array (Option Value)} {oc32 kV32 dc32 pm32 cd32 ct32 : Value}
    {odL : Option Addr} {vsL : Array Value} {slL : Array (Option Value)}
    {g1 : Addr} {odm1 anm1 : Option Addr} {slm1 : Array (Option Value)} {ocm1 kVm1 dcm1 pmm1 cdm1 ctm1 : Value}
    {g2 : Addr} {odm2 anm2 : Option Addr} {slm2 : Array (Option Value)} {ocm2 kVm2 dcm2 pmm2 cdm2 ctm2 : Value}
    {g3 : Addr} {odm3 anm3 : Option Addr} {slm3 : Array (Option Value)} {ocm3 kVm3 dcm3 pmm3 cdm3 ctm3 : Value}
    {g4 : Addr} {odm4 anm4 : Option Addr} {slm4 : Array (Option Value)} {ocm4 kVm4 dcm4 pmm4 cdm4 ctm4 : Value}
    {g5 : Addr} {odm5 anm5 : Option Addr} {slm5 : Array (Option Value)} {ocm5 kVm5 dcm5 pmm5 cdm5 ctm5 : Value}
    {g6 : Addr} {odm6 anm6 : Option Addr} {slm6 : Array (Option Value)} {ocm6 kVm6 dcm6 pmm6 cdm6 ctm6 : Value} (X : K.In h) (G : h.Ns mainGlobals mg) (hfa : mg "law" = some (.ref fa))
    (a1 : PySem.W.nsIn K mainGlobals "plain_text" = some (some (.ref f1))) (l1 : K.lookup f1 = some ⟨oc1, od1, .func (PySem.W.fnOf "plain_text" "plain_text" (defArgs s_plain_text) (defBody s_plain_text) (defScope s_plain_text) .none kV1 dc1 pm1 an1 cd1 ct1), sl1⟩) (c1 : PySem.W.codeIn K cd1 "plain_text" = true) (k1 : PySem.W.keepIn K (.ref f1) = true)
    (a2 : PySem.W.nsIn K mainGlobals "plain_numbers" = some (some (.ref f2))) (l2 : K.lookup f2 = some ⟨oc2, od2, .func (PySem.W.fnOf "plain_numbers" "plain_numbers" (defArgs s_plain_numbers) (defBody s_plain_numbers) (defScope s_plain_numbers) .none kV2 dc2 pm2 an2 cd2 ct2), sl2⟩) (c2 : PySem.W.codeIn K cd2 "plain_numbers" = true) (k2 : PySem.W.keepIn K (.ref f2) = true)
    (a3 : PySem.W.nsIn K mainGlobals "_kept_doors" = some (some (.ref f3))) (l3 : K.lookup f3 = some ⟨oc3, od3, .func (PySem.W.fnOf "_kept_doors" "_kept_doors" (defArgs s_kept_doors) (defBody s_kept_doors) (defScope s_kept_doors) .none kV3 dc3 pm3 an3 (.ref cL) ct3), sl3⟩) (c3 : PySem.W.codeIn K (.ref cL) "_kept_doors" = true) (k3 : PySem.W.keepIn K (.ref f3) = true)
    (a4 : PySem.W.nsIn K mainGlobals "is_whole" = some (some (.ref f4))) (l4 : K.lookup f4 = some ⟨oc4, od4, .func (PySem.W.fnOf "is_whole" "is_whole" (defArgs s_is_whole) (defBody s_is_whole) (defScope s_is_whole) .none kV4 dc4 pm4 an4 cd4 ct4), sl4⟩) (c4 : PySem.W.codeIn K cd4 "is_whole" = true) (k4 : PySem.W.keepIn K (.ref f4) = true)
    (a5 : PySem.W.nsIn K mainGlobals "is_pick" = some (some (.ref f5))) (l5 : K.lookup f5 = some ⟨oc5, od5, .func (PySem.W.fnOf "is_pick" "is_pick" (defArgs s_is_pick) (defBody s_is_pick) (defScope s_is_pick) .none kV5 dc5 pm5 an5 cd5 ct5), sl5⟩) (c5 : PySem.W.codeIn K cd5 "is_pick" = true) (k5 : PySem.W.keepIn K (.ref f5) = true)
    (a6 : PySem.W.nsIn K mainGlobals "is_arrangement" = some (some (.ref f6))) (l6 : K.lookup f6 = some ⟨oc6, od6, .func (PySem.W.fnOf "is_arrangement" "is_arrangement" (defArgs s_is_arrangement) (defBody s_is_arrangement) (defScope s_is_arrangement) .none kV6 dc6 pm6 an6 cd6 ct6), sl6⟩) (c6 : PySem.W.codeIn K cd6 "is_arrangement" = true) (k6 : PySem.W.keepIn K (.ref f6) = true)
    (a7 : PySem.W.nsIn K mainGlobals "behind" = some (some (.ref f7))) (l7 : K.lookup f7 = some ⟨oc7, od7, .func (PySem.W.fnOf "behind" "behind" (defArgs s_behind) (defBody s_behind) (defScope s_behind) .none kV7 dc7 pm7 an7 cd7 ct7), sl7⟩) (c7 : PySem.W.codeIn K cd7 "behind" = true) (k7 : PySem.W.keepIn K (.ref f7) = true)
    (a8 : PySem.W.nsIn K mainGlobals "undone" = some (some (.ref f8))) (l8 : K.lookup f8 = some ⟨oc8, od8, .func (PySem.W.fnOf "undone" "undone" (defArgs s_undone) (defBody s_undone) (defScope s_undone) .none kV8 dc8 pm8 an8 cd8 ct8), sl8⟩) (c8 : PySem.W.codeIn K cd8 "undone" = true) (k8 : PySem.W.keepIn K (.ref f8) = true)
    (a9 : PySem.W.nsIn K mainGlobals "split" = some (some (.ref f9))) (l9 : K.lookup f9 = some ⟨oc9, od9, .func (PySem.W.fnOf "split" "split" (defArgs s_split) (defBody s_split) (defScope s_split) .none kV9 dc9 pm9 an9 cd9 ct9), sl9⟩) (c9 : PySem.W.codeIn K cd9 "split" = true) (k9 : PySem.W.keepIn K (.ref f9) = true)
    (a10 : PySem.W.nsIn K mainGlobals "brings" = some (some (.ref f10))) (l10 : K.lookup f10 = some ⟨oc10, od10, .func (PySem.W.fnOf "brings" "brings" (defArgs s_brings) (defBody s_brings) (defScope s_brings) .none kV10 dc10 pm10 an10 cd10 ct10), sl10⟩) (c10 : PySem.W.codeIn K cd10 "brings" = true) (k10 : PySem.W.keepIn K (.ref f10) = true)
    (a11 : PySem.W.nsIn K mainGlobals "_is_in_room" = some (some (.ref f11))) (l11 : K.lookup f11 = some ⟨oc11, od11, .func (PySem.W.fnOf "_is_in_room" "_is_in_room" (defArgs s_is_in_room) (defBody s_is_in_room) (defScope s_is_in_room) .none kV11 dc11 pm11 an11 cd11 ct11), sl11⟩) (c11 : PySem.W.codeIn K cd11 "_is_in_room" = true) (k11 : PySem.W.keepIn K (.ref f11) = true)
    (a12 : PySem.W.nsIn K mainGlobals "is_stand" = some (some (.ref f12))) (l12 : K.lookup f12 = some ⟨oc12, od12, .func (PySem.W.fnOf "is_stand" "is_stand" (defArgs s_is_stand) (defBody s_is_stand) (defScope s_is_stand) .none kV12 dc12 pm12 an12 cd12 ct12), sl12⟩) (c12 : PySem.W.codeIn K cd12 "is_stand" = true) (k12 : PySem.W.keepIn K (.ref f12) = true)
    (a13 : PySem.W.nsIn K mainGlobals "is_split" = some (some (.ref f13))) (l13 : K.lookup f13 = some ⟨oc13, od13, .func (PySem.W.fnOf "is_split" "is_split" (defArgs s_is_split) (defBody s_is_split) (defScope s_is_split) .none kV13 dc13 pm13 an13 cd13 ct13), sl13⟩) (c13 : PySem.W.codeIn K cd13 "is_split" = true) (k13 : PySem.W.keepIn K (.ref f13) = true)
    (a14 : PySem.W.nsIn K mainGlobals "_law_pen" = some (some (.ref f14))) (l14 : K.lookup f14 = some ⟨oc14, od14, .func (PySem.W.fnOf "_law_pen" "_law_pen" (defArgs s_law_pen) (defBody s_law_pen) (defScope s_law_pen) .none kV14 dc14 pm14 an14 cd14 ct14), sl14⟩) (c14 : PySem.W.codeIn K cd14 "_law_pen" = true) (k14 : PySem.W.keepIn K (.ref f14) = true)
    (a15 : PySem.W.nsIn K mainGlobals "_law_draw" = some (some (.ref f15))) (l15 : K.lookup f15 = some ⟨oc15, od15, .func (PySem.W.fnOf "_law_draw" "_law_draw" (defArgs s_law_draw) (defBody s_law_draw) (defScope s_law_draw) .none kV15 dc15 pm15 an15 cd15 ct15), sl15⟩) (c15 : PySem.W.codeIn K cd15 "_law_draw" = true) (k15 : PySem.W.keepIn K (.ref f15) = true)
    (a16 : PySem.W.nsIn K mainGlobals "_law_pick" = some (some (.ref f16))) (l16 : K.lookup f16 = some ⟨oc16, od16, .func (PySem.W.fnOf "_law_pick" "_law_pick" (defArgs s_law_pick) (defBody s_law_pick) (defScope s_law_pick) .none kV16 dc16 pm16 an16 cd16 ct16), sl16⟩) (c16 : PySem.W.codeIn K cd16 "_law_pick" = true) (k16 : PySem.W.keepIn K (.ref f16) = true)
    (a17 : PySem.W.nsIn K mainGlobals "_law_shuffled" = some (some (.ref f17))) (l17 : K.lookup f17 = some ⟨oc17, od17, .func (PySem.W.fnOf "_law_shuffled" "_law_shuffled" (defArgs s_law_shuffled) (defBody s_law_shuffled) (defScope s_law_shuffled) .none kV17 dc17 pm17 an17 cd17 ct17), sl17⟩) (c17 : PySem.W.codeIn K cd17 "_law_shuffled" = true) (k17 : PySem.W.keepIn K (.ref f17) = true)
    (a18 : PySem.W.nsIn K mainGlobals "_law_names" = some (some (.ref f18))) (l18 : K.lookup f18 = some ⟨oc18, od18, .func (PySem.W.fnOf "_law_names" "_law_names" (defArgs s_law_names) (defBody s_law_names) (defScope s_law_names) .none kV18 dc18 pm18 an18 cd18 ct18), sl18⟩) (c18 : PySem.W.codeIn K cd18 "_law_names" = true) (k18 : PySem.W.keepIn K (.ref f18) = true)
    (a19 : PySem.W.nsIn K mainGlobals "_law_arrangement" = some (some (.ref f19))) (l19 : K.lookup f19 = some ⟨oc19, od19, .func (PySem.W.fnOf "_law_arrangement" "_law_arrangement" (defArgs s_law_arrangement) (defBody s_law_arrangement) (defScope s_law_arrangement) .none kV19 dc19 pm19 an19 cd19 ct19), sl19⟩) (c19 : PySem.W.codeIn K cd19 "_law_arrangement" = true) (k19 : PySem.W.keepIn K (.ref f19) = true)
    (a20 : PySem.W.nsIn K mainGlobals "_law_asks" = some (some (.ref f20))) (l20 : K.lookup f20 = some ⟨oc20, od20, .func (PySem.W.fnOf "_law_asks" "_law_asks" (defArgs s_law_asks) (defBody s_law_asks) (defScope s_law_asks) .none kV20 dc20 pm20 an20 cd20 ct20), sl20⟩) (c20 : PySem.W.codeIn K cd20 "_law_asks" = true) (k20 : PySem.W.keepIn K (.ref f20) = true)
    (a21 : PySem.W.nsIn K mainGlobals "_law_hall" = some (some (.ref f21))) (l21 : K.lookup f21 = some ⟨oc21, od21, .func (PySem.W.fnOf "_law_hall" "_law_hall" (defArgs s_law_hall) (defBody s_law_hall) (defScope s_law_hall) .none kV21 dc21 pm21 an21 cd21 ct21), sl21⟩) (c21 : PySem.W.codeIn K cd21 "_law_hall" = true) (k21 : PySem.W.keepIn K (.ref f21) = true)
    (a22 : PySem.W.nsIn K mainGlobals "_law_made" = some (some (.ref f22))) (l22 : K.lookup f22 = some ⟨oc22, od22, .func (PySem.W.fnOf "_law_made" "_law_made" (defArgs s_law_made) (defBody s_law_made) (defScope s_law_made) .none kV22 dc22 pm22 an22 cd22 ct22), sl22⟩) (c22 : PySem.W.codeIn K cd22 "_law_made" = true) (k22 : PySem.W.keepIn K (.ref f22) = true)
    (a23 : PySem.W.nsIn K mainGlobals "_law_stand" = some (some (.ref f23))) (l23 : K.lookup f23 = some ⟨oc23, od23, .func (PySem.W.fnOf "_law_stand" "_law_stand" (defArgs s_law_stand) (defBody s_law_stand) (defScope s_law_stand) .none kV23 dc23 pm23 an23 cd23 ct23), sl23⟩) (c23 : PySem.W.codeIn K cd23 "_law_stand" = true) (k23 : PySem.W.keepIn K (.ref f23) = true)
    (a24 : PySem.W.nsIn K mainGlobals "_law_split" = some (some (.ref f24))) (l24 : K.lookup f24 = some ⟨oc24, od24, .func (PySem.W.fnOf "_law_split" "_law_split" (defArgs s_law_split) (defBody s_law_split) (defScope s_law_split) .none kV24 dc24 pm24 an24 cd24 ct24), sl24⟩) (c24 : PySem.W.codeIn K cd24 "_law_split" = true) (k24 : PySem.W.keepIn K (.ref f24) = true)
    (a25 : PySem.W.nsIn K mainGlobals "_law_brings" = some (some (.ref f25))) (l25 : K.lookup f25 = some ⟨oc25, od25, .func (PySem.W.fnOf "_law_brings" "_law_brings" (defArgs s_law_brings) (defBody s_law_brings) (defScope s_law_brings) .none kV25 dc25 pm25 an25 cd25 ct25), sl25⟩) (c25 : PySem.W.codeIn K cd25 "_law_brings" = true) (k25 : PySem.W.keepIn K (.ref f25) = true)
    (a26 : PySem.W.nsIn K mainGlobals "_law_moved" = some (some (.ref f26))) (l26 : K.lookup f26 = some ⟨oc26, od26, .func (PySem.W.fnOf "_law_moved" "_law_moved" (defArgs s_law_moved) (defBody s_law_moved) (defScope s_law_moved) .none kV26 dc26 pm26 an26 cd26 ct26), sl26⟩) (c26 : PySem.W.codeIn K cd26 "_law_moved" = true) (k26 : PySem.W.keepIn K (.ref f26) = true)
    (a27 : PySem.W.nsIn K mainGlobals "_law_is_arrangement" = some (some (.ref f27))) (l27 : K.lookup f27 = some ⟨oc27, od27, .func (PySem.W.fnOf "_law_is_arrangement" "_law_is_arrangement" (defArgs s_law_is_arrangement) (defBody s_law_is_arrangement) (defScope s_law_is_arrangement) .none kV27 dc27 pm27 an27 cd27 ct27), sl27⟩) (c27 : PySem.W.codeIn K cd27 "_law_is_arrangement" = true) (k27 : PySem.W.keepIn K (.ref f27) = true)
    (a28 : PySem.W.nsIn K mainGlobals "_law_is_split" = some (some (.ref f28))) (l28 : K.lookup f28 = some ⟨oc28, od28, .func (PySem.W.fnOf "_law_is_split" "_law_is_split" (defArgs s_law_is_split) (defBody s_law_is_split) (defScope s_law_is_split) .none kV28 dc28 pm28 an28 cd28 ct28), sl28⟩) (c28 : PySem.W.codeIn K cd28 "_law_is_split" = true) (k28 : PySem.W.keepIn K (.ref f28) = true)
    (a29 : PySem.W.nsIn K mainGlobals "_law_is_stand" = some (some (.ref f29))) (l29 : K.lookup f29 = some ⟨oc29, od29, .func (PySem.W.fnOf "_law_is_stand" "_law_is_stand" (defArgs s_law_is_stand) (defBody s_law_is_stand) (defScope s_law_is_stand) .none kV29 dc29 pm29 an29 cd29 ct29), sl29⟩) (c29 : PySem.W.codeIn K cd29 "_law_is_stand" = true) (k29 : PySem.W.keepIn K (.ref f29) = true)
    (a30 : PySem.W.nsIn K mainGlobals "_law_odd" = some (some (.ref f30))) (l30 : K.lookup f30 = some ⟨oc30, od30, .func (PySem.W.fnOf "_law_odd" "_law_odd" (defArgs s_law_odd) (defBody s_law_odd) (defScope s_law_odd) .none kV30 dc30 pm30 an30 cd30 ct30), sl30⟩) (c30 : PySem.W.codeIn K cd30 "_law_odd" = true) (k30 : PySem.W.keepIn K (.ref f30) = true)
    (a31 : PySem.W.nsIn K mainGlobals "_law_bent" = some (some (.ref f31))) (l31 : K.lookup f31 = some ⟨oc31, od31, .func (PySem.W.fnOf "_law_bent" "_law_bent" (defArgs s_law_bent) (defBody s_law_bent) (defScope s_law_bent) .none kV31 dc31 pm31 an31 cd31 ct31), sl31⟩) (c31 : PySem.W.codeIn K cd31 "_law_bent" = true) (k31 : PySem.W.keepIn K (.ref f31) = true)
    (a32 : PySem.W.nsIn K mainGlobals "law" = some (some (.ref f32))) (l32 : K.lookup f32 = some ⟨oc32, od32, .func (PySem.W.fnOf "law" "law" (defArgs s_law) (defBody s_law) (defScope s_law) .none kV32 dc32 pm32 an32 cd32 ct32), sl32⟩) (c32 : PySem.W.codeIn K cd32 "law" = true) (k32 : PySem.W.keepIn K (.ref f32) = true)
    (lL : K.lookup cL = some ⟨.type "code", odL, .fields vsL, slL⟩) (vL : vsL[11]? = some (.ref TL)) (hL : PySem.W.codeHdIn K cL TL = true) (nL : K.lookup TL = none) (tabL : h.get? TL = some { cls := .none, data := .fields #[] })
    (aC : PySem.W.nsIn K mainGlobals "Hall" = some (some (.ref CC)))
    (am1 : PySem.W.findIn K (.ref CC) "__init__" = some (some (.ref g1))) (im1 : PySem.W.isFn K (.ref g1) = true) (lm1 : K.lookup g1 = some ⟨ocm1, odm1, .func (PySem.W.fnOf "__init__" "Hall.__init__" (defArgs s_init) (defBody s_init) (defScope s_init) .none kVm1 dcm1 pmm1 anm1 cdm1 ctm1), slm1⟩) (cm1 : PySem.W.codeIn K cdm1 "Hall.__init__" = true) (km1 : PySem.W.keepIn K (.ref g1) = true)
    (am2 : PySem.W.findIn K (.ref CC) "places" = some (some (.ref g2))) (im2 : PySem.W.isFn K (.ref g2) = true) (lm2 : K.lookup g2 = some ⟨ocm2, odm2, .func (PySem.W.fnOf "places" "Hall.places" (defArgs s_places) (defBody s_places) (defScope s_places) .none kVm2 dcm2 pmm2 anm2 cdm2 ctm2), slm2⟩) (cm2 : PySem.W.codeIn K cdm2 "Hall.places" = true) (km2 : PySem.W.keepIn K (.ref g2) = true)
    (am3 : PySem.W.findIn K (.ref CC) "watched" = some (some (.ref g3))) (im3 : PySem.W.isFn K (.ref g3) = true) (lm3 : K.lookup g3 = some ⟨ocm3, odm3, .func (PySem.W.fnOf "watched" "Hall.watched" (defArgs s_watched) (defBody s_watched) (defScope s_watched) .none kVm3 dcm3 pmm3 anm3 cdm3 ctm3), slm3⟩) (cm3 : PySem.W.codeIn K cdm3 "Hall.watched" = true) (km3 : PySem.W.keepIn K (.ref g3) = true)
    (am4 : PySem.W.findIn K (.ref CC) "rooms" = some (some (.ref g4))) (im4 : PySem.W.isFn K (.ref g4) = true) (lm4 : K.lookup g4 = some ⟨ocm4, odm4, .func (PySem.W.fnOf "rooms" "Hall.rooms" (defArgs s_rooms) (defBody s_rooms) (defScope s_rooms) .none kVm4 dcm4 pmm4 anm4 cdm4 ctm4), slm4⟩) (cm4 : PySem.W.codeIn K cdm4 "Hall.rooms" = true) (km4 : PySem.W.keepIn K (.ref g4) = true)
    (am5 : PySem.W.findIn K (.ref CC) "doors" = some (some (.ref g5))) (im5 : PySem.W.isFn K (.ref g5) = true) (lm5 : K.lookup g5 = some ⟨ocm5, odm5, .func (PySem.W.fnOf "doors" "Hall.doors" (defArgs s_doors) (defBody s_doors) (defScope s_doors) .none kVm5 dcm5 pmm5 anm5 cdm5 ctm5), slm5⟩) (cm5 : PySem.W.codeIn K cdm5 "Hall.doors" = true) (km5 : PySem.W.keepIn K (.ref g5) = true)
    (am6 : PySem.W.findIn K (.ref CC) "door" = some (some (.ref g6))) (im6 : PySem.W.isFn K (.ref g6) = true) (lm6 : K.lookup g6 = some ⟨ocm6, odm6, .func (PySem.W.fnOf "door" "Hall.door" (defArgs s_door) (defBody s_door) (defScope s_door) .none kVm6 dcm6 pmm6 anm6 cdm6 ctm6), slm6⟩) (cm6 : PySem.W.codeIn K cdm6 "Hall.door" = true) (km6 : PySem.W.keepIn K (.ref g6) = true)
    (pg : PySem.W.plainGet K CC Str.empty = true) (hd : PySem.W.hasDictIn K CC = true) (po : PySem.W.plainOver K CC = true) (sa : PySem.W.findIn K (.ref CC) "__setattr__" = some (some (.builtin "object.__setattr__"))) (mk : PySem.W.makesIn K CC = true) (kc : PySem.W.keepIn K (.ref CC) = true)
    (nf1 : PySem.W.findIn K (.ref CC) "_places" = some none)
    (nf2 : PySem.W.findIn K (.ref CC) "_watched" = some none)
    (nf3 : PySem.W.findIn K (.ref CC) "_rooms" = some none)
    (nf4 : PySem.W.findIn K (.ref CC) "_doors" = some none)
    (z_isinstance : PySem.W.nsIn K mainGlobals "isinstance" = some none)
    (z_int : PySem.W.nsIn K mainGlobals "int" = some none)
    (z_bool : PySem.W.nsIn K mainGlobals "bool" = some none)
    (z_str : PySem.W.nsIn K mainGlobals "str" = some none)
    (z_tuple : PySem.W.nsIn K mainGlobals "tuple" = some none)
    (z_list : PySem.W.nsIn K mainGlobals "list" = some none)
    (z_dict : PySem.W.nsIn K mainGlobals "dict" = some none)
    (z_set : PySem.W.nsIn K mainGlobals "set" = some none)
    (z_len : PySem.W.nsIn K mainGlobals "len" = some none)
    (z_all : PySem.W.nsIn K mainGlobals "all" = some none)
    (z_any : PySem.W.nsIn K mainGlobals "any" = some none)
    (z_sum : PySem.W.nsIn K mainGlobals "sum" = some none)
    (z_abs : PySem.W.nsIn K mainGlobals "abs" = some none)
    (z_range : PySem.W.nsIn K mainGlobals "range" = some none)
    (z_sorted : PySem.W.nsIn K mainGlobals "sorted" = some none)
    (z_min : PySem.W.nsIn K mainGlobals "min" = some none)
    (z_max : PySem.W.nsIn K mainGlobals "max" = some none)
    (z_repr : PySem.W.nsIn K mainGlobals "repr" = some none)
    (z_zip : PySem.W.nsIn K mainGlobals "zip" = some none)
    (z_enumerate : PySem.W.nsIn K mainGlobals "enumerate" = some none)
    (z_reversed : PySem.W.nsIn K mainGlobals "reversed" = some none) :
    ∃ (K' : PySem.W.Frag) (c T : Addr) (fd : FuncData), K'.In h ∧ h.get? T = some { cls := .none, data := .fields #[] } ∧ K'.lookup T = none ∧ PySem.W.CodeHd h c T ∧ (∀ (s : Shared) (v : Value), BindsTo s fd ⟨[v], []⟩ [("script", v)]) ∧
      ∀ base : Heap, K'.In base → base.Ns mainGlobals mg → LamX.TabB base mg c T → FnG l.prog w K' mg base CX0 8 fa fd ["script"] (spLawT K' T) := by
  have e := hfa.symm.trans (PySem.W.mg_of X G a32)
  cases e
  have TB : Bt mg := ⟨PySem.W.mg_none_of X G z_isinstance, PySem.W.mg_none_of X G z_int, PySem.W.mg_none_of X G z_bool, PySem.W.mg_none_of X G z_str, PySem.W.mg_none_of X G z_tuple, PySem.W.mg_none_of X G z_list, PySem.W.mg_none_of X G z_dict, PySem.W.mg_none_of X G z_set, PySem.W.mg_none_of X G z_len, PySem.W.mg_none_of X G z_all, PySem.W.mg_none_of X G z_any, PySem.W.mg_none_of X G z_sum, PySem.W.mg_none_of X G z_abs, PySem.W.mg_none_of X G z_range, PySem.W.mg_none_of X G z_sorted, PySem.W.mg_none_of X G z_min, PySem.W.mg_none_of X G z_max, PySem.W.mg_none_of X G z_repr, PySem.W.mg_none_of X G z_zip, PySem.W.mg_none_of X G z_enumerate, PySem.W.mg_none_of X G z_reversed⟩
  have F1 := fun_mk (st := s_plain_text) l1 c1 k1
  have b1 := F1.binds (ps := ["text"]) fun _ _ _ _ _ _ us hl => match us, hl with | [_], _ => rfl
  have F2 := fun_mk (st := s_plain_numbers) l2 c2 k2
  have b2 := F2.binds (ps := ["numbers"]) fun _ _ _ _ _ _ us hl => match us, hl with | [_], _ => rfl
  have F3 := fun_mk (st := s_kept_doors) l3 c3 k3
  have b3 := F3.binds (ps := ["doors"]) fun _ _ _ _ _ _ us hl => match us, hl with | [_], _ => rfl
  have F4 := fun_mk (st := s_is_whole) l4 c4 k4
  have b4 := F4.binds (ps := ["thing"]) fun _ _ _ _ _ _ us hl => match us, hl with | [_], _ => rfl
  have F5 := fun_mk (st := s_is_pick) l5 c5 k5
  have b5 := F5.binds (ps := ["thing", "many", "bound"]) fun _ _ _ _ _ _ us hl => match us, hl with | [_, _, _], _ => rfl
  have F6 := fun_mk (st := s_is_arrangement) l6 c6 k6
  have b6 := F6.binds (ps := ["places", "thing"]) fun _ _ _ _ _ _ us hl => match us, hl with | [_, _], _ => rfl
  have F7 := fun_mk (st := s_behind) l7 c7 k7
  have b7 := F7.binds (ps := ["one", "other"]) fun _ _ _ _ _ _ us hl => match us, hl with | [_, _], _ => rfl
  have F8 := fun_mk (st := s_undone) l8 c8 k8
  have b8 := F8.binds (ps := ["one"]) fun _ _ _ _ _ _ us hl => match us, hl with | [_], _ => rfl
  have F9 := fun_mk (st := s_split) l9 c9 k9
  have b9 := F9.binds (ps := ["hall", "stand"]) fun _ _ _ _ _ _ us hl => match us, hl with | [_, _], _ => rfl
  have F10 := fun_mk (st := s_brings) l10 c10 k10
  have b10 := F10.binds (ps := ["key", "other"]) fun _ _ _ _ _ _ us hl => match us, hl with | [_, _], _ => rfl
  have F11 := fun_mk (st := s_is_in_room) l11 c11 k11
  have b11 := F11.binds (ps := ["hall", "thing"]) fun _ _ _ _ _ _ us hl => match us, hl with | [_, _], _ => rfl
  have F12 := fun_mk (st := s_is_stand) l12 c12 k12
  have b12 := F12.binds (ps := ["hall", "thing"]) fun _ _ _ _ _ _ us hl => match us, hl with | [_, _], _ => rfl
  have F13 := fun_mk (st := s_is_split) l13 c13 k13
  have b13 := F13.binds (ps := ["hall", "thing"]) fun _ _ _ _ _ _ us hl => match us, hl with | [_, _], _ => rfl
  have F14 := fun_mk (st := s_law_pen) l14 c14 k14
  have b14 := F14.binds (ps := ["script"]) fun _ _ _ _ _ _ us hl => match us, hl with | [_], _ => rfl
  have F15 := fun_mk (st := s_law_draw) l15 c15 k15
  have b15 := F15.binds (ps := ["pen", "many"]) fun _ _ _ _ _ _ us hl => match us, hl with | [_, _], _ => rfl
  have F16 := fun_mk (st := s_law_pick) l16 c16 k16
  have b16 := F16.binds (ps := ["pen", "some"]) fun _ _ _ _ _ _ us hl => match us, hl with | [_, _], _ => rfl
  have F17 := fun_mk (st := s_law_shuffled) l17 c17 k17
  have b17 := F17.binds (ps := ["pen", "some"]) fun _ _ _ _ _ _ us hl => match us, hl with | [_, _], _ => rfl
  have F18 := fun_mk (st := s_law_names) l18 c18 k18
  have b18 := F18.binds (ps := ["pen", "many"]) fun _ _ _ _ _ _ us hl => match us, hl with | [_, _], _ => rfl
  have F19 := fun_mk (st := s_law_arrangement) l19 c19 k19
  have b19 := F19.binds (ps := ["pen", "places"]) fun _ _ _ _ _ _ us hl => match us, hl with | [_, _], _ => rfl
  have F20 := fun_mk (st := s_law_asks) l20 c20 k20
  have b20 := F20.binds (ps := ["pen", "places", "watched"]) fun _ _ _ _ _ _ us hl => match us, hl with | [_, _, _], _ => rfl
  have F21 := fun_mk (st := s_law_hall) l21 c21 k21
  have b21 := F21.binds (ps := ["pen", "places", "rooms", "doors", "marks"]) fun _ _ _ _ _ _ us hl => match us, hl with | [_, _, _, _, _], _ => rfl
  have F22 := fun_mk (st := s_law_made) l22 c22 k22
  have b22 := F22.binds (ps := ["hall"]) fun _ _ _ _ _ _ us hl => match us, hl with | [_], _ => rfl
  have F23 := fun_mk (st := s_law_stand) l23 c23 k23
  have b23 := F23.binds (ps := ["pen", "hall"]) fun _ _ _ _ _ _ us hl => match us, hl with | [_, _], _ => rfl
  have F24 := fun_mk (st := s_law_split) l24 c24 k24
  have b24 := F24.binds (ps := ["hall", "stand"]) fun _ _ _ _ _ _ us hl => match us, hl with | [_, _], _ => rfl
  have F25 := fun_mk (st := s_law_brings) l25 c25 k25
  have b25 := F25.binds (ps := ["key", "other"]) fun _ _ _ _ _ _ us hl => match us, hl with | [_, _], _ => rfl
  have F26 := fun_mk (st := s_law_moved) l26 c26 k26
  have b26 := F26.binds (ps := ["key", "one"]) fun _ _ _ _ _ _ us hl => match us, hl with | [_, _], _ => rfl
  have F27 := fun_mk (st := s_law_is_arrangement) l27 c27 k27
  have b27 := F27.binds (ps := ["places", "thing"]) fun _ _ _ _ _ _ us hl => match us, hl with | [_, _], _ => rfl
  have F28 := fun_mk (st := s_law_is_split) l28 c28 k28
  have b28 := F28.binds (ps := ["hall", "thing"]) fun _ _ _ _ _ _ us hl => match us, hl with | [_, _], _ => rfl
  have F29 := fun_mk (st := s_law_is_stand) l29 c29 k29
  have b29 := F29.binds (ps := ["hall", "thing"]) fun _ _ _ _ _ _ us hl => match us, hl with | [_, _], _ => rfl
  have F30 := fun_mk (st := s_law_odd) l30 c30 k30
  have b30 := F30.binds (ps := ["pen", "hall"]) fun _ _ _ _ _ _ us hl => match us, hl with | [_, _], _ => rfl
  have F31 := fun_mk (st := s_law_bent) l31 c31 k31
  have b31 := F31.binds (ps := ["pen", "hall", "thing"]) fun _ _ _ _ _ _ us hl => match us, hl with | [_, _, _], _ => rfl
  have F32 := fun_mk (st := s_law) l32 c32 k32
  have FM1 := fun_mk (st := s_init) lm1 cm1 km1
  have bM1 := FM1.binds (ps := ["self", "places", "watched", "rooms", "doors"]) fun _ _ _ _ _ _ us hl => match us, hl with | [_, _, _, _, _], _ => rfl
  have FM2 := fun_mk (st := s_places) lm2 cm2 km2
  have bM2 := FM2.binds (ps := ["self"]) fun _ _ _ _ _ _ us hl => match us, hl with | [_], _ => rfl
  have FM3 := fun_mk (st := s_watched) lm3 cm3 km3
  have bM3 := FM3.binds (ps := ["self"]) fun _ _ _ _ _ _ us hl => match us, hl with | [_], _ => rfl
  have FM4 := fun_mk (st := s_rooms) lm4 cm4 km4
  have bM4 := FM4.binds (ps := ["self"]) fun _ _ _ _ _ _ us hl => match us, hl with | [_], _ => rfl
  have FM5 := fun_mk (st := s_doors) lm5 cm5 km5
  have bM5 := FM5.binds (ps := ["self"]) fun _ _ _ _ _ _ us hl => match us, hl with | [_], _ => rfl
  have FM6 := fun_mk (st := s_door) lm6 cm6 km6
  have bM6 := FM6.binds (ps := ["self", "name"]) fun _ _ _ _ _ _ us hl => match us, hl with | [_, _], _ => rfl
  refine ⟨K, cL, TL, PySem.W.fnOf "law" "law" (defArgs s_law) (defBody s_law) (defScope s_law) .none kV32 dc32 pm32 an32 cd32 ct32, X, tabL, nL, PySem.W.codeHd_of_K X hL, fun s v => .of_eq rfl, fun base _ _ TBL => ?_⟩
  have XC : HTxt K mg CC := ⟨⟨pg, hd, po, sa⟩, nf1, nf2, nf3, nf4, PySem.W.mg_of X G aC⟩
  have O_plain_text : CgO l.prog w K mg base 1 "plain_text" (spText) := ⟨_, _, _, ok_plain_text F1, PySem.W.mg_of X G a1, k1, b1⟩
  have C_plain_text := O_plain_text.g
  have O_plain_numbers : CgO l.prog w K mg base 1 "plain_numbers" (spNums K) := ⟨_, _, _, ok_plain_numbers F2 TB, PySem.W.mg_of X G a2, k2, b2⟩
  have C_plain_numbers := O_plain_numbers.g
  have O__kept_doors : CgO l.prog w K mg base 4 "_kept_doors" (spKept K TL) := ⟨_, _, _, ok_kept_doors l3 c3 TBL TB O_plain_text O_plain_numbers, PySem.W.mg_of X G a3, k3, b3⟩
  have C__kept_doors := O__kept_doors.g
  have MK : MkO l.prog w K mg base CC 5 "Hall" (spInitH K CC TL) := ⟨⟨_, _, _, ok_init FM1 TB XC O_plain_text O_plain_numbers O__kept_doors, ⟨mk, am1, im1, kc⟩, bM1⟩, PySem.W.mg_of X G aC⟩
  have M_places : MethO l.prog w K mg base CC 1 "places" (spPlaces K CC) := ⟨⟨_, _, _, ok_places FM2 XC, ⟨am2, im2, km2⟩, bM2⟩, ⟨pg, hd, po, sa⟩⟩
  have M_watched : MethO l.prog w K mg base CC 1 "watched" (spWatched K CC) := ⟨⟨_, _, _, ok_watched FM3 XC, ⟨am3, im3, km3⟩, bM3⟩, ⟨pg, hd, po, sa⟩⟩
  have M_rooms : MethO l.prog w K mg base CC 1 "rooms" (spRooms K CC) := ⟨⟨_, _, _, ok_rooms FM4 TB XC, ⟨am4, im4, km4⟩, bM4⟩, ⟨pg, hd, po, sa⟩⟩
  have M_doors : MethO l.prog w K mg base CC 1 "doors" (spDoors K CC) := ⟨⟨_, _, _, ok_doors FM5 TB XC, ⟨am5, im5, km5⟩, bM5⟩, ⟨pg, hd, po, sa⟩⟩
  have M_door : MethO l.prog w K mg base CC 1 "door" (spDoor K CC) := ⟨⟨_, _, _, ok_door FM6 TB XC, ⟨am6, im6, km6⟩, bM6⟩, ⟨pg, hd, po, sa⟩⟩
  have C_is_whole : Cg l.prog w K mg base 1 "is_whole" (spWhole K) := ⟨_, _, _, ok_is_whole F4 TB, PySem.W.mg_of X G a4, k4, b4⟩
  have C_is_pick : Cg l.prog w K mg base 2 "is_pick" (spPickP K) := ⟨_, _, _, ok_is_pick F5 TB C_is_whole, PySem.W.mg_of X G a5, k5, b5⟩
  have C_is_arrangement : Cg l.prog w K mg base 3 "is_arrangement" (spIsArr K) := ⟨_, _, _, ok_is_arrangement F6 C_is_pick, PySem.W.mg_of X G a6, k6, b6⟩
  have C_behind : Cg l.prog w K mg base 1 "behind" (spBehindF K) := ⟨_, _, _, ok_behindF F7 TB, PySem.W.mg_of X G a7, k7, b7⟩
  have C_undone : Cg l.prog w K mg base 1 "undone" (spUndone K) := ⟨_, _, _, ok_undone F8 TB, PySem.W.mg_of X G a8, k8, b8⟩
  have C_split : Cg l.prog w K mg base 2 "split" (spSplit K CC) := ⟨_, _, _, ok_split F9 TB O_plain_text M_watched, PySem.W.mg_of X G a9, k9, b9⟩
  have C_brings : Cg l.prog w K mg base 2 "brings" (spBrings K) := ⟨_, _, _, ok_brings F10 TB C_behind C_undone, PySem.W.mg_of X G a10, k10, b10⟩
  have C__is_in_room : Cg l.prog w K mg base 2 "_is_in_room" (spInRoomA K CC) := ⟨_, _, _, ok_is_in_room F11 TB M_rooms, PySem.W.mg_of X G a11, k11, b11⟩
  have C_is_stand : Cg l.prog w K mg base 4 "is_stand" (spIsStandA K CC) := ⟨_, _, _, ok_is_stand F12 TB C__is_in_room C_is_arrangement M_places, PySem.W.mg_of X G a12, k12, b12⟩
  have C_is_split : Cg l.prog w K mg base 3 "is_split" (spIsSplitA K CC) := ⟨_, _, _, ok_is_split F13 TB C__is_in_room C_is_pick M_places M_watched, PySem.W.mg_of X G a13, k13, b13⟩
  have C__law_pen : Cg l.prog w K mg base 1 "_law_pen" (spPen K) := ⟨_, _, _, ok_law_pen F14 TB, PySem.W.mg_of X G a14, k14, b14⟩
  have C__law_draw : Cg l.prog w K mg base 1 "_law_draw" (spDraw) := ⟨_, _, _, ok_law_draw F15 TB, PySem.W.mg_of X G a15, k15, b15⟩
  have C__law_pick : Cg l.prog w K mg base 2 "_law_pick" (spPickA K) := ⟨_, _, _, ok_law_pick F16 TB C__law_draw, PySem.W.mg_of X G a16, k16, b16⟩
  have C__law_shuffled : Cg l.prog w K mg base 2 "_law_shuffled" (spShuf K) := ⟨_, _, _, ok_law_shuffled F17 TB C__law_draw, PySem.W.mg_of X G a17, k17, b17⟩
  have C__law_names : Cg l.prog w K mg base 3 "_law_names" (spNames) := ⟨_, _, _, ok_law_names F18 TB C__law_draw C__law_pick, PySem.W.mg_of X G a18, k18, b18⟩
  have C__law_arrangement : Cg l.prog w K mg base 3 "_law_arrangement" (spArr) := ⟨_, _, _, ok_law_arrangement F19 TB C__law_draw C__law_shuffled, PySem.W.mg_of X G a19, k19, b19⟩
  have C__law_asks : Cg l.prog w K mg base 2 "_law_asks" (spAsks K) := ⟨_, _, _, ok_law_asks F20 TB C__law_draw, PySem.W.mg_of X G a20, k20, b20⟩
  have C__law_hall : Cg l.prog w K mg base 4 "_law_hall" (spHall K) := ⟨_, _, _, ok_law_hall F21 TB C__law_draw C__law_pick C__law_shuffled C__law_arrangement C__law_names C__law_asks, PySem.W.mg_of X G a21, k21, b21⟩
  have C__law_made : Cg l.prog w K mg base 7 "_law_made" (spMade K CC TL) := ⟨_, _, _, ok_law_made F22 TB MK, PySem.W.mg_of X G a22, k22, b22⟩
  have C__law_stand : Cg l.prog w K mg base 3 "_law_stand" (spStand K) := ⟨_, _, _, ok_law_stand F23 TB C__law_pick C__law_shuffled, PySem.W.mg_of X G a23, k23, b23⟩
  have C__law_split : Cg l.prog w K mg base 1 "_law_split" (spSplitL K) := ⟨_, _, _, ok_law_split F24 TB, PySem.W.mg_of X G a24, k24, b24⟩
  have C__law_brings : Cg l.prog w K mg base 1 "_law_brings" (spBringsL K) := ⟨_, _, _, ok_law_brings F25 TB, PySem.W.mg_of X G a25, k25, b25⟩
  have C__law_moved : Cg l.prog w K mg base 1 "_law_moved" (spMovedL K) := ⟨_, _, _, ok_law_moved F26 TB, PySem.W.mg_of X G a26, k26, b26⟩
  have C__law_is_arrangement : Cg l.prog w K mg base 1 "_law_is_arrangement" (spIsArr K) := ⟨_, _, _, ok_law_is_arrangement F27 TB, PySem.W.mg_of X G a27, k27, b27⟩
  have C__law_is_split : Cg l.prog w K mg base 1 "_law_is_split" (spIsSplitL K) := ⟨_, _, _, ok_law_is_split F28 TB, PySem.W.mg_of X G a28, k28, b28⟩
  have C__law_is_stand : Cg l.prog w K mg base 2 "_law_is_stand" (spIsStandL K) := ⟨_, _, _, ok_law_is_stand F29 TB C__law_is_arrangement, PySem.W.mg_of X G a29, k29, b29⟩
  have C__law_odd : Cg l.prog w K mg base 3 "_law_odd" (spOddH K) := ⟨_, _, _, ok_law_odd F30 TB C__law_pick, PySem.W.mg_of X G a30, k30, b30⟩
  have C__law_bent : Cg l.prog w K mg base 4 "_law_bent" (spBentH K) := ⟨_, _, _, ok_law_bent F31 TB C__law_draw C__law_pick C__law_odd, PySem.W.mg_of X G a31, k31, b31⟩
  exact ok_law F32 TB C__law_pen C__law_draw C__law_hall C__law_made C__law_stand C__law_split C_split C_is_split C_is_stand C_brings C__law_brings C__law_moved C__law_bent C__law_is_stand C__law_is_split
theorem tabS0 {H : Hp} {T : Addr} {q : Str} (h : H T = some (.tbl #[])) : LamX.TabS H T q := ⟨#[], h, trivial, fun pos cv hc => by cases hc⟩
end T
open PySem PySem.W PyProof.Rows
set_option maxRecDepth 100000 in
set_option maxHeartbeats 0 in
theorem PySem.Challenge.cw_recutkeys_k11_what_is_a_stand_holds : PySem.Challenge.rw_recutkeys_k11_what_is_a_stand.Holds := by
  w_on; o_law; k_head; (case hw => w_witness2)
  k_fill
  refine RG.walk_GT (l := PySem.Challenge.rw_recutkeys_k11_what_is_a_stand) (n := 63) (k := 8) (x := "script") (sp := fun K c TT => T.spLawT K TT) rfl (by decide) rfl ⟨rfl, by decide, by decide⟩ ?F (fun K c TT H a ns hl hS hT => ⟨a, ns, rfl, hS, hl, T.tabS0 hT, fun _ => rfl⟩)
  case F =>
    intro w mg fa h Y G hmg
    have KX := PySem.W.km_in_of Y
    have TS := PySem.W.km_tabs_of Y
    refine' T.all_mk KX G hmg ?a1 ?l1 ?c1 ?k1 ?a2 ?l2 ?c2 ?k2 ?a3 ?l3 ?c3 ?k3 ?a4 ?l4 ?c4 ?k4 ?a5 ?l5 ?c5 ?k5 ?a6 ?l6 ?c6 ?k6 ?a7 ?l7 ?c7 ?k7 ?a8 ?l8 ?c8 ?k8 ?a9 ?l9 ?c9 ?k9 ?a10 ?l10 ?c10 ?k10 ?a11 ?l11 ?c11 ?k11 ?a12 ?l12 ?c12 ?k12 ?a13 ?l13 ?c13 ?k13 ?a14 ?l14 ?c14 ?k14 ?a15 ?l15 ?c15 ?k15 ?a16 ?l16 ?c16 ?k16 ?a17 ?l17 ?c17 ?k17 ?a18 ?l18 ?c18 ?k18 ?a19 ?l19 ?c19 ?k19 ?a20 ?l20 ?c20 ?k20 ?a21 ?l21 ?c21 ?k21 ?a22 ?l22 ?c22 ?k22 ?a23 ?l23 ?c23 ?k23 ?a24 ?l24 ?c24 ?k24 ?a25 ?l25 ?c25 ?k25 ?a26 ?l26 ?c26 ?k26 ?a27 ?l27 ?c27 ?k27 ?a28 ?l28 ?c28 ?k28 ?a29 ?l29 ?c29 ?k29 ?a30 ?l30 ?c30 ?k30 ?a31 ?l31 ?c31 ?k31 ?a32 ?l32 ?c32 ?k32 ?lL ?vL ?hL ?nL ?tabL ?aC ?am1 ?im1 ?lm1 ?cm1 ?km1 ?am2 ?im2 ?lm2 ?cm2 ?km2 ?am3 ?im3 ?lm3 ?cm3 ?km3 ?am4 ?im4 ?lm4 ?cm4 ?km4 ?am5 ?im5 ?lm5 ?cm5 ?km5 ?am6 ?im6 ?lm6 ?cm6 ?km6 ?pg ?hd ?po ?sa ?mk ?kc ?nf1 ?nf2 ?nf3 ?nf4 ?z_isinstance ?z_int ?z_bool ?z_str ?z_tuple ?z_list ?z_dict ?z_set ?z_len ?z_all ?z_any ?z_sum ?z_abs ?z_range ?z_sorted ?z_min ?z_max ?z_repr ?z_zip ?z_enumerate ?z_reversed
    (case a1 => k_is)
    (case l1 => k_is)
    (case c1 => k_is)
    (case k1 => k_is)
    (case a2 => k_is)
    (case l2 => k_is)
    (case c2 => k_is)
    (case k2 => k_is)
    (case a3 => k_is)
    (case l3 => k_is)
    (case c3 => k_is)
    (case k3 => k_is)
    (case a4 => k_is)
    (case l4 => k_is)
    (case c4 => k_is)
    (case k4 => k_is)
    (case a5 => k_is)
    (case l5 => k_is)
    (case c5 => k_is)
    (case k5 => k_is)
    (case a6 => k_is)
    (case l6 => k_is)
    (case c6 => k_is)
    (case k6 => k_is)
    (case a7 => k_is)
    (case l7 => k_is)
    (case c7 => k_is)
    (case k7 => k_is)
    (case a8 => k_is)
    (case l8 => k_is)
    (case c8 => k_is)
    (case k8 => k_is)
    (case a9 => k_is)
    (case l9 => k_is)
    (case c9 => k_is)
    (case k9 => k_is)
    (case a10 => k_is)
    (case l10 => k_is)
    (case c10 => k_is)
    (case k10 => k_is)
    (case a11 => k_is)
    (case l11 => k_is)
    (case c11 => k_is)
    (case k11 => k_is)
    (case a12 => k_is)
    (case l12 => k_is)
    (case c12 => k_is)
    (case k12 => k_is)
    (case a13 => k_is)
    (case l13 => k_is)
    (case c13 => k_is)
    (case k13 => k_is)
    (case a14 => k_is)
    (case l14 => k_is)
    (case c14 => k_is)
    (case k14 => k_is)
    (case a15 => k_is)
    (case l15 => k_is)
    (case c15 => k_is)
    (case k15 => k_is)
    (case a16 => k_is)
    (case l16 => k_is)
    (case c16 => k_is)
    (case k16 => k_is)
    (case a17 => k_is)
    (case l17 => k_is)
    (case c17 => k_is)
    (case k17 => k_is)
    (case a18 => k_is)
    (case l18 => k_is)
    (case c18 => k_is)
    (case k18 => k_is)
    (case a19 => k_is)
    (case l19 => k_is)
    (case c19 => k_is)
    (case k19 => k_is)
    (case a20 => k_is)
    (case l20 => k_is)
    (case c20 => k_is)
    (case k20 => k_is)
    (case a21 => k_is)
    (case l21 => k_is)
    (case c21 => k_is)
    (case k21 => k_is)
    (case a22 => k_is)
    (case l22 => k_is)
    (case c22 => k_is)
    (case k22 => k_is)
    (case a23 => k_is)
    (case l23 => k_is)
    (case c23 => k_is)
    (case k23 => k_is)
    (case a24 => k_is)
    (case l24 => k_is)
    (case c24 => k_is)
    (case k24 => k_is)
    (case a25 => k_is)
    (case l25 => k_is)
    (case c25 => k_is)
    (case k25 => k_is)
    (case a26 => k_is)
    (case l26 => k_is)
    (case c26 => k_is)
    (case k26 => k_is)
    (case a27 => k_is)
    (case l27 => k_is)
    (case c27 => k_is)
    (case k27 => k_is)
    (case a28 => k_is)
    (case l28 => k_is)
    (case c28 => k_is)
    (case k28 => k_is)
    (case a29 => k_is)
    (case l29 => k_is)
    (case c29 => k_is)
    (case k29 => k_is)
    (case a30 => k_is)
    (case l30 => k_is)
    (case c30 => k_is)
    (case k30 => k_is)
    (case a31 => k_is)
    (case l31 => k_is)
    (case c31 => k_is)
    (case k31 => k_is)
    (case a32 => k_is)
    (case l32 => k_is)
    (case c32 => k_is)
    (case k32 => k_is)
    (case lL => k_is)
    (case vL => rfl)
    (case hL => first | k_is | kernel_rfl)
    (case nL => first | k_is | kernel_rfl)
    (case tabL => exact TS _ (by k_mem))
    (case aC => k_is)
    (case am1 => k_is)
    (case im1 => k_is)
    (case lm1 => k_is)
    (case cm1 => k_is)
    (case km1 => k_is)
    (case am2 => k_is)
    (case im2 => k_is)
    (case lm2 => k_is)
    (case cm2 => k_is)
    (case km2 => k_is)
    (case am3 => k_is)
    (case im3 => k_is)
    (case lm3 => k_is)
    (case cm3 => k_is)
    (case km3 => k_is)
    (case am4 => k_is)
    (case im4 => k_is)
    (case lm4 => k_is)
    (case cm4 => k_is)
    (case km4 => k_is)
    (case am5 => k_is)
    (case im5 => k_is)
    (case lm5 => k_is)
    (case cm5 => k_is)
    (case km5 => k_is)
    (case am6 => k_is)
    (case im6 => k_is)
    (case lm6 => k_is)
    (case cm6 => k_is)
    (case km6 => k_is)
    (case pg => k_is)
    (case hd => k_is)
    (case po => k_is)
    (case sa => k_is)
    (case mk => k_is)
    (case kc => k_is)
    (case nf1 => k_is)
    (case nf2 => k_is)
    (case nf3 => k_is)
    (case nf4 => k_is)
    (case z_isinstance => k_is)
    (case z_int => k_is)
    (case z_bool => k_is)
    (case z_str => k_is)
    (case z_tuple => k_is)
    (case z_list => k_is)
    (case z_dict => k_is)
    (case z_set => k_is)
    (case z_len => k_is)
    (case z_all => k_is)
    (case z_any => k_is)
    (case z_sum => k_is)
    (case z_abs => k_is)
    (case z_range => k_is)
    (case z_sorted => k_is)
    (case z_min => k_is)
    (case z_max => k_is)
    (case z_repr => k_is)
    (case z_zip => k_is)
    (case z_enumerate => k_is)
    (case z_reversed => k_is)
