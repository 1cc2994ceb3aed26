import PyProof.Rows.All
import Wide.All
import OpenK.AllK
import Wide.FinOn
import HandS.ForMost
import HandS.IsInst
import HandS.SortInts
import HandS.SetFor
import HandS.Strs
import HandS.Conv
import HandS.TupAny
import HandS.Codes
import HandS.Nested
import HandS.Style
import KE.GoesEnum
import HandS.NoneIn
import HandS.Gcd
import PyProof.Rows.StrJoinStr
import PyProof.Rows.StrSigns2
import PyProof.ReprRoads
import PyProof.EqKinds
import HandS.Walk
import HandS.DictComp
import HandS.More
import HandS.Zip
import KE.KDictDisplayH
import HandS.Star
import HandS.Deep
import HandS.Lambda
import HandS.EndTab
import KE.SortKeyHeap
import KE.SortData
import KE.KNestM
import PySem.Challenge.RW_recutkeys_k03_rounds_of_arrangements
set_option Elab.async false
set_option linter.all false
set_option maxRecDepth 100000
set_option maxHeartbeats 4000000
section RGa
/-! Rules of my own over the layer: sorted of a tuple of ints, set of one, != of an empty list or tuple, repr of data. -/
namespace RG
open PySem PySem.Spec PyProof.Rows L2
section
variable {prog : Program} {w : World} {A : Around} {E : Value → Shared → Prop} {s : Shared}
/-- the items of a tuple gathered into a list -/
theorem gather_tup {t : Addr} {us : List Value} {Q : List Value → Shared → Prop} (ht : s.heap.IsTuple t us.toArray) (hz : us.length ≤ sizeLine)
    (k : Q us { s with heap := Heap.update (Heap.push s.heap (seqObj "list" #[] 0)) s.heap.objs.size (Obj.mapSeq fun x => x ++ us.toArray) }) :
    wpAny (model prog w) A (collect (Value.ref t)) Q E s := by
  obtain ⟨ob, g1, g2, n, g3⟩ := id ht
  have g1' : (Heap.push s.heap (seqObj "list" #[] 0)).get? t = some ob := Heap.get?_push_of_some _ g1
  have fresh : (Heap.push s.heap (seqObj "list" #[] 0)).get? s.heap.objs.size = some (seqObj "list" #[] 0) := Heap.get?_push_size _ rfl
  unfold collect
  apply wpAny_bind
  apply wpAny_runValue
  refine codeAny_builtin entry_proto_collect' ?_
  show wpAny _ _ (do
    again (.builtin "list.__iadd__" ⟨[← newList [], Value.ref t], []⟩)) _ _ s
  apply wpAny_bind
  refine wpAny_newList (wpAny_pure ⟨Code.quiet_builtin _ (by decide +kernel), ?_⟩)
  refine codeAny_builtin entry_list_iadd' ?_
  show wpAny _ _ (Builtin.List.listExtendWith (Value.ref s.heap.objs.size) (Value.ref t) (Value.ref s.heap.objs.size)) _ _ { s with heap := Heap.push s.heap (seqObj "list" #[] 0) }
  unfold Builtin.List.listExtendWith
  apply wpAny_bind
  refine wpAny_typeOf (T := "tuple") ⟨ob, g1', g2⟩ ?_
  rw [if_pos (by rw [show (Value.type "tuple" == Value.type "tuple") = true from rfl, Bool.or_true])]
  refine wpAny_bind (listItems_at g1' g3 ?_)
  refine wpAny_bind (listItems_at (n := 0) (xs := #[]) fresh rfl ?_)
  rw [if_neg (by simp)]
  refine wpAny_bind (listUpdate_at (n := 0) (xs := #[]) fresh rfl ?_ (Nat.zero_le _) (by simpa using Nat.le_succ_of_le hz))
  refine wpAny_pure ?_
  show wpAny (model prog w) A (do
      let o ← load s.heap.objs.size
      match o.data with
      | .seq xs _ => pure xs.toList
      | _ => unsupported "internal:collect") Q E { s with heap := Heap.update (Heap.push s.heap (seqObj "list" #[] 0)) s.heap.objs.size (Obj.mapSeq fun x => x ++ us.toArray) }
  refine wpAny_bind (wpAny_load (get?_update_seq fresh _) ?_)
  have e : (((#[] : Array Value) ++ us.toArray).toList) = us := by simp
  show wpAny _ _ (pure ((#[] : Array Value) ++ us.toArray).toList) Q E _
  rw [e]
  exact wpAny_pure k
/-- sorted(t), t a tuple of any things that an order sorts -/
theorem sorted_tup {t : Addr} {us : List Value} {lt : Value → Value → Bool} {Q : Value → Shared → Prop} (O : SrtO.Swo lt) (ht : s.heap.IsTuple t us.toArray) (hz : us.length ≤ sizeLine)
    (hS : 2 ≤ us.length → ∀ (g : Heap) (a : Addr), g.get? a = some (seqObj "list" us.toArray 0) → SrtO.SortableO prog w A.in1.in1 { s with heap := g } a us lt)
    (k : ∀ out : List Value, SrtO.Srtd lt out → SrtO.Stb lt out us → Q (Value.ref (s.heap.objs.size + 1)) { s with heap := sortedAll s.heap us out.toArray }) :
    wpAny (model prog w) A (call (.builtin "sorted") [Value.ref t]) Q E s := by
  refine Calls.call_function_entry kind_sorted plain_sorted entry_sorted (args_sorted1 _) ?_
  unfold Builtin.«sorted»
  apply wpAny_bind (m := checkCount "sorted" 1 1 _)
  apply wpAny_pure
  apply wpAny_bind
  refine gather_tup ht hz ?_
  apply wpAny_bind
  refine wpAny_newList ?_ hz
  have one : (Heap.update (Heap.push s.heap (seqObj "list" #[] 0)) s.heap.objs.size (Obj.mapSeq fun x => x ++ us.toArray)).objs.size = s.heap.objs.size + 1 := by
    rw [Heap.size_update, size_push']
  have at1 : (Heap.push (Heap.update (Heap.push s.heap (seqObj "list" #[] 0)) s.heap.objs.size (Obj.mapSeq fun x => x ++ us.toArray)) (seqObj "list" us.toArray 0)).get? (s.heap.objs.size + 1) = some (seqObj "list" us.toArray 0) := by
    have e := Heap.get?_push_size (Heap.update (Heap.push s.heap (seqObj "list" #[] 0)) s.heap.objs.size (Obj.mapSeq fun x => x ++ us.toArray)) (o := seqObj "list" us.toArray 0) rfl
    rw [one] at e
    exact e
  show wpAny _ _ _ _ _ { s with heap := Heap.push (Heap.update (Heap.push s.heap (seqObj "list" #[] 0)) s.heap.objs.size (Obj.mapSeq fun x => x ++ us.toArray)) (seqObj "list" us.toArray 0) }
  rw [one]
  apply wpAny_bind
  apply wpAny_holding
  refine wpAny_call_entry slot_list_sort ⟨_, at1, rfl⟩ entry_list_sort (SrtO.list_sort_ord O at1 hz (fun h2 => hS h2 _ _ at1) fun out h1 h2 => ⟨_, rfl, ?_⟩) (args_list_sort _)
  exact wpAny_pure ⟨_, rfl, k out h1 h2⟩
end
section
variable {X : Cx}
/-- sorted(t), t a tuple of ints -/
def rSortTI (K : PySem.W.Frag) : List V → Hp → VK → Prop := fun vs H Q => ∃ (a : Addr) (ns : List Int), vs = [V.ref a] ∧ SqT K H a (ns.map V.int) ∧
  ∀ (ms : List Int) (p : Addr), ms.Perm ns → ms.Pairwise (· ≤ ·) → H p = none → Q (.ref p) (upd H p (.lst (ms.map V.int)))
theorem ints_back : ∀ {ns : List Int} {us : List Value}, Vals (ns.map V.int) us → IntsAre us ns
  | [], _, .nil => .nil
  | n :: ns, _, .cons r t => by
    obtain ⟨k, rfl⟩ := r
    exact .cons n k (ints_back t)
theorem ints_forth : ∀ {ns : List Int} {us : List Value}, IntsAre us ns → Vals (ns.map V.int) us
  | _, _, .nil => .nil
  | _, _, .cons n k t => .cons ⟨k, rfl⟩ (ints_forth t)
theorem cr_sortTI : CallR X (.builtin "sorted") (rSortTI X.K) := by
  intro pins s σ H vs us Q I r h
  obtain ⟨a, ns, rfl, hs, q⟩ := h
  obtain ⟨its, rv, pt, hz⟩ := I.tuple hs
  rw [Vals.ref1 r]
  have hi := ints_back rv
  have hl := rv.length
  rw [List.length_map] at hl hz
  refine sorted_tup SrtO.swo_int (show s.heap.IsTuple a its.toArray from pt) (by omega) (fun h2 g b _ => SrtO.ints_sortable hi h2) fun out h1 h2 => ?_
  obtain ⟨k1, k2, k3⟩ := SrtO.ints_out hi h1 h2
  obtain ⟨ep, he⟩ := PyProof.Rows.sortedAll_at s.heap its out.toArray
  have h3 : ((out.map SrtO.iv).map V.int).length ≤ sizeLine := by
    rw [List.length_map, k2.length_eq]
    exact hz
  exact ⟨.ref _, upd H (s.heap.objs.size + 1) (.lst ((out.map SrtO.iv).map V.int)),
    I.laid (t' := s.toks) (fun _ _ => PyProof.Rows.sortedAll_old) (Nat.le_succ _) ⟨h3, out, ep, ints_forth k1, he⟩, rfl, q _ _ k2 k3 (I.hok.fresh (Nat.le_succ _))⟩

/-- set(t), t a tuple of ints -/
def rSetTI (K : PySem.W.Frag) (w : World) : List V → Hp → VK → Prop := fun vs H Q => ∃ (a : Addr) (ns : List Int), vs = [V.ref a] ∧ SqT K H a (ns.map V.int) ∧ ns.length ≤ 1000 ∧
  ∀ (p : Addr) (ms : List Int), ms.Nodup → (∀ k, k ∈ ms ↔ k ∈ ns) → H p = none → Q (.ref p) (upd H p (SetO w p (fun j => decide (j ∈ ns)) ms.length))
theorem cr_setTI (hc : X.calm = true) : CallR X (.type "set") (rSetTI X.K X.w) := by
  intro pins s σ H vs us Q I r h
  obtain ⟨a, ns, rfl, hs, hl, q⟩ := h
  obtain ⟨its, rv, pt, hz⟩ := I.tuple hs
  rw [Vals.ref1 r]
  have hi : IntsAre its.toArray.toList ns := by simpa using ints_back rv
  refine call_set_tupI ns (I.ok.hd hc) (show s.heap.IsTuple a its.toArray from pt) hi (by unfold scanBound; omega) fun g tk c R hcn kp => ?_
  have R2 := R
  obtain ⟨o, es, ep, t, ho, hex, hdt, gd, nd, hm, hb, hf, hn, hr, hl2⟩ := R2
  have hlen : c = (es.toList.map keyOf).length := by
    rw [List.length_map, Array.length_toList]
    exact hn.symm
  subst hlen
  exact ⟨.ref _, upd H s.heap.objs.size (SetO X.w s.heap.objs.size (fun j => decide (j ∈ ns)) (es.toList.map keyOf).length), I.laid kp (Nat.le_refl _) (setO_new R), rfl,
    q _ (es.toList.map keyOf) nd (fun k => by rw [← hm k, decide_eq_true_eq]) (I.hok.fresh (Nat.le_refl _))⟩
/-- len of a set of ints -/
theorem cr_lenSet : CallR X (.builtin "len") (fun xs H Q => ∃ (p : Addr) (S : Int → Bool) (n : Nat), xs = [.ref p] ∧ H p = some (SetO X.w p S n) ∧ Q (.int n) H) := by
  intro pins s σ H vs us Q I r h
  obtain ⟨p, S, n, rfl, hp, q⟩ := h
  rw [Vals.ref1 r]
  obtain ⟨o, es, ep, t, ho, hex, hdt, gd, nd, hm, hb, hf, hn, hr, hl2⟩ := setO_get I hp
  subst hn
  refine call_len_set ho hex hdt hf (by unfold scanBound at hb; omega) ⟨.int _, H, I.tok _, ⟨_, rfl⟩, q⟩
/-- xs != [], a list; t != (), a tuple: any things in them -/
def rNeNil (K : PySem.W.Frag) : R2 := fun x y H Q => ∃ a b xs, x = .ref a ∧ y = .ref b ∧ ((SqL K H a xs ∧ SqL K H b []) ∨ (SqT K H a xs ∧ SqT K H b [])) ∧ Q (.bl (!xs.isEmpty)) H
theorem op_neNil (hu : X.A.units < cLine) : OpR X (compareOp .NotEq) (rNeNil X.K) := by
  intro pins s σ H x y v u Q I rx ry h
  obtain ⟨a, b, xs, rfl, rfl, hq, q⟩ := h
  cases rx
  cases ry
  rcases hq with ⟨ha, hb⟩ | ⟨ha, hb⟩
  · obtain ⟨i1, r1, p1, _⟩ := I.list ha
    obtain ⟨i2, r2, p2, _⟩ := I.list hb
    cases r2
    cases r1 with
    | nil => exact SeqAt.RcNeAt.lists (e := fun _ => true) p1.isList p2.isList rfl hu (fun j h1 _ => absurd h1 (by simp)) X.prog X.w _ _ ⟨.bl false, H, I, rfl, q⟩
    | cons r t => exact SeqAt.RcNeAt.lists_lengths p1.isList p2.isList (by simp) hu X.prog X.w _ _ ⟨.bl true, H, I, rfl, q⟩
  · obtain ⟨i1, r1, p1, _⟩ := I.tuple ha
    obtain ⟨i2, r2, p2, _⟩ := I.tuple hb
    cases r2
    cases r1 with
    | nil => exact SeqAt.RcNeAt.tuples (e := fun _ => true) (show s.heap.IsTuple a _ from p1) (show s.heap.IsTuple b _ from p2) hu (fun j h1 _ => absurd h1 (by simp)) X.prog X.w _ _ ⟨.bl false, H, I, rfl, q⟩
    | cons r t => exact SeqAt.RcNeAt.tuples (e := fun _ => true) (show s.heap.IsTuple a _ from p1) (show s.heap.IsTuple b _ from p2) hu (fun j _ h2 => absurd h2 (by simp)) X.prog X.w _ _ ⟨.bl true, H, I, rfl, q⟩
end
end RG
end RGa
section RGb
/-! Data in the abstract heap, dicts among them; repr of it. -/
namespace RG
open PySem PySem.Spec PyProof.Rows L2
def keyData : Key → PyData
  | .inl i => .int i
  | .inr x => .str x
/-- a pen's dict begins with its cells -/
def isPen : List (Key × V) → Bool
  | (.inr x, _) :: _ => decide (x = ("cells" : Str))
  | _ => false
mutual
/-- the thing v is the data d, as the heap stands -/
inductive Dd (K : PySem.W.Frag) (H : Hp) : V → PyData → Prop
  | non : Dd K H .non .none
  | bl (b : Bool) : Dd K H (.bl b) (.bool b)
  | int (i : Int) : Dd K H (.int i) (.int i)
  | str (x : Str) : Dd K H (.str x) (.str x)
  | lst {a : Addr} {xs : List V} {ds : List PyData} (at' : SqL K H a xs) (all : DdAll K H xs ds) : Dd K H (.ref a) (.list ds)
  | tup {a : Addr} {xs : List V} {ds : List PyData} (at' : SqT K H a xs) (all : DdAll K H xs ds) : Dd K H (.ref a) (.tuple ds)
  | dct {a : Addr} {kvs : List (Key × V)} {ds : List (PyData × PyData)} (at' : Rd H a (.dK kvs)) (noPen : isPen kvs = false) (all : DdKv K H kvs ds) : Dd K H (.ref a) (.dict ds)
inductive DdAll (K : PySem.W.Frag) (H : Hp) : List V → List PyData → Prop
  | nil : DdAll K H [] []
  | cons {v : V} {vs : List V} {d : PyData} {ds : List PyData} (h : Dd K H v d) (t : DdAll K H vs ds) : DdAll K H (v :: vs) (d :: ds)
inductive DdKv (K : PySem.W.Frag) (H : Hp) : List (Key × V) → List (PyData × PyData) → Prop
  | nil : DdKv K H [] []
  | cons {k : Key} {v : V} {kvs : List (Key × V)} {d : PyData} {ds : List (PyData × PyData)} (h : Dd K H v d) (t : DdKv K H kvs ds) : DdKv K H ((k, v) :: kvs) ((keyData k, d) :: ds)
end
theorem DdAll.length {K : PySem.W.Frag} {H : Hp} : ∀ {vs : List V} {ds : List PyData}, DdAll K H vs ds → vs.length = ds.length
  | _, _, .nil => rfl
  | _, _, .cons _ t => congrArg Nat.succ t.length
theorem DdAll.get {K : PySem.W.Frag} {H : Hp} : ∀ {vs : List V} {ds : List PyData} {i : Nat} {v : V}, DdAll K H vs ds → vs[i]? = some v → ∃ d, ds[i]? = some d ∧ Dd K H v d
  | _, _, _, _, .nil, e => by simp at e
  | _, _, 0, _, .cons h _, e => by
    simp at e
    subst e
    exact ⟨_, rfl, h⟩
  | _, _, i + 1, _, .cons _ t, e => by
    obtain ⟨d, h1, h2⟩ := DdAll.get (i := i) t (by simpa using e)
    exact ⟨d, by simpa using h1, h2⟩
theorem keyRead {prog : Program} {w : World} {h : Heap} {k : Key} {v : Value} (e : (mixKind prog w).is k v = true) : Reads h v (keyData k) [] := by
  rcases keyIs_shape e with ⟨i, t, rfl, rfl⟩ | ⟨x, t, rfl, rfl⟩
  · exact Reads.int i t
  · exact Reads.str x t
theorem keyShow {prog : Program} {w : World} {h : Heap} {k : Key} {v : Value} {n : Nat} {bs : List Addr} (e : (mixKind prog w).is k v = true) (hs : (keyData k).showable = true) (hz : (keyData k).shown.length ≤ sizeLine) :
    ReprK prog w bs h n v (keyData k).shown := by
  rcases keyIs_shape e with ⟨i, t, rfl, rfl⟩ | ⟨x, t, rfl, rfl⟩
  · simp only [keyData, PyData.shown]
    exact .of_is (ReprIs.int t (by simpa [keyData, PyData.showable] using hs)) _ _ _
  · simp only [keyData, PyData.shown]
    exact .of_is (ReprIs.str x t (by simpa only [keyData, PyData.shown] using hz)) _ _ _
theorem keyFlat (k : Key) : (keyData k).depth = 0 := by
  cases k <;> rfl
section
variable {X : Cx} {pins : List (Addr × Obj)} {σ : L2.St} {H : Hp} {s : Shared}
/-- all but the thing at p is as it was -/
def Kb (p : Addr) (H H' : Hp) : Prop := ∀ b o, H b = some o → b ≠ p → H' b = some o
/-- p holds a pen -/
def PenO (H : Hp) (p : Addr) : Prop := ∃ kvs, H p = some (.dK kvs) ∧ isPen kvs = true
theorem rd_kb {p : Addr} {H H' : Hp} {a : Addr} {o : HO} (e : Kb p H H') (h : Rd H a o) (n : a ≠ p) : Rd H' a o := by
  rcases h with h | ⟨ob, h⟩
  · exact Or.inl (e _ _ h n)
  · exact Or.inr ⟨ob, e _ _ h n⟩
theorem sql_kb {K : PySem.W.Frag} {p : Addr} {H H' : Hp} {a : Addr} {xs : List V} (e : Kb p H H') (hp : PenO H p) (h : SqL K H a xs) : SqL K H' a xs := by
  obtain ⟨kvs, hp, _⟩ := hp
  rcases h with h | h
  · refine Or.inl (rd_kb e h ?_)
    rintro rfl
    rcases h with h | ⟨ob, h⟩
    · rw [hp] at h; cases h
    · rw [hp] at h; cases h
  · exact Or.inr h
theorem sqt_kb {K : PySem.W.Frag} {p : Addr} {H H' : Hp} {a : Addr} {xs : List V} (e : Kb p H H') (hp : PenO H p) (h : SqT K H a xs) : SqT K H' a xs := by
  obtain ⟨kvs, hp, _⟩ := hp
  rcases h with h | h
  · refine Or.inl (rd_kb e h ?_)
    rintro rfl
    rcases h with h | ⟨ob, h⟩
    · rw [hp] at h; cases h
    · rw [hp] at h; cases h
  · exact Or.inr h
theorem dk_kb {p : Addr} {H H' : Hp} {a : Addr} {kvs : List (Key × V)} (e : Kb p H H') (hp : PenO H p) (n : isPen kvs = false) (h : Rd H a (.dK kvs)) : Rd H' a (.dK kvs) := by
  obtain ⟨ks, hp, hk⟩ := hp
  refine rd_kb e h ?_
  rintro rfl
  rcases h with h | ⟨ob, h⟩
  · rw [hp] at h
    cases h
    rw [hk] at n
    cases n
  · rw [hp] at h; cases h
mutual
theorem Dd.kb {K : PySem.W.Frag} {p : Addr} {H H' : Hp} (e : Kb p H H') (hp : PenO H p) : ∀ {v : V} {d : PyData}, Dd K H v d → Dd K H' v d
  | _, _, .non => .non
  | _, _, .bl b => .bl b
  | _, _, .int i => .int i
  | _, _, .str x => .str x
  | _, _, .lst h t => .lst (sql_kb e hp h) (DdAll.kb e hp t)
  | _, _, .tup h t => .tup (sqt_kb e hp h) (DdAll.kb e hp t)
  | _, _, .dct h n t => .dct (dk_kb e hp n h) n (DdKv.kb e hp t)
theorem DdAll.kb {K : PySem.W.Frag} {p : Addr} {H H' : Hp} (e : Kb p H H') (hp : PenO H p) : ∀ {vs : List V} {ds : List PyData}, DdAll K H vs ds → DdAll K H' vs ds
  | _, _, .nil => .nil
  | _, _, .cons h t => .cons (Dd.kb e hp h) (DdAll.kb e hp t)
theorem DdKv.kb {K : PySem.W.Frag} {p : Addr} {H H' : Hp} (e : Kb p H H') (hp : PenO H p) : ∀ {kvs : List (Key × V)} {ds : List (PyData × PyData)}, DdKv K H kvs ds → DdKv K H' kvs ds
  | _, _, .nil => .nil
  | _, _, .cons h t => .cons (Dd.kb e hp h) (DdKv.kb e hp t)
end
/-- tuples, lists, dicts stand in a heap that keeps them -/
theorem rd_same {H H' : Hp} {a : Addr} {o : HO} (e : Same H H') (h : Rd H a o) : Rd H' a o := by
  rcases h with h | ⟨ob, h⟩
  · exact Or.inl (e _ _ h)
  · exact Or.inr ⟨ob, e _ _ h⟩
theorem sql_same {K : PySem.W.Frag} {H H' : Hp} {a : Addr} {xs : List V} (e : Same H H') (h : SqL K H a xs) : SqL K H' a xs := h.imp (rd_same e) id
theorem sqt_same {K : PySem.W.Frag} {H H' : Hp} {a : Addr} {xs : List V} (e : Same H H') (h : SqT K H a xs) : SqT K H' a xs := h.imp (rd_same e) id
mutual
theorem Dd.same {K : PySem.W.Frag} {H H' : Hp} (e : Same H H') : ∀ {v : V} {d : PyData}, Dd K H v d → Dd K H' v d
  | _, _, .non => .non
  | _, _, .bl b => .bl b
  | _, _, .int i => .int i
  | _, _, .str x => .str x
  | _, _, .lst h t => .lst (sql_same e h) (DdAll.same e t)
  | _, _, .tup h t => .tup (sqt_same e h) (DdAll.same e t)
  | _, _, .dct h n t => .dct (rd_same e h) n (DdKv.same e t)
theorem DdAll.same {K : PySem.W.Frag} {H H' : Hp} (e : Same H H') : ∀ {vs : List V} {ds : List PyData}, DdAll K H vs ds → DdAll K H' vs ds
  | _, _, .nil => .nil
  | _, _, .cons h t => .cons (Dd.same e h) (DdAll.same e t)
theorem DdKv.same {K : PySem.W.Frag} {H H' : Hp} (e : Same H H') : ∀ {kvs : List (Key × V)} {ds : List (PyData × PyData)}, DdKv K H kvs ds → DdKv K H' kvs ds
  | _, _, .nil => .nil
  | _, _, .cons h t => .cons (Dd.same e h) (DdKv.same e t)
end
mutual
theorem Dd.tells (I : Inv X pins σ H s) : ∀ {v : V} {d : PyData} {u : Value}, Dd X.K H v d → RelV v u → d.showable = true → d.shown.length ≤ sizeLine →
    ∃ as bs, Reads s.heap u d as ∧ ReadAtMost s.heap d.depth bs ∧ ReprK X.prog X.w bs s.heap d.depth u d.shown
  | _, _, _, .non, r, _, _ => by
    cases r
    refine ⟨_, [], Reads.none, (fun _ h => nomatch h), ?_⟩
    simp only [PyData.shown]
    exact .of_is ReprIs.none _ _ _
  | _, _, _, .bl b, r, _, _ => by
    cases r
    refine ⟨_, [], Reads.bool b, (fun _ h => nomatch h), ?_⟩
    simp only [PyData.shown]
    exact .of_is (ReprIs.bool b) _ _ _
  | _, _, _, .int i, r, hs, _ => by
    obtain ⟨t, rfl⟩ := r
    refine ⟨_, [], Reads.int i t, (fun _ h => nomatch h), ?_⟩
    simp only [PyData.shown]
    exact .of_is (ReprIs.int t (by simpa [PyData.showable] using hs)) _ _ _
  | _, _, _, .str x, r, _, hz => by
    obtain ⟨t, rfl⟩ := r
    refine ⟨_, [], Reads.str x t, (fun _ h => nomatch h), ?_⟩
    simp only [PyData.shown]
    exact .of_is (ReprIs.str x t (by simpa only [PyData.shown] using hz)) _ _ _
  | _, .list ds, _, .lst hs ha, r, hw, hz => by
    cases r
    obtain ⟨its, rv, ⟨o, n, ho, hc, _, hd⟩, _⟩ := I.list hs
    have hz2 : (listText (PyData.shownAll ds)).length ≤ sizeLine := by simpa only [PyData.shown] using hz
    obtain ⟨as, bs, hr, hb, hk⟩ := DdAll.tells I ha rv (by simpa [PyData.showable] using hw) (fun t ht => Nat.le_trans (listText_mem_le ht) hz2)
    have R : Reads s.heap (.ref _) (.list ds) _ := Reads.list ho hc hd (by simpa using hr)
    have hn := not_mem_of_deeper R (by simp only [PyData.depth]; omega) hb
    refine ⟨_, _, R, ReadAtMost.cons R (by simp only [PyData.depth]; omega) hb, ?_⟩
    simp only [PyData.depth, PyData.shown]
    cases its with
    | nil =>
      cases hr
      simp only [PyData.shownAll, listText_nil]
      exact ReprK.listEmpty ho hc hd
    | cons z l => exact ReprK.list ho hc hd hn (by simpa using hk.length_eq) (fun i y e => hk.item i y (by simpa using e))
  | _, .tuple ds, _, .tup hs ha, r, hw, hz => by
    cases r
    obtain ⟨its, rv, ⟨o, ho, hc, n, hd⟩, _⟩ := I.tuple hs
    have hz2 : (tupleText (PyData.shownAll ds)).length ≤ sizeLine := by simpa only [PyData.shown] using hz
    obtain ⟨as, bs, hr, hb, hk⟩ := DdAll.tells I ha rv (by simpa [PyData.showable] using hw) (fun t ht => Nat.le_trans (tupleText_mem_le ht) hz2)
    have R : Reads s.heap (.ref _) (.tuple ds) _ := Reads.tuple ho hc hd (by simpa using hr)
    have hn := not_mem_of_deeper R (by simp only [PyData.depth]; omega) hb
    refine ⟨_, _, R, ReadAtMost.cons R (by simp only [PyData.depth]; omega) hb, ?_⟩
    simp only [PyData.depth, PyData.shown]
    exact ReprK.tuple ho hc hd hn (by simpa using hk)
  | _, .dict ds, _, .dct hs _ ha, r, hw, hz => by
    cases r
    obtain ⟨z, hy, vs, rel, o, es, ep, h1, h2, h3, h4, h5, h6⟩ := hs.ok I.hok
    have hz2 : (dictText (PyData.shownKv ds)).length ≤ sizeLine := by simpa only [PyData.shown] using hz
    obtain ⟨w1, w2⟩ := PyData.showableKv_split ds (by simpa [PyData.showable] using hw)
    obtain ⟨as, a2, bs, r1, r2, hb, k1, k2⟩ := DdKv.tells I ha rel h5 w1 w2 (fun t ht => Nat.le_trans (dictText_mem_le ht) hz2)
    have R : Reads s.heap (.ref _) (.dict ds) _ := Reads.dict h1 h2.1 h3 r1 r2
    have hn := not_mem_of_deeper R (by simp only [PyData.depth]; omega) hb
    refine ⟨_, _, R, ReadAtMost.cons R (by simp only [PyData.depth]; omega) hb, ?_⟩
    simp only [PyData.depth, PyData.shown, PyData.shownKv_eq]
    exact ReprK.dict h1 h2.1 h3 hy hn (ReprEntriesK.of_two es.toList _ _ k1 k2)
theorem DdAll.tells (I : Inv X pins σ H s) : ∀ {vs : List V} {ds : List PyData} {us : List Value}, DdAll X.K H vs ds → Vals vs us → PyData.showableAll ds = true → (∀ t ∈ PyData.shownAll ds, t.length ≤ sizeLine) →
    ∃ as bs, ReadsAll s.heap us ds as ∧ ReadAtMost s.heap (PyData.depthAll ds) bs ∧ ReprAllK X.prog X.w bs s.heap (PyData.depthAll ds) us (PyData.shownAll ds)
  | _, _, _, .nil, r, _, _ => by
    cases r
    refine ⟨_, [], ReadsAll.nil, (fun _ h => nomatch h), ?_⟩
    simp only [PyData.shownAll]
    exact .nil
  | _, d :: ds, _, .cons h t, r, hw, hz => by
    cases r with
    | cons r1 r2 =>
      have w2 : d.showable = true ∧ PyData.showableAll ds = true := by simpa [PyData.showableAll] using hw
      simp only [PyData.shownAll] at hz
      obtain ⟨a1, b1, q1, m1, k1⟩ := Dd.tells I h r1 w2.1 (hz _ (List.mem_cons_self ..))
      obtain ⟨a2, b2, q2, m2, k2⟩ := DdAll.tells I t r2 w2.2 (fun x hx => hz x (List.mem_cons_of_mem _ hx))
      simp only [PyData.depthAll, PyData.shownAll]
      refine ⟨_, b1 ++ b2, ReadsAll.cons q1 q2, (m1.mono (Nat.le_max_left _ _)).append (m2.mono (Nat.le_max_right _ _)), ?_⟩
      exact .cons ((k1.more fun b hb => List.mem_append_left _ hb).level_le (Nat.le_max_left _ _)) (k2.more_le (fun b hb => List.mem_append_right _ hb) (Nat.le_max_right _ _))
theorem DdKv.tells (I : Inv X pins σ H s) : ∀ {kvs : List (Key × V)} {ds : List (PyData × PyData)} {vs : List (Key × Value)} {es : List DictEntry}, DdKv X.K H kvs ds → KV kvs vs → Pairs (mixKind X.prog X.w) es vs →
    PyData.showableAll (ds.map (·.1)) = true → PyData.showableAll (ds.map (·.2)) = true → (∀ t ∈ PyData.shownKv ds, t.length ≤ sizeLine) →
    ∃ as a2 bs, ReadsAll s.heap (es.map (·.key)) (ds.map (·.1)) as ∧ ReadsAll s.heap (es.map (·.val)) (ds.map (·.2)) a2 ∧ ReadAtMost s.heap (PyData.depthKv ds) bs ∧
      ReprAllK X.prog X.w bs s.heap (PyData.depthKv ds) (es.map (·.key)) (PyData.shownAll (ds.map (·.1))) ∧ ReprAllK X.prog X.w bs s.heap (PyData.depthKv ds) (es.map (·.val)) (PyData.shownAll (ds.map (·.2)))
  | _, _, _, _, .nil, r, p, _, _, _ => by
    cases r
    cases p
    refine ⟨_, _, [], ReadsAll.nil, ReadsAll.nil, (fun _ h => nomatch h), ?_, ?_⟩
    · simp only [List.map_nil, PyData.shownAll]
      exact .nil
    · simp only [List.map_nil, PyData.shownAll]
      exact .nil
  | (k, v) :: _, _, _, _, .cons (d := d) (ds := ds) h t, r, p, hw1, hw2, hz => by
    cases r with
    | cons r1 r2 =>
      cases p with
      | cons p1 p2 p3 =>
        obtain ⟨e1, e2⟩ := r1
        rename_i kv _ _ _
        obtain ⟨k', u'⟩ := kv
        simp only at e1 e2 p1 p2
        subst e1
        subst p2
        have w1 : (keyData k).showable = true ∧ PyData.showableAll (ds.map (·.1)) = true := by simpa [PyData.showableAll] using hw1
        have w2 : d.showable = true ∧ PyData.showableAll (ds.map (·.2)) = true := by simpa [PyData.showableAll] using hw2
        simp only [PyData.shownKv] at hz
        have z1 := hz _ (List.mem_cons_self ..)
        rw [strLen_append, strLen_append] at z1
        obtain ⟨a1, b1, q1, m1, k1⟩ := Dd.tells I h e2 w2.1 (by omega)
        obtain ⟨a2, a3, b2, q2, q3, m2, k2, k3⟩ := DdKv.tells I t r2 p3 w1.2 w2.2 (fun x hx => hz x (List.mem_cons_of_mem _ hx))
        have d1 : d.depth ≤ PyData.depthKv ((keyData k, d) :: ds) := by simp only [PyData.depthKv]; omega
        have d2 : PyData.depthKv ds ≤ PyData.depthKv ((keyData k, d) :: ds) := by simp only [PyData.depthKv]; omega
        refine ⟨_, _, b1 ++ b2, ReadsAll.cons (keyRead p1) q2, ReadsAll.cons q1 q3, (m1.mono d1).append (m2.mono d2), ?_, ?_⟩
        · simp only [List.map_cons, PyData.shownAll]
          exact .cons (keyShow p1 w1.1 (by omega)) (k2.more_le (fun b hb => List.mem_append_right _ hb) d2)
        · simp only [List.map_cons, PyData.shownAll]
          exact .cons ((k1.more fun b hb => List.mem_append_left _ hb).level_le d1) (k3.more_le (fun b hb => List.mem_append_right _ hb) d2)
end
end
section
variable {X : Cx}
/-- repr(x), x data of any kind -/
def rRepr (K : PySem.W.Frag) : List V → Hp → VK → Prop := fun vs H Q => ∃ (x : V) (d : PyData), vs = [x] ∧ Dd K H x d ∧ d.showable = true ∧ d.shown.length ≤ sizeLine ∧ d.depth ≤ 60 ∧ Q (.str d.shown) H
theorem cr_repr (hg : X.A.guards = some []) (hu : X.A.units + 64 < cLine) : CallR X (.builtin "repr") (rRepr X.K) := by
  intro pins s σ H vs us Q I r h
  obtain ⟨x, d, rfl, hx, hs, hz, hd, q⟩ := h
  obtain ⟨u, rfl, rx⟩ := vals1 r
  cases hx with
  | non =>
    cases rx
    simp only [PyData.shown] at q
    exact PySem.P.repr_of_none ⟨.str _, H, I.tok _, ⟨_, rfl⟩, q⟩
  | bl b =>
    cases rx
    simp only [PyData.shown] at q
    exact PySem.P.repr_of_bool ⟨.str _, H, I.tok _, ⟨_, rfl⟩, q⟩
  | int i =>
    obtain ⟨t, rfl⟩ := rx
    simp only [PyData.shown] at q
    exact PySem.P.repr_of_int (by simpa [PyData.showable] using hs) ⟨.str _, H, I.tok _, ⟨_, rfl⟩, q⟩
  | str y =>
    obtain ⟨t, rfl⟩ := rx
    simp only [PyData.shown] at q hz
    exact PySem.P.repr_of_str ⟨.str _, H, I.tok _, ⟨_, rfl⟩, q⟩ hz
  | @lst a xs ds h1 h2 =>
    cases rx
    obtain ⟨its, rv, ⟨o, n, ho, hc, _, hda⟩, _⟩ := I.list h1
    simp only [PyData.shown, PyData.depth] at q hz hd
    obtain ⟨as, bs, hr, hb, hk⟩ := DdAll.tells I h2 rv (by simpa [PyData.showable] using hs) (fun t ht => Nat.le_trans (listText_mem_le ht) hz)
    have R : Reads s.heap (.ref a) (.list ds) _ := Reads.list ho hc hda (by simpa using hr)
    have hn := not_mem_of_deeper R (by simp only [PyData.depth]; omega) hb
    refine call_repr_slot (by omega) ⟨o, ho, hc⟩ F.slot_list_repr.toG ?_
    cases its with
    | nil =>
      cases hr
      simp only [PyData.shownAll, listText_nil] at q
      exact call_list_repr_empty ⟨o, ho, hc⟩ ho hda ⟨_, _, rfl, .str _, H, I.tok _, ⟨_, rfl⟩, q⟩
    | cons z l =>
      exact call_list_reprK ho hc hda hn (by simpa using hk.length_eq) (fun i y e => hk.item i y (by simpa using e)) hg (fun b _ => Clear.nil b) (by show X.A.units + 1 + _ < cLine; omega) (fun _ _ e => e)
        (fun g v tk kp => ⟨_, _, rfl, .str _, H, I.kept kp, ⟨_, rfl⟩, q⟩) hz
  | @tup a xs ds h1 h2 =>
    cases rx
    obtain ⟨its, rv, ⟨o, ho, hc, n, hda⟩, _⟩ := I.tuple h1
    simp only [PyData.shown, PyData.depth] at q hz hd
    obtain ⟨as, bs, hr, hb, hk⟩ := DdAll.tells I h2 rv (by simpa [PyData.showable] using hs) (fun t ht => Nat.le_trans (tupleText_mem_le ht) hz)
    have R : Reads s.heap (.ref a) (.tuple ds) _ := Reads.tuple ho hc hda (by simpa using hr)
    have hn := not_mem_of_deeper R (by simp only [PyData.depth]; omega) hb
    refine call_repr_slot (by omega) ⟨o, ho, hc⟩ F.slot_tuple_repr ?_
    exact call_tuple_reprK ho hc hda hn (by simpa using hk) hg (fun b _ => Clear.nil b) (by show X.A.units + 1 + _ < cLine; omega) (fun _ _ e => e)
        (fun g v tk kp => ⟨_, _, rfl, .str _, H, I.kept kp, ⟨_, rfl⟩, q⟩) hz
  | @dct a kvs ds h1 _ h2 =>
    cases rx
    obtain ⟨z, hy, vs, rel, o, es, ep, g1, g2, g3, g4, g5, g6⟩ := h1.ok I.hok
    simp only [PyData.shown, PyData.depth] at q hz hd
    obtain ⟨w1, w2⟩ := PyData.showableKv_split ds (by simpa [PyData.showable] using hs)
    obtain ⟨as, a2, bs, r1, r2, hb, k1, k2⟩ := DdKv.tells I h2 rel g5 w1 w2 (fun t ht => Nat.le_trans (dictText_mem_le ht) hz)
    have R : Reads s.heap (.ref a) (.dict ds) _ := Reads.dict g1 g2.1 g3 r1 r2
    have hn := not_mem_of_deeper R (by simp only [PyData.depth]; omega) hb
    refine call_repr_slot (by omega) ⟨o, g1, g2.1⟩ F.slot_dict_repr ?_
    rw [PyData.shownKv_eq] at q hz
    exact call_dict_reprK g1 g2.1 g3 hy hn (ReprEntriesK.of_two es.toList _ _ k1 k2) hg (fun b _ => Clear.nil b) (by show X.A.units + 1 + _ < cLine; omega) (fun _ _ e => e)
        (fun g v tk kp => ⟨_, _, rfl, .str _, H, I.kept kp, ⟨_, rfl⟩, q⟩) hz
end
end RG
end RGb
section RGc
/-! A def's promise that may use that no repr runs around it (FnG); the law's end over such promises. -/
namespace RG
open PySem PySem.Spec PyProof.Rows L2
structure FnG (P : Program) (w : World) (K : PySem.W.Frag) (mg : Str → Option Value) (base : Heap) (CX : CXT) (k : Nat) (f : Addr) (fd : FuncData) (ps : List Str) (sp : Sp) : Prop where
  many : ∀ vs H Q E, sp vs H Q E → vs.length = ps.length
  runs : ∀ (A : Around) (out : List Env) (s : Shared) (H : Hp) (ar : Args) (us : List Value) (vs : List V) (Q : VK) (E : XK),
    Room k A → A.guards = some [] → Env0 P w K mg base A out s H → BindsTo s fd ar (ps.zip us) → Vals vs us → sp vs H Q E →
      codeAny (model P w) A (.call (.ref f) ar) (CR CX out P w H s Q E) s
section
variable {P : Program} {w : World} {K : PySem.W.Frag} {mg : Str → Option Value} {base : Heap} {CX : CXT} {f : Addr} {fd : FuncData} {N ps : List Str} {k : Nat} {sp : Sp} {x qual : Str} {st : Stmt}
theorem FnG.of (F : FnOk P w K mg base CX k f fd ps sp) : FnG P w K mg base CX k f fd ps sp :=
  ⟨F.len, fun A out s H ar us vs Q E hr _ => F.run A out s H ar us vs Q E hr⟩
/-- a def of the text, by its body -/
theorem fnG_of (F : Fun K x qual st f fd) (S : FnScope N ps (defScope st)) (many : ∀ vs H Q E, sp vs H Q E → vs.length = ps.length)
    (body : ∀ (cd : Value) (A : Around) (out : List Env) (s : Shared) (H : Hp) (vs : List V) (Q : VK) (E : XK),
      Room k (A.deeper (envOfC qual (defScope st) s.heap.objs.size f cd)) → (A.deeper (envOfC qual (defScope st) s.heap.objs.size f cd)).guards = some [] → sp vs H Q E →
      ∃ t, PSs (cxOf CX P w K mg base N qual (defScope st) f cd A out s H E) (defBody st) t ∧ t { nx := fun _ H' => Q .non H', rt := Q } (start N vs) H) :
    FnG P w K mg base CX (k + 1) f fd ps sp := by
  obtain ⟨oc, od, kV, doc, pm, an, cd, ct, osl, rfl, lk, hcd⟩ := F.ex
  refine ⟨many, fun A out s H ar us vs Q E hr hg e0 hb hv hsp => ?_⟩
  have long := many _ _ _ _ hsp
  have inn : K.In s.heap := e0.mod.kin.keeps fun b o e => (e0.bs b o e).1
  have lim : s.heap.NoLimit := e0.mod.nolimit.keeps fun b o e => (e0.bs b o e).1
  refine codeAny_call_function hr.depth (inn _ _ lk) rfl S.co S.gen rfl (PySem.W.codeRec_of inn hcd) (hb _ _ _ _ ?_)
  refine wpAny_newFunctionEnv_cells S.kind (fun y hy => ?_) fun env he s1 z => ?_
  · obtain ⟨n, v⟩ := y
    have hn : n ∈ ps := (List.of_mem_zip hy).1
    rcases S.par n hn with q | q
    · exact Or.inl q
    · exact Or.inr ⟨q, PySem.W.cellsFrom_some _ _ _ (Or.inl q)⟩
  subst he
  refine ⟨lim.keeps z.toInCall.keep, codeAny_func ?_⟩
  obtain ⟨t, ht, hq⟩ := body cd A out s H vs Q E (hr.deeper _) hg hsp
  have J := inv_start (CX := CX) (E := E) S hr.hd e0 long hv z
  refine wpAny_mono (ht.run [] s1 (start N vs) H _ J hq) (fun fl s2 h2 => ?_) (fun _ _ h2 => h2)
  cases fl with
  | brk => exact h2.elim fun _ h3 => h3.elim fun _ h4 => h4.2.elim
  | cont => exact h2.elim fun _ h3 => h3.elim fun _ h4 => h4.2.elim
  | next =>
    obtain ⟨τ, G, J2, q2⟩ := h2
    exact ⟨V.non, G, J2.os, J2.bare, J2.base, J2.hok, rfl, q2⟩
  | ret u =>
    obtain ⟨v, τ, G, J2, rv, q2⟩ := h2
    exact ⟨v, G, J2.os, J2.bare, J2.base, J2.hok, rv, q2⟩
end
section
variable {P : Program} {w : World} {K : PySem.W.Frag} {mg : Str → Option Value} {base : Heap} {f : Addr} {fd : FuncData} {N ps : List Str} {k : Nat} {sp : Sp} {x qual : Str} {st : Stmt}
/-- .. out of which nothing is raised -/
theorem fnG0 (F : Fun K x qual st f fd) (S : FnScope N ps (defScope st)) (many : ∀ vs H Q E, sp vs H Q E → vs.length = ps.length)
    (body : ∀ (cd : Value) (A : Around) (out : List Env) (s : Shared) (H : Hp) (vs : List V) (Q : VK) (E : XK),
      Room k (A.deeper (envOfC qual (defScope st) s.heap.objs.size f cd)) → (A.deeper (envOfC qual (defScope st) s.heap.objs.size f cd)).guards = some [] → sp vs H Q E →
      ∃ t, PSs (cxOf CX0 P w K mg base N qual (defScope st) f cd A out s H E).nox (defBody st) t ∧ t { nx := fun _ H' => Q .non H', rt := Q } (start N vs) H) :
    FnG P w K mg base CX0 (k + 1) f fd ps sp :=
  fnG_of F S many fun cd A out s H vs Q E hr hg h =>
    let ⟨t, h1, h2⟩ := body cd A out s H vs Q E hr hg h
    ⟨t, h1.nox, h2⟩
end
/-- a def of the module by its name: what it promises -/
structure Cg (P : Program) (w : World) (K : PySem.W.Frag) (mg : Str → Option Value) (base : Heap) (k : Nat) (x : Str) (sp : Sp) : Prop where
  ex : ∃ (f : Addr) (fd : FuncData) (ps : List Str), FnG P w K mg base CX0 k f fd ps sp ∧ mg x = some (.ref f) ∧ PySem.W.keepIn K (.ref f) = true ∧ Binds K fd ps []
section
variable {X : Cx} {k j : Nat} {x : Str} {sp : Sp} {p pos : Pos} {e : Expr} {es : List Expr} {t : TA}
theorem pe_g (c : Cg X.prog X.w X.K X.mg X.base k x sp) (hr : Room j X.A) (hg : X.A.guards = some []) (hk : k ≤ j) (hx : Gl X x) (ha : PA X (e :: es) t)
    (h1 : (x == ("__debug__" : Str)) = false := by decide) (h2 : starEach (e :: es) X.env = (false, eval e X.env) :: starEach es X.env := by rfl) (h3 : (backTo pos (starEach es X.env)).any (·.1) = false := by rfl) :
    PE X (.Call (.Name x p) (e :: es) [] pos) (tCall sp [] E0 t) := by
  obtain ⟨f, fd, ps, F, hm, kp, b⟩ := c.ex
  refine ⟨fun pins s σ H Q I h => wpAny_Call_Name_kw (ld_glob I hx hm ?_ h1)⟩
  refine PySem.W.callWith_K (h₀ := X.base) I.ok.mod.kin kp (thn (ha.run pos pins s σ H _ I h) ?_) h2 h3
  rintro us s1 ⟨vs, G, J, r, q⟩
  refine ⟨J.kIn, ?_⟩
  rw [List.append_nil] at q
  have hl := (F.many _ _ _ _ q).symm.trans (Eq.refl vs.length)
  have bt := b s1 us J.kIn (by rw [List.append_nil, ← r.length]; exact F.many _ _ _ _ q)
  rw [List.append_nil] at bt
  refine wpAny_call (codeAny_mono (F.runs X.A X.stack s1 G _ us vs Q E0 (hr.mono hk) hg J.env0 bt r q) fun w2 s2 h => ?_)
  cases w2 with
  | error z => exact False.elim h
  | ok fl =>
    cases fl with
    | ret u => exact J.after h
    | next => exact False.elim h
    | brk => exact False.elim h
    | cont => exact False.elim h
end
end RG
end RGc
section RGd
namespace RG
open PySem PySem.Spec PyProof.Rows L2
/-- the law's def is called behind the top: H tracks the script, if it tracks anything -/
theorem top_run {P : Program} {w : World} {K : PySem.W.Frag} {mg mb : Str → Option Value} {k : Nat} {fa a : Addr} {fd : FuncData} {x : Str} {sp : Sp} {s : Shared} {H : Hp} {xs : List V} {os : Obj}
    (inn : K.In s.heap) (g1 : s.heap.Ns mainGlobals mg) (g2 : s.heap.Ns builtinsNs mb) (g3 : ∀ y : Str, y ≠ "__name__" → mb y = bootBuiltins y) (lim : s.heap.NoLimit) (hg : s.gens = #[])
    (ho : s.heap.get? a = some os) (hd : ∀ es ep, os.data ≠ .dict es ep) (hr : Room k callerA)
    (F : ∀ base : Heap, K.In base → base.Ns mainGlobals mg → FnG P w K mg base CX0 k fa fd [x] sp) (hb : ∀ (s : Shared) (u : Value), BindsTo s fd ⟨[u], []⟩ [(x, u)])
    (hH : ∀ b, H b = none ∨ (b = a ∧ H b = some (.frz os (.lst xs)) ∧ K.lookup a = none)) (ok : HOk P w H s.heap) (hsp : sp [.ref a] H (fun v _ => v = .bl true) fun _ _ _ => False) :
    codeAny (model P w) callerA (.call (.ref fa) ⟨[.ref a], []⟩) (fun r s' => r = .ok (.ret (.bool true)) ∧ OldK s.heap s'.heap ∧ s'.os = s.os ∧ AllBare s'.gens) s := by
  have clear : ∀ {b : Addr} {o : Obj} {es : Array DictEntry} {ep : Nat}, s.heap.get? b = some o → o.data = .dict es ep → H b = none := by
    intro b o es ep h1 h2
    rcases hH b with h | ⟨rfl, _, _⟩
    · exact h
    · rw [ho] at h1
      cases h1
      exact absurd h2 (hd _ _)
  have ns : ∀ {b : Addr} {m : Str → Option Value}, s.heap.Ns b m → (hidT s.heap H).Ns b m := by
    rintro b m ⟨o, es, ep, h1, h2, r⟩
    exact ⟨o, es, ep, hidT_get h1 (clear h1 h2), h2, r⟩
  have kin : K.In (hidT s.heap H) := by
    intro b o h1
    refine hidT_get (inn b o h1) ?_
    rcases hH b with h | ⟨rfl, _, h⟩
    · exact h
    · rw [h] at h1
      cases h1
  obtain ⟨mc, l1, l2⟩ := lim
  have e0 : Env0 P w K mg (hidT s.heap H) callerA [] s H :=
    ⟨rfl, ⟨kin, ns g1, ⟨mb, ns g2, g3⟩, ⟨mc, ns l1, l2⟩⟩, fun b o h => of_hidT h, Nat.le_of_eq (hidT_size _ _), trivial, (fun b hb => absurd hb (by simp [frs])), ok, AllBare.of_eq hg⟩
  refine codeAny_mono ((F _ kin (ns g1)).runs callerA [] s H ⟨[.ref a], []⟩ [.ref a] [.ref a] _ _ hr rfl e0 (hb s (.ref a)) (.cons rfl .nil) hsp) fun r s' h => ?_
  cases r with
  | error e => exact False.elim h
  | ok fl =>
    cases fl with
    | next => exact False.elim h
    | brk => exact False.elim h
    | cont => exact False.elim h
    | ret u =>
      obtain ⟨v, G, h1, h2, un, ok2, rv, q⟩ := h
      have q2 : v = .bl true := q
      subst q2
      obtain rfl : u = Value.bool true := rv
      refine ⟨rfl, OldK.of_keep fun b o h3 => ?_, h1, h2⟩
      rcases hH b with h | ⟨rfl, h, _⟩
      · exact un.keep b o h3 h (by intro z; cases z) (by simp)
      · rw [ho] at h3
        cases h3
        exact (ok2 b _ (un.frzs b _ _ h)).1
/-- the goal that the head leaves, from the law's promise -/
theorem walk_G {l : PySem.W.OpenLaw} {n k : Nat} {q : Program} {loose : List Str} {XP : (Str → Option Value) → Heap → Prop} {YP : World → Heap → Prop} {d : DefRec} {K : Params → PySem.W.Frag} {sp : PySem.W.Frag → Sp} {x : Str}
    (hn : l.most = some n) (hn2 : n ≤ sizeLine) (hdf : d.params.defaults = []) (hr : Room k callerA) (hY : ∀ (w : World) (h : Heap), YP w h → (K w.params).In h)
    (F : ∀ (w : World) (mg : Str → Option Value) (fa : Addr) (h : Heap), (K w.params).In h → h.Ns mainGlobals mg → mg d.name = some (.ref fa) →
      ∃ fd : FuncData, (∀ (s : Shared) (u : Value), BindsTo s fd ⟨[u], []⟩ [(x, u)]) ∧
        ∀ base : Heap, (K w.params).In base → base.Ns mainGlobals mg → FnG l.prog w (K w.params) mg base CX0 k fa fd [x] (sp (K w.params)))
    (hsp : ∀ (K : PySem.W.Frag) (H : Hp) (a : Addr) (ns : List Int), ns.length ≤ n → SqL K H a (ns.map V.int) → (∀ b o, H b = some o → ∃ ob zs, o = .frz ob (.lst zs)) → sp K [.ref a] H (fun v _ => v = .bl true) fun _ _ _ => False) :
    PySem.W.WalkO q loose XP YP l.row.toRowW d [] (fun f vs => PySem.call f vs) := by
  refine Att.attach_call hn hdf fun w s₀ s mg mb fa o pm cd doc a vs ns G Y h1 h2 h3 hmg ha hi hl hg => ?_
  have inn := hY w _ Y
  obtain ⟨fd, hb, hF⟩ := F w mg fa _ inn G.T.g hmg
  have rv := vals_ints hi
  have len : (ns.map V.int).length ≤ sizeLine := by
    rw [List.length_map]
    exact Nat.le_trans hl hn2
  cases e : (K w.params).lookup a with
  | none =>
    refine top_run (xs := ns.map V.int) (H := fun b => if b = a then some (.frz { cls := .type "list", data := .seq vs.toArray } (.lst (ns.map V.int))) else none) inn G.T.g G.T.b G.T.builtins G.T.nolimit hg ha (fun es ep z => by cases z) hr hF hb (fun b => ?_) (fun b u z => ?_) (hsp _ _ a ns hl ?_ ?_)
    · by_cases hba : b = a
      · exact Or.inr ⟨hba, if_pos hba, e⟩
      · exact Or.inl (if_neg hba)
    · by_cases hba : b = a
      · subst hba
        have z2 := (if_pos rfl).symm.trans z
        cases z2
        exact ⟨ha, len, vs, _, rv, ha⟩
      · have z2 := (if_neg hba).symm.trans z
        cases z2
    · exact Or.inl (Or.inr ⟨_, if_pos rfl⟩)
    · intro b o z
      by_cases hba : b = a
      · have z2 := (if_pos hba).symm.trans z
        cases z2
        exact ⟨_, _, rfl⟩
      · have z2 := (if_neg hba).symm.trans z
        cases z2
  | some ob =>
    have z := inn a ob e
    rw [ha] at z
    cases z
    refine top_run (xs := []) (H := fun _ => none) inn G.T.g G.T.b G.T.builtins G.T.nolimit hg ha (fun es ep z => by cases z) hr hF hb (fun b => Or.inl rfl) (fun b u z => by cases z) (hsp _ _ a ns hl (Or.inr ⟨_, vs.toArray, _, e, rfl, rfl, rfl, ?_, by simpa using rv⟩) (fun b o z => by cases z))
    rw [List.size_toArray, ← rv.length]
    exact len
end RG
end RGd
section RGe
/-! isinstance of data; lists of whole numbers among data -/
namespace RG
open PySem PySem.Spec PyProof.Rows L2
def tyName : PyData → String
  | .none => "NoneType"
  | .bool _ => "bool"
  | .int _ => "int"
  | .str _ => "str"
  | .list _ => "list"
  | .tuple _ => "tuple"
  | .dict _ => "dict"
def isKind (C : String) (d : PyData) : Bool := tyName d == C || (C == "int" && tyName d == "bool")
theorem Dd.ty {K : PySem.W.Frag} {H : Hp} {x : V} {d : PyData} (h : Dd K H x d) : TyX K H x (.type (tyName d)) := by
  cases h with
  | non => exact .base .non
  | bl b => exact .base (.bl b)
  | int i => exact .base (.int i)
  | str y => exact .base (.str y)
  | lst h1 _ =>
    rcases h1 with (h1 | ⟨o, h1⟩) | ⟨o, its, n, h1, h2, _⟩
    · exact .base (.lst h1)
    · exact .base (.frz h1)
    · exact .kList h1 h2
  | tup h1 _ =>
    rcases h1 with (h1 | ⟨o, h1⟩) | ⟨o, its, n, h1, h2, _⟩
    · exact .base (.tup h1)
    · exact .fTuple h1
    · exact .kTuple h1 h2
  | dct h1 _ _ =>
    rcases h1 with h1 | ⟨o, h1⟩
    · exact .base (.dK h1)
    · exact .fDict h1
def kinds : List String := ["int", "bool", "tuple", "list", "str", "dict"]
theorem kit_kind {K : PySem.W.Frag} (d : PyData) {C : String} (h : C ∈ kinds) : PySem.W.kitOne K (.type (tyName d)) (.type C) = some (isKind C d) := by
  have key : ∀ T ∈ ["NoneType", "bool", "int", "str", "list", "tuple", "dict"], ∀ C ∈ kinds, kitB T C = some (T == C || (C == "int" && T == "bool")) := by decide +kernel
  exact kit_ty (key (tyName d) (by cases d <;> simp [tyName]) C h)
section
variable {X : Cx}
/-- isinstance(x, C), x data -/
def rIsD (K : PySem.W.Frag) : List V → Hp → VK → Prop := fun vs H Q => ∃ (x : V) (d : PyData) (C : String), vs = [x, .ty C] ∧ Dd K H x d ∧ C ∈ kinds ∧ Q (.bl (isKind C d)) H
theorem cr_isD : CallR X (.builtin "isinstance") (rIsD X.K) := by
  intro pins s σ H vs us Q I r h
  obtain ⟨x, d, C, rfl, hx, hC, q⟩ := h
  exact call_isi pins s σ H _ us Q I r ⟨x, .ty C, _, _, _, rfl, .ty C, hx.ty, kit_kind d hC, q⟩
/-- a built-in class's name as a value -/
theorem pe_tint {pos : Pos} (hg : Gl X "int") (hm : X.mg "int" = none) : PE X (.Name "int" pos) (tC (.ty "int")) := pe_bltn (u := .type "int") hg hm (by decide +kernel) rfl
theorem pe_tbool {pos : Pos} (hg : Gl X "bool") (hm : X.mg "bool" = none) : PE X (.Name "bool" pos) (tC (.ty "bool")) := pe_bltn (u := .type "bool") hg hm (by decide +kernel) rfl
theorem pe_ttuple {pos : Pos} (hg : Gl X "tuple") (hm : X.mg "tuple" = none) : PE X (.Name "tuple" pos) (tC (.ty "tuple")) := pe_bltn (u := .type "tuple") hg hm (by decide +kernel) rfl
theorem pe_tlist {pos : Pos} (hg : Gl X "list") (hm : X.mg "list" = none) : PE X (.Name "list" pos) (tC (.ty "list")) := pe_bltn (u := .type "list") hg hm (by decide +kernel) rfl
theorem pe_tstr {pos : Pos} (hg : Gl X "str") (hm : X.mg "str" = none) : PE X (.Name "str" pos) (tC (.ty "str")) := pe_bltn (u := .type "str") hg hm (by decide +kernel) rfl
theorem pe_tdict {pos : Pos} (hg : Gl X "dict") (hm : X.mg "dict" = none) : PE X (.Name "dict" pos) (tC (.ty "dict")) := pe_bltn (u := .type "dict") hg hm (by decide +kernel) rfl
end
/-! the built-in names -/
theorem b_isinstance : bootBuiltins "isinstance" = some (.builtin "isinstance") := by decide +kernel
theorem b_len : bootBuiltins "len" = some (.builtin "len") := by decide +kernel
theorem b_all : bootBuiltins "all" = some (.builtin "all") := by decide +kernel
theorem b_any : bootBuiltins "any" = some (.builtin "any") := by decide +kernel
theorem b_sorted : bootBuiltins "sorted" = some (.builtin "sorted") := by decide +kernel
theorem b_abs : bootBuiltins "abs" = some (.builtin "abs") := by decide +kernel
theorem b_min : bootBuiltins "min" = some (.builtin "min") := by decide +kernel
theorem b_max : bootBuiltins "max" = some (.builtin "max") := by decide +kernel
theorem b_repr : bootBuiltins "repr" = some (.builtin "repr") := by decide +kernel
theorem b_sum : bootBuiltins "sum" = some (.builtin "sum") := by decide +kernel
theorem b_int : bootBuiltins "int" = some (.type "int") := by decide +kernel
theorem b_bool : bootBuiltins "bool" = some (.type "bool") := by decide +kernel
theorem b_str : bootBuiltins "str" = some (.type "str") := by decide +kernel
theorem b_tuple : bootBuiltins "tuple" = some (.type "tuple") := by decide +kernel
theorem b_list : bootBuiltins "list" = some (.type "list") := by decide +kernel
theorem b_dict : bootBuiltins "dict" = some (.type "dict") := by decide +kernel
theorem b_set : bootBuiltins "set" = some (.type "set") := by decide +kernel
end RG
end RGe
section RGf
/-! comprehensions that leave all that stood; heaps -/
namespace RG
open PySem PySem.Spec PyProof.Rows L2
theorem same_new {H : Hp} {p : Addr} {o : HO} (h : H p = none) : Same H (upd H p o) := fun b u e => by
  rw [upd_ne (ne_of_none e h)]
  exact e
theorem same_mut {H G : Hp} {p : Addr} {o : HO} (e : Same H G) (h : H p = none) : Same H (upd G p o) := fun b u q => by
  rw [upd_ne (ne_of_none q h)]
  exact e b u q
theorem same_free {H G : Hp} {p : Addr} (e : Same H G) (h : G p = none) : H p = none := e.free h
theorem take_snoc {α : Type} {ys : List α} {i : Nat} {y : α} (h : ys[i]? = some y) : ys.take i ++ [y] = ys.take (i + 1) := by
  rw [List.take_succ, h]
  rfl
/-- one turn of a comprehension without tests; σ: the def's slots -/
theorem lc_step {te : TE} {j : Nat} {σ : L2.St} {H G : Hp} {D : Addr} {x y : V} {ys : List V} {i : Nat} {Pn : Hp → Prop} (hD : H D = none) (hz : ys.length < sizeLine) (hy : ys[i]? = some y)
    (e : Same H G) (g : G D = some (.lst (ys.take i))) (h : ∀ Q : VK, (∀ G', Same G G' → Q y G') → te ((σ.set j none).set j (some x)) G Q)
    (n : ∀ G', Same H G' → G' D = some (.lst (ys.take (i + 1))) → Pn G') :
    gName j x (wipe σ [j]) G fun σ2 H2 => wipe σ2 [j] = wipe σ [j] ∧ tYes σ2 H2 fun b H3 =>
      if b = true then te σ2 H3 fun y H4 => ∃ acc, H4 D = some (.lst acc) ∧ acc.length < sizeLine ∧ Pn (upd H4 D (.lst (acc ++ [y]))) else Pn H3 := by
  refine ⟨?_, ?_⟩
  · show ((σ.set j none).set j (some x)).set j none = σ.set j none
    rw [List.set_set, List.set_set]
  · show (if true = true then (te ((σ.set j none).set j (some x)) G fun y H4 => ∃ acc, H4 D = some (.lst acc) ∧ acc.length < sizeLine ∧ Pn (upd H4 D (.lst (acc ++ [y])))) else Pn G)
    rw [if_pos rfl]
    refine h _ fun G' e2 => ⟨_, e2 _ _ g, ?_, ?_⟩
    · rw [List.length_take]
      omega
    · refine n _ (same_mut (e.trans e2) hD) ?_
      rw [upd_same, take_snoc hy]
/-- [e for x in t], t a tuple: each e leaves what stands and is ys' item -/
theorem comp_tup {K : PySem.W.Frag} {a D : Addr} {xs ys : List V} {te : TE} {j : Nat} {σ : L2.St} {H : Hp} {Qd : Hp → Prop} (hD : H D = none) (ha : SqT K H a xs) (hl : ys.length = xs.length) (hz : xs.length < sizeLine)
    (each : ∀ (i : Nat) (x y : V), xs[i]? = some x → ys[i]? = some y → ∀ G, Same H G → ∀ Q : VK, (∀ G', Same G G' → Q y G') → te ((σ.set j none).set j (some x)) G Q)
    (done : ∀ G, Same H G → G D = some (.lst ys) → Qd G) :
    ∃ W : Nat → Nat → Hp → Prop, (∃ m, W 0 m (upd H D (.lst []))) ∧ ∀ i m G, W i m G →
      ((Itt K a).stop i G ∧ Qd G) ∨ ((Itt K a).go i G ∧ ∃ Nx : Hp → Prop, (∀ H', Nx H' → ∃ m', m' < m ∧ W (i + 1) m' H') ∧ ∀ x H', (Itt K a).yld i G x H' → gName j x (wipe σ [j]) H' fun σ2 H2 => wipe σ2 [j] = wipe σ [j] ∧ tYes σ2 H2 fun b H3 =>
        if b = true then te σ2 H3 fun y H4 => ∃ acc, H4 D = some (.lst acc) ∧ acc.length < sizeLine ∧ Nx (upd H4 D (.lst (acc ++ [y]))) else Nx H3) := by
  refine lc_tup (xs := xs) (fun i G => Same H G ∧ G D = some (.lst (ys.take i))) ⟨same_new hD, by rw [upd_same]; rfl⟩ (fun i G _ h => sqt_same h.1 ha) (fun i x G hi h => ?_) fun G h => done G h.1 (by rw [h.2, ← hl, List.take_length])
  have hlt : i < ys.length := by
    rw [hl]
    exact (List.getElem?_eq_some_iff.mp hi).1
  have hy : ys[i]? = some ys[i] := List.getElem?_eq_getElem hlt
  exact lc_step hD (by omega) hy h.1 h.2 (each i x _ hi hy G h.1) fun G' e1 e2 => ⟨e1, e2⟩
/-- [e for x in xs], xs a list -/
theorem comp_list {K : PySem.W.Frag} {a D : Addr} {xs ys : List V} {te : TE} {j : Nat} {σ : L2.St} {H : Hp} {Qd : Hp → Prop} (hD : H D = none) (ha : SqL K H a xs) (hl : ys.length = xs.length) (hz : xs.length < sizeLine)
    (each : ∀ (i : Nat) (x y : V), xs[i]? = some x → ys[i]? = some y → ∀ G, Same H G → ∀ Q : VK, (∀ G', Same G G' → Q y G') → te ((σ.set j none).set j (some x)) G Q)
    (done : ∀ G, Same H G → G D = some (.lst ys) → Qd G) :
    ∃ W : Nat → Nat → Hp → Prop, (∃ m, W 0 m (upd H D (.lst []))) ∧ ∀ i m G, W i m G →
      ((Itl K a).stop i G ∧ Qd G) ∨ ((Itl K a).go i G ∧ ∃ Nx : Hp → Prop, (∀ H', Nx H' → ∃ m', m' < m ∧ W (i + 1) m' H') ∧ ∀ x H', (Itl K a).yld i G x H' → gName j x (wipe σ [j]) H' fun σ2 H2 => wipe σ2 [j] = wipe σ [j] ∧ tYes σ2 H2 fun b H3 =>
        if b = true then te σ2 H3 fun y H4 => ∃ acc, H4 D = some (.lst acc) ∧ acc.length < sizeLine ∧ Nx (upd H4 D (.lst (acc ++ [y]))) else Nx H3) := by
  refine lc_list (xs := xs) (fun i G => Same H G ∧ G D = some (.lst (ys.take i))) ⟨same_new hD, by rw [upd_same]; rfl⟩ (fun i G _ h => sql_same h.1 ha) (fun i x G hi h => ?_) fun G h => done G h.1 (by rw [h.2, ← hl, List.take_length])
  have hlt : i < ys.length := by
    rw [hl]
    exact (List.getElem?_eq_some_iff.mp hi).1
  have hy : ys[i]? = some ys[i] := List.getElem?_eq_getElem hlt
  exact lc_step hD (by omega) hy h.1 h.2 (each i x _ hi hy G h.1) fun G' e1 e2 => ⟨e1, e2⟩
/-- [e for x in range(lo, lo + n)] -/
theorem comp_range {D : Addr} {lo : Int} {n : Nat} {ys : List V} {te : TE} {j : Nat} {σ : L2.St} {H : Hp} {Qd : Hp → Prop} (hD : H D = none) (hl : ys.length = n) (hz : n < sizeLine)
    (each : ∀ (i : Nat) (y : V), i < n → ys[i]? = some y → ∀ G, Same H G → ∀ Q : VK, (∀ G', Same G G' → Q y G') → te ((σ.set j none).set j (some (.int (lo + i)))) G Q)
    (done : ∀ G, Same H G → G D = some (.lst ys) → Qd G) :
    ∃ W : Nat → Nat → Hp → Prop, (∃ m, W 0 m (upd H D (.lst []))) ∧ ∀ i m G, W i m G →
      ((Itr lo n).stop i G ∧ Qd G) ∨ ((Itr lo n).go i G ∧ ∃ Nx : Hp → Prop, (∀ H', Nx H' → ∃ m', m' < m ∧ W (i + 1) m' H') ∧ ∀ x H', (Itr lo n).yld i G x H' → gName j x (wipe σ [j]) H' fun σ2 H2 => wipe σ2 [j] = wipe σ [j] ∧ tYes σ2 H2 fun b H3 =>
        if b = true then te σ2 H3 fun y H4 => ∃ acc, H4 D = some (.lst acc) ∧ acc.length < sizeLine ∧ Nx (upd H4 D (.lst (acc ++ [y]))) else Nx H3) := by
  refine lc_range (fun i G => Same H G ∧ G D = some (.lst (ys.take i))) ⟨same_new hD, by rw [upd_same]; rfl⟩ (fun i G hi h => ?_) fun G h => done G h.1 (by rw [h.2, ← hl, List.take_length])
  have hlt : i < ys.length := by
    rw [hl]
    exact hi
  have hy : ys[i]? = some ys[i] := List.getElem?_eq_getElem hlt
  exact lc_step hD (by omega) hy h.1 h.2 (each i _ hi hy G h.1) fun G' e1 e2 => ⟨e1, e2⟩
end RG
end RGf
section RGg
/-! the pen of the laws: a dict of cells, a turn, a rest -/
namespace RG
open PySem PySem.Spec PyProof.Rows L2
def penKv (c : Addr) (t r : Int) : List (Key × V) := [(.inr "cells", .ref c), (.inr "turn", .int t), (.inr "rest", .int r)]
theorem ne_ct : ¬ (("cells" : Str) = "turn") := by decide +kernel
theorem ne_cr : ¬ (("cells" : Str) = "rest") := by decide +kernel
theorem ne_tr : ¬ (("turn" : Str) = "rest") := by decide +kernel
theorem inr_ne {a b : Str} (h : ¬ a = b) : ¬ ((Sum.inr a : Key) = Sum.inr b) := fun e => h (Sum.inr.inj e)
theorem pen_cells (c : Addr) (t r : Int) : valV (penKv c t r) (Sum.inr "cells" : Key) = some (.ref c) := valV_pos rfl
theorem pen_turn (c : Addr) (t r : Int) : valV (penKv c t r) (Sum.inr "turn" : Key) = some (.int t) := by
  unfold penKv
  rw [valV_neg (inr_ne ne_ct), valV_pos rfl]
theorem pen_rest (c : Addr) (t r : Int) : valV (penKv c t r) (Sum.inr "rest" : Key) = some (.int r) := by
  unfold penKv
  rw [valV_neg (inr_ne ne_cr), valV_neg (inr_ne ne_tr), valV_pos rfl]
theorem put_turn (c : Addr) (t r u : Int) : putK (penKv c t r) (Sum.inr "turn" : Key) (.int u) = penKv c u r := by
  have h1 := inr_ne ne_ct
  have h2 := inr_ne (fun e => ne_tr e.symm)
  simp [putK, penKv, h1, h2]
theorem put_rest (c : Addr) (t r u : Int) : putK (penKv c t r) (Sum.inr "rest" : Key) (.int u) = penKv c t u := by
  have h1 := inr_ne ne_cr
  have h2 := inr_ne ne_tr
  simp [putK, penKv, h1, h2]
/-- which pen: its place, its cells' place, the cells -/
structure PenI where
  p : Addr
  c : Addr
  ns : List Int
/-- a pen whose turn is at most B -/
structure Pen (H : Hp) (i : PenI) (B : Nat) : Prop where
  ex : ∃ (t : Nat) (r : Int), H i.p = some (.dK (penKv i.c (t : Int) r)) ∧ H i.c = some (.lst (i.ns.map V.int)) ∧ i.ns.length ≤ 63 ∧ t ≤ B ∧ 0 ≤ r
theorem Pen.o {H : Hp} {i : PenI} {B : Nat} (h : Pen H i B) : PenO H i.p := by
  obtain ⟨t, r, h1, _⟩ := h.ex
  exact ⟨_, h1, rfl⟩
theorem Pen.mono {H : Hp} {i : PenI} {B C : Nat} (h : Pen H i B) (e : B ≤ C) : Pen H i C := by
  obtain ⟨t, r, h1, h2, h3, h4, h5⟩ := h.ex
  exact ⟨t, r, h1, h2, h3, Nat.le_trans h4 e, h5⟩
theorem Pen.same {H G : Hp} {i : PenI} {B : Nat} (h : Pen H i B) (e : Same H G) : Pen G i B := by
  obtain ⟨t, r, h1, h2, h3, h4, h5⟩ := h.ex
  exact ⟨t, r, e _ _ h1, e _ _ h2, h3, h4, h5⟩
theorem Pen.cells {H : Hp} {i : PenI} {B : Nat} (h : Pen H i B) : H i.c = some (.lst (i.ns.map V.int)) := by
  obtain ⟨t, r, h1, h2, _⟩ := h.ex
  exact h2
/-- what isn't there yet is no part of the pen -/
theorem Pen.ne {H : Hp} {i : PenI} {B : Nat} {q : Addr} (h : Pen H i B) (e : H q = none) : q ≠ i.p ∧ q ≠ i.c := by
  obtain ⟨t, r, h1, h2, _⟩ := h.ex
  exact ⟨(ne_of_none h1 e).symm, (ne_of_none h2 e).symm⟩
theorem Pen.neL {H : Hp} {i : PenI} {B : Nat} {q : Addr} {xs : List V} (h : Pen H i B) (e : H q = some (.lst xs)) : q ≠ i.p := by
  obtain ⟨t, r, h1, _⟩ := h.ex
  exact ne_of e h1 (fun z => nomatch z)
theorem Pen.upd {H : Hp} {i : PenI} {B : Nat} {q : Addr} {o : HO} (h : Pen H i B) (n : q ≠ i.p ∧ q ≠ i.c) : Pen (L2.upd H q o) i B := by
  obtain ⟨t, r, h1, h2, h3⟩ := h.ex
  exact ⟨t, r, by rw [upd_ne n.1.symm]; exact h1, by rw [upd_ne n.2.symm]; exact h2, h3⟩
theorem Kb.refl (p : Addr) (H : Hp) : Kb p H H := fun _ _ h _ => h
theorem Kb.trans {p : Addr} {H G J : Hp} (a : Kb p H G) (b : Kb p G J) : Kb p H J := fun x o h n => b x o (a x o h n) n
theorem Kb.of {p : Addr} {H G : Hp} (a : Same H G) : Kb p H G := fun x o h _ => a x o h
theorem Kb.at {p : Addr} {H G : Hp} {o : HO} (a : Kb p H G) : Kb p H (L2.upd G p o) := fun x u h n => by
  rw [upd_ne n]
  exact a x u h n
theorem Kb.free {p q : Addr} {H G : Hp} (a : Kb p H G) (n : q ≠ p) (h : G q = none) : H q = none := by
  cases e : H q with
  | none => rfl
  | some o =>
    rw [a q o e n] at h
    cases h
/-- a thing that was not there may be written -/
theorem Kb.mut {p q : Addr} {H G : Hp} {o : HO} (a : Kb p H G) (h : H q = none) : Kb p H (L2.upd G q o) := fun x u e n => by
  rw [upd_ne (ne_of_none e h)]
  exact a x u e n
theorem Kb.new {p q : Addr} {H : Hp} {o : HO} (h : H q = none) : Kb p H (L2.upd H q o) := (Kb.refl p H).mut h
section
variable {G : Hp} {p c : Addr} {t r u : Int}
theorem gR (h : G p = some (.dK (penKv c t r))) : DGet G p (.str "rest") (some (.int r)) := pen_rest c t r ▸ DGet.k (k := Sum.inr "rest") h
theorem gT (h : G p = some (.dK (penKv c t r))) : DGet G p (.str "turn") (some (.int t)) := pen_turn c t r ▸ DGet.k (k := Sum.inr "turn") h
theorem gC (h : G p = some (.dK (penKv c t r))) : DGet G p (.str "cells") (some (.ref c)) := pen_cells c t r ▸ DGet.k (k := Sum.inr "cells") h
theorem pR (h : G p = some (.dK (penKv c t r))) : DPut G p (.str "rest") (.int u) (L2.upd G p (.dK (penKv c t u))) :=
  put_rest c t r u ▸ DPut.k (k := Sum.inr "rest") h (Nat.lt_of_le_of_lt (Nat.le_refl 3) (by decide))
theorem pT (h : G p = some (.dK (penKv c t r))) : DPut G p (.str "turn") (.int u) (L2.upd G p (.dK (penKv c u r))) :=
  put_turn c t r u ▸ DPut.k (k := Sum.inr "turn") h (Nat.lt_of_le_of_lt (Nat.le_refl 3) (by decide))
end
theorem rest_at {i m : Int} (h : 0 < m) : 0 ≤ i.fmod m ∧ i.fmod m < m := by
  rw [Int.fmod_eq_emod_of_nonneg _ (Int.le_of_lt h)]
  exact ⟨Int.emod_nonneg _ (by omega), Int.emod_lt_of_pos _ h⟩
theorem part_at {i m : Int} (h : 0 < m) (hi : 0 ≤ i) : 0 ≤ i.fdiv m := by
  rw [Int.fdiv_eq_ediv_of_nonneg _ (Int.le_of_lt h)]
  exact Int.ediv_nonneg hi (by omega)
/-- an item of a list by a number within it -/
theorem atI_in {α : Type} {xs : List α} {i : Int} (h0 : 0 ≤ i) (h1 : i < xs.length) : ∃ v, atI xs i = some v ∧ xs[i.toNat]? = some v := by
  have h2 : i.toNat < xs.length := by omega
  have h3 : xs[i.toNat]? = some xs[i.toNat] := List.getElem?_eq_getElem h2
  have h4 := atI_nat h3
  rw [Int.toNat_of_nonneg h0] at h4
  exact ⟨_, h4, h3⟩
/-- a draw: one turn more at the most -/
def spDraw : Sp := fun vs H Q _ => ∃ (i : PenI) (m : Int) (B : Nat), vs = [.ref i.p, .int m] ∧ Pen H i B ∧ B < 2 ^ 60 ∧ 0 < m ∧ m < 1073741824 ∧
  ∀ (d : Int) (H' : Hp), 0 ≤ d → d < m → Kb i.p H H' → Pen H' i (B + 1) → Q (.int d) H'
end RG
namespace RG
open PySem PySem.Spec PyProof.Rows L2
/-- the built-in names that the text doesn't bind -/
structure Bt (mg : Str → Option Value) : Prop where
  isinstance : mg "isinstance" = none
  int : mg "int" = none
  bool : mg "bool" = none
  str : mg "str" = none
  tuple : mg "tuple" = none
  list : mg "list" = none
  dict : mg "dict" = none
  set : mg "set" = none
  len : mg "len" = none
  all : mg "all" = none
  any : mg "any" = none
  sum : mg "sum" = none
  abs : mg "abs" = none
  range : mg "range" = none
  sorted : mg "sorted" = none
  min : mg "min" = none
  max : mg "max" = none
  repr : mg "repr" = none
  zip : mg "zip" = none
  enumerate : mg "enumerate" = none
  reversed : mg "reversed" = none
/-- a new pen of a script -/
def spPen (K : PySem.W.Frag) : Sp := fun vs H Q _ => ∃ (a : Addr) (ns : List Int), vs = [.ref a] ∧ SqL K H a (ns.map V.int) ∧ ns.length ≤ 63 ∧ ∀ (i : PenI) (H' : Hp), Same H H' → Pen H' i 0 → Q (.ref i.p) H'
theorem penMade {c : Addr} {t r : Int} : mergeK [] (penKv c t r) = penKv c t r := by
  have h1 := inr_ne ne_ct
  have h2 := inr_ne ne_cr
  have h3 := inr_ne ne_tr
  simp [mergeK, putK, penKv, h1, h2, h3]
theorem cut_front (xs : List V) (k : Nat) : cutV xs none (some (k : Int)) = xs.take k := by
  unfold cutV
  rw [HT.sIx_nat, HT.sIx_none, List.drop_zero, Nat.sub_zero]
  rcases Nat.le_total k xs.length with h | h
  · rw [Nat.min_eq_left h]
  · rw [Nat.min_eq_right h, List.take_length, List.take_of_length_le h]
theorem cut_back (xs : List V) (k : Nat) : cutV xs (some (k : Int)) none = xs.drop k := by
  unfold cutV
  rw [HT.sIx_nat, HT.sIx_none]
  rcases Nat.le_total k xs.length with h | h
  · rw [Nat.min_eq_left h, List.take_of_length_le (by rw [List.length_drop]; exact Nat.le_refl _)]
  · rw [Nat.min_eq_right h, Nat.sub_self, List.take_zero, List.drop_eq_nil_of_le h]
theorem erase_perm {α : Type} : ∀ {xs : List α} {k : Nat} {y : α}, xs[k]? = some y → (y :: xs.eraseIdx k).Perm xs
  | [], _, _, h => by simp at h
  | x :: xs, 0, y, h => by
    simp at h
    subst h
    exact List.Perm.refl _
  | x :: xs, k + 1, y, h => by
    have h2 := erase_perm (xs := xs) (k := k) (y := y) (by simpa using h)
    exact (List.Perm.swap x y _).trans (h2.cons x)
theorem erase_len {α : Type} {xs : List α} {k : Nat} {y : α} (h : xs[k]? = some y) : (xs.eraseIdx k).length + 1 = xs.length := (erase_perm h).length_eq
theorem seq_in {d : Int} {n : Nat} (h0 : 0 ≤ d) (h1 : d < n) : seqIndex? d n = some d.toNat := by
  have e : ixN n d = some d.toNat := by
    unfold ixN
    rw [if_pos h0, if_pos h1]
  exact (ixN_seq e).1
/-- some[draw]: some item of a list or tuple -/
def spPick (K : PySem.W.Frag) : Sp := fun vs H Q _ => ∃ (i : PenI) (B : Nat) (a : Addr) (xs : List V), vs = [.ref i.p, .ref a] ∧ Pen H i B ∧ B < 2 ^ 60 ∧ (SqL K H a xs ∨ SqT K H a xs) ∧ 0 < xs.length ∧ xs.length < 1000000 ∧
  ∀ (x : V) (H' : Hp), x ∈ xs → Kb i.p H H' → Pen H' i (B + 1) → Q x H'
/-- the items in some order, a new list -/
def spShuf (K : PySem.W.Frag) : Sp := fun vs H Q _ => ∃ (i : PenI) (B : Nat) (a : Addr) (xs : List V), vs = [.ref i.p, .ref a] ∧ Pen H i B ∧ B < 2 ^ 50 ∧ (SqL K H a xs ∨ SqT K H a xs) ∧ xs.length < 1000000 ∧
  ∀ (l : Addr) (ys : List V) (H' : Hp), ys.Perm xs → H l = none → Kb i.p H H' → Pen H' i (B + xs.length) → H' l = some (.lst ys) → Q (.ref l) H'
theorem swapped_perm {α : Type} {xs : List α} {i j : Nat} {a b : α} (hi : xs[i]? = some a) (hj : xs[j]? = some b) : ((xs.set i b).set j a).Perm xs := by
  obtain ⟨h1, e1⟩ := List.getElem?_eq_some_iff.mp hi
  obtain ⟨h2, e2⟩ := List.getElem?_eq_some_iff.mp hj
  have h := (Array.swap_perm (xs := xs.toArray) (i := i) (j := j) (by simpa using h1) (by simpa using h2)).toList
  rw [Array.toList_swap] at h
  simpa [e1, e2] using h
theorem back_ints : ∀ vs : List V, (∀ v ∈ vs, ∃ k, v = V.int k) → ∃ ks : List Int, vs = ks.map V.int
  | [], _ => ⟨[], rfl⟩
  | v :: vs, h => by
    obtain ⟨k, rfl⟩ := h v List.mem_cons_self
    obtain ⟨ks, rfl⟩ := back_ints vs fun v hv => h v (List.mem_cons_of_mem _ hv)
    exact ⟨k :: ks, rfl⟩
theorem perm_ints {ns : List Int} {vs : List V} (h : vs.Perm (ns.map V.int)) : ∃ ks : List Int, vs = ks.map V.int ∧ ks.Perm ns := by
  obtain ⟨ks, rfl⟩ := back_ints vs fun v hv => by
    obtain ⟨k, _, e⟩ := List.mem_map.mp (h.mem_iff.mp hv)
    exact ⟨k, e.symm⟩
  refine ⟨ks, rfl, ?_⟩
  have h2 := h.map fun v => match v with | V.int k => k | _ => 0
  simpa [List.map_map, Function.comp_def] using h2
def places (n : Nat) : List Int := (List.range n).map fun k => ((k : Nat) : Int)
theorem places_len (n : Nat) : (places n).length = n := by
  unfold places
  rw [List.length_map, List.length_range]
theorem rg_places (n : Nat) : rgV 0 (n : Int) = (places n).map V.int := by
  unfold rgV places
  rw [List.map_map, Int.sub_zero, Int.toNat_natCast]
  refine List.map_congr_left fun k _ => ?_
  show V.int (0 + ((k : Nat) : Int)) = V.int ((k : Nat) : Int)
  rw [Int.zero_add]
/-- an arrangement of so many places, a tuple -/
def spArr : Sp := fun vs H Q _ => ∃ (i : PenI) (B n : Nat), vs = [.ref i.p, .int (n : Int)] ∧ Pen H i B ∧ B < 2 ^ 40 ∧ 2 ≤ n ∧ n < 1000 ∧
  ∀ (t : Addr) (ks : List Int) (H' : Hp), ks.Perm (places n) → Kb i.p H H' → Pen H' i (B + n + 3) → H' t = some (.tup (ks.map V.int)) → Q (.ref t) H'
end RG
end RGg
section RGh
/-! t[::-1] of a tuple; slices and sums of tuples as what they hold -/
namespace RG
open PySem PySem.Spec PyProof.Rows L2
section
variable {prog : Program} {w : World} {A : Around} {E : Value → Shared → Prop} {s : Shared}
theorem rev_bounds (n : Nat) : Builtin.Slice.sliceAdjust none none (-1) (n : Int) = ((n : Int) - 1, -1) := rfl
theorem rev_many (n : Nat) : Builtin.Slice.slicePlaces ((n : Int) - 1) (-1) (-1) = n := by
  unfold Builtin.Slice.slicePlaces
  rw [if_neg (by decide)]
  by_cases h : (n : Int) - 1 > -1
  · rw [if_pos h]
    have e : ((n : Int) - 1 - -1 - 1) / (- -1) + 1 = (n : Int) := by
      have e2 : (- -1 : Int) = 1 := rfl
      rw [e2, Int.ediv_one]
      omega
    rw [e, Int.toNat_natCast]
  · rw [if_neg h]
    omega
theorem fm_some {α β : Type} {f : α → Option β} {g : α → β} : ∀ {l : List α}, (∀ k ∈ l, f k = some (g k)) → l.filterMap f = l.map g
  | [], _ => rfl
  | a :: l, h => by
    rw [List.filterMap_cons, h a List.mem_cons_self, List.map_cons, fm_some fun k hk => h k (List.mem_cons_of_mem _ hk)]
theorem rev_items (xs : List Value) : ((List.range xs.length).filterMap fun (k : Nat) => xs.toArray[(((xs.length : Nat) : Int) - 1 + (k : Int) * -1).toNat]?) = xs.reverse := by
  refine List.ext_getElem? fun i => ?_
  have e : ((List.range xs.length).filterMap fun (k : Nat) => xs.toArray[(((xs.length : Nat) : Int) - 1 + (k : Int) * -1).toNat]?) = (List.range xs.length).map fun k => xs.getD (xs.length - 1 - k) .none := by
    refine fm_some fun k hk => ?_
    have hk2 := List.mem_range.mp hk
    have e1 : (((xs.length : Nat) : Int) - 1 + (k : Int) * -1).toNat = xs.length - 1 - k := by omega
    have h2 : xs.length - 1 - k < xs.length := by omega
    rw [e1, List.getElem?_toArray, List.getElem?_eq_getElem h2]
    show some _ = some _
    rw [List.getD_eq_getElem?_getD, List.getElem?_eq_getElem h2]
    rfl
  rw [e, List.getElem?_map]
  by_cases hi : i < xs.length
  · rw [List.getElem?_range hi, List.getElem?_reverse hi]
    have h2 : xs.length - 1 - i < xs.length := by omega
    show some (xs.getD (xs.length - 1 - i) .none) = _
    rw [List.getD_eq_getElem?_getD, List.getElem?_eq_getElem h2]
    rfl
  · rw [List.getElem?_eq_none (by rw [List.length_range]; omega), List.getElem?_eq_none (by rw [List.length_reverse]; omega)]
    rfl
theorem applied_rev {sl : Addr} {vs : Value} {xs : List Value} {R : Int × Int × Nat → Shared → Prop} (hs : s.heap.IsSliceOf sl .none .none vs) (ps : IsPart vs (some (-1))) (r : R ((xs.length : Int) - 1, -1, xs.length) s) :
    wpAny (model prog w) A (Builtin.Slice.sliceApplied (.ref sl) (pure ((xs.toArray.size : Nat) : Int))) R E s := by
  obtain ⟨so, so1, so2, so3⟩ := id hs
  unfold Builtin.Slice.sliceApplied Builtin.Slice.sliceFields
  refine wpAny_bind (wpAny_bind (wpAny_field so1 so3 (x := .none) rfl ?_))
  refine wpAny_bind (wpAny_field so1 so3 (x := .none) rfl ?_)
  refine wpAny_bind (wpAny_field so1 so3 (x := vs) rfl (wpAny_pure ?_))
  refine wpAny_bind (HT.slicePart_ ps ?_)
  show wpAny _ _ (if ((-1 : Int) == 0) = true then _ else _) _ _ s
  rw [if_neg (by decide)]
  refine wpAny_bind (HT.slicePart_ .none (wpAny_bind (HT.slicePart_ .none (wpAny_bind (wpAny_pure ?_)))))
  show wpAny _ _ (match Builtin.Slice.sliceAdjust none none (-1) ((xs.toArray.size : Nat) : Int) with | (lo, hi) => pure (lo, (-1 : Int), Builtin.Slice.slicePlaces lo hi (-1))) _ _ s
  rw [rev_bounds]
  show wpAny _ _ (pure (((xs.toArray.size : Nat) : Int) - 1, (-1 : Int), Builtin.Slice.slicePlaces (((xs.toArray.size : Nat) : Int) - 1) (-1) (-1))) _ _ s
  rw [List.size_toArray, rev_many]
  exact wpAny_pure r
/-- t[::-1] at the library's level -/
theorem get_rev {t sl : Addr} {xs : List Value} {vs : Value} {Q : Value → Shared → Prop} (ht : IsTup s.heap t xs.toArray) (hs : s.heap.IsSliceOf sl .none .none vs) (ps : IsPart vs (some (-1))) (hz : xs.length ≤ sizeLine)
    (k : Q (.ref s.heap.objs.size) { s with heap := s.heap.push { cls := .type "tuple", data := .seq xs.reverse.toArray } }) : wpAny (model prog w) A (getItem (.ref t) (.ref sl)) Q E s := by
  have fits : sizeOk (.seq xs.reverse.toArray) := by
    show xs.reverse.toArray.size ≤ sizeLine
    rw [List.size_toArray, List.length_reverse]
    exact hz
  obtain ⟨so, so1, so2, so3⟩ := id hs
  have isSl : s.TypeIs (.ref sl) "slice" := ⟨so, so1, so2⟩
  unfold getItem
  try with_reducible refine wpAny_holding ?_
  first
    | apply wpAny_bind; refine wpAny_pure ?_
    | skip
  apply wpAny_bind
  refine wpAny_sequenceKey ht.typeIs (by decide) ?_
  apply wpAny_bind
  refine wpAny_callSpecial?_slot (name := Str.ofString "__getitem__") ht.typeIs PyProof.Rows.slot_tuple_getitem ?_
  refine wpAny_call_entry PyProof.Rows.slot_tuple_getitem ht.typeIs entry_tuple_getitem ?_ (args_tuple_getitem _ _)
  show wpAny _ _ (Builtin.Tuple.tupleItemsOf (.ref t) >>= _) _ _ s
  apply wpAny_bind
  refine tupleItemsOf_ ht ?_
  apply wpAny_bind
  refine wpAny_typeOf isSl ?_
  rw [if_pos (by decide)]
  refine wpAny_bind (applied_rev hs ps ?_)
  have no : ¬ (((xs.length : Int) - 1 == 0 && (-1 : Int) == 1 && xs.length == xs.toArray.size) = true) := by
    intro q
    rw [Bool.and_eq_true, Bool.and_eq_true] at q
    exact absurd (eq_of_beq q.1.2) (by decide)
  show wpAny _ _ (if ((xs.length : Int) - 1 == 0 && (-1 : Int) == 1 && xs.length == xs.toArray.size) = true then _ else _) _ _ s
  rw [if_neg no, rev_items]
  first
    | exact wpAny_bind (m := Builtin.Tuple.tupleExact _) (wpAny_newObj_type (wpAny_pure ⟨_, rfl, wpAny_pure k⟩) fits)
    | exact wpAny_bind (m := Builtin.Tuple.tupleExact _) (wpAny_newObj_type (wpAny_bind (wpAny_pure (wpAny_pure ⟨_, rfl, wpAny_pure k⟩))) fits)
    | exact wpAny_bind (wpAny_bind (m := Builtin.Tuple.tupleExact _) (wpAny_newObj_type (wpAny_pure (wpAny_pure ⟨_, rfl, wpAny_pure k⟩)) fits))
    | exact wpAny_bind (wpAny_bind (m := Builtin.Tuple.tupleExact _) (wpAny_newObj_type (wpAny_pure ⟨_, rfl, wpAny_pure k⟩) fits))
end
section
variable {X : Cx}
def tRevT (K : PySem.W.Frag) (te : TE) : TE := fun σ H Q => te σ H fun x H1 => ∃ a xs, x = .ref a ∧ SqT K H1 a xs ∧ ∀ p, H1 p = none → Q (.ref p) (upd H1 p (.tup xs.reverse))
theorem pe_revT {e : Expr} {te : TE} {k : Nat} {p1 p2 p3 pos : Pos} (he : PE X e te) : PE X (.Subscript e (.Slice none none (some (.UnaryOp .USub (.Constant (.int 1) k p1) p2)) p3) pos) (tRevT X.K te) := by
  refine ⟨fun pins s σ H Q I h => Subscript_ (thn (he.run pins s σ H _ I h) ?_)⟩
  rintro v s1 ⟨x, H1, I1, r1, a, xs, rfl, hx, q⟩
  cases r1
  have step : PO X (some (.UnaryOp .USub (.Constant (.int 1) k p1) p2)) (tPart (tUn (rU fun i => .int (-i)) (tC (.int 1)))) := po_some (pe_un un_neg pe_int)
  refine wpAny_Slice (thn (po_none.run pins s1 σ H1 (fun o G => o = none ∧ G = H1) I1 ⟨rfl, rfl⟩) ?_)
  rintro vl s2 ⟨l, G2, I2, pl, el, e2⟩
  subst el e2
  refine thn (po_none.run pins s2 σ G2 (fun o G => o = none ∧ G = G2) I2 ⟨rfl, rfl⟩) ?_
  rintro vu s3 ⟨u, G3, I3, pu, eu, e3⟩
  subst eu e3
  refine thn (step.run pins s3 σ G3 (fun o G => o = some (-1) ∧ G = G3) I3 ⟨1, rfl, -1, rfl, rfl, rfl⟩) ?_
  rintro vs s4 ⟨o, G4, I4, ps, eo, e4⟩
  subst eo e4
  cases pl
  cases pu
  have I5 : Inv X pins σ G4 { s4 with heap := s4.heap.push { cls := .type "slice", data := .fields #[.none, .none, vs] } } := I4.kept (t' := s4.toks) fun b ob z => Heap.get?_push_of_some _ z
  obtain ⟨its, r, ht, hz⟩ := I5.tuple hx
  have hlen := r.length
  show wpAny (model X.prog X.w) X.A (subscriptTail e (.Slice none none (some (.UnaryOp .USub (.Constant (.int 1) k p1) p2)) p3) (.ref a) (.ref s4.heap.objs.size)) (EP X pins σ Q) X.xe { s4 with heap := s4.heap.push { cls := .type "slice", data := .fields #[.none, .none, vs] } }
  refine tail_any (ops := [.ref a, .ref s4.heap.objs.size]) ht.typeIs (PyProof.Rows.slot_tuple_getitem.lookup) ?_ (by with_unfolding_all rfl)
  refine get_rev ht (Heap.IsSliceOf.new _ .none .none vs) ps (by omega) ?_
  refine ⟨.ref _, _, I5.laid (t' := s4.toks) (o := .tup xs.reverse) (fun b ob z => Heap.get?_push_of_some _ z) (Nat.le_refl _) ?_, rfl, q _ (I5.hok.fresh (Nat.le_refl _))⟩
  exact ⟨by rw [List.length_reverse]; exact hz, _, r.reverse, ⟨_, Heap.get?_push_size _ rfl, rfl, _, rfl⟩⟩
/-- t[lo:hi] of a tuple: some tuple that holds the cut; all that stood stands -/
def rSlS (K : PySem.W.Frag) : V → Option Int → Option Int → Hp → VK → Prop := fun x lo hi H Q => ∃ a xs, x = .ref a ∧ SqT K H a xs ∧ ∀ p H', Same H H' → SqT K H' p (cutV xs lo hi) → Q (.ref p) H'
theorem sl_tupS : SlR X (rSlS X.K) := by
  intro pins s σ H x v vl vu lo hi sl Q I rx hs pl pu h
  obtain ⟨a, xs, rfl, hx, q⟩ := h
  refine sl_tupA pins s σ H _ v vl vu lo hi sl Q I rx hs pl pu ⟨a, xs, rfl, hx, fun e => q a H (Same.refl H) ?_, fun _ p hp => q p _ (same_new hp) (SqT.of upd_same)⟩
  have e2 : cutV xs lo hi = xs := by
    unfold cutV
    rw [e.1, e.2, List.drop_zero, Nat.sub_zero, List.take_length]
  rw [e2]
  exact hx
/-- t + u of tuples: some tuple that holds both -/
def rCatS (K : PySem.W.Frag) : R2 := fun x y H Q => ∃ a b xs ys, x = .ref a ∧ y = .ref b ∧ SqT K H a xs ∧ SqT K H b ys ∧ xs.length + ys.length ≤ sizeLine ∧ ∀ p H', Same H H' → SqT K H' p (xs ++ ys) → Q (.ref p) H'
theorem op_catS : OpR X (binaryOp .Add) (rCatS X.K) := by
  intro pins s σ H x y v u Q I rx ry h
  obtain ⟨a, b, xs, ys, rfl, rfl, ha, hb, hz, q⟩ := h
  refine op_catA pins s σ H _ _ v u Q I rx ry ⟨a, b, xs, ys, rfl, rfl, ha, hb, hz, fun e => q b H (Same.refl H) ?_, fun _ e => q a H (Same.refl H) ?_, fun _ _ p hp => q p _ (same_new hp) (SqT.of upd_same)⟩
  · rw [e, List.nil_append]
    exact hb
  · rw [e, List.append_nil]
    exact ha
end
end RG
end RGh
section RGi
/-! how long data's text is; lists of ints; comprehensions with a test -/
namespace RG
open PySem PySem.Spec PyProof.Rows L2
/-- signs of all texts, with their commas -/
def pl (ds : List PyData) : Nat := (ds.map fun d => d.shown.length + 2).sum
theorem pl_piled : ∀ ds : List PyData, piled (PyData.shownAll ds) = pl ds
  | [] => rfl
  | d :: ds => by
    simp only [PyData.shownAll, piled_cons, pl_piled ds, pl, List.map_cons, List.sum_cons]
theorem pl_nil : pl [] = 0 := rfl
theorem pl_cons (d : PyData) (ds : List PyData) : pl (d :: ds) = d.shown.length + 2 + pl ds := by simp [pl]
theorem pl_append (ds es : List PyData) : pl (ds ++ es) = pl ds + pl es := by simp [pl]
theorem join_le (ts : List Str) : (Str.join ", " ts).length ≤ piled ts := by
  cases ts with
  | nil => exact Nat.le_refl 0
  | cons t ts =>
    have := join_length_add (t :: ts) (by simp)
    omega
theorem shown_tuple (ds : List PyData) : (PyData.tuple ds).shown.length ≤ 3 + pl ds := by
  simp only [PyData.shown, tupleText, strLen_append]
  have h := join_le (PyData.shownAll ds)
  rw [pl_piled] at h
  have h1 : (("(" : Str)).length = 1 := by decide +kernel
  have h2 : ((if (PyData.shownAll ds).length == 1 then ",)" else ")" : String) : Str).length ≤ 2 := by
    split <;> decide +kernel
  omega
theorem shown_list (ds : List PyData) : (PyData.list ds).shown.length ≤ 3 + pl ds := by
  simp only [PyData.shown]
  have h := (textFrom_len (PyData.shownAll ds) 0 "[").1
  unfold listText
  rw [strLen_append]
  have h0 := pl_piled ds
  have h1 : (("[" : Str)).length = 1 := by decide +kernel
  have h2 : (("]" : Str)).length = 1 := by decide +kernel
  cases hts : PyData.shownAll ds with
  | nil =>
    show ("[" : Str).length + _ ≤ _
    omega
  | cons t ts =>
    have e : textFrom 0 "[" (t :: ts) = textFrom 1 ("[" ++ t) ts := rfl
    rw [hts, piled_cons] at h0
    rw [e, textFrom_length_pos ts 1 _ (by decide), strLen_append]
    omega
/-- the texts of data that fit -/
structure Fit (W D : Nat) (d : PyData) : Prop where
  sh : d.showable = true
  le : d.shown.length ≤ W
  dp : d.depth ≤ D
structure Fits (W D : Nat) (ds : List PyData) : Prop where
  sh : PyData.showableAll ds = true
  le : pl ds ≤ W
  dp : PyData.depthAll ds ≤ D
theorem Fit.mono {W D W' D' : Nat} {d : PyData} (h : Fit W D d) (e : W ≤ W') (f : D ≤ D') : Fit W' D' d := ⟨h.sh, Nat.le_trans h.le e, Nat.le_trans h.dp f⟩
theorem Fits.mono {W D W' D' : Nat} {d : List PyData} (h : Fits W D d) (e : W ≤ W') (f : D ≤ D') : Fits W' D' d := ⟨h.sh, Nat.le_trans h.le e, Nat.le_trans h.dp f⟩
theorem Fits.nil {D : Nat} : Fits 0 D [] := ⟨rfl, Nat.le_refl 0, Nat.zero_le _⟩
theorem Fits.cons {W V D : Nat} {d : PyData} {ds : List PyData} (h : Fit W D d) (t : Fits V D ds) : Fits (W + 2 + V) D (d :: ds) :=
  ⟨by simp only [PyData.showableAll, h.sh, t.sh, Bool.and_self], by rw [pl_cons]; have := h.le; have := t.le; omega, by simp only [PyData.depthAll]; exact Nat.max_le.mpr ⟨h.dp, t.dp⟩⟩
theorem Fits.head {W D : Nat} {d : PyData} {ds : List PyData} (h : Fits W D (d :: ds)) : Fit W D d := by
  have h1 := h.sh
  have h2 := h.le
  have h3 := h.dp
  simp only [PyData.showableAll, Bool.and_eq_true] at h1
  rw [pl_cons] at h2
  simp only [PyData.depthAll] at h3
  exact ⟨h1.1, by omega, by omega⟩
theorem Fits.tail {W D : Nat} {d : PyData} {ds : List PyData} (h : Fits W D (d :: ds)) : Fits W D ds := by
  have h1 := h.sh
  have h2 := h.le
  have h3 := h.dp
  simp only [PyData.showableAll, Bool.and_eq_true] at h1
  rw [pl_cons] at h2
  simp only [PyData.depthAll] at h3
  exact ⟨h1.2, by omega, by omega⟩
theorem Fits.mem {W D : Nat} : ∀ {ds : List PyData} {d : PyData}, Fits W D ds → d ∈ ds → Fit W D d
  | _ :: _, _, h, m => by
    rcases List.mem_cons.mp m with rfl | m
    · exact h.head
    · exact Fits.mem h.tail m
theorem Fits.append {W V D : Nat} : ∀ {ds es : List PyData}, Fits W D ds → Fits V D es → Fits (W + V) D (ds ++ es)
  | [], es, _, h2 => h2.mono (Nat.le_add_left ..) (Nat.le_refl _)
  | d :: ds, es, h1, h2 => by
    have h3 := Fits.append h1.tail h2
    have h4 := h1.head
    have h5 := h1.le
    refine ⟨?_, ?_, ?_⟩
    · rw [List.cons_append]
      simp only [PyData.showableAll, h4.sh, h3.sh, Bool.and_self]
    · rw [pl_append]
      have := h2.le
      omega
    · rw [List.cons_append]
      simp only [PyData.depthAll]
      exact Nat.max_le.mpr ⟨h4.dp, h3.dp⟩
theorem Fits.take {W D : Nat} : ∀ {ds : List PyData} (k : Nat), Fits W D ds → Fits W D (ds.take k)
  | [], k, h => by rw [List.take_nil]; exact h
  | d :: ds, 0, h => (Fits.nil (D := D)).mono (Nat.zero_le _) (Nat.le_refl _)
  | d :: ds, k + 1, h => by
    have h1 := Fits.take k h.tail
    have h2 := h.head
    have h3 := h.le
    rw [pl_cons] at h3
    have h4 : pl (ds.take k) ≤ pl ds := by
      have e := congrArg pl (List.take_append_drop k ds)
      rw [pl_append] at e
      omega
    refine ⟨?_, ?_, ?_⟩
    · rw [List.take_succ_cons]
      simp only [PyData.showableAll, h2.sh, h1.sh, Bool.and_self]
    · rw [List.take_succ_cons, pl_cons]
      omega
    · rw [List.take_succ_cons]
      simp only [PyData.depthAll]
      exact Nat.max_le.mpr ⟨h2.dp, h1.dp⟩
theorem Fits.drop {W D : Nat} : ∀ {ds : List PyData} (k : Nat), Fits W D ds → Fits W D (ds.drop k)
  | [], k, h => by rw [List.drop_nil]; exact h
  | d :: ds, 0, h => h
  | d :: ds, k + 1, h => Fits.drop k h.tail
theorem Fits.tuple {W D : Nat} {ds : List PyData} (h : Fits W D ds) : Fit (3 + W) (D + 1) (.tuple ds) :=
  ⟨by simp only [PyData.showable, h.sh], Nat.le_trans (shown_tuple ds) (Nat.add_le_add_left h.le 3), by simp only [PyData.depth]; exact Nat.succ_le_succ h.dp⟩
theorem Fits.list {W D : Nat} {ds : List PyData} (h : Fits W D ds) : Fit (3 + W) (D + 1) (.list ds) :=
  ⟨by simp only [PyData.showable, h.sh], Nat.le_trans (shown_list ds) (Nat.add_le_add_left h.le 3), by simp only [PyData.depth]; exact Nat.succ_le_succ h.dp⟩
theorem fit_none : Fit 4 0 .none := ⟨rfl, by simp only [PyData.shown]; decide +kernel, Nat.le_refl 0⟩
theorem fit_bool (b : Bool) : Fit 5 0 (.bool b) := ⟨rfl, by simp only [PyData.shown]; cases b <;> decide +kernel, Nat.le_refl 0⟩
theorem fit_int {a : Int} {k : Nat} (h0 : 0 < k) (h1 : k ≤ 500) (h : a.natAbs < 10 ^ k) : Fit (k + 1) 0 (.int a) := by
  refine ⟨?_, ?_, Nat.le_refl 0⟩
  · simp only [PyData.showable, decide_eq_true_eq]
    by_cases h2 : a.natAbs = 0
    · rw [h2]
      decide
    · rw [Nat.log2_lt h2]
      refine Nat.lt_of_lt_of_le h (Nat.le_trans (Nat.pow_le_pow_right (by decide) h1) ?_)
      decide +kernel
  · simp only [PyData.shown]
    rw [PySem.ofString_length]
    exact int_text_length_le10 h0 h
theorem DdAll.append {K : PySem.W.Frag} {H : Hp} : ∀ {vs ws : List V} {ds es : List PyData}, DdAll K H vs ds → DdAll K H ws es → DdAll K H (vs ++ ws) (ds ++ es)
  | _, _, _, _, .nil, h => h
  | _, _, _, _, .cons h t, u => .cons h (DdAll.append t u)
theorem DdAll.take {K : PySem.W.Frag} {H : Hp} : ∀ {vs : List V} {ds : List PyData} (k : Nat), DdAll K H vs ds → DdAll K H (vs.take k) (ds.take k)
  | _, _, 0, _ => by
    rw [List.take_zero, List.take_zero]
    exact .nil
  | _, _, k + 1, .nil => by
    rw [List.take_nil, List.take_nil]
    exact .nil
  | _, _, k + 1, .cons h t => by
    rw [List.take_succ_cons, List.take_succ_cons]
    exact .cons h (DdAll.take k t)
theorem DdAll.drop {K : PySem.W.Frag} {H : Hp} : ∀ {vs : List V} {ds : List PyData} (k : Nat), DdAll K H vs ds → DdAll K H (vs.drop k) (ds.drop k)
  | _, _, 0, h => h
  | _, _, k + 1, .nil => by
    rw [List.drop_nil, List.drop_nil]
    exact .nil
  | _, _, k + 1, .cons h t => DdAll.drop k t
theorem dd_cut {K : PySem.W.Frag} {H : Hp} {xs : List V} {ds : List PyData} {W D : Nat} (h : DdAll K H xs ds) (f : Fits W D ds) (lo hi : Option Int) : ∃ es, DdAll K H (cutV xs lo hi) es ∧ Fits W D es ∧ es.length ≤ ds.length := by
  refine ⟨(ds.drop (HT.sIx xs.length 0 lo)).take (HT.sIx xs.length xs.length hi - HT.sIx xs.length 0 lo), (h.drop _).take _, (f.drop _).take _, ?_⟩
  rw [List.length_take, List.length_drop]
  omega
theorem DdAll.mem {K : PySem.W.Frag} {H : Hp} : ∀ {vs : List V} {ds : List PyData} {v : V}, DdAll K H vs ds → v ∈ vs → ∃ d ∈ ds, Dd K H v d
  | _, _, _, .cons h t, m => by
    rcases List.mem_cons.mp m with rfl | m
    · exact ⟨_, List.mem_cons_self, h⟩
    · obtain ⟨d, h1, h2⟩ := DdAll.mem t m
      exact ⟨d, List.mem_cons_of_mem _ h1, h2⟩
theorem DdAll.ints {K : PySem.W.Frag} {H : Hp} : ∀ ns : List Int, DdAll K H (ns.map V.int) (ns.map PyData.int)
  | [] => .nil
  | n :: ns => .cons (.int n) (DdAll.ints ns)
/-! ### lists of ints -/
theorem eqv_ints : ∀ ns ms : List Int, PyData.eqvAll (ns.map PyData.int) (ms.map PyData.int) = decide (ns = ms)
  | [], [] => rfl
  | [], m :: ms => by simp [PyData.eqvAll]
  | n :: ns, [] => by simp [PyData.eqvAll]
  | n :: ns, m :: ms => by
    simp only [List.map_cons, PyData.eqvAll, PyData.eqv, eqv_ints ns ms]
    by_cases h1 : n = m
    · by_cases h2 : ns = ms <;> simp [h1, h2]
    · simp [h1]
theorem lay_ints : ∀ ns : List Int, PyData.canLayAll0 (ns.map PyData.int) = true
  | [] => rfl
  | n :: ns => by simp only [List.map_cons, PyData.canLayAll0, PyData.canLay0, lay_ints ns, Bool.and_self]
theorem flat_ints : ∀ ns : List Int, PyData.depthAll (ns.map PyData.int) = 0
  | [] => rfl
  | n :: ns => by simp only [List.map_cons, PyData.depthAll, PyData.depth, flat_ints ns]; rfl
theorem shaped_ints (ns : List Int) : SeqAt.shaped (.list (ns.map PyData.int)) = true := by
  unfold SeqAt.shaped
  simp only [PyData.canLay0, lay_ints, PyData.depth, flat_ints, Bool.true_and]
  decide
theorem shaped_intsT (ns : List Int) : SeqAt.shaped (.tuple (ns.map PyData.int)) = true := by
  unfold SeqAt.shaped
  simp only [PyData.canLay0, lay_ints, PyData.depth, flat_ints, Bool.true_and]
  decide
theorem dp_ints {K : PySem.W.Frag} {H : Hp} : ∀ ns : List Int, DpAll K H (ns.map V.int) (ns.map PyData.int)
  | [] => .nil
  | n :: ns => .cons (.int n) (dp_ints ns)
/-! ### a comprehension over a tuple with a test -/
/-- what is kept: the items whose test holds -/
def keptV (ys : List V) (bs : List Bool) : List V := ((ys.zip bs).filter (·.2)).map (·.1)
theorem kept_snoc {ys : List V} {bs : List Bool} {i : Nat} {y : V} {b : Bool} (hy : ys[i]? = some y) (hb : bs[i]? = some b) :
    keptV (ys.take (i + 1)) (bs.take (i + 1)) = if b = true then keptV (ys.take i) (bs.take i) ++ [y] else keptV (ys.take i) (bs.take i) := by
  have hl : (ys.take i).length = (bs.take i).length := by
    have h1 := (List.getElem?_eq_some_iff.mp hy).1
    have h2 := (List.getElem?_eq_some_iff.mp hb).1
    rw [List.length_take, List.length_take]
    omega
  unfold keptV
  rw [← take_snoc hy, ← take_snoc hb, List.zip_append hl, List.filter_append, List.map_append]
  cases b <;> simp
theorem kept_len (ys : List V) (bs : List Bool) : (keptV ys bs).length ≤ ys.length := by
  unfold keptV
  rw [List.length_map]
  refine Nat.le_trans (List.length_filter_le _ _) ?_
  rw [List.length_zip]
  exact Nat.min_le_left _ _
theorem comp_tupT {K : PySem.W.Frag} {a D : Addr} {xs ys : List V} {bs : List Bool} {te : TE} {tt : TT} {j : Nat} {σ : L2.St} {H : Hp} {Qd : Hp → Prop} (hD : H D = none) (ha : SqT K H a xs) (hl : ys.length = xs.length) (hb : bs.length = xs.length) (hz : xs.length < sizeLine)
    (test : ∀ (i : Nat) (x : V) (b : Bool), xs[i]? = some x → bs[i]? = some b → ∀ G, Same H G → ∀ Q : Bool → Hp → Prop, (∀ G', Same G G' → Q b G') → tt ((σ.set j none).set j (some x)) G Q)
    (each : ∀ (i : Nat) (x y : V), xs[i]? = some x → ys[i]? = some y → ∀ G, Same H G → ∀ Q : VK, (∀ G', Same G G' → Q y G') → te ((σ.set j none).set j (some x)) G Q)
    (done : ∀ G, Same H G → G D = some (.lst (keptV ys bs)) → Qd G) :
    ∃ W : Nat → Nat → Hp → Prop, (∃ m, W 0 m (upd H D (.lst []))) ∧ ∀ i m G, W i m G →
      ((Itt K a).stop i G ∧ Qd G) ∨ ((Itt K a).go i G ∧ ∃ Nx : Hp → Prop, (∀ H', Nx H' → ∃ m', m' < m ∧ W (i + 1) m' H') ∧ ∀ x H', (Itt K a).yld i G x H' → gName j x (wipe σ [j]) H' fun σ2 H2 => wipe σ2 [j] = wipe σ [j] ∧ tt σ2 H2 fun b H3 =>
        if b = true then te σ2 H3 fun y H4 => ∃ acc, H4 D = some (.lst acc) ∧ acc.length < sizeLine ∧ Nx (upd H4 D (.lst (acc ++ [y]))) else Nx H3) := by
  refine lc_tup (xs := xs) (fun i G => Same H G ∧ G D = some (.lst (keptV (ys.take i) (bs.take i)))) ⟨same_new hD, by rw [upd_same]; rfl⟩ (fun i G _ h => sqt_same h.1 ha) (fun i x G hi h => ?_) fun G h => done G h.1 ?_
  · have hlt : i < xs.length := (List.getElem?_eq_some_iff.mp hi).1
    have hy : ys[i]? = some ys[i] := List.getElem?_eq_getElem (by omega)
    have hbi : bs[i]? = some bs[i] := List.getElem?_eq_getElem (by omega)
    have sn := kept_snoc hy hbi
    refine ⟨?_, ?_⟩
    · show ((σ.set j none).set j (some x)).set j none = σ.set j none
      rw [List.set_set, List.set_set]
    · refine test i x _ hi hbi G h.1 _ fun G1 e1 => ?_
      refine ite2 (fun hbt => ?_) fun hbf => ?_
      · rw [if_pos hbt] at sn
        refine each i x _ hi hy G1 (h.1.trans e1) _ fun G2 e2 => ?_
        refine ⟨_, e2 _ _ (e1 _ _ h.2), Nat.lt_of_le_of_lt (kept_len _ _) (by rw [List.length_take]; omega), same_mut ((h.1.trans e1).trans e2) hD, ?_⟩
        rw [upd_same, sn]
      · rw [if_neg hbf] at sn
        exact ⟨h.1.trans e1, by rw [sn]; exact e1 _ _ h.2⟩
  · rw [h.2, ← hl, List.take_length, hl, ← hb, List.take_length]
end RG
end RGi
section RGj
/-! A call while some lists and dicts of the caller's are out of sight: they stand as they were. -/
namespace RG
open PySem PySem.Spec PyProof.Rows L2
def plain : HO → Prop
  | .lst _ => True
  | .dK _ => True
  | _ => False
/-- H without the things of ps -/
def hid (ps : List (Addr × HO)) (H : Hp) : Hp := fun b => if b ∈ ps.map (·.1) then none else H b
/-- .. and back again -/
def back (ps : List (Addr × HO)) (H : Hp) : Hp := fun b => match ps.lookup b with
  | some o => some o
  | none => H b
theorem hid_in {ps : List (Addr × HO)} {H : Hp} {b : Addr} (h : b ∈ ps.map (·.1)) : hid ps H b = none := if_pos h
theorem hid_out {ps : List (Addr × HO)} {H : Hp} {b : Addr} (h : b ∉ ps.map (·.1)) : hid ps H b = H b := if_neg h
theorem hid_some {ps : List (Addr × HO)} {H : Hp} {b : Addr} {o : HO} (h : hid ps H b = some o) : H b = some o ∧ b ∉ ps.map (·.1) := by
  by_cases e : b ∈ ps.map (·.1)
  · rw [hid_in e] at h
    cases h
  · rw [hid_out e] at h
    exact ⟨h, e⟩
theorem look_in : ∀ {ps : List (Addr × HO)} {b : Addr}, b ∈ ps.map (·.1) → ∃ o, ps.lookup b = some o ∧ (b, o) ∈ ps
  | (a, o) :: ps, b, h => by
    by_cases e : b = a
    · subst e
      exact ⟨o, by simp [List.lookup], List.mem_cons_self⟩
    · have h2 : b ∈ ps.map (·.1) := (List.mem_cons.mp h).resolve_left e
      obtain ⟨u, h3, h4⟩ := look_in h2
      refine ⟨u, ?_, List.mem_cons_of_mem _ h4⟩
      have e2 : (b == a) = false := by simpa using e
      simp only [List.lookup, e2]
      exact h3
theorem look_out : ∀ {ps : List (Addr × HO)} {b : Addr}, b ∉ ps.map (·.1) → ps.lookup b = none
  | [], _, _ => rfl
  | (a, o) :: ps, b, h => by
    have e : b ≠ a := fun e => h (by rw [e]; exact List.mem_cons_self)
    have e2 : (b == a) = false := by simpa using e
    simp only [List.lookup, e2]
    exact look_out fun q => h (List.mem_cons_of_mem _ q)
theorem back_out {ps : List (Addr × HO)} {H : Hp} {b : Addr} (h : b ∉ ps.map (·.1)) : back ps H b = H b := by
  unfold back
  rw [look_out h]
/-- a thing that leans on its own object alone -/
theorem plain_at {P : Program} {w : World} {H H' : Hp} {h h' : Heap} {a : Addr} {o : HO} (p : plain o) (x : ObjOk P w H h a o) (e : ∀ u, h.get? a = some u → h'.get? a = some u) : ObjOk P w H' h' a o := by
  cases o with
  | lst xs =>
    obtain ⟨z, its, n, r, g⟩ := x
    exact ⟨z, its, n, r, e _ g⟩
  | dK kvs =>
    obtain ⟨z, y, vs, r, ob, es, ep, g, c⟩ := x
    exact ⟨z, y, vs, r, ob, es, ep, e _ g, c⟩
  | _ => exact p.elim
section
variable {X : Cx} {pins : List (Addr × Obj)} {σ : L2.St} {H H' : Hp} {s s' : Shared}
theorem plain_obj {P : Program} {w : World} {H : Hp} {h : Heap} {a : Addr} {o : HO} (p : plain o) (x : ObjOk P w H h a o) : ∃ u, h.get? a = some u ∧ ∀ v, u.data ≠ .cell v := by
  cases o with
  | lst xs =>
    obtain ⟨z, its, n, r, g⟩ := x
    exact ⟨_, g, fun v q => nomatch q⟩
  | dK kvs =>
    obtain ⟨z, y, vs, r, ob, es, ep, g, c1, c2, _⟩ := x
    exact ⟨_, g, fun v q => by rw [c2] at q; cases q⟩
  | _ => exact p.elim
theorem inv_hid {ps : List (Addr × HO)} (I : Inv X pins σ H s) (hp : ∀ p ∈ ps, H p.1 = some p.2 ∧ plain p.2) :
    ∃ pins', (∀ p ∈ ps, ∃ u, (p.1, u) ∈ pins' ∧ s.heap.get? p.1 = some u) ∧ (∀ q ∈ pins, q ∈ pins') ∧ Inv X pins' σ (hid ps H) s := by
  have objs : ∀ p ∈ ps, ∃ u, s.heap.get? p.1 = some u ∧ ∀ v, u.data ≠ .cell v := fun p h => plain_obj (hp p h).2 (I.hok _ _ (hp p h).1)
  let ex : List (Addr × Obj) := ps.filterMap fun p => (s.heap.get? p.1).map fun u => (p.1, u)
  have mem : ∀ p ∈ ps, ∃ u, (p.1, u) ∈ ex ∧ s.heap.get? p.1 = some u := fun p h => by
    obtain ⟨u, h1, _⟩ := objs p h
    exact ⟨u, List.mem_filterMap.mpr ⟨p, h, by rw [h1]; rfl⟩, h1⟩
  have out : ∀ q ∈ ex, ∃ p ∈ ps, p.1 = q.1 ∧ s.heap.get? p.1 = some q.2 := fun q h => by
    obtain ⟨p, h1, h2⟩ := List.mem_filterMap.mp h
    obtain ⟨u, h3, h4⟩ := Option.map_eq_some_iff.mp h2
    subst h4
    exact ⟨p, h1, rfl, h3⟩
  have keep : ∀ {b : Addr} {o : HO}, H b = some o → ¬ plain o → hid ps H b = some o := fun {b o} h n => by
    rw [hid_out]
    · exact h
    · intro m
      obtain ⟨p, h1, h2⟩ := List.mem_map.mp m
      obtain ⟨h3, h4⟩ := hp p h1
      rw [h2, h] at h3
      cases h3
      exact n h4
  refine ⟨pins ++ ex, fun p h => ?_, fun q h => List.mem_append_left _ h, ?_⟩
  · obtain ⟨u, h1, h2⟩ := mem p h
    exact ⟨u, List.mem_append_right _ h1, h2⟩
  refine ⟨I.ok, I.os, I.bare, ?_, I.loc, I.cell, ?_, ?_, ?_, ?_, I.len⟩
  · refine ⟨I.base.keep, I.base.slot, fun b o h1 h2 h3 => ?_, I.base.there, fun b xs h => keep (I.base.tups b xs h) (fun z => z), fun b o u h => keep (I.base.frzs b o u h) (fun z => z), fun b qs h => ?_⟩
    · have := I.base.free b o h1 h2 h3
      unfold hid
      split
      · rfl
      · exact this
    · obtain ⟨more, h2⟩ := I.base.tbls b qs h
      exact ⟨more, keep h2 (fun z => z)⟩
  · unfold hid
    split
    · rfl
    · exact I.free
  · intro x c h
    unfold hid
    split
    · rfl
    · exact I.freeC x c h
  · intro p h
    have old : ∀ p ∈ X.pn ++ pins, s.heap.get? p.1 = some p.2 ∧ hid ps H p.1 = none ∧ p.1 ≠ X.env.locals ∧ p.1 ∉ X.fs ∧ ∀ v, p.2.data ≠ .cell v := fun p h => by
      obtain ⟨h1, h2, h3⟩ := I.pin p h
      refine ⟨h1, ?_, h3⟩
      unfold hid
      split
      · rfl
      · exact h2
    rcases List.mem_append.mp h with h | h
    · exact old p (List.mem_append_left _ h)
    · rcases List.mem_append.mp h with h | h
      · exact old p (List.mem_append_right _ h)
      · obtain ⟨q, h1, h2, h3⟩ := out p h
        obtain ⟨g1, g2⟩ := hp q h1
        obtain ⟨u, g3, g4⟩ := objs q h1
        rw [h3] at g3
        cases g3
        rw [h2] at h3 g1
        refine ⟨h3, hid_in (List.mem_map.mpr ⟨q, h1, h2⟩), fun e => ?_, fun e => ?_, g4⟩
        · rw [e, I.free] at g1
          cases g1
        · have z : H p.1 = none := by
            obtain ⟨_, o, ho, _⟩ := I.ok.funs.mem e
            exact I.base.free p.1 o ho (I.ok.frf p.1 e) fun z => I.ok.exfs p.1 z e
          rw [z] at g1
          cases g1
  · intro b o h
    obtain ⟨h1, h2⟩ := hid_some h
    exact (I.hok b o h1).stay (fun _ _ _ e => e) (fun c e => keep e (fun z => z)) fun c xs e => keep e (fun z => z)
end
section
variable {P : Program} {w : World} {fs : List Addr} {ps : List (Addr × HO)} {H G : Hp} {h h' : Heap}
theorem back_in {b : Addr} (hp : ∀ p ∈ ps, H p.1 = some p.2 ∧ plain p.2) (m : b ∈ ps.map (·.1)) : ∃ o, back ps G b = some o ∧ H b = some o ∧ plain o := by
  obtain ⟨o, h1, h2⟩ := look_in m
  refine ⟨o, ?_, (hp _ h2).1, (hp _ h2).2⟩
  unfold back
  rw [h1]
theorem un_back (u : Un fs [] (hid ps H) G h h') (hp : ∀ p ∈ ps, H p.1 = some p.2 ∧ plain p.2) : Un fs [] H (back ps G) h h' := by
  have none_of : ∀ {b : Addr}, H b = none → hid ps H b = none ∧ b ∉ ps.map (·.1) := fun {b} e => by
    have n : b ∉ ps.map (·.1) := fun m => by
      obtain ⟨p, h1, h2⟩ := List.mem_map.mp m
      have := (hp p h1).1
      rw [h2, e] at this
      cases this
    exact ⟨by rw [hid_out n]; exact e, n⟩
  have keep : ∀ {b : Addr} {o : HO}, H b = some o → ¬ plain o → hid ps H b = some o ∧ b ∉ ps.map (·.1) := fun {b o} e n => by
    have n2 : b ∉ ps.map (·.1) := fun m => by
      obtain ⟨o2, _, h2, h3⟩ := back_in (G := G) hp m
      rw [e] at h2
      cases h2
      exact n h3
    exact ⟨by rw [hid_out n2]; exact e, n2⟩
  refine ⟨fun b o e n hb hx => u.keep b o e (none_of n).1 hb hx, fun b o e n hb hx => u.slot b o e (none_of n).1 hb hx, fun b o e n hx => ?_, u.there, fun b xs e => ?_, fun b o v e => ?_, fun b qs e => ?_⟩
  · rw [back_out (none_of n).2]
    exact u.free b o e (none_of n).1 hx
  · obtain ⟨h1, h2⟩ := keep e (fun z => z)
    rw [back_out h2]
    exact u.tups b xs h1
  · obtain ⟨h1, h2⟩ := keep e (fun z => z)
    rw [back_out h2]
    exact u.frzs b o v h1
  · obtain ⟨h1, h2⟩ := keep e (fun z => z)
    obtain ⟨more, h3⟩ := u.tbls b qs h1
    exact ⟨more, by rw [back_out h2]; exact h3⟩
theorem ok_back (u : Un fs [] (hid ps H) G h h') (hp : ∀ p ∈ ps, H p.1 = some p.2 ∧ plain p.2) (nf : ∀ b ∈ fs, H b = none) (k1 : HOk P w H h) (k2 : HOk P w G h') : HOk P w (back ps G) h' := by
  have gone : ∀ {b : Addr}, b ∈ ps.map (·.1) → ∃ o ob, back ps G b = some o ∧ H b = some o ∧ plain o ∧ h.get? b = some ob ∧ h'.get? b = some ob ∧ G b = none := fun {b} m => by
    obtain ⟨o, h1, h2, h3⟩ := back_in (G := G) hp m
    obtain ⟨ob, h4, _⟩ := plain_obj h3 (k1 b o h2)
    have h5 : b ∉ fs := fun z => by
      rw [nf b z] at h2
      cases h2
    exact ⟨o, ob, h1, h2, h3, h4, u.keep b ob h4 (hid_in m) h5 (by simp), u.free b ob h4 (hid_in m) (by simp)⟩
  have out : ∀ {b : Addr} {o : HO}, G b = some o → back ps G b = some o := fun {b o} e => by
    rw [back_out]
    · exact e
    · intro m
      obtain ⟨_, _, _, _, _, _, _, h1⟩ := gone m
      rw [h1] at e
      cases e
  intro b o e
  by_cases m : b ∈ ps.map (·.1)
  · obtain ⟨o2, ob, h1, h2, h3, h4, h5, h6⟩ := gone m
    rw [h1] at e
    cases e
    exact plain_at h3 (k1 b _ h2) fun v hv => by
      rw [h4] at hv
      cases hv
      exact h5
  · rw [back_out m] at e
    exact (k2 b o e).stay (fun _ _ _ z => z) (fun c z => out z) fun c xs z => out z
end
/-- f(..) while some things are out of sight -/
def tCallH (sp : Sp) (t : TA) : TE := fun σ H Q => t σ H fun vs H1 => ∃ ps : List (Addr × HO), (∀ p ∈ ps, H1 p.1 = some p.2 ∧ plain p.2) ∧ sp vs (hid ps H1) (fun v G => (∀ p ∈ ps, G p.1 = none) → Q v (back ps G)) E0
section
variable {X : Cx} {k j : Nat} {x : Str} {sp : Sp} {p pos : Pos} {e : Expr} {es : List Expr} {t : TA}
theorem pe_gH (c : Cg X.prog X.w X.K X.mg X.base k x sp) (hr : Room j X.A) (hg : X.A.guards = some []) (hk : k ≤ j) (hx : Gl X x) (ha : PA X (e :: es) t)
    (h1 : (x == ("__debug__" : Str)) = false := by decide) (h2 : starEach (e :: es) X.env = (false, eval e X.env) :: starEach es X.env := by rfl) (h3 : (backTo pos (starEach es X.env)).any (·.1) = false := by rfl) :
    PE X (.Call (.Name x p) (e :: es) [] pos) (tCallH sp t) := by
  obtain ⟨f, fd, pms, F, hm, kp, b⟩ := c.ex
  refine ⟨fun pins s σ H Q I h => wpAny_Call_Name_kw (ld_glob I hx hm ?_ h1)⟩
  refine PySem.W.callWith_K (h₀ := X.base) I.ok.mod.kin kp (thn (ha.run pos pins s σ H _ I h) ?_) h2 h3
  rintro us s1 ⟨vs, G, J, r, ps, hp, q⟩
  refine ⟨J.kIn, ?_⟩
  have bt := b s1 us J.kIn (by rw [List.append_nil, ← r.length]; exact F.many _ _ _ _ q)
  rw [List.append_nil] at bt
  obtain ⟨pins2, _, _, J2⟩ := inv_hid J hp
  refine wpAny_call (codeAny_mono (F.runs X.A X.stack s1 _ _ us vs _ E0 (hr.mono hk) hg J2.env0 bt r q) fun w2 s2 h => ?_)
  cases w2 with
  | error z => exact False.elim h
  | ok fl =>
    cases fl with
    | ret u =>
      obtain ⟨v, G2, os, bare, un, hok, rv, q2⟩ := h
      refine J.after ⟨v, back ps G2, os, bare, un_back un hp, ok_back un hp J.stkFree J.hok hok, rv, q2 fun p h => ?_⟩
      obtain ⟨ob, h4, _⟩ := plain_obj (hp p h).2 (J.hok _ _ (hp p h).1)
      exact un.free p.1 ob h4 (hid_in (List.mem_map.mpr ⟨p, h, rfl⟩)) (by simp)
    | next => exact False.elim h
    | brk => exact False.elim h
    | cont => exact False.elim h
end
/-! one list put aside -/
def rem (s : Addr) (H : Hp) : Hp := fun b => if b = s then none else H b
theorem rem_at {s : Addr} {H : Hp} : rem s H s = none := if_pos rfl
theorem rem_ne {s b : Addr} {H : Hp} (h : b ≠ s) : rem s H b = H b := if_neg h
theorem rem_upd {s : Addr} {H : Hp} {o : HO} : rem s (upd H s o) = rem s H := by
  funext b
  by_cases h : b = s
  · rw [h, rem_at, rem_at]
  · rw [rem_ne h, rem_ne h, upd_ne h]
theorem rem_none {s : Addr} {H : Hp} (h : H s = none) : rem s H = H := by
  funext b
  by_cases e : b = s
  · rw [e, rem_at, h]
  · rw [rem_ne e]
theorem hid1 {s : Addr} {o : HO} {H : Hp} : hid [(s, o)] H = rem s H := by
  funext b
  by_cases e : b = s
  · rw [e, rem_at]
    exact hid_in (by simp)
  · rw [rem_ne e]
    exact hid_out (by simpa using e)
theorem back1 {s : Addr} {o : HO} {H : Hp} : back [(s, o)] H = upd H s o := by
  funext b
  by_cases e : b = s
  · subst e
    rw [upd_same]
    unfold back
    simp [List.lookup]
  · rw [upd_ne e]
    exact back_out (by simpa using e)
theorem same_rem {s : Addr} {H : Hp} : Same (rem s H) H := fun b o h => by
  by_cases e : b = s
  · rw [e, rem_at] at h
    cases h
  · rw [rem_ne e] at h
    exact h
/-- what was kept is kept behind the list's back -/
theorem rem_kb {p s : Addr} {H G : Hp} (e : Kb p H G) : Kb p (rem s H) (rem s G) := fun b o h n => by
  by_cases z : b = s
  · rw [z, rem_at] at h
    cases h
  · rw [rem_ne z] at h ⊢
    exact e b o h n
theorem rem_same {s : Addr} {H G : Hp} (e : Same H G) : Same (rem s H) (rem s G) := fun b o h => by
  by_cases z : b = s
  · rw [z, rem_at] at h
    cases h
  · rw [rem_ne z] at h ⊢
    exact e b o h
/-- one list put aside at a call -/
theorem callH1 {sp : Sp} {vs : List V} {H1 : Hp} {Q : VK} {s : Addr} {xs : List V} (h : H1 s = some (.lst xs)) (q : sp vs (rem s H1) (fun v G => G s = none → Q v (upd G s (.lst xs))) E0) :
    ∃ ps : List (Addr × HO), (∀ p ∈ ps, H1 p.1 = some p.2 ∧ plain p.2) ∧ sp vs (hid ps H1) (fun v G => (∀ p ∈ ps, G p.1 = none) → Q v (back ps G)) E0 := by
  refine ⟨[(s, .lst xs)], fun p hp => ?_, ?_⟩
  · rw [List.mem_singleton] at hp
    subst hp
    exact ⟨h, trivial⟩
  · rw [hid1]
    simpa only [back1, List.mem_singleton, forall_eq] using q
end RG
end RGj
section RGk
/-! dict([(k, k) for k in range(n)]); small texts -/
namespace RG
open PySem PySem.Spec PyProof.Rows L2
theorem new_ex {G : Hp} {t : Addr} {o : HO} (h : G t = none) : ∃ G', G' = L2.upd G t o ∧ Same G G' ∧ G' t = some o := ⟨_, rfl, same_new h, upd_same⟩
/-- the pairs (0, 0), (1, 1), .. -/
def twins (n : Nat) : List (Key × V) := (List.range n).map fun k => (Sum.inl ((k : Nat) : Int), V.int ((k : Nat) : Int))
theorem twins_snoc (n : Nat) : twins (n + 1) = twins n ++ [(Sum.inl (n : Int), V.int (n : Int))] := by
  unfold twins
  rw [List.range_succ, List.map_append]
  rfl
def TwinsP (H : Hp) (D : Addr) (i : Nat) (G : Hp) : Prop := Same H G ∧ ∃ ps : List Addr, ps.length = i ∧ G D = some (.lst (ps.map V.ref)) ∧ Paired (fun p kv => G p = some (.tup [kV kv.1, kv.2])) ps (twins i)
theorem comp_twins {K : PySem.W.Frag} {D : Addr} {n : Nat} {te : TE} {j : Nat} {σ : L2.St} {H : Hp} {Qd : Hp → Prop} (hD : H D = none) (hz : n < sizeLine)
    (each : ∀ (i : Nat), i < n → ∀ G, Same H G → ∀ Q : VK, (∀ p, G p = none → Q (.ref p) (upd G p (.tup [.int (i : Int), .int (i : Int)]))) → te ((σ.set j none).set j (some (.int (0 + i)))) G Q)
    (done : ∀ (G : Hp) (ps : List Addr), Same H G → G D = some (.lst (ps.map V.ref)) → Paired (fun p kv => SqT K G p [kV kv.1, kv.2]) ps (twins n) → Qd G) :
    ∃ W : Nat → Nat → Hp → Prop, (∃ m, W 0 m (upd H D (.lst []))) ∧ ∀ i m G, W i m G →
      ((Itr 0 n).stop i G ∧ Qd G) ∨ ((Itr 0 n).go i G ∧ ∃ Nx : Hp → Prop, (∀ H', Nx H' → ∃ m', m' < m ∧ W (i + 1) m' H') ∧ ∀ x H', (Itr 0 n).yld i G x H' → gName j x (wipe σ [j]) H' fun σ2 H2 => wipe σ2 [j] = wipe σ [j] ∧ tYes σ2 H2 fun b H3 =>
        if b = true then te σ2 H3 fun y H4 => ∃ acc, H4 D = some (.lst acc) ∧ acc.length < sizeLine ∧ Nx (upd H4 D (.lst (acc ++ [y]))) else Nx H3) := by
  refine lc_range (TwinsP H D) ⟨same_new hD, [], rfl, upd_same, .nil⟩ (fun i G hi h => ?_) fun G h => ?_
  · obtain ⟨e, ps, hl, hd, pp⟩ := h
    refine ⟨?_, ?_⟩
    · show ((σ.set j none).set j (some (V.int (0 + i)))).set j none = σ.set j none
      rw [List.set_set, List.set_set]
    · show (if true = true then (te ((σ.set j none).set j (some (V.int (0 + i)))) G fun y H4 => ∃ acc, H4 D = some (.lst acc) ∧ acc.length < sizeLine ∧ TwinsP H D (i + 1) (upd H4 D (.lst (acc ++ [y])))) else TwinsP H D (i + 1) G)
      rw [if_pos rfl]
      refine each i hi G e _ fun p hp => ?_
      have hpD : D ≠ p := fun z => by rw [← z, hd] at hp; cases hp
      refine ⟨_, by rw [upd_ne hpD]; exact hd, by rw [List.length_map]; omega, same_mut (e.trans (same_new hp)) hD, ps ++ [p], by rw [List.length_append, hl]; rfl, by rw [upd_same, List.map_append]; rfl, ?_⟩
      rw [twins_snoc]
      refine Paired.snoc (Paired.mapP pp fun q kv z => ?_) ?_
      · have hq : q ≠ D := fun e2 => by rw [e2, hd] at z; cases z
        have hq2 : q ≠ p := fun e2 => by rw [e2, hp] at z; cases z
        rw [upd_ne hq, upd_ne hq2]
        exact z
      · rw [upd_ne hpD.symm, upd_same]
        rfl
  · obtain ⟨e, ps, hl, hd, pp⟩ := h
    exact done G ps e hd (Paired.mapP pp fun p kv z => SqT.of z)
/-- small entries -/
def small (kv : Key × V) : Prop := ∃ a b : Int, kv = (Sum.inl a, V.int b) ∧ a.natAbs < 1000 ∧ b.natAbs < 1000
theorem small_put {kvs : List (Key × V)} {k : Key} {v : V} (h : ∀ kv ∈ kvs, small kv) (hk : small (k, v)) : ∀ kv ∈ putK kvs k v, small kv := by
  intro kv m
  unfold putK at m
  split at m
  · obtain ⟨q, m1, rfl⟩ := List.mem_map.mp m
    split
    · rename_i e
      rw [e]
      exact hk
    · exact h q m1
  · rcases List.mem_append.mp m with m | m
    · exact h kv m
    · rw [List.mem_singleton] at m
      rw [m]
      exact hk
theorem put_len (kvs : List (Key × V)) (k : Key) (v : V) : (putK kvs k v).length ≤ kvs.length + 1 := by
  unfold putK
  split
  · rw [List.length_map]
    exact Nat.le_succ _
  · rw [List.length_append]
    exact Nat.le_refl _
theorem small_merge : ∀ {more kvs : List (Key × V)}, (∀ kv ∈ kvs, small kv) → (∀ kv ∈ more, small kv) → (∀ kv ∈ mergeK kvs more, small kv) ∧ (mergeK kvs more).length ≤ kvs.length + more.length
  | [], kvs, h, _ => ⟨h, Nat.le_refl _⟩
  | kv :: more, kvs, h, h2 => by
    have h3 := small_merge (more := more) (small_put h (h2 kv List.mem_cons_self)) fun q hq => h2 q (List.mem_cons_of_mem _ hq)
    refine ⟨h3.1, Nat.le_trans h3.2 ?_⟩
    have := put_len kvs kv.1 kv.2
    rw [List.length_cons]
    omega
theorem small_twins {n : Nat} (h : n ≤ 1000) : ∀ kv ∈ twins n, small kv := by
  intro kv m
  obtain ⟨k, hk, rfl⟩ := List.mem_map.mp m
  have := List.mem_range.mp hk
  exact ⟨_, _, rfl, by omega, by omega⟩
theorem twins_len (n : Nat) : (twins n).length = n := by
  unfold twins
  rw [List.length_map, List.length_range]
theorem small_noPen {kvs : List (Key × V)} (h : ∀ kv ∈ kvs, small kv) : isPen kvs = false := by
  cases kvs with
  | nil => rfl
  | cons kv kvs =>
    obtain ⟨a, b, rfl, _⟩ := h _ List.mem_cons_self
    rfl
theorem dict_len (ts : List Str) : (dictText ts).length ≤ piled ts + 2 := by
  unfold dictText
  rw [strLen_append, strLen_append]
  have h := join_le ts
  have h1 : (("{" : Str)).length = 1 := by decide +kernel
  have h2 : (("}" : Str)).length = 1 := by decide +kernel
  omega
theorem small_data {K : PySem.W.Frag} {H : Hp} : ∀ {kvs : List (Key × V)}, (∀ kv ∈ kvs, small kv) → ∃ ds, DdKv K H kvs ds ∧ PyData.showableKv ds = true ∧ piled (PyData.shownKv ds) ≤ 12 * kvs.length ∧ PyData.depthKv ds = 0
  | [], _ => ⟨[], .nil, rfl, Nat.le_refl 0, rfl⟩
  | kv :: kvs, h => by
    obtain ⟨a, b, rfl, ha, hb⟩ := h _ List.mem_cons_self
    obtain ⟨ds, h1, h2, h3, h4⟩ := small_data (K := K) (H := H) fun q hq => h q (List.mem_cons_of_mem _ hq)
    have fa := fit_int (k := 3) (by decide) (by decide) ha
    have fb := fit_int (k := 3) (by decide) (by decide) hb
    refine ⟨(.int a, .int b) :: ds, .cons (k := Sum.inl a) (.int b) h1, ?_, ?_, ?_⟩
    · simp only [PyData.showableKv, fa.sh, fb.sh, h2, Bool.and_self]
    · simp only [PyData.shownKv, piled_cons, strLen_append, List.length_cons]
      have e1 := fa.le
      have e2 := fb.le
      have h1 : ((": " : Str)).length = 2 := by decide +kernel
      omega
    · simp only [PyData.depthKv, PyData.depth, h4]
      rfl
/-- a dict of small entries is data that fits -/
theorem small_dict {K : PySem.W.Frag} {H : Hp} {p : Addr} {kvs : List (Key × V)} {n : Nat} (h : ∀ kv ∈ kvs, small kv) (hl : kvs.length ≤ n) (hp : H p = some (.dK kvs)) : ∃ d, Dd K H (.ref p) d ∧ Fit (12 * n + 2) 1 d ∧ ∀ es, d ≠ .tuple es := by
  obtain ⟨ds, h1, h2, h3, h4⟩ := small_data (K := K) (H := H) h
  refine ⟨.dict ds, .dct (.inl hp) (small_noPen h) h1, ⟨by simpa only [PyData.showable] using h2, ?_, by simp only [PyData.depth, h4]; exact Nat.le_refl 1⟩, fun es e => by cases e⟩
  simp only [PyData.shown]
  have := dict_len (PyData.shownKv ds)
  omega
theorem tuple_fits {W D : Nat} {es : List PyData} (h : Fit W (D + 1) (.tuple es)) : Fits (W + 2) D es := by
  have h1 := h.sh
  have h2 := h.le
  have h3 := h.dp
  refine ⟨by simpa only [PyData.showable] using h1, ?_, ?_⟩
  · rw [← pl_piled]
    cases hts : PyData.shownAll es with
    | nil => exact Nat.zero_le _
    | cons t ts =>
      simp only [PyData.shown, tupleText, strLen_append, hts] at h2
      have := join_length_add (t :: ts) (by simp)
      omega
  · simp only [PyData.depth] at h3
    omega
theorem fits_ints : ∀ {ns : List Int}, (∀ k ∈ ns, k.natAbs < 1000) → Fits (6 * ns.length) 0 (ns.map PyData.int)
  | [], _ => Fits.nil
  | n :: ns, h => by
    have h1 := fit_int (k := 3) (by decide) (by decide) (h n List.mem_cons_self)
    have h2 := fits_ints fun k hk => h k (List.mem_cons_of_mem _ hk)
    have e1 := h1.le
    have e2 := h2.le
    refine ⟨?_, ?_, ?_⟩
    · rw [List.map_cons]
      simp only [PyData.showableAll, h1.sh, h2.sh, Bool.and_self]
    · rw [List.map_cons, pl_cons, List.length_cons]
      omega
    · rw [List.map_cons]
      simp only [PyData.depthAll]
      exact Nat.max_le.mpr ⟨h1.dp, h2.dp⟩
end RG
end RGk
section RGl
/-! enumerate of a tuple; min of a tuple of ints -/
namespace RG
open PySem PySem.Spec PyProof.Rows L2
section
variable {prog : Program} {w : World} {A : Around} {E : Value → Shared → Prop} {s : Shared}
/-- enumerate.__new__ of one thing that can be gone through -/
theorem enum_new1 {v : Value} {o : Obj} {G : Heap → Prop} (B : Begins v o G) :
    Meets (Builtin.«enumerate.__new__» ⟨[.type "enumerate", v], []⟩) (fun _ R s => G s.heap ∧
      R (.ok (.ret (.ref (s.heap.push o).objs.size))) { s with heap := (s.heap.push o).push { cls := .type "enumerate", data := .fields #[.none, .bool false, .ref s.heap.objs.size, rawInt 0, .none, .none] } }) :=
  .of_wp fun prog w A R s pre => by
    obtain ⟨hp, gs, dr, tk, os⟩ := s
    obtain ⟨pre1, fin⟩ := pre
    have isub := sub_enumerate
    have go : ∀ {A' : Around} {E : Value → Shared → Prop} {Q : Value → Shared → Prop}, Q (.ref hp.objs.size) ⟨hp.push o, gs, dr, tk, os⟩ → wpAny (model prog w) A' (pyIter v) Q E ⟨hp, gs, dr, tk, os⟩ :=
      fun q => B.iter prog w _ _ ⟨hp, gs, dr, tk, os⟩ _ pre1 q
    wp_walk using go
    refine wpAny_stack_any fun frames => wpAny_pure ?_
    split
    · rename_i c _ _ _ _ _
      cases (c == Value.type "enumerate")
      · wp_walk using go
        exact ⟨_, rfl, fin⟩
      · wp_walk using go
        exact ⟨_, rfl, fin⟩
    · wp_walk using go
      exact ⟨_, rfl, fin⟩
theorem call_enumT {t : Addr} {items : Array Value} {Q : Value → Shared → Prop} (ht : s.heap.IsTuple t items)
    (k : ∀ h', IsEnum h' (s.heap.objs.size + 1) s.heap.objs.size 0 .none → h'.IsTupleIter s.heap.objs.size t 0 → h'.objs.size = s.heap.objs.size + 2 →
      (∀ b o, s.heap.get? b = some o → h'.get? b = some o) → Q (.ref (s.heap.objs.size + 1)) { s with heap := h' }) : wpAny (model prog w) A (call (.type "enumerate") [.ref t]) Q E s := by
  refine callType_new F.called_enumerate (by decide) (F.typeCall_enumerate_1 _) (F.newCall_enumerate_1 _) (fun obj => F.args_object_init_2 obj _) F.entry_enumerate_new (enum_new1 (begins_tuple t items)) ⟨ht, ?_⟩
  have size1 : (s.heap.push { cls := .type "tuple_iterator", data := .fields #[.ref t, .int 0 0] }).objs.size = s.heap.objs.size + 1 := Heap.size_push ..
  show _ ∧ _
  rw [size1]
  have en : IsEnum ((s.heap.push { cls := .type "tuple_iterator", data := .fields #[.ref t, .int 0 0] }).push { cls := .type "enumerate", data := .fields #[.none, .bool false, .ref s.heap.objs.size, rawInt 0, .none, .none] }) (s.heap.objs.size + 1) s.heap.objs.size 0 .none := by
    have at1 := Heap.get?_push_size (s.heap.push { cls := .type "tuple_iterator", data := .fields #[.ref t, .int 0 0] }) (o := { cls := .type "enumerate", data := .fields #[.none, .bool false, .ref s.heap.objs.size, rawInt 0, .none, .none] }) rfl
    rw [size1] at at1
    exact at1
  exact ⟨⟨_, en, rfl⟩, k _ en ⟨_, Heap.get?_push_of_some _ (Heap.get?_push_size _ rfl), rfl, rfl⟩ (by rw [Heap.size_push, size1]) fun b o x => Heap.get?_push_of_some _ (Heap.get?_push_of_some _ x)⟩
/-- min of a tuple of ints -/
theorem min_tupI {t : Addr} {xs : Array (Int × Tok)} {Q : Value → Shared → Prop} (hh : A.handled = none) (ht : s.heap.IsTuple t (intItems xs)) (n0 : 0 < xs.size)
    (k : ∀ v h' tk, (intItems xs)[argBest (fun i j => decide (numAt xs i < numAt xs j)) (xs.size - 1)]? = some v → (∀ b o, s.heap.get? b = some o → h'.get? b = some o) → Q v { s with heap := h', toks := tk }) : wpAny (model prog w) A (call (.builtin "min") [.ref t]) Q E s := by
  have below : t < s.heap.objs.size := by
    obtain ⟨_, e, _⟩ := ht
    exact Heap.lt_size e
  refine call_min_walk (wpAny_pyIter_tuple ht ?_)
  refine ⟨_, _, _, _, _, _, _, rfl, Walks.tuple (A := A.in1) hh s.heap.objs.size t (Nat.ne_of_lt below) (intItems xs), ⟨⟨_, Heap.get?_push_size _ rfl, rfl, rfl⟩, ht.push _⟩, fun b hb => ?_, by simpa [intItems] using n0, CmpOf.ints_lt (numAt xs) (fun _ _ => intItems_at), fun v h' tk hP hk => ?_⟩
  · show b < (s.heap.push _).objs.size
    rw [Heap.size_push]
    rcases List.mem_cons.mp hb with rfl | hb
    · exact Nat.lt_succ_self _
    · rcases List.mem_cons.mp hb with rfl | hb
      · exact Nat.lt_succ_of_lt below
      · cases hb
  · exact k v h' tk (by simpa [intItems] using hP) fun b o e => hk b o (by simpa using Nat.ne_of_lt (Heap.lt_size e)) (Heap.get?_push_of_some _ e)
end
/-! the rule for enumerate(t), t a tuple -/
def ItE (K : PySem.W.Frag) (a : Addr) : It :=
  ⟨fun i H => ∃ (xs : List V) (x : V), SqT K H a xs ∧ xs[i]? = some x, fun i H v H' => ∃ T x, v = .ref T ∧ H T = none ∧ H' = upd H T (.tup [.int (i : Nat), x]) ∧ ∀ xs, SqT K H a xs → xs[i]? = some x,
    fun i H => ∃ xs : List V, SqT K H a xs ∧ xs.length = i⟩
theorem turn_enumT {P : Program} {w : World} {K : PySem.W.Frag} {elts : List Expr} {kk : Nat} {tpos : Pos} (a e it : Addr) :
    Turn P w K (.Tuple elts kk tpos) (ItE K a) [e, it] e (fun i h => (∃ old, IsEnum h e it ((i : Nat) : Int) old) ∧ h.IsTupleIter it a i ∧ e ≠ it) where
  mem := by simp
  obj := fun i h st b hb => by
    obtain ⟨⟨old, h1⟩, ⟨o, h2, h3, h4⟩, _⟩ := st
    rcases (show b = e ∨ b = it by simpa using hb) with rfl | rfl
    · exact ⟨_, h1, fun v q => nomatch q⟩
    · exact ⟨o, h2, fun v q => by rw [h4] at q; cases q⟩
  keep := fun i h h' st k => by
    obtain ⟨⟨old, h1⟩, h2, ne⟩ := st
    exact ⟨⟨old, k e (by simp) _ h1⟩, h2.at fun o q => k it (by simp) o q, ne⟩
  item := by
    intro X hP hw hK hc i pins s σ H E I hf st hg
    subst hP hw hK
    obtain ⟨⟨old, h1⟩, h2, ne⟩ := st
    obtain ⟨xs, x, hq, hx⟩ := hg
    obtain ⟨its, rv, p, _⟩ := I.tuple hq
    obtain ⟨u, hu, ru⟩ := rv.get hx
    have le := Heap.lt_size h1
    have lt : it < s.heap.objs.size := by
      obtain ⟨_, q, _⟩ := h2
      exact Heap.lt_size q
    have pt : s.heap.IsTuple a its.toArray := p
    have ha : a ≠ it := by
      rintro rfl
      obtain ⟨o1, q1, q2, _⟩ := pt
      obtain ⟨o2, q3, q4, _⟩ := h2
      rw [q1] at q3
      cases q3
      rw [q2] at q4
      exact absurd q4 (by decide)
    have hea : e ≠ a := by
      rintro rfl
      obtain ⟨o1, q1, q2, _⟩ := pt
      have q3 : s.heap.get? e = _ := h1
      rw [q1] at q3
      cases q3
      have q5 : Value.type "enumerate" = Value.type "tuple" := q2
      exact absurd q5 (by decide)
    have ef : e ∉ [it, a] := fun m => by
      rcases List.mem_cons.mp m with z | m
      · exact ne z
      · exact hea (List.mem_singleton.mp m)
    have small : i < its.toArray.size := by
      rw [List.size_toArray]
      exact (List.getElem?_eq_some_iff.mp hu).1
    refine wpAny_pyNext_enum_itemD (Draws.tuple (A := X.A.in1) (show X.A.in1.handled = none from I.ok.hd hc) it a ha its.toArray) h1 ⟨h2, pt⟩ small ne ef fun y h' tk hy ho st' hT hsz hk => ?_
    obtain rfl : y = u := by
      have hy2 : its.toArray[i]? = some y := hy
      rw [List.getElem?_toArray, hu] at hy2
      exact (Option.some.inj hy2).symm
    refine ⟨_, rfl, wpAny_letOwnedTupleGo_enum (s := { s with heap := h', toks := tk + 1 }) ho fun g he' sb => ?_⟩
    have hT2 : g.get? s.heap.objs.size = some { cls := .type "tuple", data := .seq #[.int i tk, y] } := (sb.2 _ (Nat.ne_of_gt le)).trans hT
    have new : ObjOk X.prog X.w (upd H s.heap.objs.size (.tup [.int (i : Nat), x])) g s.heap.objs.size (.tup [.int (i : Nat), x]) :=
      ⟨show 2 ≤ sizeLine by decide, [.int i tk, y], .cons ⟨_, rfl⟩ (.cons ru .nil), ⟨_, hT2, rfl, _, rfl⟩⟩
    have J : Inv X pins σ (upd H s.heap.objs.size (.tup [.int (i : Nat), x])) { s with heap := g, toks := tk + 1 } :=
      I.turnedNew (ch := [e, it]) (fun b ob hb q => (sb.2 b (fun z => hb (by simp [z]))).trans (hk b ob (fun z => hb (by simp [z])) (fun z => hb (by simp [z])) q)) hf (Nat.le_refl _) new
    refine ⟨.ref s.heap.objs.size, _, J, rfl, ⟨_, x, rfl, I.hok.fresh (Nat.le_refl _), rfl, fun ys hy => by rw [I.tuple_inj hy hq]; exact hx⟩, ⟨⟨y, ?_⟩, st'.1.at fun o q => (sb.2 it (Ne.symm ne)).trans q, ne⟩, fun b hb => ?_⟩
    · rw [show ((i + 1 : Nat) : Int) = (i : Int) + 1 by omega]
      exact he'
    · have hb2 : b < s.heap.objs.size := by
        rcases (show b = e ∨ b = it by simpa using hb) with z | z
        · rw [z]; exact le
        · rw [z]; exact lt
      rw [upd_ne (Nat.ne_of_lt hb2)]
      exact (hf b hb).1
  done := by
    intro X hP hw hK hc i pins s σ H E I hf st hg
    subst hP hw hK
    obtain ⟨⟨old, h1⟩, h2, ne⟩ := st
    obtain ⟨xs, hq, hx⟩ := hg
    obtain ⟨its, rv, p, _⟩ := I.tuple hq
    have pt : s.heap.IsTuple a its.toArray := p
    obtain ⟨f0, f1, f2, f3, f4, f5⟩ := hf it (by simp)
    have ll := rv.length
    have ha : a ≠ it := by
      rintro rfl
      obtain ⟨o1, q1, q2, _⟩ := pt
      obtain ⟨o2, q3, q4, _⟩ := h2
      rw [q1] at q3
      cases q3
      rw [q2] at q4
      exact absurd q4 (by decide)
    have nn : its.toArray.size = i := by
      rw [List.size_toArray]
      omega
    refine wpAny_pyNext_enum_endD (Draws.tuple (A := X.A.in1) (show X.A.in1.handled = none from I.ok.hd hc) it a ha its.toArray) h1 (by rw [nn]; exact ⟨h2, pt⟩) fun h' eb => ⟨rfl, I.turned (t' := s.toks) (fun b o hb q => eb b o hb q) f0 f1 f3 f4 f5⟩
  self := fun A i s Q E st h => by
    obtain ⟨⟨_, h1⟩, _⟩ := st
    exact wpAny_pyIter_enum h1 h
def iEnumT (K : PySem.W.Frag) (ta : TA) : TI := fun σ H R => ta σ H fun vs H1 => ∃ a xs, vs = [.ref a] ∧ SqT K H1 a xs ∧ R (ItE K a) H1
theorem pi_enumT {X : Cx} {e : Expr} {ta : TA} {p pos tpos : Pos} {elts : List Expr} {kk : Nat} (hg : Gl X "enumerate") (hm : X.mg "enumerate" = none) (ha : PA X [e] ta)
    (hs : starEach [e] X.env = [(false, eval e X.env)] := by rfl) : PI X (.Tuple elts kk tpos) (.Call (.Name "enumerate" p) [e] [] pos) (iEnumT X.K ta) := by
  refine ⟨fun pins s σ H R I h => Call_ (ld_blt I hg hm boot_enumerate (PyProof.Rows.callWith_type1 (thn (ha.run pos pins s σ H _ I h) ?_) hs rfl))⟩
  rintro us s1 ⟨vs, H1, J, r, a, xs, rfl, hq, q⟩
  obtain rfl := Vals.ref1 r
  obtain ⟨its, rv, pt, _⟩ := J.tuple hq
  refine call_enumT (items := its.toArray) pt fun h' en ti sz keep => wpAny_pyIter_enum en ?_
  have J2 : Inv X pins σ H1 { s1 with heap := h' } := J.kept (t' := s1.toks) keep
  refine ⟨s1.heap.objs.size + 1, [s1.heap.objs.size + 1, s1.heap.objs.size], _, _, H1, rfl, J2, turn_enumT a (s1.heap.objs.size + 1) s1.heap.objs.size, ⟨⟨.none, en⟩, ti, Nat.succ_ne_self _⟩, fun b hb => ?_, q⟩
  have up : s1.heap.objs.size ≤ b := by
    rcases (show b = s1.heap.objs.size + 1 ∨ b = s1.heap.objs.size by simpa using hb) with z | z
    · rw [z]
      exact Nat.le_succ _
    · rw [z]
      exact Nat.le_refl _
  exact J.fpOk up (J.hok.fresh up)
/-- for k, x in enumerate(t) -/
theorem for_enumT {K : PySem.W.Frag} {a : Addr} {xs : List V} {g : TG} {tb : TS} {D : Ends} {σ : L2.St} {H : Hp} (Pv : Nat → L2.St → Hp → Prop) (h0 : Pv 0 σ H) (hl : ∀ i σ H, i ≤ xs.length → Pv i σ H → SqT K H a xs)
    (hs : ∀ i x σ H T, xs[i]? = some x → Pv i σ H → H T = none → g (.ref T) σ (upd H T (.tup [.int (i : Nat), x])) fun σ2 H2 => tb { D with nx := Pv (i + 1), ct := Pv (i + 1), bk := D.nx } σ2 H2) (hd : ∀ σ H, Pv xs.length σ H → D.nx σ H) :
    ∃ W : Nat → Nat → L2.St → Hp → Prop, (∃ m, W 0 m σ H) ∧ ∀ i m σ H, W i m σ H →
      ((ItE K a).stop i H ∧ D.nx σ H) ∨ ((ItE K a).go i H ∧ ∃ N : L2.St → Hp → Prop, (∀ σ' H', N σ' H' → ∃ m', m' < m ∧ W (i + 1) m' σ' H') ∧ ∀ x H', (ItE K a).yld i H x H' → g x σ H' fun σ2 H2 => tb { D with nx := N, ct := N, bk := D.nx } σ2 H2) := by
  refine ⟨fun i m σ H => m = xs.length - i ∧ i ≤ xs.length ∧ Pv i σ H, ⟨xs.length, rfl, Nat.zero_le _, h0⟩, ?_⟩
  rintro i m σ H ⟨rfl, hi, p⟩
  have q := hl i σ H hi p
  by_cases hlt : i < xs.length
  · refine .inr ⟨⟨xs, xs[i], q, List.getElem?_eq_getElem hlt⟩, Pv (i + 1), fun σ' H' p' => ⟨xs.length - (i + 1), by omega, rfl, hlt, p'⟩, fun x H' y => ?_⟩
    obtain ⟨T, z, rfl, hT, rfl, y⟩ := y
    exact hs i z σ H T (y xs q) p hT
  · obtain rfl : i = xs.length := by omega
    exact .inl ⟨⟨xs, q, rfl⟩, hd σ H p⟩
section
variable {X : Cx}
def rMinT (K : PySem.W.Frag) : List V → Hp → VK → Prop := fun vs H Q => ∃ (a : Addr) (ns : List Int), vs = [V.ref a] ∧ SqT K H a (ns.map V.int) ∧ 0 < ns.length ∧ ∀ m, m ∈ ns → (∀ y ∈ ns, m ≤ y) → Q (.int m) H
theorem cr_minT (hc : X.calm = true) : CallR X (.builtin "min") (rMinT X.K) := by
  intro pins s σ H vs us Q I r h
  obtain ⟨a, ns, rfl, hs, n0, q⟩ := h
  obtain ⟨its, rv, pt, _⟩ := I.tuple hs
  rw [Vals.ref1 r]
  have hi := rv.ints
  obtain ⟨xs, e⟩ := hi.allInts.items
  have hn : numsOf (intItems xs).toList = ns := by rw [← e]; exact hi.numsOf
  rw [nums_intItems] at hn
  subst hn
  have pt2 : s.heap.IsTuple a (intItems xs) := by rw [← e]; exact pt
  have len : 0 < xs.size := by simpa using n0
  refine min_tupI (I.ok.hd hc) pt2 len fun v h' tk hv keep => ?_
  obtain ⟨t, rfl⟩ := intItems_at hv
  obtain ⟨b1, b2⟩ := argBest_lt (numAt xs) (xs.size - 1)
  refine ⟨.int _, H, I.kept keep, ⟨_, rfl⟩, q _ ?_ fun y hy => ?_⟩
  · rw [numAt_eq]
    exact PySem.getD_mem (by rw [List.length_map, Array.length_toList]; omega)
  · obtain ⟨j, hj, rfl⟩ := mem_getD hy
    rw [List.length_map, Array.length_toList] at hj
    rw [← numAt_eq]
    exact b2 j (by omega)
end
end RG
end RGl
section RGm
/-! arrangements as maps of places: going on, the rounds' lengths -/
namespace RG
open PySem PySem.Spec PyProof.Rows L2
def goes (p : Nat → Nat) : Nat → Nat → Nat
  | 0, x => x
  | m + 1, x => p (goes p m x)
theorem goes_add (p : Nat → Nat) (a b x : Nat) : goes p (a + b) x = goes p a (goes p b x) := by
  induction a with
  | zero => rw [Nat.zero_add]; rfl
  | succ a ih => rw [Nat.succ_add]; show p _ = p _; rw [ih]
theorem goes_one (p : Nat → Nat) (x : Nat) : goes p 1 x = p x := rfl
theorem goes_next (p : Nat → Nat) (m x : Nat) : goes p (m + 1) x = goes p m (p x) := goes_add p m 1 x
theorem goes_mul (p : Nat → Nat) (a b x : Nat) : goes (goes p a) b x = goes p (b * a) x := by
  induction b with
  | zero => rw [Nat.zero_mul]; rfl
  | succ b ih =>
    show goes p a (goes (goes p a) b x) = _
    rw [ih, ← goes_add, Nat.succ_mul, Nat.add_comm]
structure IsP (n : Nat) (p : Nat → Nat) : Prop where
  lt : ∀ x, x < n → p x < n
  inj : ∀ x y, x < n → y < n → p x = p y → x = y
  sur : ∀ y, y < n → ∃ x, x < n ∧ p x = y
theorem IsP.id (n : Nat) : IsP n fun x => x := ⟨fun _ h => h, fun _ _ _ _ h => h, fun y h => ⟨y, h, rfl⟩⟩
theorem IsP.comp {n : Nat} {p q : Nat → Nat} (hp : IsP n p) (hq : IsP n q) : IsP n fun x => q (p x) := by
  refine ⟨fun x h => hq.lt _ (hp.lt x h), fun x y hx hy h => hp.inj x y hx hy (hq.inj _ _ (hp.lt x hx) (hp.lt y hy) h), fun y h => ?_⟩
  obtain ⟨z, h1, rfl⟩ := hq.sur y h
  obtain ⟨x, h2, rfl⟩ := hp.sur z h1
  exact ⟨x, h2, rfl⟩
theorem IsP.pow {n : Nat} {p : Nat → Nat} (hp : IsP n p) : ∀ m, IsP n (goes p m)
  | 0 => IsP.id n
  | m + 1 => (IsP.pow hp m).comp hp
theorem IsP.back {n : Nat} {p r : Nat → Nat} (hp : IsP n p) (h : ∀ k, k < n → r (p k) = k) : IsP n r := by
  refine ⟨fun y hy => ?_, fun x y hx hy e => ?_, fun y hy => ⟨p y, hp.lt y hy, h y hy⟩⟩
  · obtain ⟨x, hx, rfl⟩ := hp.sur y hy
    rw [h x hx]
    exact hx
  · obtain ⟨a, ha, rfl⟩ := hp.sur x hx
    obtain ⟨b, hb, rfl⟩ := hp.sur y hy
    rw [h a ha, h b hb] at e
    rw [e]
theorem IsP.same {n : Nat} {p q : Nat → Nat} (hp : IsP n p) (h : ∀ k, k < n → q k = p k) : IsP n q := by
  refine ⟨fun x hx => by rw [h x hx]; exact hp.lt x hx, fun x y hx hy e => hp.inj x y hx hy (by rw [← h x hx, ← h y hy]; exact e), fun y hy => ?_⟩
  obtain ⟨x, hx, e⟩ := hp.sur y hy
  exact ⟨x, hx, by rw [h x hx]; exact e⟩
theorem least {P : Nat → Prop} : ∀ m, P m → ∃ k, P k ∧ k ≤ m ∧ ∀ j, j < k → ¬ P j := by
  intro m
  induction m using Nat.strongRecOn with
  | _ m ih =>
    intro h
    by_cases e : ∃ j, j < m ∧ P j
    · obtain ⟨j, h1, h2⟩ := e
      obtain ⟨k, h3, h4, h5⟩ := ih j h1 h2
      exact ⟨k, h3, by omega, h5⟩
    · exact ⟨m, h, Nat.le_refl m, fun j hj q => e ⟨j, hj, q⟩⟩
/-- how long the round of x is -/
structure Len (p : Nat → Nat) (n x m : Nat) : Prop where
  pos : 0 < m
  le : m ≤ n
  home : goes p m x = x
  first : ∀ j, 0 < j → j < m → goes p j x ≠ x
theorem IsP.len {n : Nat} {p : Nat → Nat} (hp : IsP n p) {x : Nat} (hx : x < n) : ∃ m, Len p n x m := by
  have ex : ∃ m, 0 < m ∧ m ≤ n ∧ goes p m x = x := by
    refine Classical.byContradiction fun no => ?_
    have nd : ((List.range (n + 1)).map fun k => goes p k x).Nodup := by
      unfold List.Nodup
      rw [List.pairwise_map]
      have rg : (List.range (n + 1)).Pairwise fun a b => a < b ∧ b < n + 1 := by
        refine (List.pairwise_iff_getElem).mpr fun i j hi hj hij => ?_
        rw [List.getElem_range, List.getElem_range]
        rw [List.length_range] at hj
        exact ⟨hij, hj⟩
      refine rg.imp fun {a b} h => ?_
      intro e
      refine no ⟨b - a, by omega, by omega, ?_⟩
      have e2 : goes p a (goes p (b - a) x) = goes p a x := by
        rw [← goes_add, show a + (b - a) = b by omega]
        exact e.symm
      exact (hp.pow a).inj _ _ ((hp.pow (b - a)).lt x hx) hx e2
    have le := nd.length_le_of_subset (l₂ := List.range n) fun y hy => by
      obtain ⟨k, _, rfl⟩ := List.mem_map.mp hy
      exact List.mem_range.mpr ((hp.pow k).lt x hx)
    rw [List.length_map, List.length_range, List.length_range] at le
    omega
  obtain ⟨m, h1, h2, h3⟩ := ex
  obtain ⟨k, ⟨h4, h5⟩, h6, h7⟩ := least (P := fun m => 0 < m ∧ goes p m x = x) m ⟨h1, h3⟩
  exact ⟨k, h4, by omega, h5, fun j j0 jk e => h7 j jk ⟨j0, e⟩⟩
theorem goes_home {p : Nat → Nat} {m x : Nat} (h : goes p m x = x) : ∀ k, goes p (k * m) x = x
  | 0 => by rw [Nat.zero_mul]; rfl
  | k + 1 => by rw [Nat.succ_mul, goes_add, h, goes_home h k]
theorem goes_rest {p : Nat → Nat} {m x : Nat} (h : goes p m x = x) (a : Nat) : goes p a x = goes p (a % m) x := by
  have e := Nat.mod_add_div a m
  rw [show goes p a x = goes p (a % m + a / m * m) x by rw [Nat.mul_comm (a / m) m, e], goes_add, goes_home h]
/-- all rounds' lengths go into this -/
def whole12 : Nat := 27720
theorem goes_whole {n : Nat} {p : Nat → Nat} (hp : IsP n p) (h : n ≤ 12) {x : Nat} (hx : x < n) : goes p whole12 x = x := by
  obtain ⟨m, L⟩ := hp.len hx
  have d : whole12 % m = 0 := by
    have h1 := L.pos
    have h2 := L.le
    have : ∀ k, k < 13 → 0 < k → whole12 % k = 0 := by decide
    exact this m (by omega) h1
  rw [goes_rest L.home, d]
  rfl
/-- a whole number of times, as a number of steps -/
def tw (t : Int) : Nat := (t % 27720).toNat
theorem tw_lt (t : Int) : tw t < 27720 := by
  unfold tw
  omega
theorem tw_eq {n : Nat} {p : Nat → Nat} (hp : IsP n p) (h : n ≤ 12) {x : Nat} (hx : x < n) {a : Nat} {t : Int} (e : ((a : Int) - t) % 27720 = 0) : goes p a x = goes p (tw t) x := by
  rw [goes_rest (goes_whole hp h hx) a]
  unfold whole12 tw
  congr 1
  omega
theorem tw_add {n : Nat} {p : Nat → Nat} (hp : IsP n p) (h : n ≤ 12) {x : Nat} (hx : x < n) (s t : Int) : goes p (tw s) (goes p (tw t) x) = goes p (tw (s + t)) x := by
  rw [← goes_add]
  refine tw_eq hp h hx ?_
  unfold tw
  omega
theorem tw_mul {n : Nat} {p : Nat → Nat} (hp : IsP n p) (h : n ≤ 12) {x : Nat} (hx : x < n) (s t : Int) : goes (goes p (tw s)) (tw t) x = goes p (tw (s * t)) x := by
  rw [goes_mul]
  refine tw_eq hp h hx ?_
  have e1 : ((tw s : Nat) : Int) = s % 27720 := by unfold tw; omega
  have e2 : ((tw t : Nat) : Int) = t % 27720 := by unfold tw; omega
  rw [Int.natCast_mul, e1, e2, Int.mul_comm s t, Int.sub_emod, ← Int.mul_emod, Int.sub_self]
  rfl
/-- the numbers of a map of places -/
def arV (p : Nat → Nat) (n : Nat) : List V := (List.range n).map fun k => V.int ((p k : Nat) : Int)
theorem arV_len (p : Nat → Nat) (n : Nat) : (arV p n).length = n := by
  unfold arV
  rw [List.length_map, List.length_range]
theorem arV_get {p : Nat → Nat} {n k : Nat} (h : k < n) : (arV p n)[k]? = some (V.int ((p k : Nat) : Int)) := by
  unfold arV
  rw [List.getElem?_map, List.getElem?_range h]
  rfl
theorem arV_at {p : Nat → Nat} {n k : Nat} (h : k < n) : atI (arV p n) ((k : Nat) : Int) = some (V.int ((p k : Nat) : Int)) := atI_nat (arV_get h)
theorem arV_congr {p q : Nat → Nat} {n : Nat} (h : ∀ k, k < n → p k = q k) : arV p n = arV q n := by
  unfold arV
  refine List.map_congr_left fun k hk => ?_
  rw [h k (List.mem_range.mp hk)]
def arI (p : Nat → Nat) (n : Nat) : List Int := (List.range n).map fun k => ((p k : Nat) : Int)
theorem arV_ints (p : Nat → Nat) (n : Nat) : arV p n = (arI p n).map V.int := by
  unfold arV arI
  rw [List.map_map]
  rfl
theorem arI_len (p : Nat → Nat) (n : Nat) : (arI p n).length = n := by
  unfold arI
  rw [List.length_map, List.length_range]
theorem arI_inj {p q : Nat → Nat} {n : Nat} : arI p n = arI q n ↔ ∀ k, k < n → p k = q k := by
  constructor
  · intro h k hk
    have e : (arI p n)[k]? = (arI q n)[k]? := by rw [h]
    unfold arI at e
    rw [List.getElem?_map, List.getElem?_map, List.getElem?_range hk] at e
    have e2 : ((p k : Nat) : Int) = ((q k : Nat) : Int) := by simpa using e
    omega
  · intro h
    unfold arI
    refine List.map_congr_left fun k hk => ?_
    rw [h k (List.mem_range.mp hk)]
theorem arV_id (n : Nat) : rgV 0 (n : Int) = arV (fun k => k) n := by
  rw [rg_places]
  unfold places arV
  rw [List.map_map]
  rfl
/-- an arrangement's numbers are those of a map -/
theorem perm_ar {ks : List Int} {n : Nat} (h : ks.Perm (places n)) : ∃ p, ks.map V.int = arV p n ∧ IsP n p := by
  have hl : ks.length = n := by rw [h.length_eq, places_len]
  have get : ∀ k, k < n → ∃ j : Nat, j < n ∧ ks[k]? = some ((j : Nat) : Int) := fun k hk => by
    have h1 : k < ks.length := by omega
    have h2 : ks[k] ∈ places n := h.mem_iff.mp (List.getElem_mem h1)
    obtain ⟨j, h3, h4⟩ := List.mem_map.mp h2
    exact ⟨j, List.mem_range.mp h3, by rw [List.getElem?_eq_getElem h1, h4]⟩
  have pt : ∀ k, k < n → ks[k]? = some (((ks.getD k 0).toNat : Nat) : Int) ∧ (ks.getD k 0).toNat < n := fun k hk => by
    obtain ⟨j, h1, h2⟩ := get k hk
    have : ks.getD k 0 = (j : Int) := by rw [List.getD_eq_getElem?_getD, h2]; rfl
    rw [this, Int.toNat_natCast]
    exact ⟨h2, h1⟩
  have nd : ks.Nodup := h.nodup_iff.mpr (by
    unfold places List.Nodup
    rw [List.pairwise_map]
    exact List.nodup_range.imp fun h e => h (by omega))
  refine ⟨fun k => (ks.getD k 0).toNat, ?_, fun k hk => (pt k hk).2, fun a b ha hb e => ?_, fun y hy => ?_⟩
  · refine List.ext_getElem? fun k => ?_
    by_cases hk : k < n
    · rw [arV_get hk, List.getElem?_map, (pt k hk).1]
      rfl
    · rw [List.getElem?_eq_none (by rw [List.length_map]; omega), List.getElem?_eq_none (by rw [arV_len]; omega)]
  · have e1 := (pt a ha).1
    have e2 := (pt b hb).1
    have e' : (ks.getD a 0).toNat = (ks.getD b 0).toNat := e
    rw [e', ← e2] at e1
    exact (List.getElem?_inj (by omega) nd).mp e1
  · have h1 : ((y : Nat) : Int) ∈ ks := h.mem_iff.mpr (List.mem_map.mpr ⟨y, List.mem_range.mpr hy, rfl⟩)
    obtain ⟨k, hk, e⟩ := List.getElem_of_mem h1
    have hk2 : k < n := by omega
    refine ⟨k, hk2, ?_⟩
    have e2 := (pt k hk2).1
    rw [List.getElem?_eq_getElem hk, e] at e2
    have := Option.some.inj e2
    show (ks.getD k 0).toNat = y
    omega
end RG
end RGm
section RGn
/-! the rounds of an arrangement, by their least places -/
namespace RG
open PySem PySem.Spec PyProof.Rows L2
def rLenTS (K : PySem.W.Frag) : List V → Hp → VK → Prop := fun xs H Q => ∃ p ys, xs = [V.ref p] ∧ (SqL K H p ys ∨ SqT K H p ys) ∧ Q (V.int (ys.length : Nat)) H
theorem cr_lenTS {X : Cx} : CallR X (.builtin "len") (rLenTS X.K) := call_len_seq
/-- a tuple stands where a list is written anew -/
theorem sqt_put {K : PySem.W.Frag} {G : Hp} {D q : Addr} {xs ys zs : List V} (hd : G D = some (.lst xs)) (h : SqT K G q ys) : SqT K (upd G D (.lst zs)) q ys := by
  rcases h with z | z
  · refine .inl ?_
    rcases z with z | ⟨ob, z⟩
    · refine .inl ?_
      rw [upd_ne (ne_of z hd (fun e => nomatch e))]
      exact z
    · refine .inr ⟨ob, ?_⟩
      rw [upd_ne (ne_of z hd (fun e => nomatch e))]
      exact z
  · exact .inr z
theorem paired_at {α β : Type} {F : α → β → Prop} : ∀ {xs : List α} {ys : List β} {i : Nat} {x : α}, Paired F xs ys → xs[i]? = some x → ∃ y, ys[i]? = some y ∧ F x y
  | _, _, _, _, .nil, h => by simp at h
  | _, _, 0, _, .cons f _, h => by
    simp at h
    subst h
    exact ⟨_, rfl, f⟩
  | _, _, i + 1, _, .cons _ t, h => by
    obtain ⟨y, h1, h2⟩ := paired_at (i := i) t (by simpa using h)
    exact ⟨y, by simpa using h1, h2⟩
theorem paired_len {α β : Type} {F : α → β → Prop} : ∀ {xs : List α} {ys : List β}, Paired F xs ys → xs.length = ys.length
  | _, _, .nil => rfl
  | _, _, .cons _ t => congrArg Nat.succ (paired_len t)
theorem yes_ {k : Bool → Hp → Prop} {σ : L2.St} {H : Hp} (h : k true H) : tYes σ H k := h
theorem iteT' {b : Bool} {A B : Prop} (e : b = true) (h : A) : if b = true then A else B := by
  rw [if_pos e]
  exact h
theorem iteF' {b : Bool} {A B : Prop} (e : b = false) (h : B) : if b = true then A else B := by
  rw [e]
  exact iteF h
theorem Len.uniq {p : Nat → Nat} {n x a b : Nat} (h : Len p n x a) (g : Len p n x b) : a = b := by
  rcases Nat.lt_trichotomy a b with e | e | e
  · exact absurd h.home (g.first a h.pos e)
  · exact e
  · exact absurd g.home (h.first b g.pos e)
open Classical in
noncomputable def lenOf (p : Nat → Nat) (n x : Nat) : Nat := if h : ∃ m, Len p n x m then Classical.choose h else 0
theorem IsP.lenOf {n : Nat} {p : Nat → Nat} (hp : IsP n p) {x : Nat} (hx : x < n) : Len p n x (lenOf p n x) := by
  unfold RG.lenOf
  rw [dif_pos (hp.len hx)]
  exact Classical.choose_spec (hp.len hx)
theorem Len.is {p : Nat → Nat} {n x m : Nat} (h : Len p n x m) : RG.lenOf p n x = m := by
  have e : ∃ m, Len p n x m := ⟨m, h⟩
  unfold RG.lenOf
  rw [dif_pos e]
  exact (Classical.choose_spec e).uniq h
/-- a round is told from here on -/
def headB (p : Nat → Nat) (s m : Nat) : Bool := decide (1 < m) && decide (∀ j, j < m → s ≤ goes p j s)
theorem headB_iff {p : Nat → Nat} {s m : Nat} : headB p s m = true ↔ 1 < m ∧ ∀ j, j < m → s ≤ goes p j s := by
  unfold headB
  rw [Bool.and_eq_true, decide_eq_true_eq, decide_eq_true_eq]
noncomputable def heads (p : Nat → Nat) (n : Nat) : List Nat := (List.range n).filter fun s => headB p s (lenOf p n s)
theorem heads_mem {p : Nat → Nat} {n s : Nat} : s ∈ heads p n ↔ s < n ∧ 1 < lenOf p n s ∧ ∀ j, j < lenOf p n s → s ≤ goes p j s := by
  unfold heads
  rw [List.mem_filter, List.mem_range, headB_iff]
theorem heads_cover {n : Nat} {p : Nat → Nat} (hp : IsP n p) {x : Nat} (hx : x < n) (h : p x ≠ x) : ∃ s, s ∈ heads p n ∧ ∃ j, j < lenOf p n s ∧ goes p j s = x := by
  obtain ⟨m, M⟩ := hp.len hx
  obtain ⟨s, ⟨a, ha, hs⟩, _, lo⟩ := least (P := fun v => ∃ a, a < m ∧ goes p a x = v) x ⟨0, M.pos, rfl⟩
  have low : ∀ b, b < m → s ≤ goes p b x := fun b hb => Nat.le_of_not_lt fun q => lo _ q ⟨b, hb, rfl⟩
  have hsn : s < n := by rw [← hs]; exact (hp.pow a).lt x hx
  have L := hp.lenOf hsn
  have back : goes p (m - a) s = x := by rw [← hs, ← goes_add, show m - a + a = m by omega]; exact M.home
  refine ⟨s, heads_mem.mpr ⟨hsn, ?_, fun j _ => ?_⟩, (m - a) % lenOf p n s, Nat.mod_lt _ L.pos, ?_⟩
  · refine Nat.lt_of_not_le fun q => h ?_
    have one : lenOf p n s = 1 := by
      have := L.pos
      omega
    have fix := L.home
    rw [one] at fix
    have all := goes_home fix (m - a)
    rw [Nat.mul_one, back] at all
    rw [all]
    exact fix
  · have e : goes p j s = goes p ((j + a) % m) x := by rw [← goes_rest M.home, goes_add, hs]
    rw [e]
    exact low _ (Nat.mod_lt _ M.pos)
  · rw [← goes_rest L.home]
    exact back
/-- going on along a round: where the place at j comes to -/
theorem ring_turn {n : Nat} {p : Nat → Nat} (hp : IsP n p) (h : n ≤ 12) {s m j : Nat} (hs : s < n) (L : Len p n s m) (t : Int) : goes p (((j : Int) + t) % (m : Int)).toNat s = goes p (tw t) (goes p j s) := by
  have d : (m : Int) ∣ 27720 := by
    have h1 := L.pos
    have h2 := L.le
    have all : ∀ k : Nat, k < 13 → 0 < k → ((k : Nat) : Int) ∣ 27720 := by decide
    exact all m (by omega) h1
  have m0 : (m : Int) ≠ 0 := by
    have := L.pos
    omega
  rw [← goes_add, goes_rest L.home (tw t + j)]
  congr 1
  have e1 : ((tw t : Nat) : Int) = t % 27720 := by
    unfold tw
    omega
  have e2 : (((tw t + j) % m : Nat) : Int) = ((j : Int) + t) % (m : Int) := by
    rw [Int.natCast_emod, Int.natCast_add, e1, Int.add_emod, Int.emod_emod_of_dvd t d, ← Int.add_emod, Int.add_comm]
  rw [← e2, Int.toNat_natCast]
/-! a comprehension over enumerate(a list) -/
theorem lc_enumL {K : PySem.W.Frag} {a : Addr} {xs : List V} {g : TG} {tt : TT} {te : TE} {vs : List Nat} {σ : L2.St} {H1 : Hp} {D : Addr} {Qd : Hp → Prop} (Pv : Nat → Hp → Prop) (h0 : Pv 0 (upd H1 D (.lst []))) (hl : ∀ i H, i ≤ xs.length → Pv i H → SqL K H a xs)
    (hs : ∀ i x H T, xs[i]? = some x → Pv i H → H T = none → g (.ref T) (wipe σ vs) (upd H T (.tup [.int (i : Nat), x])) fun σ2 H2 => wipe σ2 vs = wipe σ vs ∧ tt σ2 H2 fun b H3 =>
      if b = true then te σ2 H3 fun y H4 => ∃ acc, H4 D = some (.lst acc) ∧ acc.length < sizeLine ∧ Pv (i + 1) (upd H4 D (.lst (acc ++ [y]))) else Pv (i + 1) H3) (hd : ∀ H, Pv xs.length H → Qd H) :
    ∃ W : Nat → Nat → Hp → Prop, (∃ m, W 0 m (upd H1 D (.lst []))) ∧ ∀ i m H, W i m H →
      ((Ite K a).stop i H ∧ Qd H) ∨ ((Ite K a).go i H ∧ ∃ Nx : Hp → Prop, (∀ H', Nx H' → ∃ m', m' < m ∧ W (i + 1) m' H') ∧ ∀ x H', (Ite K a).yld i H x H' → g x (wipe σ vs) H' fun σ2 H2 => wipe σ2 vs = wipe σ vs ∧ tt σ2 H2 fun b H3 =>
        if b = true then te σ2 H3 fun y H4 => ∃ acc, H4 D = some (.lst acc) ∧ acc.length < sizeLine ∧ Nx (upd H4 D (.lst (acc ++ [y]))) else Nx H3) := by
  refine ⟨fun i m H => m = xs.length - i ∧ i ≤ xs.length ∧ Pv i H, ⟨xs.length, rfl, Nat.zero_le _, h0⟩, ?_⟩
  rintro i m H ⟨rfl, hi, p⟩
  have q := hl i H hi p
  by_cases hlt : i < xs.length
  · refine .inr ⟨⟨xs, xs[i], q, List.getElem?_eq_getElem hlt⟩, Pv (i + 1), fun H' p' => ⟨xs.length - (i + 1), by omega, rfl, hlt, p'⟩, fun x H' y => ?_⟩
    obtain ⟨T, z, rfl, hT, rfl, y⟩ := y
    exact hs i z H T (y xs q) p hT
  · obtain rfl : i = xs.length := by omega
    exact .inl ⟨⟨xs, q, Nat.le_refl _⟩, hd H p⟩
end RG
end RGn
section RGo
/-! whether an arrangement is even: pairs that stand the other way about, and rounds -/
namespace RG
open PySem PySem.Spec PyProof.Rows L2
def xorL : List Bool → Bool
  | [] => false
  | b :: bs => b.xor (xorL bs)
theorem xorL_append : ∀ as bs : List Bool, xorL (as ++ bs) = (xorL as).xor (xorL bs)
  | [], bs => by simp [xorL]
  | a :: as, bs => by
    show a.xor (xorL (as ++ bs)) = (a.xor (xorL as)).xor (xorL bs)
    rw [xorL_append as bs, Bool.xor_assoc]
theorem xorL_perm {as bs : List Bool} (h : as.Perm bs) : xorL as = xorL bs := by
  induction h with
  | nil => rfl
  | cons x _ ih =>
    show x.xor _ = x.xor _
    rw [ih]
  | swap x y l =>
    show y.xor (x.xor _) = x.xor (y.xor _)
    rw [← Bool.xor_assoc, ← Bool.xor_assoc, Bool.xor_comm y x]
  | trans _ _ h1 h2 => rw [h1, h2]
theorem xorL_two {α : Type} (f g : α → Bool) : ∀ xs : List α, xorL (xs.map fun x => (f x).xor (g x)) = (xorL (xs.map f)).xor (xorL (xs.map g))
  | [] => rfl
  | x :: xs => by
    show ((f x).xor (g x)).xor (xorL (xs.map fun x => (f x).xor (g x))) = ((f x).xor (xorL (xs.map f))).xor ((g x).xor (xorL (xs.map g)))
    rw [xorL_two f g xs]
    cases f x <;> cases g x <;> cases xorL (xs.map f) <;> cases xorL (xs.map g) <;> rfl
theorem xorL_none {α : Type} {f : α → Bool} : ∀ {xs : List α}, (∀ x ∈ xs, f x = false) → xorL (xs.map f) = false
  | [], _ => rfl
  | x :: xs, h => by
    show (f x).xor (xorL (xs.map f)) = false
    rw [h x List.mem_cons_self, xorL_none fun y hy => h y (List.mem_cons_of_mem _ hy)]
    rfl
theorem fewer {α : Type} [DecidableEq α] : ∀ ns : List α, ¬ ns.Nodup → ∃ ps : List α, ps.length + 1 ≤ ns.length ∧ ∀ k ∈ ns, k ∈ ps
  | [], h => absurd List.nodup_nil h
  | n :: ns, h => by
    by_cases e : n ∈ ns
    · refine ⟨ns, Nat.le_refl _, fun k hk => ?_⟩
      rcases List.mem_cons.mp hk with rfl | hk
      · exact e
      · exact hk
    · have h2 : ¬ ns.Nodup := fun q => h (List.nodup_cons.mpr ⟨e, q⟩)
      obtain ⟨ps, h3, h4⟩ := fewer ns h2
      refine ⟨n :: ps, by simp only [List.length_cons]; omega, fun k hk => ?_⟩
      rcases List.mem_cons.mp hk with rfl | hk
      · exact List.mem_cons_self
      · exact List.mem_cons_of_mem _ (h4 k hk)
/-- a map of a list onto itself -/
theorem perm_onto {α : Type} [DecidableEq α] {l m : List α} (hl : l.Nodup) (len : m.length = l.length) (sub : ∀ x ∈ l, x ∈ m) (back : ∀ x ∈ m, x ∈ l) : m.Perm l := by
  have hm : m.Nodup := Decidable.byContradiction fun no => by
    obtain ⟨ps, h1, h2⟩ := fewer m no
    have := hl.length_le_of_subset fun x hx => h2 x (sub x hx)
    omega
  exact (List.perm_ext_iff_of_nodup hm hl).mpr fun x => ⟨back x, sub x⟩
/-- all i < j < n -/
def pairsTo (n : Nat) : List (Nat × Nat) := (List.range n).flatMap fun j => (List.range j).map fun i => (i, j)
theorem pairs_mem {n : Nat} {x : Nat × Nat} : x ∈ pairsTo n ↔ x.1 < x.2 ∧ x.2 < n := by
  obtain ⟨i, j⟩ := x
  unfold pairsTo
  simp only [List.mem_flatMap, List.mem_range, List.mem_map, Prod.mk.injEq]
  constructor
  · rintro ⟨b, hb, a, ha, rfl, rfl⟩
    exact ⟨ha, hb⟩
  · rintro ⟨h1, h2⟩
    exact ⟨j, h2, i, h1, rfl, rfl⟩
theorem pairs_nodup (n : Nat) : (pairsTo n).Nodup := by
  induction n with
  | zero => exact List.nodup_nil
  | succ n ih =>
    have e : pairsTo (n + 1) = pairsTo n ++ (List.range n).map fun i => (i, n) := by
      unfold pairsTo
      rw [List.range_succ, List.flatMap_append]
      simp
    rw [e]
    refine List.nodup_append.mpr ⟨ih, ?_, fun x hx y hy e2 => ?_⟩
    · unfold List.Nodup
      rw [List.pairwise_map]
      exact List.nodup_range.imp fun h e3 => h (Prod.mk.inj e3).1
    · subst e2
      have h1 := pairs_mem.mp hx
      obtain ⟨i, _, rfl⟩ := List.mem_map.mp hy
      exact Nat.lt_irrefl _ h1.2
/-- odd: how many pairs stand the other way about -/
def sg (p : Nat → Nat) (n : Nat) : Bool := xorL ((pairsTo n).map fun x => decide (p x.2 < p x.1))
theorem sg_congr {p q : Nat → Nat} {n : Nat} (h : ∀ k, k < n → p k = q k) : sg p n = sg q n := by
  unfold sg
  congr 1
  refine List.map_congr_left fun x hx => ?_
  have := pairs_mem.mp hx
  rw [h x.1 (by omega), h x.2 (by omega)]
theorem sg_id (n : Nat) : sg (fun x => x) n = false := xorL_none fun x hx => by
  have := pairs_mem.mp hx
  exact decide_eq_false (show ¬ x.2 < x.1 by omega)
/-- where a pair comes to, in order -/
def pairAt (p : Nat → Nat) (x : Nat × Nat) : Nat × Nat := if p x.1 < p x.2 then (p x.1, p x.2) else (p x.2, p x.1)
theorem pairs_onto {n : Nat} {p : Nat → Nat} (hp : IsP n p) : ((pairsTo n).map (pairAt p)).Perm (pairsTo n) := by
  refine perm_onto (pairs_nodup n) (by rw [List.length_map]) (fun y hy => ?_) fun y hy => ?_
  · obtain ⟨h1, h2⟩ := pairs_mem.mp hy
    obtain ⟨a, ha, ea⟩ := hp.sur y.1 (by omega)
    obtain ⟨b, hb, eb⟩ := hp.sur y.2 h2
    have ne : a ≠ b := fun e => by
      rw [e, eb] at ea
      omega
    rcases Nat.lt_or_gt_of_ne ne with lt | gt
    · refine List.mem_map.mpr ⟨(a, b), pairs_mem.mpr ⟨lt, hb⟩, ?_⟩
      unfold pairAt
      simp only [ea, eb]
      rw [if_pos h1]
    · refine List.mem_map.mpr ⟨(b, a), pairs_mem.mpr ⟨gt, ha⟩, ?_⟩
      unfold pairAt
      simp only [ea, eb]
      rw [if_neg (by omega)]
  · obtain ⟨x, hx, rfl⟩ := List.mem_map.mp hy
    obtain ⟨h1, h2⟩ := pairs_mem.mp hx
    have l1 := hp.lt x.1 (by omega)
    have l2 := hp.lt x.2 h2
    refine pairs_mem.mpr ?_
    unfold pairAt
    by_cases lt : p x.1 < p x.2
    · rw [if_pos lt]
      exact ⟨lt, l2⟩
    · rw [if_neg lt]
      refine ⟨?_, l1⟩
      have ne : p x.1 ≠ p x.2 := fun e => by
        have := hp.inj x.1 x.2 (by omega) h2 e
        omega
      show p x.2 < p x.1
      omega
theorem sg_comp {n : Nat} {p q : Nat → Nat} (hp : IsP n p) (hq : IsP n q) : sg (fun x => q (p x)) n = (sg p n).xor (sg q n) := by
  have e : sg q n = xorL ((pairsTo n).map fun x => decide (q (pairAt p x).2 < q (pairAt p x).1)) := by
    unfold sg
    rw [← xorL_perm ((pairs_onto hp).map fun x => decide (q x.2 < q x.1)), List.map_map]
    rfl
  rw [e]
  unfold sg
  rw [← xorL_two]
  congr 1
  refine List.map_congr_left fun x hx => ?_
  obtain ⟨h1, h2⟩ := pairs_mem.mp hx
  have ne : p x.1 ≠ p x.2 := fun e => by
    have := hp.inj x.1 x.2 (by omega) h2 e
    omega
  have ne2 : q (p x.1) ≠ q (p x.2) := fun e => ne (hq.inj _ _ (hp.lt x.1 (by omega)) (hp.lt x.2 h2) e)
  unfold pairAt
  by_cases lt : p x.1 < p x.2
  · rw [if_pos lt, decide_eq_false (show ¬ p x.2 < p x.1 by omega), Bool.false_xor]
  · rw [if_neg lt, decide_eq_true (show p x.2 < p x.1 by omega), Bool.true_xor]
    by_cases lq : q (p x.2) < q (p x.1)
    · rw [decide_eq_true lq, decide_eq_false (show ¬ q (p x.1) < q (p x.2) by omega)]
      rfl
    · rw [decide_eq_false lq, decide_eq_true (show q (p x.1) < q (p x.2) by omega)]
      rfl
theorem sg_back {n : Nat} {p r : Nat → Nat} (hp : IsP n p) (h : ∀ k, k < n → r (p k) = k) : sg r n = sg p n := by
  have e := sg_comp hp (hp.back h)
  rw [sg_congr (q := fun x => x) h, sg_id] at e
  cases h1 : sg p n <;> cases h2 : sg r n <;> rw [h1, h2] at e <;> first | rfl | cases e
/-! exchanges -/
def sw (a b : Nat) (x : Nat) : Nat := if x = a then b else if x = b then a else x
theorem sw_is {n a b : Nat} (ha : a < n) (hb : b < n) : IsP n (sw a b) := by
  have two : ∀ x, sw a b (sw a b x) = x := fun x => by
    unfold sw
    by_cases h1 : x = a
    · by_cases h2 : b = a
      · simp [h1, h2]
      · simp [h1, h2]
    · by_cases h2 : x = b
      · simp [h2]
      · simp [h1, h2]
  have lt : ∀ x, x < n → sw a b x < n := fun x hx => by
    unfold sw
    split
    · exact hb
    · split
      · exact ha
      · exact hx
  exact ⟨lt, fun x y _ _ e => by rw [← two x, ← two y, e], fun y hy => ⟨sw a b y, lt y hy, two y⟩⟩
theorem sw_comm (a b x : Nat) : sw a b x = sw b a x := by
  unfold sw
  by_cases h1 : x = a
  · rw [if_pos h1]
    by_cases h2 : x = b
    · rw [if_pos h2]
      omega
    · rw [if_neg h2, if_pos h1]
  · rw [if_neg h1, if_neg h1]
theorem sw_odd0 : ∀ n, n < 13 → ∀ b, b < n → ∀ a, a < b → sg (sw a b) n = true := by decide +kernel
theorem sw_odd {n a b : Nat} (h : n ≤ 12) (ha : a < n) (hb : b < n) (ne : a ≠ b) : sg (sw a b) n = true := by
  rcases Nat.lt_or_gt_of_ne ne with lt | gt
  · exact sw_odd0 n (by omega) b hb a lt
  · rw [sg_congr (q := sw b a) fun k _ => sw_comm a b k]
    exact sw_odd0 n (by omega) a ha b gt
/-! a round, exchange by exchange -/
/-- the first places of a round moved on, the last of them to the first -/
def cyc (g : Nat → Nat) : Nat → Nat → Nat
  | 0, x => x
  | k + 1, x => cyc g k (sw (g k) (g (k + 1)) x)
theorem cyc_is {n : Nat} {g : Nat → Nat} (h : ∀ j, g j < n) : ∀ k, IsP n (cyc g k)
  | 0 => IsP.id n
  | k + 1 => (sw_is (h k) (h (k + 1))).comp (cyc_is h k)
theorem cyc_odd {n : Nat} {g : Nat → Nat} (n12 : n ≤ 12) (h : ∀ j, g j < n) (L : Nat) (ne : ∀ i j, i < L → j < L → g i = g j → i = j) : ∀ k, k < L → sg (cyc g k) n = decide (k % 2 = 1)
  | 0, _ => sg_id n
  | k + 1, hk => by
    have e := sg_comp (sw_is (h k) (h (k + 1))) (cyc_is h k)
    have o := sw_odd n12 (h k) (h (k + 1)) (fun e => by
      have := ne k (k + 1) (by omega) hk e
      omega)
    rw [o, cyc_odd n12 h L ne k (by omega), Bool.true_xor] at e
    show sg (fun x => cyc g k (sw (g k) (g (k + 1)) x)) n = _
    rw [e]
    by_cases hk2 : k % 2 = 1
    · rw [decide_eq_true hk2, decide_eq_false (by omega)]
      rfl
    · rw [decide_eq_false hk2, decide_eq_true (by omega)]
      rfl
/-- what it does -/
theorem cyc_at {g : Nat → Nat} (L : Nat) (ne : ∀ i j, i < L → j < L → g i = g j → i = j) : ∀ k, k < L → (∀ j, j < k → cyc g k (g j) = g (j + 1)) ∧ cyc g k (g k) = g 0 ∧ ∀ x, (∀ j, j ≤ k → x ≠ g j) → cyc g k x = x
  | 0, _ => ⟨fun j hj => absurd hj (Nat.not_lt_zero j), rfl, fun _ _ => rfl⟩
  | k + 1, hk => by
    obtain ⟨h1, h2, h3⟩ := cyc_at L ne k (by omega)
    have nk : ∀ j, j < L → j ≠ k → g j ≠ g k := fun j hj n1 e => n1 (ne j k hj (by omega) e)
    have nk1 : ∀ j, j < L → j ≠ k + 1 → g j ≠ g (k + 1) := fun j hj n1 e => n1 (ne j (k + 1) hj hk e)
    refine ⟨fun j hj => ?_, ?_, fun x hx => ?_⟩
    · show cyc g k (sw (g k) (g (k + 1)) (g j)) = _
      unfold sw
      by_cases e : j = k
      · subst e
        rw [if_pos rfl]
        exact h3 _ fun i hi => (nk1 i (by omega) (by omega)).symm
      · rw [if_neg (nk j (by omega) e), if_neg (nk1 j (by omega) (by omega))]
        exact h1 j (by omega)
    · show cyc g k (sw (g k) (g (k + 1)) (g (k + 1))) = _
      unfold sw
      rw [if_neg (nk (k + 1) hk (by omega)), if_pos rfl]
      exact h2
    · show cyc g k (sw (g k) (g (k + 1)) x) = _
      unfold sw
      rw [if_neg (hx k (by omega)), if_neg (hx (k + 1) (Nat.le_refl _))]
      exact h3 x fun j hj => hx j (by omega)
/-- the places of a round -/
def InRing (p : Nat → Nat) (n s x : Nat) : Prop := ∃ j, j < lenOf p n s ∧ goes p j s = x
theorem ring_ne {n : Nat} {p : Nat → Nat} (hp : IsP n p) {s m : Nat} (hs : s < n) (L : Len p n s m) : ∀ i j, i < m → j < m → goes p i s = goes p j s → i = j := by
  have half : ∀ i j, i < j → j < m → goes p i s ≠ goes p j s := fun i j hij hj e => by
    have e2 : goes p i (goes p (j - i) s) = goes p i s := by
      rw [← goes_add, show i + (j - i) = j by omega]
      exact e.symm
    exact L.first (j - i) (by omega) (by omega) ((hp.pow i).inj _ _ ((hp.pow (j - i)).lt s hs) hs e2)
  intro i j hi hj e
  rcases Nat.lt_trichotomy i j with h | h | h
  · exact absurd e (half i j h hj)
  · exact h
  · exact absurd e.symm (half j i h hi)
/-- another head's round has none of its places -/
theorem ring_apart {n : Nat} {p : Nat → Nat} (hp : IsP n p) {s t x : Nat} (hs : s ∈ heads p n) (ht : t ∈ heads p n) (h1 : InRing p n s x) (h2 : InRing p n t x) : s = t := by
  have half : ∀ {s t x : Nat}, s ∈ heads p n → t ∈ heads p n → InRing p n s x → InRing p n t x → s ≤ t := fun {s t x} hs ht h1 h2 => by
    obtain ⟨h3, h4, h5⟩ := heads_mem.mp hs
    obtain ⟨g3, _, _⟩ := heads_mem.mp ht
    obtain ⟨i, hi, ei⟩ := h1
    obtain ⟨j, hj, ej⟩ := h2
    have Ls := hp.lenOf h3
    have Lt := hp.lenOf g3
    have e : t = goes p (lenOf p n t - j + i) s := by
      rw [goes_add, ei, ← ej, ← goes_add, show lenOf p n t - j + j = lenOf p n t by omega, Lt.home]
    have e2 := goes_rest Ls.home (lenOf p n t - j + i)
    have := h5 _ (Nat.mod_lt (lenOf p n t - j + i) Ls.pos)
    omega
  exact Nat.le_antisymm (half hs ht h1 h2) (half ht hs h2 h1)
/-- the rounds of these heads, one after the other -/
noncomputable def byRings (p : Nat → Nat) (n : Nat) : List Nat → Nat → Nat
  | [], x => x
  | s :: ss, x => byRings p n ss (cyc (fun j => goes p j s) (lenOf p n s - 1) x)
theorem ring_moves {n : Nat} {p : Nat → Nat} (hp : IsP n p) {s : Nat} (hs : s < n) (x : Nat) : (InRing p n s x → cyc (fun j => goes p j s) (lenOf p n s - 1) x = p x) ∧ (¬ InRing p n s x → cyc (fun j => goes p j s) (lenOf p n s - 1) x = x) := by
  have L := hp.lenOf hs
  have pos := L.pos
  obtain ⟨h1, h2, h3⟩ := cyc_at (g := fun j => goes p j s) (lenOf p n s) (ring_ne hp hs L) (lenOf p n s - 1) (by omega)
  refine ⟨fun h => ?_, fun h => h3 x fun j hj e => h ⟨j, by omega, e.symm⟩⟩
  obtain ⟨j, hj, rfl⟩ := h
  by_cases e : j = lenOf p n s - 1
  · subst e
    rw [h2]
    have home := L.home
    rw [show lenOf p n s = lenOf p n s - 1 + 1 by omega] at home
    exact home.symm
  · exact h1 j (by omega)
theorem byRings_at {n : Nat} {p : Nat → Nat} (hp : IsP n p) : ∀ ss : List Nat, ss.Nodup → (∀ s ∈ ss, s ∈ heads p n) → ∀ x, ((∃ s ∈ ss, InRing p n s x) → byRings p n ss x = p x) ∧ ((¬ ∃ s ∈ ss, InRing p n s x) → byRings p n ss x = x)
  | [], _, _, x => ⟨(fun ⟨_, h, _⟩ => nomatch h), fun _ => rfl⟩
  | s :: ss, nd, hd, x => by
    obtain ⟨n1, n2⟩ := List.nodup_cons.mp nd
    have hs := hd s List.mem_cons_self
    have hsn := (heads_mem.mp hs).1
    have L := hp.lenOf hsn
    have ih := byRings_at hp ss n2 fun t ht => hd t (List.mem_cons_of_mem _ ht)
    obtain ⟨m1, m2⟩ := ring_moves hp hsn x
    by_cases h : InRing p n s x
    · refine ⟨fun _ => ?_, fun no => absurd ⟨s, List.mem_cons_self, h⟩ no⟩
      show byRings p n ss _ = _
      rw [m1 h]
      refine (ih (p x)).2 ?_
      rintro ⟨t, ht, h2⟩
      have h3 : InRing p n s (p x) := by
        obtain ⟨j, hj, rfl⟩ := h
        refine ⟨(j + 1) % lenOf p n s, Nat.mod_lt _ L.pos, ?_⟩
        rw [← goes_rest L.home]
        rfl
      have e := ring_apart hp hs (hd t (List.mem_cons_of_mem _ ht)) h3 h2
      subst e
      exact n1 ht
    · have e : byRings p n (s :: ss) x = byRings p n ss x := by
        show byRings p n ss _ = _
        rw [m2 h]
      rw [e]
      refine ⟨fun ⟨t, ht, h2⟩ => ?_, fun no => (ih x).2 fun ⟨t, ht, h2⟩ => no ⟨t, List.mem_cons_of_mem _ ht, h2⟩⟩
      rcases List.mem_cons.mp ht with rfl | ht
      · exact absurd h2 h
      · exact (ih x).1 ⟨t, ht, h2⟩
theorem byRings_sg {n : Nat} {p : Nat → Nat} (hp : IsP n p) (n12 : n ≤ 12) : ∀ ss : List Nat, (∀ s ∈ ss, s < n) → IsP n (byRings p n ss) ∧ sg (byRings p n ss) n = xorL (ss.map fun s => decide (lenOf p n s % 2 = 0))
  | [], _ => ⟨IsP.id n, sg_id n⟩
  | s :: ss, h => by
    have hs := h s List.mem_cons_self
    obtain ⟨i1, i2⟩ := byRings_sg hp n12 ss fun t ht => h t (List.mem_cons_of_mem _ ht)
    have L := hp.lenOf hs
    have pos := L.pos
    have all : ∀ j, goes p j s < n := fun j => (hp.pow j).lt s hs
    have ci := cyc_is all (lenOf p n s - 1)
    refine ⟨ci.comp i1, ?_⟩
    have e := sg_comp ci i1
    rw [cyc_odd n12 all (lenOf p n s) (ring_ne hp hs L) (lenOf p n s - 1) (by omega), i2] at e
    show sg (fun x => byRings p n ss (cyc (fun j => goes p j s) (lenOf p n s - 1) x)) n = (decide (lenOf p n s % 2 = 0)).xor _
    rw [e]
    congr 1
    by_cases h2 : lenOf p n s % 2 = 0
    · rw [decide_eq_true h2, decide_eq_true (by omega)]
    · rw [decide_eq_false h2, decide_eq_false (by omega)]
theorem heads_nodup (p : Nat → Nat) (n : Nat) : (heads p n).Nodup := by
  unfold heads
  exact List.nodup_range.filter _
/-- odd by pairs, odd by rounds of even lengths -/
theorem sg_rings {n : Nat} {p : Nat → Nat} (hp : IsP n p) (n12 : n ≤ 12) : sg p n = xorL ((heads p n).map fun s => decide (lenOf p n s % 2 = 0)) := by
  rw [← (byRings_sg hp n12 (heads p n) fun s hs => (heads_mem.mp hs).1).2]
  refine sg_congr fun x hx => ?_
  obtain ⟨h1, h2⟩ := byRings_at hp (heads p n) (heads_nodup p n) (fun _ h => h) x
  by_cases fix : p x = x
  · by_cases e : ∃ s ∈ heads p n, InRing p n s x
    · rw [h1 e]
    · rw [h2 e, fix]
  · obtain ⟨s, hs, hj⟩ := heads_cover hp hx fix
    rw [h1 ⟨s, hs, hj⟩]
end RG
end RGo
section RGp
/-! math.lcm; how many are kept; a comprehension over a range with a test -/
namespace RG
open PySem PySem.Spec PyProof.Rows L2
section
variable {X : Cx}
def rLcm : List V → Hp → VK → Prop := fun vs H Q => ∃ a b : Nat, vs = [.int (a : Int), .int (b : Int)] ∧ a ≤ 27720 ∧ b ≤ 27720 ∧ Q (.int ((Nat.lcm a b : Nat) : Int)) H
theorem cr_lcm : CallR X (.builtin "math.lcm") rLcm := by
  intro pins s σ H vs us Q I r h
  obtain ⟨a, b, rfl, ha, hb, q⟩ := h
  obtain ⟨t, u, rfl⟩ := Vals.int2 r
  have e : ((Nat.lcm 1 (a : Int).natAbs).lcm (b : Int).natAbs) = Nat.lcm a b := by
    rw [Int.natAbs_natCast, Int.natAbs_natCast, Nat.lcm_one_left]
  refine PySem.W.mg_lcm_v (by rw [Int.natAbs_natCast]; omega) (by rw [Int.natAbs_natCast]; omega) (by rw [e]) ?_ ⟨.int _, H, I.tok _, ⟨_, rfl⟩, q⟩
  have le : Nat.lcm a b ≤ 27720 * 27720 := by
    refine Nat.le_trans ?_ (Nat.mul_le_mul ha hb)
    unfold Nat.lcm
    exact Nat.div_le_self _ _
  rw [Int.natAbs_natCast]
  have l2 : (Nat.lcm a b).log2 ≤ 30 := by
    by_cases z : Nat.lcm a b = 0
    · rw [z]
      decide
    · exact Nat.le_of_lt_succ ((Nat.log2_lt z).mpr (Nat.lt_of_le_of_lt le (by decide)))
  exact Nat.lt_of_le_of_lt l2 (by decide)
end
theorem pe_revTK {X : Cx} {K : PySem.W.Frag} {e : Expr} {te : TE} {k : Nat} {p1 p2 p3 pos : Pos} (hK : X.K = K) (he : PE X e te) : PE X (.Subscript e (.Slice none none (some (.UnaryOp .USub (.Constant (.int 1) k p1) p2)) p3) pos) (tRevT K te) := by
  subst hK
  exact pe_revT he
/-- how many are kept -/
theorem kept_count : ∀ (ys : List V) (bs : List Bool), bs.length = ys.length → decide (((keptV ys bs).length : Nat) % 2 = 0) = !xorL bs
  | [], [], _ => rfl
  | [], _ :: _, h => by simp at h
  | _ :: _, [], h => by simp at h
  | y :: ys, b :: bs, h => by
    have ih := kept_count ys bs (by simpa using h)
    unfold keptV at ih ⊢
    cases b with
    | false =>
      show _ = !(false.xor (xorL bs))
      rw [Bool.false_xor, ← ih]
      simp
    | true =>
      show _ = !(true.xor (xorL bs))
      rw [Bool.true_xor, ← ih]
      simp only [List.zip_cons_cons, List.filter_cons_of_pos, List.map_cons, List.length_cons]
      by_cases e : (((ys.zip bs).filter (·.2)).map (·.1)).length % 2 = 0
      · rw [decide_eq_true e, decide_eq_false (by omega)]
        rfl
      · rw [decide_eq_false e, decide_eq_true (by omega)]
        rfl
theorem comp_rangeT {D : Addr} {lo : Int} {n : Nat} {ys : List V} {bs : List Bool} {te : TE} {tt : TT} {j : Nat} {σ : L2.St} {H : Hp} {Qd : Hp → Prop} (hD : H D = none) (hl : ys.length = n) (hb : bs.length = n) (hz : n < sizeLine)
    (test : ∀ (i : Nat) (b : Bool), i < n → bs[i]? = some b → ∀ G, Same H G → ∀ Q : Bool → Hp → Prop, (∀ G', Same G G' → Q b G') → tt ((σ.set j none).set j (some (.int (lo + i)))) G Q)
    (each : ∀ (i : Nat) (y : V), i < n → ys[i]? = some y → ∀ G, Same H G → ∀ Q : VK, (∀ G', Same G G' → Q y G') → te ((σ.set j none).set j (some (.int (lo + i)))) G Q)
    (done : ∀ G, Same H G → G D = some (.lst (keptV ys bs)) → Qd G) :
    ∃ W : Nat → Nat → Hp → Prop, (∃ m, W 0 m (upd H D (.lst []))) ∧ ∀ i m G, W i m G →
      ((Itr lo n).stop i G ∧ Qd G) ∨ ((Itr lo n).go i G ∧ ∃ Nx : Hp → Prop, (∀ H', Nx H' → ∃ m', m' < m ∧ W (i + 1) m' H') ∧ ∀ x H', (Itr lo n).yld i G x H' → gName j x (wipe σ [j]) H' fun σ2 H2 => wipe σ2 [j] = wipe σ [j] ∧ tt σ2 H2 fun b H3 =>
        if b = true then te σ2 H3 fun y H4 => ∃ acc, H4 D = some (.lst acc) ∧ acc.length < sizeLine ∧ Nx (upd H4 D (.lst (acc ++ [y]))) else Nx H3) := by
  refine lc_range (fun i G => Same H G ∧ G D = some (.lst (keptV (ys.take i) (bs.take i)))) ⟨same_new hD, by rw [upd_same]; rfl⟩ (fun i G hi h => ?_) fun G h => done G h.1 ?_
  · have hy : ys[i]? = some ys[i] := List.getElem?_eq_getElem (by omega)
    have hbi : bs[i]? = some bs[i] := List.getElem?_eq_getElem (by omega)
    have sn := kept_snoc hy hbi
    refine ⟨?_, ?_⟩
    · show ((σ.set j none).set j (some (V.int (lo + i)))).set j none = σ.set j none
      rw [List.set_set, List.set_set]
    · refine test i _ hi hbi G h.1 _ fun G1 e1 => ?_
      refine ite2 (fun hbt => ?_) fun hbf => ?_
      · rw [if_pos hbt] at sn
        refine each i _ hi hy G1 (h.1.trans e1) _ fun G2 e2 => ?_
        refine ⟨_, e2 _ _ (e1 _ _ h.2), Nat.lt_of_le_of_lt (kept_len _ _) (by rw [List.length_take]; omega), same_mut ((h.1.trans e1).trans e2) hD, ?_⟩
        rw [upd_same, sn]
      · rw [if_neg hbf] at sn
        exact ⟨h.1.trans e1, by rw [sn]; exact e1 _ _ h.2⟩
  · rw [h.2, ← hl, List.take_length, hl, ← hb, List.take_length]
/-- the least number of times that brings all home -/
noncomputable def oftP (p : Nat → Nat) (n : Nat) : Nat := ((heads p n).map (lenOf p n)).foldl Nat.lcm 1
theorem lcm_fold {M : Nat} : ∀ (ms : List Nat) (a : Nat), a ∣ M → (∀ m ∈ ms, m ∣ M) → ms.foldl Nat.lcm a ∣ M
  | [], _, h, _ => h
  | m :: ms, a, h, g => lcm_fold ms (Nat.lcm a m) (Nat.lcm_dvd h (g m List.mem_cons_self)) fun x hx => g x (List.mem_cons_of_mem _ hx)
theorem fold_dvd : ∀ (ms : List Nat) (a : Nat), a ∣ ms.foldl Nat.lcm a ∧ ∀ m ∈ ms, m ∣ ms.foldl Nat.lcm a
  | [], a => ⟨Nat.dvd_refl a, fun _ h => nomatch h⟩
  | m :: ms, a => by
    obtain ⟨h1, h2⟩ := fold_dvd ms (Nat.lcm a m)
    refine ⟨Nat.dvd_trans (Nat.dvd_lcm_left a m) h1, fun x hx => ?_⟩
    rcases List.mem_cons.mp hx with rfl | hx
    · exact Nat.dvd_trans (Nat.dvd_lcm_right a x) h1
    · exact h2 x hx
theorem len_whole {n : Nat} {p : Nat → Nat} (hp : IsP n p) (n12 : n ≤ 12) {s : Nat} (hs : s < n) : lenOf p n s ∣ 27720 := by
  have L := hp.lenOf hs
  have h1 := L.pos
  have h2 := L.le
  have all : ∀ k : Nat, k < 13 → 0 < k → k ∣ 27720 := by decide
  exact all _ (by omega) h1
theorem oft_whole {n : Nat} {p : Nat → Nat} (hp : IsP n p) (n12 : n ≤ 12) : oftP p n ∣ 27720 := by
  refine lcm_fold _ _ (Nat.one_dvd _) fun m hm => ?_
  obtain ⟨s, hs, rfl⟩ := List.mem_map.mp hm
  exact len_whole hp n12 (heads_mem.mp hs).1
theorem oft_pos {n : Nat} {p : Nat → Nat} (hp : IsP n p) (n12 : n ≤ 12) : 0 < oftP p n := Nat.pos_of_dvd_of_pos (oft_whole hp n12) (by decide)
/-- a number of times brings all home just where the rounds' lengths go into it -/
theorem oft_home {n : Nat} {p : Nat → Nat} (hp : IsP n p) (k : Nat) : (∀ x, x < n → goes p k x = x) ↔ oftP p n ∣ k := by
  constructor
  · intro h
    refine lcm_fold _ _ (Nat.one_dvd _) fun m hm => ?_
    obtain ⟨s, hs, rfl⟩ := List.mem_map.mp hm
    have hsn := (heads_mem.mp hs).1
    have L := hp.lenOf hsn
    refine Nat.dvd_of_mod_eq_zero ?_
    refine Decidable.byContradiction fun no => ?_
    have e := h s hsn
    rw [goes_rest L.home] at e
    exact L.first _ (by omega) (Nat.mod_lt _ L.pos) e
  · intro h x hx
    by_cases fix : p x = x
    · have e := goes_home (p := p) (m := 1) (x := x) fix k
      rwa [Nat.mul_one] at e
    · obtain ⟨s, hs, j, hj, rfl⟩ := heads_cover hp hx fix
      have hsn := (heads_mem.mp hs).1
      have L := hp.lenOf hsn
      have d : lenOf p n s ∣ k := Nat.dvd_trans ((fold_dvd _ 1).2 _ (List.mem_map.mpr ⟨s, hs, rfl⟩)) h
      rw [← goes_add, Nat.add_comm, goes_add]
      have e : goes p k s = s := by
        obtain ⟨c, rfl⟩ := d
        rw [Nat.mul_comm]
        exact goes_home L.home c
      rw [e]
end RG
end RGp
section RGq
/-! names: texts of small letters -/
namespace RG
open PySem PySem.Spec PyProof.Rows L2
/-- small letters alone -/
def Low (z : Str) : Prop := ∀ c ∈ z.cps.toList, 97 ≤ c ∧ c ≤ 122
/-- a name -/
structure Nm (z : Str) : Prop where
  low : Low z
  pos : 1 ≤ z.length
  le : z.length ≤ 8
theorem Low.append {x y : Str} (a : Low x) (b : Low y) : Low (x ++ y) := by
  intro c hc
  have hc2 : c ∈ (x.cps ++ y.cps).toList := hc
  rw [Array.toList_append] at hc2
  rcases List.mem_append.mp hc2 with h | h
  · exact a c h
  · exact b c h
theorem Low.cut {z : Str} (a : Low z) (lo hi : Option Int) : Low (cutS z lo hi) := by
  intro c hc
  unfold cutS at hc
  have hc2 := List.mem_of_mem_take hc
  exact a c (List.mem_of_mem_drop hc2)
theorem Low.one {c : Nat} (h : 97 ≤ c ∧ c ≤ 122) : Low ⟨#[c]⟩ := by
  intro d hd
  have : d = c := by simpa using hd
  rw [this]
  exact h
theorem low_join : ∀ {ys : List Str}, (∀ y ∈ ys, Low y ∧ y.length = 1) → Low (Txt.join "" ys) ∧ (Txt.join "" ys).length = ys.length := by
  have e : ("" : Str) = ⟨#[]⟩ := by decide +kernel
  have go : ∀ ys : List Str, (∀ y ∈ ys, Low y ∧ y.length = 1) → Low (Str.join ⟨#[]⟩ ys) ∧ (Str.join ⟨#[]⟩ ys).length = ys.length := by
    intro ys
    induction ys with
    | nil =>
      intro _
      rw [PyProof.Rows.join_nil]
      exact ⟨(fun c hc => absurd hc (show c ∉ ([] : List Nat) from fun h => nomatch h)), rfl⟩
    | cons y ys ih =>
      intro h
      obtain ⟨h1, h2⟩ := h y List.mem_cons_self
      obtain ⟨h3, h4⟩ := ih fun z hz => h z (List.mem_cons_of_mem _ hz)
      rw [PyProof.Rows.join_nil_cons]
      refine ⟨h1.append h3, ?_⟩
      rw [strLen_append, h2, h4, List.length_cons]
      omega
  intro ys h
  rw [TL.join_eq, e]
  exact go ys h
def strV (xs : List Str) : List V := xs.map V.str
/-- some item of a list, a tuple, or a text -/
def spPickA (K : PySem.W.Frag) : Sp := fun vs H Q E => spPick K vs H Q E ∨ ∃ (i : PenI) (B : Nat) (z : Str), vs = [.ref i.p, .str z] ∧ Pen H i B ∧ B < 2 ^ 60 ∧ 0 < z.length ∧ z.length < 1000000 ∧
  ∀ (c : Nat) (H' : Hp), c ∈ z.cps.toList → Kb i.p H H' → Pen H' i (B + 1) → Q (.str ⟨#[c]⟩) H'
theorem pi_or {X : Cx} {tg e : Expr} {w1 w2 : TI} (h1 : PI X tg e w1) (h2 : PI X tg e w2) : PI X tg e (fun σ H R => w1 σ H R ∨ w2 σ H R) :=
  ⟨fun pins s σ H R I h => h.elim (h1.run pins s σ H R I) (h2.run pins s σ H R I)⟩
/-- a list or a tuple is gone through -/
theorem pi_lt {X : Cx} {tg e : Expr} {te : TE} (h : PE X e te) : PI X tg e (fun σ H R => iList X.K te σ H R ∨ iTup X.K te σ H R) := pi_or (pi_list h) (pi_tup h)
/-- ''.join(a text): the same text -/
def rJoinS : V → List V → Hp → VK → Prop := fun x xs H Q => ∃ z : Str, x = .str "" ∧ xs = [.str z] ∧ z.length ≤ 1000000 ∧ Q (.str z) H
theorem mt_joinS {X : Cx} (hc : X.calm = true) : MtR X "str.join" rJoinS := by
  intro pins s σ H x xs v us Q I rx rs h
  obtain ⟨z, rfl, rfl, hz, q⟩ := h
  obtain ⟨t, rfl⟩ := rx
  cases rs with
  | cons r1 rs =>
    cases rs
    obtain ⟨u, rfl⟩ := r1
    have e0 : ("" : Str) = ⟨#[]⟩ := by decide +kernel
    have ones : ((PyProof.Rows.signs z).map (·.length)).sum = z.cps.size := by
      have := signLens_sum z.cps.toList
      simpa [PyProof.Rows.signs] using this
    have hz2 : z.cps.size ≤ 1000000 := hz
    have ok : JoinOk "" (PyProof.Rows.signs z) = true := joinOk_of (by
      rw [ones, show (("" : Str)).length = 0 by decide +kernel]
      omega)
    refine SC.joinStr (I.ok.hd hc) ok fun h' k t' keep => ⟨.str z, H, I.kept keep, ?_, q⟩
    rw [TL.join_eq, e0, PyProof.Rows.join_nil_signs]
    exact ⟨t', rfl⟩
end RG
end RGq
section RGr
/-! anything within a tuple of texts; str of anything; comprehensions over a text, over a list with a test -/
namespace RG
open PySem PySem.Spec PyProof.Rows L2
open SeqAt in
theorem dict_eq_declines_str (l : Addr) (es : Array DictEntry) (n : Nat) (dd : Option Addr) (sl : Array (Option Value)) (b : Str) (u : Tok) :
    Meets (Builtin.«dict.__eq__» ⟨[.ref l, .str b u], []⟩) (fun _ R s => s.heap.get? l = some { cls := .type "dict", dict := dd, data := .dict es n, slots := sl } ∧ R (.ok (.ret .notImplemented)) s) :=
  .of_wp fun prog w A R s h => by obtain ⟨hp, g, d, tk, os⟩ := s; obtain ⟨hl, h⟩ := h; have f1 : isSubtype (.type "str") (.type "dict") = pure false := F.sub_str_dict; wp_walk using wpAny_loadPart' hl; exact ⟨_, rfl, h⟩
open SeqAt in
theorem str_eq_declines_dict (b : Str) (u : Tok) (l : Addr) (c : Value) (es : Array DictEntry) (n : Nat) (dd : Option Addr) (sl : Array (Option Value)) :
    Meets (Builtin.«str.__eq__» ⟨[.str b u, .ref l], []⟩) (fun _ R s => s.heap.get? l = some { cls := c, dict := dd, data := .dict es n, slots := sl } ∧ R (.ok (.ret .notImplemented)) s) :=
  .of_wp fun prog w A R s h => by obtain ⟨hp, g, d, tk, os⟩ := s; obtain ⟨hl, h⟩ := h; wp_walk using wpAny_loadPart' hl, wpAny_load hl; exact ⟨_, rfl, h⟩
section
variable {A : Around} {s : Shared}
theorem rc_str_dict {l : Addr} {o : Obj} {es : Array DictEntry} {n : Nat} (b : Str) (u : Tok) (ho : s.heap.get? l = some o) (hc : o.cls = .type "dict") (hd : o.data = .dict es n) (hu : A.units < cLine) : SeqAt.RcAt A s (.str b u) (.ref l) false := fun prog w E Q h => by
  obtain ⟨cls, dd, data, sl⟩ := o
  simp only at hc hd
  subst hc hd
  exact SeqAt.rc_eq_decline_or (k := false) (typeIs_str s b u) ⟨_, ho, rfl⟩ (by decide) F.sub_dict_str F.slot_str_eq F.slot_dict_eq_refl
    (fun _ hq => call_meets F.slot_str_eq (typeIs_str s b u) F.entry_str_eq (F.args_str_eq_2 _ _) (str_eq_declines_dict b u l (.type "dict") es n dd sl) ⟨ho, hq⟩)
    (fun _ hq => call_meets F.slot_dict_eq_refl ⟨_, ho, rfl⟩ F.entry_dict_eq (F.args_dict_eq_2 _ _) (dict_eq_declines_str l es n dd sl b u) ⟨ho, hq⟩)
    (fun _ hq => wpAny_of_eq (rfl : isSame (.str b u) (.ref l) = pure false) hq) (.inr hu) h
theorem eq_str_dict {l : Addr} {o : Obj} {es : Array DictEntry} {n : Nat} (b : Str) (u : Tok) (ho : s.heap.get? l = some o) (hc : o.cls = .type "dict") (hd : o.data = .dict es n) (hu : A.units < cLine) : SeqAt.EqAt A s (.str b u) (.ref l) false := fun prog w E Q h => by
  unfold eqBool
  refine wpAny_holding ?_
  refine wpAny_ite_split (fun hab => absurd (eq_of_beq hab) nofun) (fun _ => ?_)
  exact wpAny_bind (rc_str_dict b u ho hc hd hu prog w E _ (wpAny_truthy_bool h))
end
/-- whether data is just this text -/
def isT (y : Str) : PyData → Bool
  | .str z => y == z
  | _ => false
section
variable {X : Cx} {pins : List (Addr × Obj)} {σ : L2.St} {H : Hp} {s : Shared}
theorem eq_strD (I : Inv X pins σ H s) {x : V} {d : PyData} {v : Value} (h : Dd X.K H x d) (r : RelV x v) (y : Str) (t : Tok) {A : Around} (hu : A.units < cLine) : SeqAt.EqAt A s (.str y t) v (isT y d) := by
  cases h with
  | non => cases r; exact SeqAt.EqAt.str_none y t
  | bl b => cases r; exact SeqAt.EqAt.str_bool y t b
  | int i => obtain ⟨u, rfl⟩ := r; exact SeqAt.EqAt.str_int y t i u
  | str z => obtain ⟨u, rfl⟩ := r; exact SeqAt.EqAt.str_str y t z u
  | lst h1 _ =>
    cases r
    obtain ⟨its, _, pl, _⟩ := I.list h1
    exact SeqAt.EqAt.str_list y t pl.isList hu
  | tup h1 _ =>
    cases r
    obtain ⟨its, _, pl, _⟩ := I.tuple h1
    exact SeqAt.EqAt.str_tuple y t (show s.heap.IsTuple _ _ from pl) hu
  | dct h1 _ _ =>
    cases r
    obtain ⟨z, hy, vs, rel, o, es, ep, g1, g2, g3, g4, g5, g6⟩ := h1.ok I.hok
    exact eq_str_dict y t g1 g2.1 g3 hu
end
/-- x in (.., ..) of texts, x of any kind -/
def rInZ (K : PySem.W.Frag) (neg : Bool) : R2 := fun x y H Q => ∃ (p : Addr) (zs : List Str) (d : PyData), y = .ref p ∧ SqT K H p (strV zs) ∧ Dd K H x d ∧ Q (.bl (if neg then !zs.any (fun z => isT z d) else zs.any (fun z => isT z d))) H
def isTv (d : PyData) : Value → Bool
  | .str y _ => isT y d
  | _ => false
theorem strs_of : ∀ {zs : List Str} {us : List Value}, Vals (strV zs) us → ∀ d, (us.any (isTv d) = zs.any fun z => isT z d) ∧ ∀ u ∈ us, ∃ z t, u = .str z t
  | [], _, .nil, d => ⟨rfl, fun u h => nomatch h⟩
  | z :: zs, _, .cons (b := u) r t, d => by
    obtain ⟨k, rfl⟩ := r
    obtain ⟨h1, h2⟩ := strs_of t d
    refine ⟨by rw [List.any_cons, List.any_cons, h1]; rfl, fun u hu => ?_⟩
    rcases List.mem_cons.mp hu with rfl | hu
    · exact ⟨_, _, rfl⟩
    · exact h2 u hu
section
variable {X : Cx}
theorem op_inZ (hu : X.A.units + 64 < cLine) : OpR X (compareOp .In) (rInZ X.K false) := by
  intro pins s σ H x y v u Q I rx ry h
  obtain ⟨p, zs, d, rfl, hq, hd, q⟩ := h
  cases ry
  obtain ⟨its, r, pl, hz⟩ := I.tuple hq
  obtain ⟨e1, e2⟩ := strs_of r d
  refine SeqAt.in_tupleAt (isTv d) pl (fun w hw => ?_) ⟨.bl _, H, I, rfl, ?_⟩
  · obtain ⟨z, t, rfl⟩ := e2 w (by simpa using hw)
    exact eq_strD I hd rx z t (A := X.A.in1) (by show X.A.units + 1 < cLine; omega)
  · rw [show its.toArray.any (isTv d) = its.any (isTv d) by simp, e1]
    exact q
theorem op_notInZ (hu : X.A.units + 64 < cLine) : OpR X (compareOp .NotIn) (rInZ X.K true) := by
  intro pins s σ H x y v u Q I rx ry h
  obtain ⟨p, zs, d, rfl, hq, hd, q⟩ := h
  cases ry
  obtain ⟨its, r, pl, hz⟩ := I.tuple hq
  obtain ⟨e1, e2⟩ := strs_of r d
  refine SeqAt.notIn_tupleAt (isTv d) pl (fun w hw => ?_) ⟨.bl _, H, I, rfl, ?_⟩
  · obtain ⟨z, t, rfl⟩ := e2 w (by simpa using hw)
    exact eq_strD I hd rx z t (A := X.A.in1) (by show X.A.units + 1 < cLine; omega)
  · rw [show its.toArray.any (isTv d) = its.any (isTv d) by simp, e1]
    exact q
/-- str(x), x data without dicts -/
def strOfD : PyData → Str
  | .str z => z
  | d => d.shown
def rStrD (K : PySem.W.Frag) : List V → Hp → VK → Prop := fun vs H Q => ∃ (x : V) (d : PyData), vs = [x] ∧ Dd K H x d ∧ d.showable = true ∧ d.hasDict = false ∧ d.shown.length ≤ sizeLine ∧ d.depth ≤ 60 ∧ Q (.str (strOfD d)) H
theorem cr_strD (hg : X.A.guards = some []) (hu : X.A.units + 64 < cLine) : CallR X (.type "str") (rStrD X.K) := by
  intro pins s σ H vs us Q I r h
  obtain ⟨x, d, rfl, hx, hs, hn, hz, hd, q⟩ := h
  obtain ⟨u, rfl, rx⟩ := vals1 r
  have go : ∀ a, u = .ref a → (∀ z, d ≠ .str z) → wpAny (model X.prog X.w) X.A (call (.type "str") [u]) (EP X pins σ Q) X.xe s := fun a e ns => by
    subst e
    obtain ⟨as, bs, h1, _, _⟩ := hx.tells I rx hs hz
    refine str_of_reads h1 hs (fun e => by rw [hn] at e; cases e) hg (by omega) (fun _ _ e => e) (fun h' u tk kp => ⟨.str _, H, I.kept kp, ⟨_, rfl⟩, ?_⟩) hz
    have : strOfD d = d.shown := by
      cases d with
      | str z => exact absurd rfl (ns z)
      | _ => rfl
    rw [← this]
    exact q
  cases hx with
  | non =>
    cases rx
    exact PySem.P.str_of_none ⟨.str _, H, I.tok _, ⟨_, rfl⟩, by simpa only [strOfD, PyData.shown] using q⟩
  | bl b =>
    cases rx
    exact PySem.P.str_of_bool ⟨.str _, H, I.tok _, ⟨_, rfl⟩, by simpa only [strOfD, PyData.shown] using q⟩
  | int i =>
    obtain ⟨t, rfl⟩ := rx
    exact PySem.P.str_of_int (by simpa [PyData.showable] using hs) ⟨.str _, H, I.tok _, ⟨_, rfl⟩, by simpa only [strOfD, PyData.shown] using q⟩
  | str y =>
    obtain ⟨t, rfl⟩ := rx
    exact PySem.P.str_of_str ⟨.str _, H, I, ⟨_, rfl⟩, q⟩
  | lst h1 h2 => cases rx; exact go _ rfl fun _ => nofun
  | tup h1 h2 => cases rx; exact go _ rfl fun _ => nofun
  | dct h1 h0 h2 => cases rx; exact go _ rfl fun _ => nofun
end
/-- [e for c in z], z a text -/
theorem comp_str {z : Str} {D : Addr} {ys : List V} {te : TE} {j : Nat} {σ : L2.St} {H : Hp} {Qd : Hp → Prop} (hD : H D = none) (hl : ys.length = z.cps.size) (hz : z.cps.size < sizeLine)
    (each : ∀ (i c : Nat) (y : V), z.cps.toList[i]? = some c → ys[i]? = some y → ∀ G, Same H G → ∀ Q : VK, (∀ G', Same G G' → Q y G') → te ((σ.set j none).set j (some (.str ⟨#[c]⟩))) G Q)
    (done : ∀ G, Same H G → G D = some (.lst ys) → Qd G) :
    ∃ W : Nat → Nat → Hp → Prop, (∃ m, W 0 m (upd H D (.lst []))) ∧ ∀ i m G, W i m G →
      ((Its z).stop i G ∧ Qd G) ∨ ((Its z).go i G ∧ ∃ Nx : Hp → Prop, (∀ H', Nx H' → ∃ m', m' < m ∧ W (i + 1) m' H') ∧ ∀ x H', (Its z).yld i G x H' → gName j x (wipe σ [j]) H' fun σ2 H2 => wipe σ2 [j] = wipe σ [j] ∧ tYes σ2 H2 fun b H3 =>
        if b = true then te σ2 H3 fun y H4 => ∃ acc, H4 D = some (.lst acc) ∧ acc.length < sizeLine ∧ Nx (upd H4 D (.lst (acc ++ [y]))) else Nx H3) := by
  refine lc_it walk_str (fun i G => Same H G ∧ G D = some (.lst (ys.take i))) ⟨same_new hD, by rw [upd_same]; rfl⟩ (fun _ _ _ _ => trivial) (fun i x G G' hi h y => ?_) fun G h => done G h.1 (by rw [h.2, ← hl, List.take_length])
  obtain ⟨rfl, c, hc, rfl⟩ := y
  have hy : ys[i]? = some ys[i] := List.getElem?_eq_getElem (by omega)
  exact lc_step hD (by omega) hy h.1 h.2 (each i c _ (by rw [Array.getElem?_toList]; exact hc) hy G' h.1) fun G' e1 e2 => ⟨e1, e2⟩
/-- one turn of a comprehension with a test -/
theorem lc_stepT {te : TE} {tt : TT} {j : Nat} {σ : L2.St} {H G : Hp} {D : Addr} {x y : V} {ys : List V} {bs : List Bool} {i : Nat} {b : Bool} {Pn : Hp → Prop} (hD : H D = none) (hz : ys.length < sizeLine) (hy : ys[i]? = some y) (hb : bs[i]? = some b)
    (e : Same H G) (g : G D = some (.lst (keptV (ys.take i) (bs.take i))))
    (t : ∀ Q : Bool → Hp → Prop, (∀ G', Same G G' → Q b G') → tt ((σ.set j none).set j (some x)) G Q)
    (h : ∀ G1, Same G G1 → ∀ Q : VK, (∀ G', Same G1 G' → Q y G') → te ((σ.set j none).set j (some x)) G1 Q)
    (n : ∀ G', Same H G' → G' D = some (.lst (keptV (ys.take (i + 1)) (bs.take (i + 1)))) → Pn G') :
    gName j x (wipe σ [j]) G fun σ2 H2 => wipe σ2 [j] = wipe σ [j] ∧ tt σ2 H2 fun b H3 =>
      if b = true then te σ2 H3 fun y H4 => ∃ acc, H4 D = some (.lst acc) ∧ acc.length < sizeLine ∧ Pn (upd H4 D (.lst (acc ++ [y]))) else Pn H3 := by
  have sn := kept_snoc hy hb
  refine ⟨?_, ?_⟩
  · show ((σ.set j none).set j (some x)).set j none = σ.set j none
    rw [List.set_set, List.set_set]
  · refine t _ fun G1 e1 => ?_
    refine ite2 (fun hbt => ?_) fun hbf => ?_
    · rw [if_pos hbt] at sn
      refine h G1 e1 _ fun G2 e2 => ?_
      refine ⟨_, e2 _ _ (e1 _ _ g), Nat.lt_of_le_of_lt (kept_len _ _) (by rw [List.length_take]; omega), n _ (same_mut ((e.trans e1).trans e2) hD) ?_⟩
      rw [upd_same, sn]
    · rw [if_neg hbf] at sn
      exact n _ (e.trans e1) (by rw [sn]; exact e1 _ _ g)
/-- [e for c in z if ..] -/
theorem comp_strT {z : Str} {D : Addr} {ys : List V} {bs : List Bool} {te : TE} {tt : TT} {j : Nat} {σ : L2.St} {H : Hp} {Qd : Hp → Prop} (hD : H D = none) (hl : ys.length = z.cps.size) (hb : bs.length = z.cps.size) (hz : z.cps.size < sizeLine)
    (test : ∀ (i c : Nat) (b : Bool), z.cps.toList[i]? = some c → bs[i]? = some b → ∀ G, Same H G → ∀ Q : Bool → Hp → Prop, (∀ G', Same G G' → Q b G') → tt ((σ.set j none).set j (some (.str ⟨#[c]⟩))) G Q)
    (each : ∀ (i c : Nat) (y : V), z.cps.toList[i]? = some c → ys[i]? = some y → ∀ G, Same H G → ∀ Q : VK, (∀ G', Same G G' → Q y G') → te ((σ.set j none).set j (some (.str ⟨#[c]⟩))) G Q)
    (done : ∀ G, Same H G → G D = some (.lst (keptV ys bs)) → Qd G) :
    ∃ W : Nat → Nat → Hp → Prop, (∃ m, W 0 m (upd H D (.lst []))) ∧ ∀ i m G, W i m G →
      ((Its z).stop i G ∧ Qd G) ∨ ((Its z).go i G ∧ ∃ Nx : Hp → Prop, (∀ H', Nx H' → ∃ m', m' < m ∧ W (i + 1) m' H') ∧ ∀ x H', (Its z).yld i G x H' → gName j x (wipe σ [j]) H' fun σ2 H2 => wipe σ2 [j] = wipe σ [j] ∧ tt σ2 H2 fun b H3 =>
        if b = true then te σ2 H3 fun y H4 => ∃ acc, H4 D = some (.lst acc) ∧ acc.length < sizeLine ∧ Nx (upd H4 D (.lst (acc ++ [y]))) else Nx H3) := by
  refine lc_it walk_str (fun i G => Same H G ∧ G D = some (.lst (keptV (ys.take i) (bs.take i)))) ⟨same_new hD, by rw [upd_same]; rfl⟩ (fun _ _ _ _ => trivial) (fun i x G G' hi h y => ?_) fun G h => done G h.1 (by rw [h.2, ← hl, List.take_length, hl, ← hb, List.take_length])
  obtain ⟨rfl, c, hc, rfl⟩ := y
  have hy : ys[i]? = some ys[i] := List.getElem?_eq_getElem (by omega)
  have hbi : bs[i]? = some bs[i] := List.getElem?_eq_getElem (by omega)
  have hc2 : z.cps.toList[i]? = some c := by rw [Array.getElem?_toList]; exact hc
  exact lc_stepT hD (by omega) hy hbi h.1 h.2 (test i c _ hc2 hbi G' h.1) (fun G1 e1 => each i c _ hc2 hy G1 (h.1.trans e1)) fun G' e1 e2 => ⟨e1, e2⟩
/-- [e for x in xs if ..], xs a list -/
theorem comp_listT {K : PySem.W.Frag} {a D : Addr} {xs ys : List V} {bs : List Bool} {te : TE} {tt : TT} {j : Nat} {σ : L2.St} {H : Hp} {Qd : Hp → Prop} (hD : H D = none) (ha : SqL K H a xs) (hl : ys.length = xs.length) (hb : bs.length = xs.length) (hz : xs.length < sizeLine)
    (test : ∀ (i : Nat) (x : V) (b : Bool), xs[i]? = some x → bs[i]? = some b → ∀ G, Same H G → ∀ Q : Bool → Hp → Prop, (∀ G', Same G G' → Q b G') → tt ((σ.set j none).set j (some x)) G Q)
    (each : ∀ (i : Nat) (x y : V), xs[i]? = some x → ys[i]? = some y → ∀ G, Same H G → ∀ Q : VK, (∀ G', Same G G' → Q y G') → te ((σ.set j none).set j (some x)) G Q)
    (done : ∀ G, Same H G → G D = some (.lst (keptV ys bs)) → Qd G) :
    ∃ W : Nat → Nat → Hp → Prop, (∃ m, W 0 m (upd H D (.lst []))) ∧ ∀ i m G, W i m G →
      ((Itl K a).stop i G ∧ Qd G) ∨ ((Itl K a).go i G ∧ ∃ Nx : Hp → Prop, (∀ H', Nx H' → ∃ m', m' < m ∧ W (i + 1) m' H') ∧ ∀ x H', (Itl K a).yld i G x H' → gName j x (wipe σ [j]) H' fun σ2 H2 => wipe σ2 [j] = wipe σ [j] ∧ tt σ2 H2 fun b H3 =>
        if b = true then te σ2 H3 fun y H4 => ∃ acc, H4 D = some (.lst acc) ∧ acc.length < sizeLine ∧ Nx (upd H4 D (.lst (acc ++ [y]))) else Nx H3) := by
  refine lc_list (xs := xs) (fun i G => Same H G ∧ G D = some (.lst (keptV (ys.take i) (bs.take i)))) ⟨same_new hD, by rw [upd_same]; rfl⟩ (fun i G _ h => sql_same h.1 ha) (fun i x G hi h => ?_) fun G h => done G h.1 ?_
  · have hlt : i < xs.length := (List.getElem?_eq_some_iff.mp hi).1
    have hy : ys[i]? = some ys[i] := List.getElem?_eq_getElem (by omega)
    have hbi : bs[i]? = some bs[i] := List.getElem?_eq_getElem (by omega)
    exact lc_stepT hD (by omega) hy hbi h.1 h.2 (test i x _ hi hbi G h.1) (fun G1 e1 => each i x _ hi hy G1 (h.1.trans e1)) fun G' e1 e2 => ⟨e1, e2⟩
  · rw [h.2, ← hl, List.take_length, hl, ← hb, List.take_length]
end RG
end RGr
section RGs
/-! Expressions read as data: literals of any depth in one go. -/
namespace RG
open PySem PySem.Spec PyProof.Rows L2
/-- xs + ys of lists: a new list -/
def rCatL (K : PySem.W.Frag) : R2 := fun x y H Q => ∃ a b xs ys, x = .ref a ∧ y = .ref b ∧ SqL K H a xs ∧ SqL K H b ys ∧ xs.length + ys.length ≤ sizeLine ∧ ∀ p, H p = none → Q (.ref p) (upd H p (.lst (xs ++ ys)))
theorem op_catL {X : Cx} : OpR X (binaryOp .Add) (rCatL X.K) := by
  intro pins s σ H x y v u Q I rx ry h
  obtain ⟨a, b, xs, ys, rfl, rfl, ha, hb, hz, q⟩ := h
  cases rx
  cases ry
  obtain ⟨i1, r1, p1, _⟩ := I.list ha
  obtain ⟨i2, r2, p2, _⟩ := I.list hb
  have z1 := r1.length
  have z2 := r2.length
  obtain ⟨⟨c1, d1, t1, s1⟩, o1, e1, m1, f1⟩ := id p1.isList
  obtain ⟨⟨c2, d2, t2, s2⟩, o2, e2, m2, f2⟩ := id p2.isList
  simp only at e1 f1 e2 f2
  subst e1 f1 e2 f2
  have both : i1.toArray ++ i2.toArray = (i1 ++ i2).toArray := by simp
  refine concat_meets ⟨_, o1, rfl⟩ ⟨_, o2, rfl⟩ noFill_list_add seq_list_add PySem.F.slot_list_add PySem.F.entry_list_add (PySem.F.args_list_add_2 _ _) (list_addW a b i1.toArray i2.toArray m1 m2 d1 d2 s1 s2 (by rw [List.size_toArray, List.size_toArray]; omega)) ⟨o1, o2, ?_⟩
  rw [both]
  exact ⟨.ref _, _, I.lnew (t' := s.toks) (r1.append r2) (by rw [List.length_append]; omega), rfl, q _ I.fresh⟩
theorem kept_empty : ∀ (ys : List V) (bs : List Bool), bs.length = ys.length → (keptV ys bs).isEmpty = bs.all (!·)
  | [], [], _ => rfl
  | [], _ :: _, h => by simp at h
  | _ :: _, [], h => by simp at h
  | y :: ys, b :: bs, h => by
    have ih := kept_empty ys bs (by simpa using h)
    unfold keptV at ih ⊢
    cases b with
    | true => simp
    | false => simpa using ih
/-- xs == [], lists -/
def rEqNil (K : PySem.W.Frag) : R2 := fun x y H Q => ∃ a b xs, x = .ref a ∧ y = .ref b ∧ SqL K H a xs ∧ SqL K H b [] ∧ Q (.bl xs.isEmpty) H
theorem op_eqNil {X : Cx} (hu : X.A.units < cLine) : OpR X (compareOp .Eq) (rEqNil X.K) := by
  intro pins s σ H x y v u Q I rx ry h
  obtain ⟨a, b, xs, rfl, rfl, ha, hb, q⟩ := h
  cases rx
  cases ry
  obtain ⟨i1, r1, p1, _⟩ := I.list ha
  obtain ⟨i2, r2, p2, _⟩ := I.list hb
  cases r2
  cases r1 with
  | nil => exact SeqAt.RcAt.lists (e := fun _ => true) p1.isList p2.isList rfl hu (fun j h1 _ => absurd h1 (by simp)) X.prog X.w _ _ ⟨.bl true, H, I, rfl, q⟩
  | cons r t => exact SeqAt.RcAt.lists_lengths p1.isList p2.isList (by simp) hu X.prog X.w _ _ ⟨.bl false, H, I, rfl, q⟩
/-- what data an expression can be, by the slots and the heap -/
abbrev DR := L2.St → Hp → PyData → Prop
abbrev DRs := L2.St → Hp → List PyData → Prop
/-- the expression gives new or old data d; all that stood stands -/
def tD (K : PySem.W.Frag) (t : DR) : TE := fun σ H Q => ∃ d, t σ H d ∧ ∀ x H', Same H H' → Dd K H' x d → Q x H'
def tDs (K : PySem.W.Frag) (t : DRs) : TA := fun σ H Q => ∃ ds, t σ H ds ∧ ∀ xs H', Same H H' → DdAll K H' xs ds → Q xs H'
structure PD (X : Cx) (e : Expr) (t : DR) : Prop where
  pe : PE X e (tD X.K t)
  up : ∀ σ H H' d, Same H H' → t σ H d → t σ H' d
structure PDs (X : Cx) (es : List Expr) (t : DRs) : Prop where
  pa : PA X es (tDs X.K t)
  up : ∀ σ H H' d, Same H H' → t σ H d → t σ H' d
section
variable {X : Cx} {e : Expr} {es : List Expr} {te : TE} {t : DR} {ts : DRs} {pos : Pos}
theorem pd_of (he : PE X e te) (h : ∀ σ H Q d, t σ H d → (∀ x H', Same H H' → Dd X.K H' x d → Q x H') → te σ H Q) (up : ∀ σ H H' d, Same H H' → t σ H d → t σ H' d) : PD X e t :=
  ⟨⟨fun pins s σ H Q I q => he.run pins s σ H Q I (let ⟨d, h1, h2⟩ := q; h σ H Q d h1 h2)⟩, up⟩
theorem pd_int {i j} : PD X (.Constant (.int i) j pos) (fun _ _ d => d = .int i) := pd_of pe_int (fun _ H _ _ e h => by subst e; exact h _ _ (Same.refl H) (.int i)) fun _ _ _ _ _ h => h
theorem pd_str {x j} : PD X (.Constant (.str x) j pos) (fun _ _ d => d = .str x) := pd_of pe_str (fun _ H _ _ e h => by subst e; exact h _ _ (Same.refl H) (.str x)) fun _ _ _ _ _ h => h
theorem pd_bl {b j} : PD X (.Constant (.bool b) j pos) (fun _ _ d => d = .bool b) := pd_of pe_bl (fun _ H _ _ e h => by subst e; exact h _ _ (Same.refl H) (.bl b)) fun _ _ _ _ _ h => h
theorem pd_non {j} : PD X (.Constant .none j pos) (fun _ _ d => d = .none) := pd_of pe_non (fun _ H _ _ e h => by subst e; exact h _ _ (Same.refl H) .non) fun _ _ _ _ _ h => h
theorem pd_dnew : PD X (.Dict [] [] pos) (fun _ _ d => d = .dict []) := pd_of pe_dnewK (fun _ H _ _ e h => by subst e; exact fun p hp => h _ _ (same_new hp) (.dct (.inl upd_same) rfl .nil)) fun _ _ _ _ _ h => h
/-- a slot's data -/
def dVar (K : PySem.W.Frag) (i : Nat) : DR := fun σ H d => ∃ v, σ[i]? = some (some v) ∧ Dd K H v d
theorem pd_var {i : Nat} (he : PE X e (tVar i)) : PD X e (dVar X.K i) :=
  pd_of he (fun σ H Q d h k => let ⟨v, h1, h2⟩ := h; ⟨v, h1, k v H (Same.refl H) h2⟩) fun _ _ _ _ e h => let ⟨v, h1, h2⟩ := h; ⟨v, h1, h2.same e⟩
/-- a number reckoned of slots -/
def dInt (f : L2.St → Int → Prop) : DR := fun σ _ d => ∃ i, f σ i ∧ d = .int i
theorem pd_num {f : L2.St → Int → Prop} (he : PE X e te) (h : ∀ σ H Q i, f σ i → Q (.int i) H → te σ H Q) : PD X e (dInt f) :=
  pd_of he (fun σ H Q d q k => by obtain ⟨i, h1, rfl⟩ := q; exact h σ H Q i h1 (k _ _ (Same.refl H) (.int i))) fun _ _ _ _ _ h => h
theorem pd_neg {i j} {p1 p2 : Pos} : PD X (.UnaryOp .USub (.Constant (.int i) j p1) p2) (fun _ _ d => d = .int (-i)) := pd_of (pe_un un_neg pe_int) (fun _ H _ _ e h => by subst e; exact ⟨_, rfl, h _ _ (Same.refl H) (.int (-i))⟩) fun _ _ _ _ _ h => h
def dNil : DRs := fun _ _ ds => ds = []
def dCons (t : DR) (ts : DRs) : DRs := fun σ H ds => ∃ d es, t σ H d ∧ ts σ H es ∧ ds = d :: es
theorem pds_nil : PDs X [] dNil := ⟨⟨fun pos pins s σ H Q I q => pa_nil.run pos pins s σ H Q I (let ⟨ds, h1, h2⟩ := q; h2 _ _ (Same.refl H) (by rw [show ds = [] from h1]; exact .nil))⟩, fun _ _ _ _ _ h => h⟩
theorem pds_cons (ha : PD X e t) (hr : PDs X es ts) (hs : starEach (e :: es) X.env = (false, eval e X.env) :: starEach es X.env := by rfl) : PDs X (e :: es) (dCons t ts) := by
  refine ⟨⟨fun pos pins s σ H Q I q => (pa_cons ha.pe hr.pa hs).run pos pins s σ H Q I ?_⟩, ?_⟩
  · obtain ⟨_, ⟨d, es, h1, h2, rfl⟩, k⟩ := q
    exact ⟨d, h1, fun x G e1 d1 => ⟨es, hr.up _ _ _ _ e1 h2, fun xs G2 e2 d2 => k (x :: xs) G2 (e1.trans e2) (.cons (d1.same e2) d2)⟩⟩
  · rintro σ H H' _ e ⟨d, es, h1, h2, rfl⟩
    exact ⟨d, es, ha.up _ _ _ _ e h1, hr.up _ _ _ _ e h2, rfl⟩
def dTup (ts : DRs) : DR := fun σ H d => ∃ ds, ts σ H ds ∧ ds.length ≤ 1000 ∧ d = .tuple ds
def dLst (ts : DRs) : DR := fun σ H d => ∃ ds, ts σ H ds ∧ ds.length ≤ 1000 ∧ d = .list ds
theorem pd_tup {x1} (h : PDs X es ts) : PD X (.Tuple es x1 pos) (dTup ts) := by
  refine pd_of (pe_tup h.pa) (fun σ H Q d q k => ?_) ?_
  · obtain ⟨ds, h1, hz, rfl⟩ := q
    refine ⟨ds, h1, fun xs G e dd => ⟨?_, fun p hp => k _ _ (e.trans (same_new hp)) (.tup (SqT.of upd_same) (dd.same (same_new hp)))⟩⟩
    rw [dd.length]
    exact Nat.le_trans hz (by decide)
  · rintro σ H H' _ e ⟨ds, h1, hz, rfl⟩
    exact ⟨ds, h.up _ _ _ _ e h1, hz, rfl⟩
theorem pd_lst (h : PDs X es ts) : PD X (.List es pos) (dLst ts) := by
  refine pd_of (pe_lst h.pa) (fun σ H Q d q k => ?_) ?_
  · obtain ⟨ds, h1, hz, rfl⟩ := q
    refine ⟨ds, h1, fun xs G e dd => ⟨?_, fun p hp => k _ _ (e.trans (same_new hp)) (.lst (SqL.of upd_same) (dd.same (same_new hp)))⟩⟩
    rw [dd.length]
    exact Nat.le_trans hz (by decide)
  · rintro σ H H' _ e ⟨ds, h1, hz, rfl⟩
    exact ⟨ds, h.up _ _ _ _ e h1, hz, rfl⟩
/-- t[j] of a tuple's data, j written -/
def dAt (j : Nat) (t : DR) : DR := fun σ H d => ∃ ds, t σ H (.tuple ds) ∧ ds[j]? = some d
theorem pd_at {j k : Nat} {p1 : Pos} (h : PD X e t) : PD X (.Subscript e (.Constant (.int (j : Int)) k p1) pos) (dAt j t) := by
  refine pd_of (pe_ix ix_tup h.pe pe_int (fun _ _ => rfl)) (fun σ H Q d q k => ?_) ?_
  · obtain ⟨ds, h1, hj⟩ := q
    refine ⟨_, h1, fun x G e dd => ?_⟩
    cases dd with
    | @tup a xs ds h2 h3 =>
      have hlt := (List.getElem?_eq_some_iff.mp hj).1
      have hlt2 : j < xs.length := by rw [h3.length]; exact hlt
      have hx : xs[j]? = some xs[j] := List.getElem?_eq_getElem hlt2
      obtain ⟨d', h4, h5⟩ := h3.get hx
      rw [hj] at h4
      cases h4
      exact ⟨a, xs, _, _, rfl, rfl, h2, atI_nat hx, k _ _ e h5⟩
  · rintro σ H H' d e ⟨ds, h1, hj⟩
    exact ⟨ds, h.up _ _ _ _ e h1, hj⟩
/-- str(e) -/
def dStr (t : DR) : DR := fun σ H d => ∃ e, t σ H e ∧ e.showable = true ∧ e.hasDict = false ∧ e.shown.length ≤ sizeLine ∧ e.depth ≤ 60 ∧ d = .str (strOfD e)
theorem pd_strOf {p : Pos} (hg : X.A.guards = some []) (hu : X.A.units + 64 < cLine) (gl : Gl X "str") (hm : X.mg "str" = none) (h : PD X e t) (na : starEach [e] X.env = (false, eval e X.env) :: starEach [] X.env := by rfl) : PD X (.Call (.Name "str" p) [e] [] pos) (dStr t) := by
  refine pd_of (pe_callTy (cr_strD hg hu) gl hm b_str (pa_cons h.pe pa_nil na) (he := na)) (fun σ H Q d q k => ?_) ?_
  · obtain ⟨e, h1, q1, q2, q3, q4, rfl⟩ := q
    exact ⟨e, h1, fun x G e1 dd => ⟨x, e, rfl, dd, q1, q2, q3, q4, k _ _ e1 (.str _)⟩⟩
  · rintro σ H H' d e ⟨e1, h1, q⟩
    exact ⟨e1, h.up _ _ _ _ e h1, q⟩
/-- a[:u], a[u:] of a list's data, u a number from 0 on -/
def dTake (t : DR) (f : L2.St → Int → Prop) : DR := fun σ H d => ∃ ds k, t σ H (.list ds) ∧ f σ ((k : Nat) : Int) ∧ d = .list (ds.take k)
def dDrop (t : DR) (f : L2.St → Int → Prop) : DR := fun σ H d => ∃ ds k, t σ H (.list ds) ∧ f σ ((k : Nat) : Int) ∧ d = .list (ds.drop k)
theorem pd_take {u : Expr} {tu : TE} {f : L2.St → Int → Prop} {p2 : Pos} (ha : PD X e t) (hu : PE X u tu) (h : ∀ σ H Q i, f σ i → Q (.int i) H → tu σ H Q) : PD X (.Subscript e (.Slice none (some u) none p2) pos) (dTake t f) := by
  refine pd_of (pe_slice sl_list ha.pe po_none (po_some hu)) (fun σ H Q d q k => ?_) ?_
  · obtain ⟨ds, n, h1, h2, rfl⟩ := q
    refine ⟨_, h1, fun x G e1 d1 => h σ G _ _ h2 ⟨_, rfl, ?_⟩⟩
    cases d1 with
    | @lst a xs ds g1 g2 =>
      refine ⟨a, xs, rfl, g1, fun p hp => ?_⟩
      rw [cut_front]
      exact k _ _ (e1.trans (same_new hp)) (.lst (SqL.of upd_same) ((g2.take n).same (same_new hp)))
  · rintro σ H H' d e ⟨ds, n, h1, h2⟩
    exact ⟨ds, n, ha.up _ _ _ _ e h1, h2⟩
theorem pd_drop {u : Expr} {tu : TE} {f : L2.St → Int → Prop} {p2 : Pos} (ha : PD X e t) (hu : PE X u tu) (h : ∀ σ H Q i, f σ i → Q (.int i) H → tu σ H Q) : PD X (.Subscript e (.Slice (some u) none none p2) pos) (dDrop t f) := by
  refine pd_of (pe_slice sl_list ha.pe (po_some hu) po_none) (fun σ H Q d q k => ?_) ?_
  · obtain ⟨ds, n, h1, h2, rfl⟩ := q
    refine ⟨_, h1, fun x G e1 d1 => h σ G _ _ h2 ⟨_, rfl, ?_⟩⟩
    cases d1 with
    | @lst a xs ds g1 g2 =>
      refine ⟨a, xs, rfl, g1, fun p hp => ?_⟩
      rw [cut_back]
      exact k _ _ (e1.trans (same_new hp)) (.lst (SqL.of upd_same) ((g2.drop n).same (same_new hp)))
  · rintro σ H H' d e ⟨ds, n, h1, h2⟩
    exact ⟨ds, n, ha.up _ _ _ _ e h1, h2⟩
/-- tuple(a) of a list's data -/
def dTupL (t : DR) : DR := fun σ H d => ∃ ds, t σ H (.list ds) ∧ d = .tuple ds
theorem pd_tupL {p : Pos} (gl : Gl X "tuple") (hm : X.mg "tuple" = none) (h : PD X e t) (na : starEach [e] X.env = (false, eval e X.env) :: starEach [] X.env := by rfl) : PD X (.Call (.Name "tuple" p) [e] [] pos) (dTupL t) := by
  refine pd_of (pe_callTy call_tuple_of gl hm b_tuple (pa_cons h.pe pa_nil na) (he := na)) (fun σ H Q d q k => ?_) ?_
  · obtain ⟨ds, h1, rfl⟩ := q
    refine ⟨_, h1, fun x G e1 d1 => ?_⟩
    cases d1 with
    | @lst a xs ds g1 g2 => exact ⟨a, xs, rfl, .inl ⟨g1, fun p hp => k _ _ (e1.trans (same_new hp)) (.tup (SqT.of upd_same) (g2.same (same_new hp)))⟩⟩
  · rintro σ H H' d e ⟨ds, h1, q⟩
    exact ⟨ds, h.up _ _ _ _ e h1, q⟩
/-- a + b of lists' data -/
def dCat (t u : DR) : DR := fun σ H d => ∃ ds es, t σ H (.list ds) ∧ u σ H (.list es) ∧ ds.length + es.length ≤ 10000000 ∧ d = .list (ds ++ es)
theorem pd_cat {a b : Expr} {u : DR} (ha : PD X a t) (hb : PD X b u) : PD X (.BinOp a .Add b pos) (dCat t u) := by
  refine pd_of (pe_op op_catL ha.pe hb.pe) (fun σ H Q d q k => ?_) ?_
  · obtain ⟨ds, es, h1, h2, hz, rfl⟩ := q
    refine ⟨_, h1, fun x G e1 d1 => ⟨_, hb.up _ _ _ _ e1 h2, fun y G2 e2 d2 => ?_⟩⟩
    have d1 := d1.same e2
    cases d1 with
    | @lst a1 xs ds g1 g2 =>
      cases d2 with
      | @lst a2 ys es g3 g4 =>
        refine ⟨a1, a2, xs, ys, rfl, rfl, g1, g3, ?_, fun p hp => k _ _ ((e1.trans e2).trans (same_new hp)) (.lst (SqL.of upd_same) ((g2.append g4).same (same_new hp)))⟩
        rw [g2.length, g4.length]
        exact Nat.le_trans hz (by decide)
  · rintro σ H H' _ e ⟨ds, es, h1, h2, hz, rfl⟩
    exact ⟨ds, es, ha.up _ _ _ _ e h1, hb.up _ _ _ _ e h2, hz, rfl⟩
end
theorem wipe_two {j1 j2 : Nat} (hj : j1 ≠ j2) (σ : L2.St) (a b : Option V) : wipe (((wipe σ [j1, j2]).set j1 a).set j2 b) [j1, j2] = wipe σ [j1, j2] := by
  simp only [wipe]
  rw [List.set_set, List.set_set, List.set_comm a none hj, List.set_set, List.set_set]
/-- [e for i, x in enumerate(xs)] -/
theorem comp_enumL {K : PySem.W.Frag} {a D : Addr} {xs ys : List V} {te : TE} {j1 j2 : Nat} {σ : L2.St} {H : Hp} {Qd : Hp → Prop} (hj : j1 ≠ j2) (hD : H D = none) (ha : SqL K H a xs) (hl : ys.length = xs.length) (hz : xs.length < sizeLine)
    (each : ∀ (i : Nat) (x y : V), xs[i]? = some x → ys[i]? = some y → ∀ G, Same H G → ∀ Q : VK, (∀ G', Same G G' → Q y G') → te (((wipe σ [j1, j2]).set j1 (some (.int (i : Nat)))).set j2 (some x)) G Q)
    (done : ∀ G, Same H G → G D = some (.lst ys) → Qd G) :
    ∃ W : Nat → Nat → Hp → Prop, (∃ m, W 0 m (upd H D (.lst []))) ∧ ∀ i m G, W i m G →
      ((Ite K a).stop i G ∧ Qd G) ∨ ((Ite K a).go i G ∧ ∃ Nx : Hp → Prop, (∀ H', Nx H' → ∃ m', m' < m ∧ W (i + 1) m' H') ∧ ∀ x H', (Ite K a).yld i G x H' → gTup K 2 (gCons (gName j1) (gCons (gName j2) gNil)) x (wipe σ [j1, j2]) H' fun σ2 H2 => wipe σ2 [j1, j2] = wipe σ [j1, j2] ∧ tYes σ2 H2 fun b H3 =>
        if b = true then te σ2 H3 fun y H4 => ∃ acc, H4 D = some (.lst acc) ∧ acc.length < sizeLine ∧ Nx (upd H4 D (.lst (acc ++ [y]))) else Nx H3) := by
  refine lc_enumL (xs := xs) (fun i G => Same H G ∧ G D = some (.lst (ys.take i))) ⟨same_new hD, by rw [upd_same]; rfl⟩ (fun i G _ h => sql_same h.1 ha) (fun i x G t hi h ht => ?_) fun G h => done G h.1 (by rw [h.2, ← hl, List.take_length])
  have hlt : i < xs.length := (List.getElem?_eq_some_iff.mp hi).1
  have hy : ys[i]? = some ys[i] := List.getElem?_eq_getElem (by omega)
  have e3 : Same G (upd G t (.tup [.int (i : Nat), x])) := same_new ht
  refine ⟨t, _, rfl, SqT.of upd_same, rfl, ?_⟩
  refine ⟨_, _, rfl, _, _, rfl, rfl, ?_⟩
  refine ⟨?_, ?_⟩
  · exact wipe_two hj σ _ _
  · unfold tYes
    simp only [if_true]
    refine each i x _ hi hy _ (h.1.trans e3) _ fun G' e2 => ⟨_, e2 _ _ (e3 _ _ h.2), ?_, ?_⟩
    · rw [List.length_take]
      omega
    · refine ⟨same_mut ((h.1.trans e3).trans e2) hD, ?_⟩
      rw [upd_same, take_snoc hy]
end RG
end RGs
section RGt
/-! The size of what str and repr write: signs below 2^32, cells of rows. -/
namespace RG
open PySem PySem.Spec PyProof.Rows L2
def okc (t : Str) : Bool := t.cps.toList.all (fun c => decide (c < 4294967296))
theorem okc_app {x y : Str} (hx : okc x = true) (hy : okc y = true) : okc (x ++ y) = true := by
  unfold okc at *
  rw [List.all_eq_true] at *
  intro c hc
  have hc2 : c ∈ (x.cps ++ y.cps).toList := hc
  rw [Array.toList_append] at hc2
  rcases List.mem_append.mp hc2 with h | h
  · exact hx c h
  · exact hy c h
theorem okc_lit (s : String) : okc (Str.ofString s) = true := by
  rw [Str.ofString_eq_toList]
  unfold okc
  rw [List.all_eq_true]
  intro c hc
  simp only [List.mem_map] at hc
  obtain ⟨ch, _, rfl⟩ := hc
  have : ch.toNat < 4294967296 := by
    have h := ch.val.toNat_lt
    exact h
  simpa using this
theorem okc_one {c : Nat} (h : c < 4294967296) : okc ⟨#[c]⟩ = true := by
  unfold okc
  simpa using h
open Builtin Builtin.Str in
theorem reprChar_ok (q c : Nat) (hq : q < 4294967296) (hc : c < 4294967296) : ∀ d ∈ reprChar q c, d < 4294967296 := by
  have hx : ∀ w, ∀ d ∈ (List.replicate (w - ((Nat.toDigits 16 c).map Char.toNat).length) 48 ++ (Nat.toDigits 16 c).map Char.toNat), d < 4294967296 := by
    intro w d hd
    rcases List.mem_append.mp hd with h | h
    · rw [List.mem_replicate] at h
      rw [h.2]
      decide
    · obtain ⟨ch, _, rfl⟩ := List.mem_map.mp h
      exact ch.val.toNat_lt
  intro d hd
  unfold reprChar at hd
  dsimp only at hd
  repeat' split at hd
  all_goals simp only [List.mem_append, List.mem_cons, List.not_mem_nil, or_false] at hd
  · rcases hd with rfl | rfl
    · decide
    · exact hc
  · rcases hd with rfl | rfl <;> decide
  · rcases hd with rfl | rfl <;> decide
  · rcases hd with rfl | rfl <;> decide
  · rw [hd]; exact hc
  all_goals
    rcases hd with (rfl | rfl) | hd
    · decide
    · decide
    · exact hx _ d (by simpa only [List.mem_append] using hd)
theorem fold_ok (q : Nat) (hq : q < 4294967296) : ∀ (l : List Nat) (acc : Array Nat), (∀ c ∈ l, c < 4294967296) → (∀ c ∈ acc.toList, c < 4294967296) → ∀ c ∈ (l.foldl (fun out c => out ++ (Builtin.Str.reprChar q c).toArray) acc).toList, c < 4294967296
  | [], _, _, h => h
  | a :: l, acc, h1, h2 => by
    refine fold_ok q hq l _ (fun c hc => h1 c (List.mem_cons_of_mem _ hc)) fun c hc => ?_
    rw [Array.toList_append] at hc
    rcases List.mem_append.mp hc with h | h
    · exact h2 c h
    · exact reprChar_ok q a hq (h1 a List.mem_cons_self) c (by simpa using h)
theorem okc_repr {x : Str} (h : okc x = true) : okc (reprText x) = true := by
  have hq : reprQuote x < 4294967296 := by
    unfold reprQuote
    split <;> decide
  unfold okc at *
  rw [List.all_eq_true] at *
  intro c hc
  simp only [decide_eq_true_eq] at h ⊢
  have hc2 : c ∈ ((x.cps.foldl (fun out c => out ++ (Builtin.Str.reprChar (reprQuote x) c).toArray) #[reprQuote x]).push (reprQuote x)).toList := hc
  rw [Array.toList_push, List.mem_append, ← Array.foldl_toList] at hc2
  rcases hc2 with hc2 | hc2
  · refine fold_ok _ hq _ _ h (fun d hd => ?_) c hc2
    have : d = reprQuote x := by simpa using hd
    rw [this]
    exact hq
  · rw [List.mem_singleton] at hc2
    rw [hc2]
    exact hq
/-- a cell: what str and repr write of it has at most L signs -/
def cellB (L D : Nat) (d : PyData) : Bool := !d.hasDict && d.showable && decide (d.shown.length ≤ L) && decide (d.depth ≤ D) && okc d.shown && (match d with | .str z => okc z && decide (z.length ≤ L) | _ => true)
def itemB (L D : Nat) (d : PyData) : Bool := match d with | .tuple ds => ds.all (cellB L D) | _ => true
def rowB (L D : Nat) (d : PyData) : Bool := match d with | .list ds => ds.all (itemB L D) | _ => true
def topB (L D : Nat) (d : PyData) : Bool := match d with | .list ds => ds.all (rowB L D) | _ => true
structure Cell (L D : Nat) (d : PyData) : Prop where
  nd : d.hasDict = false
  fit : Fit L D d
  ok : okc d.shown = true
  st : ∀ z, d = .str z → okc z = true ∧ z.length ≤ L
theorem cell_iff {L D : Nat} {d : PyData} : cellB L D d = true ↔ Cell L D d := by
  unfold cellB
  simp only [Bool.and_eq_true, Bool.not_eq_true', decide_eq_true_eq]
  constructor
  · rintro ⟨⟨⟨⟨⟨h1, h2⟩, h3⟩, h4⟩, h5⟩, h6⟩
    refine ⟨h1, ⟨h2, h3, h4⟩, h5, fun z e => ?_⟩
    subst e
    simpa only [Bool.and_eq_true, decide_eq_true_eq] using h6
  · rintro ⟨h1, h2, h5, h6⟩
    refine ⟨⟨⟨⟨⟨h1, h2.sh⟩, h2.le⟩, h2.dp⟩, h5⟩, ?_⟩
    cases d with
    | str z => simpa only [Bool.and_eq_true, decide_eq_true_eq] using h6 z rfl
    | _ => rfl
theorem Cell.mono {L D L' D' : Nat} {d : PyData} (h : Cell L D d) (e : L ≤ L') (f : D ≤ D') : Cell L' D' d :=
  ⟨h.nd, h.fit.mono e f, h.ok, fun z q => ⟨(h.st z q).1, Nat.le_trans (h.st z q).2 e⟩⟩
theorem item_mono {L D L' D' : Nat} {d : PyData} (h : itemB L D d = true) (e : L ≤ L') (f : D ≤ D') : itemB L' D' d = true := by
  cases d with
  | tuple ds => exact List.all_eq_true.mpr fun x hx => cell_iff.mpr ((cell_iff.mp (List.all_eq_true.mp h x hx)).mono e f)
  | _ => rfl
theorem row_mono {L D L' D' : Nat} {d : PyData} (h : rowB L D d = true) (e : L ≤ L') (f : D ≤ D') : rowB L' D' d = true := by
  cases d with
  | list ds => exact List.all_eq_true.mpr fun x hx => item_mono (List.all_eq_true.mp h x hx) e f
  | _ => rfl
theorem top_mono {L D L' D' : Nat} {d : PyData} (h : topB L D d = true) (e : L ≤ L') (f : D ≤ D') : topB L' D' d = true := by
  cases d with
  | list ds => exact List.all_eq_true.mpr fun x hx => row_mono (List.all_eq_true.mp h x hx) e f
  | _ => rfl
theorem cell_int {i : Int} (h : i.natAbs < 10000000) : Cell 10 0 (.int i) :=
  ⟨rfl, (fit_int (k := 7) (by decide) (by decide) h).mono (by decide) (Nat.le_refl 0), by simp only [PyData.shown]; exact okc_lit _, fun _ e => nomatch e⟩
theorem cell_bool (b : Bool) : Cell 10 0 (.bool b) := cell_iff.mp (by cases b <;> decide +kernel)
theorem cell_none : Cell 10 0 .none := cell_iff.mp (by decide +kernel)
theorem cell_str {t : Str} {M : Nat} (h1 : okc t = true) (h2 : t.length ≤ M) : Cell (10 * M + 2) 0 (.str t) := by
  have h3 : (reprText t).length ≤ 10 * t.length + 2 := StrLaws.reprText_len t fun c hc => by
    have := List.all_eq_true.mp h1 c hc
    simpa using this
  refine ⟨rfl, ⟨rfl, by simp only [PyData.shown]; omega, Nat.le_refl 0⟩, by simp only [PyData.shown]; exact okc_repr h1, fun z e => ?_⟩
  cases e
  exact ⟨h1, by omega⟩
theorem cell_tup1 {L D : Nat} {d : PyData} (h : Cell L D d) : Cell (L + 5) (D + 1) (.tuple [d]) := by
  refine ⟨by simpa [PyData.hasDict, PyData.hasDictAll] using h.nd, ((Fits.nil.cons h.fit).tuple).mono (by omega) (Nat.le_refl _), ?_, fun _ e => nomatch e⟩
  simp only [PyData.shown, PyData.shownAll, tupleText, join_one]
  exact okc_app (okc_app (okc_lit _) h.ok) (okc_lit _)
theorem list_fits {W D : Nat} {es : List PyData} (h : Fit W (D + 1) (.list es)) : Fits W D es := by
  have h1 := h.sh
  have h2 := h.le
  have h3 := h.dp
  refine ⟨by simpa only [PyData.showable] using h1, ?_, ?_⟩
  · have h0 := pl_piled es
    cases hts : PyData.shownAll es with
    | nil =>
      rw [hts] at h0
      rw [← h0]
      exact Nat.zero_le _
    | cons t ts =>
      simp only [PyData.shown, hts] at h2
      unfold listText at h2
      have e : textFrom 0 "[" (t :: ts) = textFrom 1 ("[" ++ t) ts := rfl
      rw [hts, piled_cons] at h0
      rw [strLen_append, e, textFrom_length_pos ts 1 _ (by decide), strLen_append] at h2
      have h4 : (("[" : Str)).length = 1 := by decide +kernel
      have h5 : (("]" : Str)).length = 1 := by decide +kernel
      omega
  · simp only [PyData.depth] at h3
    omega
theorem fits_len {W D : Nat} : ∀ {es : List PyData}, Fits W D es → 2 * es.length ≤ W := by
  intro es h
  have h1 := h.le
  have : ∀ es : List PyData, 2 * es.length ≤ pl es := by
    intro es
    induction es with
    | nil => exact Nat.zero_le _
    | cons d ds ih => rw [pl_cons, List.length_cons]; omega
  have := this es
  omega
/-- what str writes of a cell -/
theorem cell_strOf {L D : Nat} {d : PyData} (h : Cell L D d) : okc (strOfD d) = true ∧ (strOfD d).length ≤ L := by
  cases d with
  | str z => exact h.st z rfl
  | _ => exact ⟨h.ok, h.fit.le⟩
end RG
end RGt
section RGu
/-! comprehensions of data -/
namespace RG
open PySem PySem.Spec PyProof.Rows L2
mutual
/-- no list in it -/
def noL : PyData → Bool
  | .list _ => false
  | .tuple ds => noLAll ds
  | .dict kvs => noLKv kvs
  | _ => true
def noLAll : List PyData → Bool
  | [] => true
  | d :: ds => noL d && noLAll ds
def noLKv : List (PyData × PyData) → Bool
  | [] => true
  | (_, d) :: ds => noL d && noLKv ds
end
theorem rd_rem {D a : Addr} {G : Hp} {o o' : HO} (g : G D = some o') (h : Rd G a o) (n : o ≠ o') (n2 : ∀ ob, HO.frz ob o ≠ o') : Rd (rem D G) a o := by
  rcases h with h | ⟨ob, h⟩
  · refine Or.inl ?_
    rw [rem_ne]
    · exact h
    · rintro rfl
      rw [g] at h
      exact n (Option.some.inj h).symm
  · refine Or.inr ⟨ob, ?_⟩
    rw [rem_ne]
    · exact h
    · rintro rfl
      rw [g] at h
      exact n2 ob (Option.some.inj h).symm
theorem sqt_rem {K : PySem.W.Frag} {D a : Addr} {G : Hp} {ys xs : List V} (g : G D = some (.lst ys)) (h : SqT K G a xs) : SqT K (rem D G) a xs := h.imp (fun h => rd_rem g h (fun e => nomatch e) (fun _ e => nomatch e)) id
mutual
theorem Dd.remL {K : PySem.W.Frag} {D : Addr} {G : Hp} {ys : List V} (g : G D = some (.lst ys)) : ∀ {v : V} {d : PyData}, Dd K G v d → noL d = true → Dd K (rem D G) v d
  | _, _, .non, _ => .non
  | _, _, .bl b, _ => .bl b
  | _, _, .int i, _ => .int i
  | _, _, .str x, _ => .str x
  | _, _, .lst _ _, e => by simp [noL] at e
  | _, _, .tup h t, e => .tup (sqt_rem g h) (DdAll.remL g t (by simpa [noL] using e))
  | _, _, .dct h n t, e => .dct (rd_rem g h (fun e => nomatch e) (fun _ e => nomatch e)) n (DdKv.remL g t (by simpa [noL] using e))
theorem DdAll.remL {K : PySem.W.Frag} {D : Addr} {G : Hp} {ys : List V} (g : G D = some (.lst ys)) : ∀ {vs : List V} {ds : List PyData}, DdAll K G vs ds → noLAll ds = true → DdAll K (rem D G) vs ds
  | _, _, .nil, _ => .nil
  | _, _, .cons h t, e => by
    simp only [noLAll, Bool.and_eq_true] at e
    exact .cons (Dd.remL g h e.1) (DdAll.remL g t e.2)
theorem DdKv.remL {K : PySem.W.Frag} {D : Addr} {G : Hp} {ys : List V} (g : G D = some (.lst ys)) : ∀ {kvs : List (Key × V)} {ds : List (PyData × PyData)}, DdKv K G kvs ds → noLKv ds = true → DdKv K (rem D G) kvs ds
  | _, _, .nil, _ => .nil
  | _, _, .cons h t, e => by
    simp only [noLKv, Bool.and_eq_true] at e
    exact .cons (Dd.remL g h e.1) (DdKv.remL g t e.2)
end
/-- [e for x in xs], each e new data, all that stood stands -/
theorem lc_dd1 {K : PySem.W.Frag} {a D : Addr} {xs : List V} {ds : List PyData} {te : TE} {j : Nat} {σ : L2.St} {H : Hp} {Qd : Hp → Prop} (hD : H D = none) (ha : SqL K H a xs) (hl : ds.length = xs.length) (hz : xs.length < sizeLine)
    (nl : ∀ d ∈ ds, noL d = true)
    (each : ∀ (i : Nat) (x : V) (d : PyData), xs[i]? = some x → ds[i]? = some d → ∀ G, Same H G → ∀ Q : VK, (∀ y G', Same G G' → Dd K G' y d → Q y G') → te ((σ.set j none).set j (some x)) G Q)
    (done : ∀ G, Same H G → Dd K G (.ref D) (.list ds) → Qd G) :
    ∃ W : Nat → Nat → Hp → Prop, (∃ m, W 0 m (upd H D (.lst []))) ∧ ∀ i m G, W i m G →
      ((Itl K a).stop i G ∧ Qd G) ∨ ((Itl K a).go i G ∧ ∃ Nx : Hp → Prop, (∀ H', Nx H' → ∃ m', m' < m ∧ W (i + 1) m' H') ∧ ∀ x H', (Itl K a).yld i G x H' → gName j x (wipe σ [j]) H' fun σ2 H2 => wipe σ2 [j] = wipe σ [j] ∧ tYes σ2 H2 fun b H3 =>
        if b = true then te σ2 H3 fun y H4 => ∃ acc, H4 D = some (.lst acc) ∧ acc.length < sizeLine ∧ Nx (upd H4 D (.lst (acc ++ [y]))) else Nx H3) := by
  refine lc_list (xs := xs) (fun i G => Same H G ∧ ∃ ys, G D = some (.lst ys) ∧ DdAll K (rem D G) ys (ds.take i)) ⟨same_new hD, [], upd_same, by rw [List.take_zero]; exact .nil⟩ (fun i G _ h => sql_same h.1 ha) (fun i x G hi h => ?_) fun G h => ?_
  · have hlt : i < xs.length := (List.getElem?_eq_some_iff.mp hi).1
    obtain ⟨d, hd⟩ : ∃ d, ds[i]? = some d := ⟨_, List.getElem?_eq_getElem (by omega)⟩
    obtain ⟨e, ys, g1, g2⟩ := h
    have yl := g2.length
    rw [List.length_take] at yl
    refine ⟨?_, ?_⟩
    · show ((σ.set j none).set j (some x)).set j none = σ.set j none
      rw [List.set_set, List.set_set]
    · unfold tYes
      simp only [if_true]
      refine each i x d hi hd G e _ fun y G' e2 dd => ⟨ys, e2 _ _ g1, by omega, same_mut (e.trans e2) hD, ys ++ [y], upd_same, ?_⟩
      rw [rem_upd, ← take_snoc hd]
      have s2 : Same (rem D G) (rem D G') := rem_same e2
      exact (g2.same s2).append (.cons (dd.remL (e2 _ _ g1) (nl d (List.mem_of_getElem? hd))) .nil)
  · obtain ⟨e, ys, g1, g2⟩ := h
    rw [← hl, List.take_length] at g2
    exact done G e (.lst (SqL.of g1) (g2.same same_rem))
/-- the same, the target a pair -/
theorem lc_dd2 {K : PySem.W.Frag} {a D : Addr} {xs : List V} {ds : List PyData} {te : TE} {j1 j2 : Nat} {σ : L2.St} {H : Hp} {Qd : Hp → Prop} (hj : j1 ≠ j2) (hD : H D = none) (ha : SqL K H a xs) (hl : ds.length = xs.length) (hz : xs.length < sizeLine)
    (nl : ∀ d ∈ ds, noL d = true)
    (R : Nat → V → V → Prop) (pair : ∀ (i : Nat) (x : V), xs[i]? = some x → ∃ t y z, x = .ref t ∧ SqT K H t [y, z] ∧ R i y z)
    (each : ∀ (i : Nat) (y z : V) (d : PyData), R i y z → ds[i]? = some d → ∀ G, Same H G → ∀ Q : VK, (∀ y G', Same G G' → Dd K G' y d → Q y G') → te (((wipe σ [j1, j2]).set j1 (some y)).set j2 (some z)) G Q)
    (done : ∀ G, Same H G → Dd K G (.ref D) (.list ds) → Qd G) :
    ∃ W : Nat → Nat → Hp → Prop, (∃ m, W 0 m (upd H D (.lst []))) ∧ ∀ i m G, W i m G →
      ((Itl K a).stop i G ∧ Qd G) ∨ ((Itl K a).go i G ∧ ∃ Nx : Hp → Prop, (∀ H', Nx H' → ∃ m', m' < m ∧ W (i + 1) m' H') ∧ ∀ x H', (Itl K a).yld i G x H' → gTup K 2 (gCons (gName j1) (gCons (gName j2) gNil)) x (wipe σ [j1, j2]) H' fun σ2 H2 => wipe σ2 [j1, j2] = wipe σ [j1, j2] ∧ tYes σ2 H2 fun b H3 =>
        if b = true then te σ2 H3 fun y H4 => ∃ acc, H4 D = some (.lst acc) ∧ acc.length < sizeLine ∧ Nx (upd H4 D (.lst (acc ++ [y]))) else Nx H3) := by
  refine lc_list (xs := xs) (fun i G => Same H G ∧ ∃ ys, G D = some (.lst ys) ∧ DdAll K (rem D G) ys (ds.take i)) ⟨same_new hD, [], upd_same, by rw [List.take_zero]; exact .nil⟩ (fun i G _ h => sql_same h.1 ha) (fun i x G hi h => ?_) fun G h => ?_
  · have hlt : i < xs.length := (List.getElem?_eq_some_iff.mp hi).1
    obtain ⟨d, hd⟩ : ∃ d, ds[i]? = some d := ⟨_, List.getElem?_eq_getElem (by omega)⟩
    obtain ⟨e, ys, g1, g2⟩ := h
    have yl := g2.length
    rw [List.length_take] at yl
    obtain ⟨t, y, z, rfl, ht, hR⟩ := pair i x hi
    refine ⟨t, _, rfl, sqt_same e ht, rfl, ?_⟩
    refine ⟨_, _, rfl, _, _, rfl, rfl, ?_⟩
    refine ⟨wipe_two hj σ _ _, ?_⟩
    unfold tYes
    simp only [if_true]
    refine each i y z d hR hd G e _ fun y G' e2 dd => ⟨ys, e2 _ _ g1, by omega, same_mut (e.trans e2) hD, ys ++ [y], upd_same, ?_⟩
    rw [rem_upd, ← take_snoc hd]
    have s2 : Same (rem D G) (rem D G') := rem_same e2
    exact (g2.same s2).append (.cons (dd.remL (e2 _ _ g1) (nl d (List.mem_of_getElem? hd))) .nil)
  · obtain ⟨e, ys, g1, g2⟩ := h
    rw [← hl, List.take_length] at g2
    exact done G e (.lst (SqL.of g1) (g2.same same_rem))
theorem putK_new {kvs : List (Key × V)} {k : Key} {v : V} (h : k ∉ kvs.map (·.1)) : putK kvs k v = kvs ++ [(k, v)] := by
  unfold putK
  rw [if_neg]
  intro e
  rw [List.any_eq_true] at e
  obtain ⟨kv, h1, h2⟩ := e
  exact h (List.mem_map.mpr ⟨kv, h1, of_decide_eq_true h2⟩)
theorem DdKv.snoc {K : PySem.W.Frag} {H : Hp} {k : Key} {v : V} {d : PyData} (h : Dd K H v d) : ∀ {kvs : List (Key × V)} {ds : List (PyData × PyData)}, DdKv K H kvs ds → DdKv K H (kvs ++ [(k, v)]) (ds ++ [(keyData k, d)])
  | _, _, .nil => .cons h .nil
  | _, _, .cons h2 t => .cons h2 (DdKv.snoc h t)
theorem keys_noPen {kvs : List (Key × V)} {ks : List Int} (h : kvs.map (·.1) = ks.map Sum.inl) : isPen kvs = false := by
  cases kvs with
  | nil => rfl
  | cons kv kvs =>
    cases ks with
    | nil => simp at h
    | cons k ks =>
      obtain ⟨a, b⟩ := kv
      simp only [List.map_cons, List.cons.injEq] at h
      have e : a = Sum.inl k := h.1
      subst e
      rfl
/-- the data of tuples of ints -/
def intsD (ns : List Int) : PyData := .tuple (ns.map PyData.int)
theorem intsD_dd {K : PySem.W.Frag} {H : Hp} {b : Addr} {ns : List Int} (h : SqT K H b (ns.map V.int)) : Dd K H (.ref b) (intsD ns) := .tup h (DdAll.ints ns)
theorem intsV_of {K : PySem.W.Frag} {H : Hp} : ∀ {ns : List Int} {xs : List V}, DdAll K H xs (ns.map PyData.int) → xs = ns.map V.int
  | [], _, .nil => rfl
  | n :: ns, _, .cons h t => by
    cases h
    rw [List.map_cons, intsV_of t]
theorem intsD_of {K : PySem.W.Frag} {H : Hp} {v : V} {ns : List Int} (h : Dd K H v (intsD ns)) : ∃ b, v = .ref b ∧ SqT K H b (ns.map V.int) := by
  cases h with
  | @tup a xs _ h1 h2 =>
    rw [intsV_of h2] at h1
    exact ⟨a, rfl, h1⟩
/-- {k: t for x in xs}, unlike ints, tuples of ints -/
theorem dc_ints {K : PySem.W.Frag} {a D : Addr} {xs : List V} {ks : List Int} {vals : List (List Int)} {tk tv : TE} {j : Nat} {σ : L2.St} {H : Hp} {Qd : Hp → Prop} (hD : H D = none) (ha : SqL K H a xs) (hk : ks.length = xs.length) (hl : vals.length = xs.length) (nd : ks.Nodup) (hz : xs.length < sizeLine)
    (key : ∀ (i : Nat) (x : V) (k : Int), xs[i]? = some x → ks[i]? = some k → ∀ G, Same H G → ∀ Q : VK, Q (.int k) G → tk ((σ.set j none).set j (some x)) G Q)
    (val : ∀ (i : Nat) (x : V) (ns : List Int), xs[i]? = some x → vals[i]? = some ns → ∀ G, Same H G → ∀ Q : VK, (∀ b G', Same G G' → SqT K G' b (ns.map V.int) → Q (.ref b) G') → tv ((σ.set j none).set j (some x)) G Q)
    (done : ∀ G, Same H G → Dd K G (.ref D) (.dict ((ks.zip vals).map fun p => (.int p.1, intsD p.2))) → Qd G) :
    ∃ W : Nat → Nat → Hp → Prop, (∃ m, W 0 m (upd H D (.dK []))) ∧ ∀ i m G, W i m G →
      ((Itl K a).stop i G ∧ Qd G) ∨ ((Itl K a).go i G ∧ ∃ Nx : Hp → Prop, (∀ H', Nx H' → ∃ m', m' < m ∧ W (i + 1) m' H') ∧ ∀ x H', (Itl K a).yld i G x H' → gName j x (wipe σ [j]) H' fun σ2 H2 => wipe σ2 [j] = wipe σ [j] ∧ tYes σ2 H2 fun b H3 =>
        if b = true then tk σ2 H3 fun y H4 => tv σ2 H4 fun z H5 => ∃ kvs k, y = kV k ∧ H5 D = some (.dK kvs) ∧ kvs.length < sizeLine ∧ Nx (upd H5 D (.dK (putK kvs k z))) else Nx H3) := by
  let Pv : Nat → Hp → Prop := fun i G => Same H G ∧ ∃ kvs, G D = some (.dK kvs) ∧ kvs.map (·.1) = (ks.take i).map Sum.inl ∧ DdKv K (rem D G) kvs (((ks.zip vals).take i).map fun p => (.int p.1, intsD p.2))
  refine ⟨fun i m G => m = xs.length - i ∧ i ≤ xs.length ∧ Pv i G, ⟨xs.length, by simp, Nat.zero_le _, same_new hD, [], upd_same, rfl, .nil⟩, ?_⟩
  rintro i m G ⟨rfl, hi, e, kvs, g1, g2, g3⟩
  have q := sql_same e ha
  by_cases hlt : i < xs.length
  · obtain ⟨x, hx⟩ : ∃ x, xs[i]? = some x := ⟨_, List.getElem?_eq_getElem hlt⟩
    obtain ⟨k, hk2⟩ : ∃ k, ks[i]? = some k := ⟨_, List.getElem?_eq_getElem (by omega)⟩
    obtain ⟨ns, hv⟩ : ∃ ns, vals[i]? = some ns := ⟨_, List.getElem?_eq_getElem (by omega)⟩
    have kl : kvs.length = i := by
      have := congrArg List.length g2
      rw [List.length_map, List.length_map, List.length_take] at this
      omega
    refine .inr ⟨⟨xs, x, q, hx⟩, Pv (i + 1), fun H' p' => ⟨xs.length - (i + 1), by omega, rfl, hlt, p'⟩, fun x' H' y => ?_⟩
    obtain ⟨rfl, y⟩ := y
    have hxx := y xs q
    rw [hx] at hxx
    obtain rfl := Option.some.inj hxx
    refine ⟨?_, ?_⟩
    · show ((σ.set j none).set j (some x)).set j none = σ.set j none
      rw [List.set_set, List.set_set]
    · unfold tYes
      simp only [if_true]
      refine key i x k hx hk2 H' e _ (val i x ns hx hv H' e _ fun b G' e2 sb => ⟨kvs, Sum.inl k, rfl, e2 _ _ g1, by omega, same_mut (e.trans e2) hD, kvs ++ [(Sum.inl k, .ref b)], ?_, ?_, ?_⟩)
      · rw [upd_same, putK_new]
        rw [g2]
        intro h
        obtain ⟨k', h1, h2⟩ := List.mem_map.mp h
        obtain rfl := Sum.inl.inj h2
        have h3 : (ks.take (i + 1)).Nodup := nd.sublist (List.take_sublist _ _)
        rw [← take_snoc hk2] at h3
        exact (List.nodup_append.mp h3).2.2 k' h1 k' List.mem_cons_self rfl
      · rw [List.map_append, g2, ← take_snoc hk2, List.map_append]
        rfl
      · rw [rem_upd]
        have hzip : (ks.zip vals)[i]? = some (k, ns) := by
          rw [List.getElem?_zip_eq_some]
          exact ⟨hk2, hv⟩
        rw [← take_snoc hzip, List.map_append]
        exact DdKv.snoc (intsD_dd (sb.imp (fun h => rd_rem (e2 _ _ g1) h (fun e => nomatch e) (fun _ e => nomatch e)) id)) (g3.same (rem_same e2))
  · obtain rfl : i = xs.length := by omega
    refine .inl ⟨⟨xs, q, Nat.le_refl _⟩, done G e (.dct (.inl g1) (keys_noPen g2) ?_)⟩
    have e3 : (ks.zip vals).take xs.length = ks.zip vals := List.take_of_length_le (by rw [List.length_zip]; omega)
    rw [e3] at g3
    exact g3.same same_rem
end RG
end RGu
section RGv
namespace RG
open PySem PySem.Spec PyProof.Rows L2
section
variable {X : Cx}
/-- xs[::-1] of a list: a new one -/
def tRevL (K : PySem.W.Frag) (te : TE) : TE := fun σ H Q => te σ H fun x H1 => ∃ a xs, x = .ref a ∧ SqL K H1 a xs ∧ ∀ p, H1 p = none → Q (.ref p) (upd H1 p (.lst xs.reverse))
theorem pick_rev (xs : List Value) : slicePick xs.toArray none none (some (-1)) = xs.reverse.toArray := by
  unfold slicePick
  congr 1
  rw [← rev_items xs]
  have e : sliceBounds none none (some (-1)) xs.toArray.size = (((xs.length : Nat) : Int) - 1, -1, -1) := by
    rw [List.size_toArray]
    rfl
  rw [e]
  have r : sliceRange (((xs.length : Nat) : Int) - 1) (-1) (-1) = (List.range xs.length).map fun (k : Nat) => (((xs.length : Nat) : Int) - 1 + (k : Int) * -1).toNat := by
    unfold sliceRange
    rw [if_neg (by decide)]
    have c : (if ((xs.length : Nat) : Int) - 1 > -1 then (((xs.length : Nat) : Int) - 1 - -1 - -1 - 1) / -(-1) else 0).toNat = xs.length := by
      by_cases h : ((xs.length : Nat) : Int) - 1 > -1
      · rw [if_pos h, show (-(-1) : Int) = 1 from rfl, Int.ediv_one]
        omega
      · rw [if_neg h]
        omega
    simp only [c]
    refine List.map_congr_left fun k _ => ?_
    congr 1
    omega
  rw [r, List.filterMap_map]
  rfl
theorem pe_revL {K : PySem.W.Frag} {e : Expr} {te : TE} {k : Nat} {p1 p2 p3 pos : Pos} (hK : X.K = K) (he : PE X e te) : PE X (.Subscript e (.Slice none none (some (.UnaryOp .USub (.Constant (.int 1) k p1) p2)) p3) pos) (tRevL K te) := by
  subst hK
  refine ⟨fun pins s σ H Q I h => Subscript_ (thn (he.run pins s σ H _ I h) ?_)⟩
  rintro v s1 ⟨x, H1, I1, r1, a, xs, rfl, hx, q⟩
  cases r1
  have step : PO X (some (.UnaryOp .USub (.Constant (.int 1) k p1) p2)) (tPart (tUn (rU fun i => .int (-i)) (tC (.int 1)))) := po_some (pe_un un_neg pe_int)
  refine wpAny_Slice (thn (po_none.run pins s1 σ H1 (fun o G => o = none ∧ G = H1) I1 ⟨rfl, rfl⟩) ?_)
  rintro vl s2 ⟨l, G2, I2, pl, el, e2⟩
  subst el e2
  refine thn (po_none.run pins s2 σ G2 (fun o G => o = none ∧ G = G2) I2 ⟨rfl, rfl⟩) ?_
  rintro vu s3 ⟨u, G3, I3, pu, eu, e3⟩
  subst eu e3
  refine thn (step.run pins s3 σ G3 (fun o G => o = some (-1) ∧ G = G3) I3 ⟨1, rfl, -1, rfl, rfl, rfl⟩) ?_
  rintro vs s4 ⟨o, G4, I4, ps, eo, e4⟩
  subst eo e4
  have I5 : Inv X pins σ G4 { s4 with heap := s4.heap.push { cls := .type "slice", data := .fields #[vl, vu, vs] } } := I4.kept (t' := s4.toks) fun b ob z => Heap.get?_push_of_some _ z
  obtain ⟨its, r, ht, hz⟩ := I5.list hx
  have hlen := r.length
  show wpAny (model X.prog X.w) X.A (subscriptTail e (.Slice none none (some (.UnaryOp .USub (.Constant (.int 1) k p1) p2)) p3) (.ref a) (.ref s4.heap.objs.size)) (EP X pins σ Q) X.xe { s4 with heap := s4.heap.push { cls := .type "slice", data := .fields #[vl, vu, vs] } }
  refine tail_any (ops := [.ref a, .ref s4.heap.objs.size]) ht.isList.typeIs (PySem.F.slot_list_getitem.lookup) ?_ (by with_unfolding_all rfl)
  refine wpAny_getItem_list_slice ht.isList (Heap.IsSliceOf.new _ vl vu vs) pl pu ps (by decide) ?_ (by rw [List.size_toArray] <;> omega)
  rw [pick_rev]
  refine ⟨.ref _, _, I5.laid (t' := s4.toks) (o := .lst xs.reverse) (fun b ob z => Heap.get?_push_of_some _ z) (Nat.le_refl _) ?_, rfl, q _ (I5.hok.fresh (Nat.le_refl _))⟩
  exact ⟨by rw [List.length_reverse]; exact hz, _, 0, r.reverse, Heap.get?_push_size _ rfl⟩
/-- {t: v}, t a tuple of ints and texts, a new one -/
def tDispT (tk tv : TE) : TE := fun σ H Q => ∀ p, H p = none → tPairs [(tk, tv)] σ (upd H p (.dT [])) fun ps H2 => ∃ x y, ps = [(x, y)] ∧ H2 p = some (.dT []) ∧ ∃ (b : Addr) (k : List Key), x = .ref b ∧ H2 b = some (.tup (k.map kV)) ∧ Q (.ref p) (upd H2 p (.dT [(k, y)]))
theorem pe_dispT {pos : Pos} {ke ve : Expr} {tk tv : TE} (hu : X.A.units < cLine) (hk : PE X ke tk) (hv : PE X ve tv) : PE X (.Dict [some ke] [ve] pos) (tDispT tk tv) := by
  refine ⟨fun pins s σ H Q I q => ?_⟩
  have hn := I.hok.fresh (Nat.le_refl s.heap.objs.size)
  have I1 := I.laid (a := s.heap.objs.size) (o := .dT []) (h' := s.heap.push { cls := .type "dict", data := .dict #[] }) (t' := s.toks) (fun _ _ q => Heap.get?_push_of_some _ q) (Nat.le_refl _) (dt_empty s.heap I.big)
  have P : PPs X pos [some ke] [ve] [(tk, tv)] := pps_cons hk hv pps_nil
  rw [arm_eval_Dict, zip_pairTrees [some ke] [ve] X.env pos rfl rfl, dictDisplay_pairs (pairTrees [some ke] [ve] X.env pos) (fun z => by cases z) (show 1 < 17 by exact Nat.lt_of_sub_pos (by decide))]
  refine wpAny_bind (wpAny_standAt (wpAny_bind (wpAny_subDictH (knd := tupleKind (mixKind X.prog X.w)) (Q := fun d s' => wpAny (model X.prog X.w) X.A (pure (Value.ref d)) (EP X pins σ Q) X.xe s') hu (show 1 ≤ 15 by decide) ?_)))
  refine thn (P.run pins _ σ _ _ I1 (q _ hn)) ?_
  rintro ws s2 ⟨ps, H2, I2, rel, x, y, rfl, e, b, k, rfl, eb, q2⟩
  obtain ⟨z, hd, xs, rx, dd⟩ := dt_of I2.hok e
  cases rx
  cases rel with
  | @cons _ w2 _ ws h t =>
    cases t
    obtain ⟨w1, w3⟩ := w2
    obtain ⟨r1, r2⟩ := h
    cases (show w1 = Value.ref b from r1)
    refine ⟨[(k, b, w3)], ⟨rfl, rfl, key_of I2.hok eb, True.intro⟩, dd, fun h' tk dd' hs => wpAny_pure ?_⟩
    obtain ⟨q, es, ep, hq, h2, h3, h4, _, h5⟩ := dd'
    refine ⟨.ref s.heap.objs.size, _, ?_, rfl, q2⟩
    refine (d_write I2 (by rw [e]; exact True.intro) hs ⟨q, hq⟩ (ob := .dT [(k, y)]) ⟨(show 1 ≤ sizeLine by decide), hd, [(k, b, w3)], ?_, q, es, ep, hq, h2, h3, h4, h5⟩)
    refine .cons ⟨rfl, ?_, r2⟩ .nil
    rw [upd_ne (ne_of eb e (fun z => nomatch z))]
    exact eb
end
theorem Cg.imp {P : Program} {w : World} {K : PySem.W.Frag} {mg : Str → Option Value} {base : Heap} {k : Nat} {x : Str} {sp sp' : Sp} (c : Cg P w K mg base k x sp) (h : ∀ vs H Q E, sp' vs H Q E → sp vs H Q E) : Cg P w K mg base k x sp' := by
  obtain ⟨f, fd, ps, F, h1, h2, h3⟩ := c.ex
  exact ⟨f, fd, ps, ⟨fun vs H Q E z => F.many vs H Q E (h _ _ _ _ z), fun A out s H ar us vs Q E a b c d e z => F.runs A out s H ar us vs Q E a b c d e (h _ _ _ _ z)⟩, h1, h2, h3⟩
end RG
end RGv
section RGw
/-! sorted(set(xs)), xs a list of ints -/
namespace RG
open PySem PySem.Spec PyProof.Rows L2
section
variable {P : Program} {w : World} {A : Around} {E : Value → Shared → Prop} {s : Shared}
theorem set_ints {l : Addr} {items : Array Value} (ns : List Int) {Q : Value → Shared → Prop} (hh : A.handled = none) (hl : s.heap.IsList l items) (hit : IntsAre items.toList ns) (hb : ns.length + 1 < scanBound)
    (h : ∀ (h' : Heap) (tk c : Nat), SetR w h' s.heap.objs.size (fun j => decide (j ∈ ns)) c → (∀ b o, s.heap.get? b = some o → h'.get? b = some o) → Q (.ref s.heap.objs.size) { s with heap := h', toks := tk }) :
    wpAny (model P w) A (call (.type "set") [.ref l]) Q E s := by
  have many : items.size = ns.length := by
    have q := IntsAre.length hit
    rwa [Array.length_toList] at q
  generalize eo0 : ({ cls := .type "set", dict := none, data := .set #[] 0 (.fresh 0 0 (!w.params.followText "set-order")) } : Obj) = o0
  obtain ⟨c, tl, hmro⟩ := PySem.F.called_set.mro
  have hmade := PySem.F.called_set.made
  have hsub := PySem.F.called_set.sub
  refine wpAny_call (codeAny_of_tree ?_)
  show wpAny _ _ (callAny (.type "set") _) _ _ _
  refine wpAny_pure ⟨Code.quiet_builtin _ (by decide +kernel), codeAny_builtin PySem.F.entry_type_call ?_⟩
  rw [Around.under_plain (weight_type_call_type "set" [.ref l] []) rfl]
  have h1 := PySem.F.called_set.notType
  have h2 := PySem.F.called_set.canCreate
  have hct := PySem.F.typeCall_set_1 (.ref l)
  repeat (any_goals (first | assumption | wp_step))
  refine codeAny_mono (code_set_led1 (.ref l) (E := E) (Q₁ := fun obj s₁ => obj = .ref s.heap.objs.size ∧ s₁ = { s with heap := s.heap.push o0 }) ⟨rfl, by rw [← eo0]⟩) fun r s₁ hr => ?_
  cases r with
  | error e => exact hr
  | ok fl =>
    cases fl with
    | ret obj =>
      obtain ⟨rfl, rfl⟩ := hr
      have hS : (s.heap.push o0).get? s.heap.objs.size = some o0 := Heap.get?_push_size _ (by rw [← eo0]; rfl)
      have hT : Shared.TypeIs { s with heap := s.heap.push o0 } (.ref s.heap.objs.size) "set" := ⟨_, hS, by rw [← eo0]⟩
      have hli := PySem.F.called_set.init.lookup
      have hbi := PySem.F.called_set.init.bind (.ref s.heap.objs.size)
      repeat (any_goals (first | assumption | wp_step))
      refine codeAny_mono (codeAny_call_builtin (R := wants (fun r s₂ => r = .none ∧ ∃ h' tk c, s₂ = { s with heap := h', toks := tk } ∧ SetR w h' s.heap.objs.size (fun j => decide (j ∈ ns)) c ∧
          (∀ b o, s.heap.get? b = some o → h'.get? b = some o)) E) PySem.F.called_set.init.plain PySem.F.entry_set_init (check_set_init_1 hT ?_)) fun r₂ s₂ hr₂ => ?_
      · have hlS : l < s.heap.objs.size := by
          obtain ⟨ol, hol, _⟩ := hl
          exact Heap.lt_size hol
        have hl1 : (s.heap.push o0).IsList l items := hl.push _
        obtain ⟨ol, hol, hcl, nl, hdl⟩ := hl1
        obtain ⟨ocls, odict, odata, oslots⟩ := ol
        simp only at hcl hdl
        subst hcl
        subst hdl
        have hl1 : (s.heap.push o0).IsList l items := hl.push _
        have z1 := PySem.F.sub_list_set
        have z2 := PySem.F.sub_list_frozenset
        have z3 : (Value.type "list" == Value.type "dict") = false := by decide
        subst eo0
        unfold Builtin.«set.__init__» noKeywords Builtin.Frozenset.updateFrom
        generalize hPI : pyIter = PI
        wp_walk
        subst hPI
        refine wpAny_pyIter_list hl1 ?_
        refine wpAny_bind (wpAny_runValue ?_)
        have z4 : A.in1.in1.in1.handled = none := by simp [hh]
        have big : ∀ o1 : Obj, (s.heap.push o1).objs.size = s.heap.objs.size + 1 := fun _ => Heap.size_push ..
        have ne : ∀ o1 : Obj, l ≠ (s.heap.push o1).objs.size := fun o1 => by
          rw [big o1]
          exact Nat.ne_of_lt (Nat.lt_succ_of_lt hlS)
        have out : ∀ o1 : Obj, s.heap.objs.size ∉ [(s.heap.push o1).objs.size, l] := fun o1 => by
          simp only [List.mem_cons, List.not_mem_nil, or_false, not_or]
          rw [big o1]
          exact ⟨Nat.ne_of_lt (Nat.lt_succ_self _), Nat.ne_of_gt hlS⟩
        have each : ∀ (i : Nat) (v : Value), items[i]? = some v → ∃ k t, ns[i]? = some k ∧ v = .int k t := fun i v hv => by
          have hi : i < ns.length := by rw [← many]; exact (Array.getElem?_eq_some_iff.mp hv).1
          obtain ⟨t, e⟩ := PyProof.Rows.IntsAre.int_at hit i v (by rw [Array.getElem?_toList]; exact hv)
          refine ⟨ns[i], t, List.getElem?_eq_getElem hi, ?_⟩
          rw [e, List.getD_eq_getElem?_getD, List.getElem?_eq_getElem hi]
          rfl
        refine set_update_ints ((Walks.list z4 _ l (ne _) items).toS) s.heap.objs.size (out _) ns many hb each (items.size - 0) 0 _ (by omega) (Nat.zero_le _) ⟨⟨_, Heap.get?_push_size _ rfl, rfl, rfl⟩, (hl1.push _)⟩ ⟨0, Nat.le_refl 0, ?_⟩ ?_
        · refine setR_new_at ?_
          exact Heap.get?_push_of_some _ hS
        · intro s' c' hm _ hS'
          obtain ⟨h', g2, d', tk', os'⟩ := s'
          cases (show g2 = s.gens from hm.gens)
          cases (show d' = s.drawn from hm.drawn)
          cases (show os' = s.os from hm.os)
          show wpAny _ _ _ _ _ _
          refine wpAny_pure ?_
          show wpAny _ _ (ret Value.none) _ _ _
          refine wpAny_pure ⟨rfl, h', tk', c', rfl, hS', fun b o e => ?_⟩
          have b0 : b < s.heap.objs.size := Heap.lt_size e
          refine hm.heap b o ?_ (Heap.get?_push_of_some _ (Heap.get?_push_of_some _ e))
          simp only [List.mem_cons, List.not_mem_nil, or_false, not_or]
          rw [big]
          exact ⟨Nat.ne_of_lt b0, Nat.ne_of_lt (Nat.lt_succ_of_lt b0)⟩
      · cases r₂ with
        | error e => exact hr₂
        | ok fl₂ =>
          cases fl₂ with
          | ret r =>
            obtain ⟨rfl, h', tk, c', rfl, hS', hk'⟩ := hr₂
            repeat (any_goals (first | assumption | wp_step))
            exact h _ _ _ hS' hk'
          | _ => exact hr₂.elim
    | _ => exact hr.elim
end
section
variable {X : Cx}
/-- set(xs), xs a list of ints -/
def rSetLI (K : PySem.W.Frag) (w : World) : List V → Hp → VK → Prop := fun vs H Q => ∃ (a : Addr) (ns : List Int), vs = [V.ref a] ∧ SqL K H a (ns.map V.int) ∧ ns.length ≤ 1000 ∧
  ∀ (p : Addr) (ms : List Int), ms.Nodup → (∀ k, k ∈ ms ↔ k ∈ ns) → H p = none → Q (.ref p) (upd H p (SetO w p (fun j => decide (j ∈ ns)) ms.length))
theorem cr_setLI (hc : X.calm = true) : CallR X (.type "set") (rSetLI X.K X.w) := by
  intro pins s σ H vs us Q I r h
  obtain ⟨a, ns, rfl, hs, hl, q⟩ := h
  obtain ⟨its, rv, pt, hz⟩ := I.list hs
  rw [Vals.ref1 r]
  have hi : IntsAre its.toArray.toList ns := by simpa using ints_back rv
  refine set_ints ns (I.ok.hd hc) pt.isList hi (by unfold scanBound; omega) fun g tk c R kp => ?_
  have R2 := R
  obtain ⟨o, es, ep, t, ho, hex, hdt, gd, nd, hm, hb, hf, hn, hr, hl2⟩ := R2
  have hlen : c = (es.toList.map keyOf).length := by
    rw [List.length_map, Array.length_toList]
    exact hn.symm
  subst hlen
  exact ⟨.ref _, upd H s.heap.objs.size (SetO X.w s.heap.objs.size (fun j => decide (j ∈ ns)) (es.toList.map keyOf).length), I.laid kp (Nat.le_refl _) (setO_new R), rfl,
    q _ (es.toList.map keyOf) nd (fun k => by rw [← hm k, decide_eq_true_eq]) (I.hok.fresh (Nat.le_refl _))⟩
end
end RG
end RGw
section RGx
/-! a def with parameters that are not written at the call -/
namespace RG
open PySem PySem.Spec PyProof.Rows L2
/-- a def of the module by its name, what its unwritten parameters are, and what it promises -/
structure CgD (P : Program) (w : World) (K : PySem.W.Frag) (mg : Str → Option Value) (base : Heap) (k : Nat) (x : Str) (sp : Sp) (dvs : List V) : Prop where
  ex : ∃ (f : Addr) (fd : FuncData) (ps : List Str) (ds : List Value), FnG P w K mg base CX0 k f fd ps sp ∧ mg x = some (.ref f) ∧ PySem.W.keepIn K (.ref f) = true ∧ Binds K fd ps ds ∧ Vals dvs ds
section
variable {X : Cx} {k j : Nat} {x : Str} {sp : Sp} {dvs : List V} {p pos : Pos} {e : Expr} {es : List Expr} {t : TA}
theorem pe_gD (c : CgD X.prog X.w X.K X.mg X.base k x sp dvs) (hr : Room j X.A) (hg : X.A.guards = some []) (hk : k ≤ j) (hx : Gl X x) (ha : PA X (e :: es) t)
    (h1 : (x == ("__debug__" : Str)) = false := by decide) (h2 : starEach (e :: es) X.env = (false, eval e X.env) :: starEach es X.env := by rfl) (h3 : (backTo pos (starEach es X.env)).any (·.1) = false := by rfl) :
    PE X (.Call (.Name x p) (e :: es) [] pos) (tCall sp dvs E0 t) := by
  obtain ⟨f, fd, ps, ds, F, hm, kp, b, rv⟩ := c.ex
  refine ⟨fun pins s σ H Q I h => wpAny_Call_Name_kw (ld_glob I hx hm ?_ h1)⟩
  refine PySem.W.callWith_K (h₀ := X.base) I.ok.mod.kin kp (thn (ha.run pos pins s σ H _ I h) ?_) h2 h3
  rintro us s1 ⟨vs, G, J, r, q⟩
  refine ⟨J.kIn, ?_⟩
  have hv : Vals (vs ++ dvs) (us ++ ds) := r.append rv
  have bt := b s1 us J.kIn (by rw [← hv.length]; exact F.many _ _ _ _ q)
  refine wpAny_call (codeAny_mono (F.runs X.A X.stack s1 G _ (us ++ ds) (vs ++ dvs) Q E0 (hr.mono hk) hg J.env0 bt hv q) fun w2 s2 h => ?_)
  cases w2 with
  | error z => exact False.elim h
  | ok fl =>
    cases fl with
    | ret u => exact J.after h
    | next => exact False.elim h
    | brk => exact False.elim h
    | cont => exact False.elim h
end
end RG
end RGx
section RGy
/-! [x for x in xs if ..], xs a list -/
namespace RG
open PySem PySem.Spec PyProof.Rows L2
theorem kept_cons (y : V) (ys : List V) (b : Bool) (bs : List Bool) : keptV (y :: ys) (b :: bs) = if b = true then y :: keptV ys bs else keptV ys bs := by
  unfold keptV
  rw [List.zip_cons_cons, List.filter_cons]
  cases b <;> rfl
/-- the kept ones, as data -/
theorem kept_dd {K : PySem.W.Frag} {H : Hp} {α : Type} {f : α → PyData} {p : α → Bool} : ∀ {ls : List α} {xs : List V}, DdAll K H xs (ls.map f) → DdAll K H (keptV xs (ls.map p)) ((ls.filter p).map f)
  | [], _, h => by
    cases h
    exact .nil
  | l :: ls, _, h => by
    have h : DdAll K H _ (f l :: ls.map f) := h
    cases h with
    | cons h1 h2 =>
      rw [List.map_cons, kept_cons, List.filter_cons]
      have ih := kept_dd (p := p) h2
      cases p l with
      | true => exact .cons h1 ih
      | false => exact ih
theorem kept_map {α : Type} {f : α → V} {p : α → Bool} : ∀ ls : List α, keptV (ls.map f) (ls.map p) = (ls.filter p).map f
  | [] => rfl
  | l :: ls => by
    rw [List.map_cons, List.map_cons, kept_cons, List.filter_cons, kept_map ls]
    cases p l <;> rfl
end RG
end RGy
section RGz
/-! sorted(t), t a tuple of texts -/
namespace RG
open PySem PySem.Spec PyProof.Rows L2
def ltSv (u v : Value) : Bool := decide ((strOf u).cps.toList < (strOf v).cps.toList)
theorem swo_strs : SrtO.Swo ltSv := by
  refine ⟨fun x y h => ?_, fun x y z h1 h2 => ?_⟩
  · have a := of_decide_eq_true (p := (strOf x).cps.toList < (strOf y).cps.toList) h
    exact decide_eq_false (p := (strOf y).cps.toList < (strOf x).cps.toList) (List.lt_asymm a)
  · have a := of_decide_eq_false (p := (strOf y).cps.toList < (strOf x).cps.toList) h1
    have b := of_decide_eq_false (p := (strOf z).cps.toList < (strOf y).cps.toList) h2
    refine decide_eq_false (p := (strOf z).cps.toList < (strOf x).cps.toList) ?_
    rw [List.not_lt] at a b ⊢
    exact List.le_trans a b
section
variable {prog : Program} {w : World} {A : Around} {E : Value → Shared → Prop} {s : Shared}
theorem strs_sortable {a : Addr} {vs : List Value} {ss : List Str} (hS : StrsAre vs ss) (h2 : 2 ≤ vs.length) : SrtO.SortableO prog w A s a vs ltSv := by
  intro h' _
  refine ⟨oneType', fun Q E hq => ?_, ?_⟩
  · match vs, hS, h2 with
    | v1 :: v2 :: rest, hS, _ =>
      rw [keyKind_strs hS]
      exact wpAny_pure hq
    | [], _, h => exact absurd h (by decide)
    | [v], _, h => exact absurd h (by simp)
  · intro p q hm hm'
    obtain ⟨x, t, e⟩ := hS.all _ hm
    obtain ⟨y, u, e'⟩ := hS.all _ hm'
    show wpAny (model prog w) A (keyLt' oneType' p.1 q.1) (fun r s' => s' = _ ∧ r = ltSv p.1 q.1) (fun _ _ => False) _
    rw [e, e', keyLt'_oneType]
    exact oneLt_str ⟨rfl, rfl⟩
end
theorem strs_out {vs out : List Value} {ss : List Str} (hS : StrsAre vs ss) (hs : SrtO.Srtd ltSv out) (hb : SrtO.Stb ltSv out vs) : StrsAre out (out.map strOf) ∧ (out.map strOf).Perm ss := by
  refine ⟨strsAre_map out fun v hv => hS.all v (hb.perm.mem_iff.mp hv), ?_⟩
  have q := hb.perm.map strOf
  rw [hS.strs] at q
  exact q
section
variable {X : Cx}
theorem strs_back : ∀ {ns : List Str} {us : List Value}, Vals (ns.map V.str) us → StrsAre us ns
  | [], _, .nil => .nil
  | n :: ns, _, .cons r t => by
    obtain ⟨k, rfl⟩ := r
    exact .cons n k (strs_back t)
theorem strs_forth : ∀ {ns : List Str} {us : List Value}, StrsAre us ns → Vals (ns.map V.str) us
  | _, _, .nil => .nil
  | _, _, .cons n k t => .cons ⟨k, rfl⟩ (strs_forth t)
def rSortTS (K : PySem.W.Frag) : List V → Hp → VK → Prop := fun vs H Q => ∃ (a : Addr) (ns : List Str), vs = [V.ref a] ∧ SqT K H a (strV ns) ∧
  ∀ (ms : List Str) (p : Addr), ms.Perm ns → H p = none → Q (.ref p) (upd H p (.lst (strV ms)))
theorem cr_sortTS : CallR X (.builtin "sorted") (rSortTS X.K) := by
  intro pins s σ H vs us Q I r h
  obtain ⟨a, ns, rfl, hs, q⟩ := h
  obtain ⟨its, rv, pt, hz⟩ := I.tuple hs
  rw [Vals.ref1 r]
  have hi := strs_back rv
  have hl := rv.length
  unfold strV at hl hz
  rw [List.length_map] at hl hz
  refine sorted_tup swo_strs (show s.heap.IsTuple a its.toArray from pt) (by omega) (fun h2 g b _ => strs_sortable hi h2) fun out h1 h2 => ?_
  obtain ⟨k1, k2⟩ := strs_out hi h1 h2
  obtain ⟨ep, he⟩ := PyProof.Rows.sortedAll_at s.heap its out.toArray
  have h3 : ((out.map strOf).map V.str).length ≤ sizeLine := by
    rw [List.length_map, k2.length_eq]
    exact hz
  exact ⟨.ref _, upd H (s.heap.objs.size + 1) (.lst ((out.map strOf).map V.str)),
    I.laid (t' := s.toks) (fun _ _ => PyProof.Rows.sortedAll_old) (Nat.le_succ _) ⟨h3, out, ep, strs_forth k1, he⟩, rfl, q _ _ k2 (I.hok.fresh (Nat.le_succ _))⟩
end
end RG
end RGz
section RLa
/-! sorted(xs, key=lambda x: x[0]) -/
namespace RG
open PySem PySem.Spec PyProof.Rows L2
def lamBody (x : Str) (k : Nat) (p1 p2 p3 : Pos) : Expr := .Subscript (.Name x p1) (.Constant (.int 0) k p2) p3
structure LamOk (scope : Scope) (x : Str) : Prop where
  kind : scope.kind = .function
  co : scope.isCoroutine = false
  gen : scope.isGenerator = false
  loc : scope.names.lookup x = some .local
  cell : ∀ y ∈ scope.names, y.2 ≠ .cell
section
variable {prog : Program} {w : World} {A : Around} {s : Shared}
theorem lam_first {f c' t : Addr} {q x z : Str} {params : Arguments} {scope : Scope} {pm ctv : Value} {k : Nat} {p1 p2 p3 : Pos} {tk : Tok} {rest : List Value} {cl : List (Str × Addr)} (L : LamOk scope x) (hd : (x == ("__debug__" : Str)) = false)
    (hroom : A.depth < recursionLimit) (hN : s.heap.NoLimit) (ho : s.heap.get? f = some (PySem.W.kla_obj "<lambda>" q params (lamBody x k p1 p2 p3) scope cl pm c' ctv)) (hcd : s.heap.CodeRec (.ref c') q)
    (hb : bindArgs (PySem.W.kla_fn "<lambda>" q params (lamBody x k p1 p2 p3) scope cl pm (.ref c') ctv) ⟨[.ref t], []⟩ = pure [(x, .ref t)]) (hT : s.heap.IsTuple t (Value.str z tk :: rest).toArray) :
    wpAny (model prog w) A (call (.ref f) [.ref t]) (PySem.W.KeyPure (.str z) s) (fun _ _ => False) s := by
  refine wpAny_call ?_
  refine PySem.W.kla_callFunE hroom ho rfl L.co L.gen rfl hcd ?_
  rw [hb]
  refine wpAny_pure (wpAny_newFunctionEnv L.cell (fun y hy => ?_) (fun h₁ hns hsb => ⟨?_, ?_⟩) L.kind)
  · rw [List.mem_singleton] at hy
    rw [hy]
    exact L.loc
  · exact hN.fresh _ hsb
  · refine PySem.W.kla_codeExpr ?_
    have keep : ∀ b o, s.heap.get? b = some o → h₁.get? b = some o := fun b o e => hsb.extBut b o (Nat.ne_of_lt (Heap.lt_size e)) (Heap.get?_push_of_some _ e)
    refine Subscript_Constant ?_
    refine wpAny_Name (wpAny_loadName_local (v := .ref t) L.kind L.loc hns (by simp [List.lookup]) ?_) hd
    refine wpAny_Constant_int ?_
    have hT1 : h₁.IsTuple t (Value.str z tk :: rest).toArray := by
      obtain ⟨o, e1, e2⟩ := hT
      exact ⟨o, keep t o e1, e2⟩
    refine ⟨"tuple", _, PyProof.Rows.slot_tuple_getitem.lookup, hT1.typeIs, ?_⟩
    refine PyProof.Rows.getItem_tuple (j := 0) (x := .str z tk) hT1 (by decide) (by decide) ?_ (by simp) ?_
    · simp [seqIndex?]
    · exact ⟨_, _, rfl, keep, .str z tk⟩
end

/-- tuples whose first thing is a text: the texts and where they are -/
def Fsts (K : PySem.W.Frag) (H : Hp) (bs : List (Str × Addr)) : Prop := ∀ b ∈ bs, ∃ rest, SqT K H b.2 (.str b.1 :: rest)
def leS (a b : Str × Addr) : Bool := decide (a.1.cps.toList ≤ b.1.cps.toList)
def tSortK (K : PySem.W.Frag) (P : Addr) (q : Str) (te : TE) : TE := fun σ H Q => te σ H fun x H1 => ∃ (a : Addr) (bs : List (Str × Addr)), x = .ref a ∧ SqL K H1 a (bs.map fun b => V.ref b.2) ∧ Fsts K H1 bs ∧ bs.length ≤ 1000 ∧ LamX.TabS H1 P q ∧
  ∀ (p : Addr) (H2 : Hp), LamX.ExtN H1 H2 → LamX.TabS H2 P q → (∀ o, H1 p = some o → ∃ ps, o = .tbl ps) → H2 p = some (.lst ((bs.mergeSort leS).map fun b => V.ref b.2)) → Q (.ref p) H2
theorem vals_refs : ∀ {bs : List (Str × Addr)} {us : List Value}, Vals (bs.map fun b => V.ref b.2) us → us = bs.map fun b => Value.ref b.2
  | [], _, .nil => rfl
  | b :: bs, _, .cons r t => by
    cases r
    rw [vals_refs t]
    rfl
theorem refs_vals : ∀ bs : List (Str × Addr), Vals (bs.map fun b => V.ref b.2) (bs.map fun b => Value.ref b.2)
  | [] => .nil
  | b :: bs => .cons rfl (refs_vals bs)
theorem eachIs_map {β : Type} {R : Value → β → Prop} {f : β → Value} : ∀ {bs : List β}, (∀ b ∈ bs, R (f b) b) → PySem.W.EachIs R (bs.map f) bs
  | [], _ => .nil
  | b :: bs, h => .cons (h b List.mem_cons_self) (eachIs_map fun c hc => h c (List.mem_cons_of_mem _ hc))
theorem eachIs_eq {β : Type} {f : β → Value} {R : Value → β → Prop} (hR : ∀ v b, R v b → v = f b) : ∀ {vs : List Value} {bs : List β}, PySem.W.EachIs R vs bs → vs = bs.map f
  | _, _, .nil => rfl
  | _, _, .cons h t => by
    rw [hR _ _ h, eachIs_eq hR t]
    rfl
theorem nt_lst {xs : List V} (ps : Array Value) : HO.lst xs ≠ .tbl ps := fun z => by cases z
theorem nt_tup {xs : List V} (ps : Array Value) : HO.tup xs ≠ .tbl ps := fun z => by cases z
theorem nt_frz {o : Obj} {u : HO} (ps : Array Value) : HO.frz o u ≠ .tbl ps := fun z => by cases z
theorem sql_n {K : PySem.W.Frag} {H G : Hp} {a : Addr} {xs : List V} (e : LamX.ExtN H G) (h : SqL K H a xs) : SqL K G a xs :=
  h.imp (fun z => z.imp (fun z => e _ _ z nt_lst) fun ⟨o, z⟩ => ⟨o, e _ _ z nt_frz⟩) id
theorem sqt_n {K : PySem.W.Frag} {H G : Hp} {a : Addr} {xs : List V} (e : LamX.ExtN H G) (h : SqT K H a xs) : SqT K G a xs :=
  h.imp (fun z => z.imp (fun z => e _ _ z nt_tup) fun ⟨o, z⟩ => ⟨o, e _ _ z nt_frz⟩) id
section
variable {X : Cx}
theorem pe_sortK {e : Expr} {te : TE} {c P : Addr} {x : Str} {k : Nat} {p p1 p2 p3 pos kpos lpos : Pos} {params : Arguments} {scope : Scope} (hg : Gl X "sorted") (hm : X.mg "sorted" = none) (he : PE X e te) (TB : LamX.TabB X.base X.mg c P) (hcode : X.env.code = .ref c) (hdef : defaultsOf params X.env = ([], []))
    (L : LamOk scope x) (hfree : ∀ y ∈ scope.names, y.2 ≠ .free) (hd : (x == ("__debug__" : Str)) = false) (hr : Room 2 X.A)
    (hb : ∀ (q : Str) (cl : List (Str × Addr)) (pm cv ctv u : Value), bindArgs (PySem.W.kla_fn "<lambda>" q params (lamBody x k p1 p2 p3) scope cl pm cv ctv) ⟨[u], []⟩ = pure [(x, u)])
    (h1 : backTo pos (starEach [e] X.env) = (false, eval e X.env) :: backTo pos (starEach [] X.env) := by rfl) (h2 : (backTo pos (starEach [e] X.env)).any (·.1) = false := by rfl) :
    PE X (.Call (.Name "sorted" p) [e] [⟨some "key", .Lambda params (lamBody x k p1 p2 p3) scope lpos, kpos⟩] pos) (tSortK X.K P (X.env.qual ++ "<lambda>") te) := by
  refine ⟨fun pins s σ H Q I h => ?_⟩
  refine wpAny_Call_Name_kw (ld_blt I hg hm PyProof.Rows.Boot.«sorted» ?_)
  refine PyProof.Rows.callWith_kw ?_ h1 h2
  rw [h1]
  refine Calls.spliced_cons (thn (he.run pins s σ H _ I h) fun v s1 ⟨v', H1, I1, r1, a, bs, ev, hs, hf, hl, hT, q⟩ => Calls.spliced_nil ?_)
  subst ev
  cases r1
  show wpAny _ _ (evalAll ((do let v ← eval (.Lambda params (lamBody x k p1 p2 p3) scope lpos) X.env; standAt pos; pure v) :: [])) _ _ _
  refine wpAny_evalAll_cons (wpAny_bind (LamX.lam_make2 (T := [(P, X.env.qual ++ "<lambda>")]) I1 TB hcode List.mem_cons_self (fun p hp _ => ?_) (fun p hp => ?_) hdef (fun y hy e => absurd e (hfree y hy)) fun f c' pm ctv H2 s2 I2 eN T2 hfo hfn hfr hco => wpAny_bind (wpAny_standAt (wpAny_pure (wpAny_evalAll_nil ?_)))))
  · rw [List.mem_singleton] at hp
    rw [hp]
  · rw [List.mem_singleton] at hp
    rw [hp]
    exact hT
  · have hs2 := sql_n eN hs
    obtain ⟨its, rv, pl, hz⟩ := I2.list hs2
    have eits := vals_refs rv
    subst eits
    have hk : X.A.units + 2 < cLine := by have := hr.un; omega
    refine PySem.W.sorted_key_data (b := false) (β := Str × Addr) (R := fun v b => v = .ref b.2 ∧ b ∈ bs) (fun b => .str b.1) pl.isList (eachIs_map fun b hb => ⟨rfl, hb⟩) (PySem.W.AllAlike.of fun _ _ => rfl) (PySem.W.Sortable.others fun _ => ⟨fun z => (by cases z), fun xs z => (by cases z)⟩) (Nat.le_trans hl (by decide)) (fun b _ => hk) (ksk_s1 _ _) (fun _ => ksk_l1 _ _) (fun _ => ksk_t1 _ _) (fun v b ⟨ev, hbm⟩ _ h tk kp => ?_) fun out cc h' tk kp fresh hD hlen eo => ?_
    · subst ev
      obtain ⟨rest, ht⟩ := hf b hbm
      obtain ⟨its2, rv2, pt, hz2⟩ := I2.tuple (sqt_n eN ht)
      cases rv2 with
      | @cons _ u0 _ us r0 rr =>
        obtain ⟨t0, rfl⟩ := r0
        obtain ⟨oc, vs, tq, e1, e2, e3⟩ : ∃ (oc : Obj) (vs : Array Value) (t : Tok), s2.heap.get? c' = some oc ∧ oc.data = .fields vs ∧ vs[1]? = some (.str (X.env.qual ++ "<lambda>") t) := by
          have x : ObjOk X.prog X.w H2 s2.heap c' (LamX.CodeO c' (X.env.qual ++ "<lambda>")) := I2.hok c' _ hco
          exact x.1
        have pt2 : h.IsTuple b.2 (Value.str b.1 t0 :: us).toArray := by
          obtain ⟨o, q1, q2⟩ := (show s2.heap.IsTuple b.2 (Value.str b.1 t0 :: us).toArray from pt)
          exact ⟨o, kp _ _ q1, q2⟩
        have hdp : X.A.in1.in1.depth < recursionLimit := by have := hr.in1.in1.dp; omega
        refine lam_first (s := { s2 with heap := h, toks := tk }) L hd hdp (I2.nolimit.keeps kp) (kp _ _ hfo) ⟨c', oc, vs, tq, rfl, kp _ _ e1, e2, e3⟩ (hb _ _ _ _ _ _) pt2
    · have hk2 : PySem.W.dataLe false (fun b : Str × Addr => PyData.str b.1) = leS := PySem.W.dataLe_str (fun b : Str × Addr => b.1)
      rw [hk2] at eo
      have eout := eachIs_eq (f := fun b : Str × Addr => Value.ref b.2) (fun v b h => h.1) eo
      have n2 : H2 (s2.heap.objs.size + 1) = none := I2.hok.fresh (Nat.le_succ _)
      have n1 : ∀ o, H1 (s2.heap.objs.size + 1) = some o → ∃ ps, o = .tbl ps := fun o z => by
        refine Classical.byContradiction fun no => ?_
        have z2 := eN _ o z fun ps e => no ⟨ps, e⟩
        rw [n2] at z2
        cases z2
      have hlen2 : ((bs.mergeSort leS).map fun b => V.ref b.2).length ≤ sizeLine := by
        rw [List.length_map, List.length_mergeSort]
        exact Nat.le_trans hl (by decide)
      refine ⟨.ref _, upd H2 (s2.heap.objs.size + 1) (.lst ((bs.mergeSort leS).map fun b => V.ref b.2)), I2.laid (t' := tk) kp (Nat.le_succ _) ⟨hlen2, out, cc, by rw [eout]; exact refs_vals _, hD⟩, rfl, q _ _ ?_ ?_ n1 upd_same⟩
      · exact fun b o z n => by
          have z2 := eN b o z n
          rw [upd_ne (ne_of_none z2 n2)]
          exact z2
      · exact (T2 _ List.mem_cons_self).ext fun b o z => by
          rw [upd_ne (ne_of_none z n2)]
          exact z
end
end RG
end RLa
section RLb
/-! the walk to the statement where a def makes a lambda: one table of code objects -/
namespace RG
open PySem PySem.Spec PyProof.Rows L2
theorem top_tab {P : Program} {w : World} {K : PySem.W.Frag} {mg mb : Str → Option Value} {k : Nat} {fa a c T : Addr} {fd : FuncData} {x : Str} {sp : Sp} {s : Shared} {H : Hp} {xs : List V} {vs : List Value}
    (inn : K.In s.heap) (g1 : s.heap.Ns mainGlobals mg) (g2 : s.heap.Ns builtinsNs mb) (g3 : ∀ y : Str, y ≠ "__name__" → mb y = bootBuiltins y) (lim : s.heap.NoLimit) (hg : s.gens = #[])
    (bm : ∃ (q : Addr) (ob : Obj), mg "__builtins__" = some (.ref q) ∧ q ≠ builtinsNs ∧ s.heap.get? q = some ob ∧ ob.cls = .type "module" ∧ ob.dict = some builtinsNs ∧ ob.data = .plain)
    (ho : s.heap.get? a = some { cls := .type "list", data := .seq vs.toArray }) (hr : Room k callerA) (tT : s.heap.get? T = some { cls := .none, data := .fields #[] }) (nT : K.lookup T = none) (C : PySem.W.CodeHd s.heap c T)
    (F : ∀ base : Heap, K.In base → base.Ns mainGlobals mg → LamX.TabB base mg c T → FnG P w K mg base CX0 k fa fd [x] sp) (hb : ∀ (s : Shared) (u : Value), BindsTo s fd ⟨[u], []⟩ [(x, u)])
    (hT : H T = some (.tbl #[])) (hH : ∀ b, b ≠ T → H b = none ∨ (b = a ∧ H b = some (.frz { cls := .type "list", data := .seq vs.toArray } (.lst xs)) ∧ K.lookup a = none)) (ok : HOk P w H s.heap) (hsp : sp [.ref a] H (fun v _ => v = .bl true) fun _ _ _ => False) :
    codeAny (model P w) callerA (.call (.ref fa) ⟨[.ref a], []⟩) (fun r s' => r = .ok (.ret (.bool true)) ∧ OldK s.heap s'.heap ∧ s'.os = s.os ∧ AllBare s'.gens) s := by
  have off : ∀ {b : Addr} {o : Obj}, s.heap.get? b = some o → (∀ zs n, o.data ≠ .seq zs n) → o.data ≠ .fields #[] → H b = none := by
    intro b o e n1 n2
    by_cases hbT : b = T
    · subst hbT
      rw [tT] at e
      cases e
      exact absurd rfl n2
    · rcases hH b hbT with z | ⟨rfl, _, _⟩
      · exact z
      · rw [ho] at e
        cases e
        exact absurd rfl (n1 _ _)
  have offD : ∀ {b : Addr} {o : Obj} {es : Array DictEntry} {ep : Nat}, s.heap.get? b = some o → o.data = .dict es ep → H b = none := by
    intro b o es ep e d
    refine off e (fun zs n z => ?_) fun z => ?_
    · rw [d] at z; cases z
    · rw [d] at z; cases z
  have ns : ∀ {b : Addr} {m : Str → Option Value}, s.heap.Ns b m → (hidT s.heap H).Ns b m := by
    rintro b m ⟨o, es, ep, q1, q2, r⟩
    exact ⟨o, es, ep, hidT_get q1 (offD q1 q2), q2, r⟩
  have kin : K.In (hidT s.heap H) := by
    intro b o e
    refine hidT_get (inn b o e) ?_
    by_cases hbT : b = T
    · rw [hbT, nT] at e
      cases e
    · rcases hH b hbT with z | ⟨rfl, _, z⟩
      · exact z
      · rw [z] at e
        cases e
  obtain ⟨mc, l1, l2⟩ := lim
  have tab : LamX.TabB (hidT s.heap H) mg c T := by
    refine ⟨?_, ?_, fun z => ?_⟩
    · obtain ⟨o, us, file, tf, flags, tg, inF, text, tt, e1, r1, r2, r3, r4, r5, r6, r7, r8, hne⟩ := C
      refine ⟨o, us, file, tf, flags, tg, inF, text, tt, hidT_get e1 (off e1 (fun zs n z => ?_) fun z => ?_), r1, r2, r3, r4, r5, r6, r7, r8, hne⟩
      · rw [r2] at z
        cases z
      · rw [r2] at z
        cases z
        simp at r3
    · obtain ⟨q, ob, b1, b2, b3, b4, b5, b6⟩ := bm
      refine ⟨q, ob, b1, b2, fun e => ?_, fun e => ?_, hidT_get b3 (off b3 (fun zs n z => ?_) fun z => ?_), b4, b5, b6⟩
      · obtain ⟨o, es, ep, y1, y2, _⟩ := g1
        rw [e, y1] at b3
        cases b3
        rw [y2] at b6
        cases b6
      · rw [e, tT] at b3
        cases b3
        cases b6
      · rw [b6] at z; cases z
      · rw [b6] at z; cases z
    · obtain ⟨o, es, ep, y1, y2, _⟩ := g1
      rw [z, tT] at y1
      cases y1
      cases y2
  have e0 : Env0 P w K mg (hidT s.heap H) callerA [] s H :=
    ⟨rfl, ⟨kin, ns g1, ⟨mb, ns g2, g3⟩, ⟨mc, ns l1, l2⟩⟩, fun b o h => of_hidT h, Nat.le_of_eq (hidT_size _ _), trivial, (fun b hb => absurd hb (by simp [frs])), ok, AllBare.of_eq hg⟩
  refine codeAny_mono ((F _ kin (ns g1) tab).runs callerA [] s H ⟨[.ref a], []⟩ [.ref a] [.ref a] _ _ hr rfl e0 (hb s (.ref a)) (.cons rfl .nil) hsp) fun r s' h => ?_
  cases r with
  | error e => exact False.elim h
  | ok fl =>
    cases fl with
    | next => exact False.elim h
    | brk => exact False.elim h
    | cont => exact False.elim h
    | ret u =>
      obtain ⟨v, G, h1, h2, un, ok2, rv, q⟩ := h
      have q2 : v = .bl true := q
      subst q2
      obtain rfl : u = Value.bool true := rv
      obtain ⟨more, zT⟩ := un.tbls T #[] hT
      have grown : s'.heap.get? T = some { cls := .none, data := .fields (#[] ++ more) } := ok2 T _ zT
      have old : ∀ b o, b ≠ T → s.heap.get? b = some o → s'.heap.get? b = some o := fun b o nb e => by
        rcases hH b nb with z | ⟨rfl, z, _⟩
        · exact un.keep b o e z (by intro y; cases y) (by simp)
        · rw [ho] at e
          cases e
          exact (ok2 b _ (un.frzs b _ _ z)).1
      refine ⟨rfl, ⟨fun b o e => ?_, fun b o e => ?_⟩, h1, h2⟩
      · by_cases nb : b = T
        · subst nb
          rw [tT] at e
          cases e
          exact .inr (.inl ⟨(C.tab tT).isCodeTable, rfl, #[], more, rfl, grown⟩)
        · exact .inl (old b o nb e)
      · by_cases nb : b = T
        · subst nb
          exact ⟨_, grown⟩
        · exact ⟨o, old b o nb e⟩
theorem walk_GT {l : PySem.W.OpenLaw} {n k : Nat} {q : Program} {loose : List Str} {XP : (Str → Option Value) → Heap → Prop} {YP : World → Heap → Prop} {d : DefRec} {sp : PySem.W.Frag → Addr → Addr → Sp} {x : Str}
    (hn : l.most = some n) (hn2 : n ≤ sizeLine) (hdf : d.params.defaults = []) (hr : Room k callerA)
    (F : ∀ (w : World) (mg : Str → Option Value) (fa : Addr) (h : Heap), YP w h → h.Ns mainGlobals mg → mg d.name = some (.ref fa) →
      ∃ (K : PySem.W.Frag) (c T : Addr) (fd : FuncData), K.In h ∧ h.get? T = some { cls := .none, data := .fields #[] } ∧ K.lookup T = none ∧ PySem.W.CodeHd h c T ∧ (∀ (s : Shared) (u : Value), BindsTo s fd ⟨[u], []⟩ [(x, u)]) ∧
        ∀ base : Heap, K.In base → base.Ns mainGlobals mg → LamX.TabB base mg c T → FnG l.prog w K mg base CX0 k fa fd [x] (sp K c T))
    (hsp : ∀ (K : PySem.W.Frag) (c T : Addr) (H : Hp) (a : Addr) (ns : List Int), ns.length ≤ n → SqL K H a (ns.map V.int) → H T = some (.tbl #[]) → sp K c T [.ref a] H (fun v _ => v = .bl true) fun _ _ _ => False) :
    PySem.W.WalkO q loose XP YP l.row.toRowW d [] (fun f vs => PySem.call f vs) := by
  refine Att.attach_call hn hdf fun w s₀ s mg mb fa o pm cd doc a vs ns G Y h1 h2 h3 hmg ha hi hl hg => ?_
  obtain ⟨K, c, T, fd, inn, tT, nT, C, hb, hF⟩ := F w mg fa _ Y G.T.g hmg
  have rv := vals_ints hi
  have len : (ns.map V.int).length ≤ sizeLine := by
    rw [List.length_map]
    exact Nat.le_trans hl hn2
  have aT : a ≠ T := fun z => by
    rw [z, tT] at ha
    cases ha
  cases e : K.lookup a with
  | none =>
    refine top_tab (xs := ns.map V.int) (H := fun b => if b = a then some (.frz { cls := .type "list", data := .seq vs.toArray } (.lst (ns.map V.int))) else if b = T then some (.tbl #[]) else none) inn G.T.g G.T.b G.T.builtins G.T.nolimit hg G.T.bmain ha hr tT nT C hF hb ((if_neg (Ne.symm aT)).trans (if_pos rfl)) (fun b nb => ?_) (fun b u z => ?_) (hsp _ _ _ _ a ns hl ?_ ((if_neg (Ne.symm aT)).trans (if_pos rfl)))
    · by_cases hba : b = a
      · exact Or.inr ⟨hba, if_pos hba, e⟩
      · exact Or.inl ((if_neg hba).trans (if_neg nb))
    · by_cases hba : b = a
      · subst hba
        have z2 := (if_pos rfl).symm.trans z
        cases z2
        exact ⟨ha, len, vs, _, rv, ha⟩
      · have z2 := (if_neg hba).symm.trans z
        by_cases hbT : b = T
        · have z3 := (if_pos hbT).symm.trans z2
          cases z3
          rw [hbT]
          exact tT
        · have z3 := (if_neg hbT).symm.trans z2
          cases z3
    · exact Or.inl (Or.inr ⟨_, if_pos rfl⟩)
  | some ob =>
    have z := inn a ob e
    rw [ha] at z
    cases z
    refine top_tab (xs := []) (H := fun b => if b = T then some (.tbl #[]) else none) inn G.T.g G.T.b G.T.builtins G.T.nolimit hg G.T.bmain ha hr tT nT C hF hb (if_pos rfl) (fun b nb => Or.inl (if_neg nb)) (fun b u z => ?_) (hsp _ _ _ _ a ns hl (Or.inr ⟨_, vs.toArray, _, e, rfl, rfl, rfl, ?_, by simpa using rv⟩) (if_pos rfl))
    · by_cases hbT : b = T
      · have z3 := (if_pos hbT).symm.trans z
        cases z3
        rw [hbT]
        exact tT
      · have z3 := (if_neg hbT).symm.trans z
        cases z3
    · rw [List.size_toArray, ← rv.length]
      exact len
end RG
end RLb
section RLc
/-! defs that methods call; heaps in which only tables of code objects change; data of tuples alone -/
namespace RG
open PySem PySem.Spec PyProof.Rows L2
structure CgO (P : Program) (w : World) (K : PySem.W.Frag) (mg : Str → Option Value) (base : Heap) (k : Nat) (x : Str) (sp : Sp) : Prop where
  ex : ∃ (f : Addr) (fd : FuncData) (ps : List Str), FnOk P w K mg base CX0 k f fd ps sp ∧ mg x = some (.ref f) ∧ PySem.W.keepIn K (.ref f) = true ∧ Binds K fd ps []
theorem CgO.g {P : Program} {w : World} {K : PySem.W.Frag} {mg : Str → Option Value} {base : Heap} {k : Nat} {x : Str} {sp : Sp} (c : CgO P w K mg base k x sp) : Cg P w K mg base k x sp := by
  obtain ⟨f, fd, ps, F, r⟩ := c.ex
  exact ⟨f, fd, ps, FnG.of F, r⟩
section
variable {X : Cx} {k j : Nat} {x : Str} {sp : Sp} {p pos : Pos} {e : Expr} {es : List Expr} {t : TA}
theorem pe_o (c : CgO X.prog X.w X.K X.mg X.base k x sp) (hr : Room j X.A) (hk : k ≤ j) (hx : Gl X x) (ha : PA X (e :: es) t)
    (h1 : (x == ("__debug__" : Str)) = false := by decide) (h2 : starEach (e :: es) X.env = (false, eval e X.env) :: starEach es X.env := by rfl) (h3 : (backTo pos (starEach es X.env)).any (·.1) = false := by rfl) :
    PE X (.Call (.Name x p) (e :: es) [] pos) (tCall sp [] E0 t) := by
  obtain ⟨f, fd, ps, F, hm, kp, b⟩ := c.ex
  exact pe_call F (hr.mono hk) hx hm kp b .nil pass0 ha h1 h2 h3
end
/-! only tables change -/
theorem rd_n {H G : Hp} {a : Addr} {kvs : List (Key × V)} (e : LamX.ExtN H G) (h : Rd H a (.dK kvs)) : Rd G a (.dK kvs) :=
  h.imp (fun z => e _ _ z fun ps q => by cases q) fun ⟨o, z⟩ => ⟨o, e _ _ z nt_frz⟩
mutual
theorem Dd.n {K : PySem.W.Frag} {H G : Hp} (e : LamX.ExtN H G) : ∀ {v : V} {d : PyData}, Dd K H v d → Dd K G v d
  | _, _, .non => .non
  | _, _, .bl b => .bl b
  | _, _, .int i => .int i
  | _, _, .str x => .str x
  | _, _, .lst h t => .lst (sql_n e h) (DdAll.n e t)
  | _, _, .tup h t => .tup (sqt_n e h) (DdAll.n e t)
  | _, _, .dct h n t => .dct (rd_n e h) n (DdKv.n e t)
theorem DdAll.n {K : PySem.W.Frag} {H G : Hp} (e : LamX.ExtN H G) : ∀ {vs : List V} {ds : List PyData}, DdAll K H vs ds → DdAll K G vs ds
  | _, _, .nil => .nil
  | _, _, .cons h t => .cons (Dd.n e h) (DdAll.n e t)
theorem DdKv.n {K : PySem.W.Frag} {H G : Hp} (e : LamX.ExtN H G) : ∀ {kvs : List (Key × V)} {ds : List (PyData × PyData)}, DdKv K H kvs ds → DdKv K G kvs ds
  | _, _, .nil => .nil
  | _, _, .cons h t => .cons (Dd.n e h) (DdKv.n e t)
end
theorem extN_same {H G : Hp} (e : Same H G) : LamX.ExtN H G := fun b o z _ => e b o z
theorem pen_n {H G : Hp} {i : PenI} {B : Nat} (e : LamX.ExtN H G) (h : Pen H i B) : Pen G i B := by
  obtain ⟨t, r, h1, h2, h3⟩ := h.ex
  exact ⟨t, r, e _ _ h1 fun ps q => (by cases q), e _ _ h2 nt_lst, h3⟩
/-! all but one dict stays -/
theorem sql_d {K : PySem.W.Frag} {p : Addr} {H G : Hp} {a : Addr} {xs : List V} {kvs : List (Key × V)} (e : Kb p H G) (hp : H p = some (.dK kvs)) (h : SqL K H a xs) : SqL K G a xs :=
  h.imp (fun z => z.imp (fun z => e _ _ z fun q => by rw [q, hp] at z; cases z) fun ⟨o, z⟩ => ⟨o, e _ _ z fun q => by rw [q, hp] at z; cases z⟩) id
theorem sqt_d {K : PySem.W.Frag} {p : Addr} {H G : Hp} {a : Addr} {xs : List V} {kvs : List (Key × V)} (e : Kb p H G) (hp : H p = some (.dK kvs)) (h : SqT K H a xs) : SqT K G a xs :=
  h.imp (fun z => z.imp (fun z => e _ _ z fun q => by rw [q, hp] at z; cases z) fun ⟨o, z⟩ => ⟨o, e _ _ z fun q => by rw [q, hp] at z; cases z⟩) id
/-! data of tuples, numbers and texts alone -/
mutual
def flatT : PyData → Bool
  | .none | .bool _ | .int _ | .str _ => true
  | .tuple ds => flatTs ds
  | _ => false
def flatTs : List PyData → Bool
  | [] => true
  | d :: ds => flatT d && flatTs ds
end
mutual
theorem Dd.d {K : PySem.W.Frag} {p : Addr} {H G : Hp} {kvs : List (Key × V)} (e : Kb p H G) (hp : H p = some (.dK kvs)) : ∀ {v : V} {d : PyData}, Dd K H v d → flatT d = true → Dd K G v d
  | _, _, .non, _ => .non
  | _, _, .bl b, _ => .bl b
  | _, _, .int i, _ => .int i
  | _, _, .str x, _ => .str x
  | _, _, .lst h t, f => by cases f
  | _, _, .tup h t, f => .tup (sqt_d e hp h) (DdAll.d e hp t f)
  | _, _, .dct h n t, f => by cases f
theorem DdAll.d {K : PySem.W.Frag} {p : Addr} {H G : Hp} {kvs : List (Key × V)} (e : Kb p H G) (hp : H p = some (.dK kvs)) : ∀ {vs : List V} {ds : List PyData}, DdAll K H vs ds → flatTs ds = true → DdAll K G vs ds
  | _, _, .nil, _ => .nil
  | _, _, .cons h t, f => by
    simp only [flatTs, Bool.and_eq_true] at f
    exact .cons (Dd.d e hp h f.1) (DdAll.d e hp t f.2)
end
end RG
end RLc
namespace T
open PySem PySem.Spec PyProof.Rows L2 RG
def top (i : Nat) : Stmt := PySem.Challenge.pw_recutkeys_k03_rounds_of_arrangements.main.body.getD i (.Pass ⟨0, 0, 0, 0⟩)
abbrev s_law_draw : Stmt := top 12
abbrev N_law_draw : List Str := ["pen", "many", "digit", "turn", "cell", "primes", "prime", "drawn"]
theorem sc_law_draw : FnScope N_law_draw ["pen", "many"] (defScope s_law_draw) := ⟨rfl, rfl, rfl, by decide +kernel, rfl, by decide +kernel, by decide +kernel⟩
section
variable {P : Program} {w : World} {K : PySem.W.Frag} {mg : Str → Option Value} {base : Heap} {f : Addr} {fd : FuncData}
theorem ok_law_draw (F : Fun K "_law_draw" "_law_draw" s_law_draw f fd) (T : Bt mg) : FnG P w K mg base CX0 1 f fd ["pen", "many"] spDraw := by
  refine fnG0 F sc_law_draw (fun vs H Q E h => ?_) (fun cdv A outer s H vs Q E hr hg h => ?_)
  · obtain ⟨x, m, B, rfl, _⟩ := h
    rfl
  · obtain ⟨⟨p, c, ns⟩, m, B, rfl, hpen, hB, m0, m1, k⟩ := h
    have nd := sc_law_draw.nd
    have hu := hu_of hr
    have hu0 : (A.deeper (envOfC "_law_draw" (defScope s_law_draw) s.heap.objs.size f cdv)).units < cLine := Nat.lt_of_succ_lt hu
    refine ⟨_, (pss_cons (ps_if (pt_cmpR op_gt (pe_dget hu (pv 0) pe_str (fun _ _ => rfl)) pe_int (nomark _))
        (pss_cons (ps_set (i := 2) nd rfl (Or.inl rfl) (pe_op op_modN (pe_dget hu (pv 0) pe_str (fun _ _ => rfl)) (pv 1)))
        (pss_cons (ps_dput hu (pv 0) pe_str (pe_op op_fdivN (pe_dget hu (pv 0) pe_str (fun _ _ => rfl)) (pv 1)) rfl)
        (pss_one (ps_ret (pv 2)))))
        pss_nil)
      (pss_cons (ps_set (i := 3) nd rfl (Or.inl rfl) (pe_dget hu (pv 0) pe_str (fun _ _ => rfl)))
      (pss_cons (ps_dput hu (pv 0) pe_str (pe_op op_add (pv 3) pe_int) rfl)
      (pss_cons (ps_set (i := 4) nd rfl (Or.inl rfl) (pe_op op_add (pe_op op_mul pe_int (pv 3)) pe_int))
      (C8.pss_cut (ps_if (pt_cmpR (op_neNil hu0) (pe_dget hu (pv 0) pe_str (fun _ _ => rfl)) (pe_lst pa_nil) (nomark _))
        (pss_one (ps_set (i := 4) nd rfl (Or.inl rfl) (pe_ix ix_list (pe_dget hu (pv 0) pe_str (fun _ _ => rfl)) (pe_op op_modN (pv 3) (pe_callB call_len_seq (by rfl) T.len b_len (pa_cons (pe_dget hu (pv 0) pe_str (fun _ _ => rfl)) pa_nil))) (fun _ _ => rfl))))
        pss_nil)
      (C8.pss_cut (ps_if (PW.pt (pw_and (pt_cmpR op_lt (pv 3) (pe_callB call_len_seq (by rfl) T.len b_len (pa_cons (pe_dget hu (pv 0) pe_str (fun _ _ => rfl)) pa_nil)) (nomark _)) (pw_and1 (pt_cmpR op_ge (pe_callB call_abs (by rfl) T.abs b_abs (pa_cons (pv 4) pa_nil)) (pe_op op_pow pe_int pe_int) (nomark _)))))
        (pss_cons (ps_dput hu (pv 0) pe_str (pe_op op_fdivN (pe_op op_sub (pe_callB call_abs (by rfl) T.abs b_abs (pa_cons (pv 4) pa_nil)) (pe_op op_pow pe_int pe_int)) (pv 1)) rfl)
        (pss_one (ps_ret (pe_op op_modN (pe_op op_sub (pe_callB call_abs (by rfl) T.abs b_abs (pa_cons (pv 4) pa_nil)) (pe_op op_pow pe_int pe_int)) (pv 1)))))
        pss_nil)
      (pss_cons (ps_set (i := 5) nd rfl (Or.inl rfl) (pe_lst (pa_cons pe_int (pa_cons pe_int (pa_cons pe_int (pa_cons pe_int (pa_cons pe_int pa_nil)))))))
      (pss_cons (ps_set (i := 6) nd rfl (Or.inl rfl) (pe_ix ix_list (pv 5) (pe_op op_mod (pv 3) pe_int) (fun _ _ => rfl)))
      (pss_cons (ps_set (i := 7) nd rfl (Or.inl rfl) (pe_op op_modN (pe_op op_add (pe_op op_add (pe_op op_mul (pe_op op_modN (pv 4) (pv 6)) pe_int) (pe_op op_mul (pe_op op_mul pe_int (pv 3)) (pv 3))) pe_int) (pv 6)))
      (pss_cons (ps_set (i := 7) nd rfl (Or.inl rfl) (pe_op op_modN (pe_op op_mul (pv 7) (pe_op op_add (pv 7) pe_int)) (pe_ix ix_list (pv 5) (pe_op op_mod (pe_op op_add (pv 3) pe_int) pe_int) (fun _ _ => rfl))))
      (pss_one (ps_ret (pe_op op_modN (pe_op op_fdiv (pe_op op_mod (pe_op op_mul (pv 7) (pv 7)) pe_int) pe_int) (pv 1)))))))))))))), ?_⟩
    obtain ⟨t, r, hp, hc, hlen, ht, hr0⟩ := hpen.ex
    simp only at hp hc hlen k
    refine ⟨_, rfl, p, _, rfl, gR hp, _, _, rfl, rfl, _, rfl, ?_⟩
    by_cases hpos : r > 0
    · rw [decide_eq_true hpos]
      refine iteT ?_
      refine ⟨_, rfl, p, _, rfl, gR hp, _, rfl, _, _, rfl, rfl, by omega, ?_⟩
      refine ⟨_, rfl, p, _, rfl, gR hp, _, rfl, _, _, rfl, rfl, ⟨by omega, by omega⟩, _, rfl, p, _, rfl, pR hp, _, rfl, ?_⟩
      have h1 := rest_at (i := r) m0
      refine k _ _ h1.1 h1.2 (Kb.refl p H).at ⟨t, _, upd_same, ?_, hlen, by omega, part_at m0 hr0⟩
      rw [upd_ne (ne_of hc hp (fun z => nomatch z))]
      exact hc
    · rw [decide_eq_false hpos]
      refine iteF ?_
      have hcp : c ≠ p := ne_of hc hp (fun z => nomatch z)
      -- turn, the pen's turn
      refine ⟨_, rfl, p, _, rfl, gT hp, ?_⟩
      refine ⟨_, rfl, _, _, rfl, rfl, _, rfl, p, _, rfl, pT hp, ?_⟩
      -- cell
      refine ⟨_, rfl, _, _, rfl, rfl, .inl ⟨by decide, by decide⟩, _, _, rfl, rfl, ?_⟩
      have hp1 : ∀ (G : Hp), G p = some (.dK (penKv c ((t : Int) + 1) r)) → G p = some (.dK (penKv c ((t : Int) + 1) r)) := fun _ h => h
      refine ⟨fun σ G => ∃ cell : Int, σ = [some (.ref p), some (.int m), none, some (.int t), some (.int cell), none, none, none] ∧ Kb p H G ∧ G p = some (.dK (penKv c ((t : Int) + 1) r)), ?_, ?_⟩
      · refine ⟨_, rfl, p, _, rfl, gC upd_same, (by decide), fun l hl => ?_⟩
        have hlp : l ≠ p := fun e => by
          rw [e, upd_same] at hl
          cases hl
        have hlc : l ≠ c := fun e => by
          rw [e, upd_ne hcp, hc] at hl
          cases hl
        refine ⟨c, l, _, rfl, rfl, .inl ⟨SqL.of (by rw [upd_ne hlc.symm, upd_ne hcp]; exact hc), SqL.of upd_same⟩, _, rfl, ?_⟩
        have keep : Kb p H (upd (upd H p (.dK (penKv c ((t : Int) + 1) r))) l (.lst [])) := by
          refine (Kb.refl p H).at.mut ?_
          rw [upd_ne hlp] at hl
          exact hl
        have hpl : (upd (upd H p (.dK (penKv c ((t : Int) + 1) r))) l (.lst [])) p = some (.dK (penKv c ((t : Int) + 1) r)) := by
          rw [upd_ne hlp.symm, upd_same]
        cases ns with
        | nil => exact ⟨_, rfl, keep, hpl⟩
        | cons n0 ns =>
          refine iteT ?_
          have hcl : (upd (upd H p (.dK (penKv c ((t : Int) + 1) r))) l (.lst [])) c = some (.lst ((n0 :: ns).map V.int)) := keep _ _ hc hcp
          have hpos2 : (0 : Int) < (((n0 :: ns).map V.int).length : Nat) := by simp
          have h1 := rest_at (i := t) hpos2
          obtain ⟨v, h2, h3⟩ := atI_in h1.1 h1.2
          have h4 : ∃ z : Int, v = V.int z := by
            rw [List.getElem?_map] at h3
            obtain ⟨z, _, e⟩ := Option.map_eq_some_iff.mp h3
            exact ⟨z, e.symm⟩
          obtain ⟨z, rfl⟩ := h4
          refine ⟨_, rfl, p, _, rfl, gC hpl, _, rfl, _, rfl, p, _, rfl, gC hpl, c, _, rfl, .inl (SqL.of hcl), _, _, rfl, rfl, by omega, c, _, _, _, rfl, rfl, SqL.of hcl, h2, ?_⟩
          exact ⟨z, rfl, keep, hpl⟩
      · rintro _ G ⟨cell, rfl, keep, hp1⟩
        have hc1 := keep _ _ hc hcp
        refine ⟨fun σ J => σ = [some (.ref p), some (.int m), none, some (.int t), some (.int cell), none, none, none] ∧ J = G, ?_, ?_⟩
        · refine ⟨_, rfl, _, rfl, p, _, rfl, gC hp1, c, _, rfl, .inl (SqL.of hc1), _, _, rfl, rfl, _, rfl, ?_⟩
          by_cases h1 : (t : Int) < ((ns.map V.int).length : Nat)
          · rw [decide_eq_true h1]
            refine iteT ?_
            refine ⟨_, rfl, _, rfl, _, _, rfl, rfl, ⟨by decide, by decide, by decide⟩, _, _, rfl, rfl, _, rfl, ?_⟩
            refine ite2 (fun h2 => ?_) fun _ => ⟨rfl, rfl⟩
            have h2 := of_decide_eq_true h2
            refine ⟨_, rfl, _, rfl, _, _, rfl, rfl, ⟨by decide, by decide, by decide⟩, _, _, rfl, rfl, _, rfl, _, _, rfl, rfl, ⟨by omega, by omega⟩, _, rfl, p, _, rfl, pR hp1, ?_⟩
            refine ⟨_, rfl, _, rfl, _, _, rfl, rfl, ⟨by decide, by decide, by decide⟩, _, _, rfl, rfl, _, rfl, _, _, rfl, rfl, by omega, ?_⟩
            have h3 := rest_at (i := (if cell < 0 then -cell else cell) - 10 ^ (18 : Int).toNat) m0
            refine k _ _ h3.1 h3.2 keep.at ⟨t + 1, _, by rw [upd_same]; rfl, by rw [upd_ne hcp]; exact hc1, hlen, by omega, part_at m0 (by omega)⟩
          · rw [decide_eq_false h1]
            exact ⟨rfl, rfl⟩
        · rintro _ J ⟨rfl, e⟩
          rw [e]
          refine ⟨by decide, fun l hl => ?_⟩
          have hlp : l ≠ p := fun e => by
            rw [e, hp1] at hl
            cases hl
          have hlc : l ≠ c := fun e => by
            rw [e, hc1] at hl
            cases hl
          have hL : (upd G l (.lst [.int 2147483647, .int 2147483629, .int 2147483587, .int 2147483579, .int 2147483563])) l = some (.lst [.int 2147483647, .int 2147483629, .int 2147483587, .int 2147483579, .int 2147483563]) := upd_same
          have prime : ∀ i : Int, ∃ z : Int, atI [V.int 2147483647, .int 2147483629, .int 2147483587, .int 2147483579, .int 2147483563] (i % 5) = some (.int z) ∧ 0 < z ∧ z < 2147483648 := fun i => by
            have h1 : i % 5 = 0 ∨ i % 5 = 1 ∨ i % 5 = 2 ∨ i % 5 = 3 ∨ i % 5 = 4 := by omega
            rcases h1 with e | e | e | e | e <;> rw [e]
            · exact ⟨2147483647, rfl, by decide, by decide⟩
            · exact ⟨2147483629, rfl, by decide, by decide⟩
            · exact ⟨2147483587, rfl, by decide, by decide⟩
            · exact ⟨2147483579, rfl, by decide, by decide⟩
            · exact ⟨2147483563, rfl, by decide, by decide⟩
          obtain ⟨z, hz, z0, z1⟩ := prime t
          obtain ⟨y, hy, y0, y1⟩ := prime ((t : Int) + 3)
          -- prime = primes[turn % 5]
          refine ⟨_, rfl, _, rfl, _, _, rfl, rfl, (by show (0 : Int) < 5; decide), l, _, _, _, rfl, rfl, SqL.of hL, hz, ?_⟩
          have r1 := rest_at (i := cell) z0
          -- drawn
          refine ⟨_, rfl, _, rfl, _, _, rfl, rfl, by omega, _, _, rfl, rfl, .inr ⟨by decide, by decide⟩, _, rfl, _, _, rfl, rfl, .inl ⟨by decide, by decide⟩, _, rfl, _, _, rfl, rfl, .inr ⟨by omega, by omega⟩, _, _, rfl, rfl, _, _, rfl, rfl, _, rfl, _, _, rfl, rfl, by omega, ?_⟩
          generalize hX : (cell.fmod z * 69621 + 40692 * (t : Int) * (t : Int) + 11) = X
          have r2 := rest_at (i := X) z0
          refine ⟨_, rfl, _, rfl, _, _, rfl, rfl, _, _, rfl, rfl, .inl ⟨by omega, by omega⟩, _, rfl, _, rfl, _, _, rfl, rfl, _, _, rfl, rfl, (by show (0 : Int) < 5; decide), l, _, _, _, rfl, rfl, SqL.of hL, hy, _, _, rfl, rfl, by omega, ?_⟩
          generalize hY : X.fmod z * (X.fmod z + 48271) = Y
          have r3 := rest_at (i := Y) y0
          refine ⟨_, rfl, _, rfl, _, _, rfl, rfl, .inl ⟨by omega, by omega⟩, _, _, rfl, rfl, (by show (0 : Int) < 2147483549; decide), _, _, rfl, rfl, ⟨by decide, by decide⟩, _, rfl, _, _, rfl, rfl, by omega, ?_⟩
          generalize hZ : (Y.fmod y * Y.fmod y % 2147483549) / 64 = Z
          have r4 := rest_at (i := Z) m0
          refine k _ _ r4.1 r4.2 (keep.mut (keep.free hlp hl)) ⟨t + 1, r, by rw [upd_ne hlp.symm, hp1]; rfl, by rw [upd_ne hlc.symm]; exact hc1, hlen, by omega, hr0⟩
end
abbrev s_law_pen : Stmt := top 11
abbrev N_law_pen : List Str := ["script"]
theorem sc_law_pen : FnScope N_law_pen ["script"] (defScope s_law_pen) := ⟨rfl, rfl, rfl, by decide +kernel, rfl, by decide +kernel, by decide +kernel⟩
abbrev s_law_shuffled : Stmt := top 13
abbrev N_law_shuffled : List Str := ["pen", "some", "left", "found"]
theorem sc_law_shuffled : FnScope N_law_shuffled ["pen", "some"] (defScope s_law_shuffled) := ⟨rfl, rfl, rfl, by decide +kernel, rfl, by decide +kernel, by decide +kernel⟩
section
variable {P : Program} {w : World} {K : PySem.W.Frag} {mg : Str → Option Value} {base : Heap} {f : Addr} {fd : FuncData}
theorem ok_law_pen (F : Fun K "_law_pen" "_law_pen" s_law_pen f fd) (T : Bt mg) : FnG P w K mg base CX0 1 f fd ["script"] (spPen K) := by
  refine fnG0 F sc_law_pen (fun vs H Q E h => ?_) (fun cdv A outer s H vs Q E hr hg h => ?_)
  · obtain ⟨x, ns, rfl, _⟩ := h
    rfl
  · obtain ⟨a, ns, rfl, ha, hl, k⟩ := h
    refine ⟨_, (pss_one (ps_ret (pe_disp (pps_cons pe_str (pe_callTy call_list_of (by rfl) T.list b_list (pa_cons (pe_slice sl_list (pv 0) po_none (po_some pe_int)) pa_nil)) (pps_cons pe_str pe_int (pps_cons pe_str pe_int pps_nil))) (by rfl) (by rfl) (fun z => by cases z) (by decide)))), ?_⟩
    intro p hp
    refine ⟨_, rfl, 63, rfl, a, _, rfl, sql_same (same_new hp) ha, fun q hq => ?_⟩
    have ec : cutV (ns.map V.int) none (some 63) = ns.map V.int := by
      rw [show (63 : Int) = ((63 : Nat) : Int) from rfl, cut_front, List.take_of_length_le (by rw [List.length_map]; exact hl)]
    rw [ec]
    refine ⟨q, _, rfl, .inl (SqL.of upd_same), fun c hc => ?_⟩
    have hqp : q ≠ p := fun e => by
      rw [e, upd_same] at hq
      cases hq
    have hcq : c ≠ q := fun e => by
      rw [e, upd_same] at hc
      cases hc
    have hcp : c ≠ p := fun e => by
      rw [e, upd_ne hqp.symm, upd_same] at hc
      cases hc
    refine ⟨by rw [upd_ne hcp.symm, upd_ne hqp.symm, upd_same], penKv c 0 0, rfl, (show 3 ≤ 15 by decide), ?_⟩
    rw [penMade]
    have e1 : Same H (upd (upd (upd H p (.dK [])) q (.lst (ns.map V.int))) c (.lst (ns.map V.int))) := by
      have h1 : H q = none := by rw [upd_ne hqp] at hq; exact hq
      have h2 : H c = none := by rw [upd_ne hcq, upd_ne hcp] at hc; exact hc
      exact same_mut (same_mut (same_new hp) h1) h2
    exact k ⟨p, c, ns⟩ _ (same_mut e1 hp) ⟨0, 0, upd_same, by rw [upd_ne hcp, upd_same], hl, Nat.le_refl 0, Int.le_refl 0⟩
theorem ok_law_shuffled (F : Fun K "_law_shuffled" "_law_shuffled" s_law_shuffled f fd) (T : Bt mg) (C1 : Cg P w K mg base 1 "_law_draw" spDraw) : FnG P w K mg base CX0 2 f fd ["pen", "some"] (spShuf K) := by
  refine fnG0 F sc_law_shuffled (fun vs H Q E h => ?_) (fun cdv A outer s H vs Q E hr hg h => ?_)
  · obtain ⟨i, B, a, xs, rfl, _⟩ := h
    rfl
  · obtain ⟨i, B, a, xs, rfl, hp, hB, ha, h1, k⟩ := h
    have nd := sc_law_shuffled.nd
    have hu0 : (A.deeper (envOfC "_law_shuffled" (defScope s_law_shuffled) s.heap.objs.size f cdv)).units < cLine := Nat.lt_of_succ_lt (hu_of hr)
    refine ⟨_, (pss_cons (ps_par (i := 2) (j := 3) (by rfl) nd rfl rfl (by decide) rfl rfl (pa_cons (pe_callTy call_list_of (by rfl) T.list b_list (pa_cons (pv 1) pa_nil)) (pa_cons (pe_lst pa_nil) pa_nil)) (by rfl))
      (pss_cons (ps_while PassesOwn.never (pt_cmpR (op_neNil hu0) (pv 2) (pe_lst pa_nil) (nomark _))
        (pss_one (ps_expr (pe_bm PySem.F.plainAttrs_list PySem.F.slot_list_append PySem.F.type_list_append mt_append (pv 3) (pa_cons (pe_bm PySem.F.plainAttrs_list PySem.F.slot_list_pop PySem.F.type_list_pop mt_popAt (pv 2) (pa_cons (pe_g C1 hr hg (by decide) rfl (pa_cons (pv 0) (pa_cons (pe_callB call_len_seq (by rfl) T.len b_len (pa_cons (pv 2) pa_nil)) pa_nil))) pa_nil)) pa_nil)))))
      (pss_one (ps_ret (pv 3))))), ?_⟩
    refine ⟨_, rfl, a, xs, rfl, ha, fun l hl => ⟨by decide, fun q hq => ⟨_, _, rfl, ?_⟩⟩⟩
    have hlq : q ≠ l := fun e => by
      rw [e, upd_same] at hq
      cases hq
    have hq0 : H q = none := by rw [upd_ne hlq] at hq; exact hq
    have nl := hp.ne hl
    have nq := hp.ne hq0
    refine ⟨fun m σ G => ∃ (left found : List V), m = left.length ∧ σ = [some (.ref i.p), some (.ref a), some (.ref l), some (.ref q)] ∧ Kb i.p H G ∧ Pen G i (B + found.length) ∧ G l = some (.lst left) ∧ G q = some (.lst found) ∧ (found ++ left).Perm xs, ?_, ?_⟩
    · refine ⟨_, xs, [], rfl, rfl, ((Kb.new hl).mut hq0), (hp.upd nl).upd nq, by rw [upd_ne hlq.symm, upd_same], upd_same, by simp⟩
    · rintro m σ G ⟨left, found, rfl, rfl, kb, pn, h2, h3, h4⟩
      have h5 : found.length + left.length = xs.length := by
        have := h4.length_eq
        rw [List.length_append] at this
        exact this
      refine ⟨_, rfl, by decide, fun z hz => ?_⟩
      have zl : z ≠ l := fun e => by rw [e, h2] at hz; cases hz
      have zq : z ≠ q := fun e => by rw [e, h3] at hz; cases hz
      have nz := pn.ne hz
      have zH : H z = none := kb.free nz.1 hz
      have g2 : (upd G z (.lst [])) l = some (.lst left) := by rw [upd_ne zl.symm]; exact h2
      have g3 : (upd G z (.lst [])) q = some (.lst found) := by rw [upd_ne zq.symm]; exact h3
      refine ⟨l, z, left, rfl, rfl, .inl ⟨SqL.of g2, SqL.of upd_same⟩, _, rfl, ?_⟩
      cases left with
      | nil =>
        refine iteF ?_
        refine ⟨_, rfl, ?_⟩
        rw [List.append_nil] at h4
        refine k q found _ h4 hq0 (kb.mut zH) ((pn.upd nz).mono (by simp at h5; omega)) g3
      | cons y left =>
        refine iteT ?_
        refine ⟨fun σ' G' => ∃ (left' found' : List V), left'.length < (y :: left).length ∧ σ' = [some (.ref i.p), some (.ref a), some (.ref l), some (.ref q)] ∧ Kb i.p H G' ∧ Pen G' i (B + found'.length) ∧ G' l = some (.lst left') ∧ G' q = some (.lst found') ∧ (found' ++ left').Perm xs, ?_, ?_⟩
        · rintro σ' G' ⟨l', f', r1, r2⟩
          exact ⟨_, r1, l', f', rfl, r2⟩
        · refine ⟨_, rfl, .inl ⟨rfl, _, SqL.of g3⟩, _, rfl, .inl ⟨rfl, _, SqL.of g2⟩, _, rfl, _, rfl, l, _, rfl, .inl (SqL.of g2), i, _, B + found.length, rfl, pn.upd nz, by omega, by simp, by simp at h5; simp; omega, fun d G' d0 d1 kb2 pn2 => ?_⟩
          have k2 := kb2 _ _ g2 nl.1
          have k3 := kb2 _ _ g3 nq.1
          have d2 : d.toNat < (y :: left).length := by omega
          have hv : (y :: left)[d.toNat]? = some ((y :: left)[d.toNat]'d2) := List.getElem?_eq_getElem d2
          refine ⟨l, _, d, _, _, rfl, rfl, k2, by omega, by simp at h5 d1; omega, seq_in d0 d1, hv, ?_⟩
          have k4 : (upd G' l (.lst ((y :: left).eraseIdx d.toNat))) q = some (.lst found) := by rw [upd_ne hlq]; exact k3
          refine ⟨q, _, _, rfl, rfl, k4, (by simp at h5; exact Nat.lt_of_lt_of_le (by omega : found.length < 1000000) (by decide)), ?_⟩
          have le := erase_len hv
          refine ⟨(y :: left).eraseIdx d.toNat, found ++ [(y :: left)[d.toNat]'d2], by omega, rfl, ?_, ?_, ?_, upd_same, ?_⟩
          · exact (((kb.mut zH).trans kb2).mut hl).mut hq0
          · refine ((pn2.upd nl).upd nq).mono ?_
            rw [List.length_append]
            exact Nat.le_refl _
          · rw [upd_ne hlq.symm, upd_same]
          · rw [List.append_assoc]
            exact ((erase_perm hv).append_left found).trans h4
end
abbrev s_law_arrangement : Stmt := top 14
abbrev N_law_arrangement : List Str := ["pen", "places", "way", "found", "at", "far"]
theorem sc_law_arrangement : FnScope N_law_arrangement ["pen", "places"] (defScope s_law_arrangement) := ⟨rfl, rfl, rfl, by decide +kernel, rfl, by decide +kernel, by decide +kernel⟩
section
variable {P : Program} {w : World} {K : PySem.W.Frag} {mg : Str → Option Value} {base : Heap} {f : Addr} {fd : FuncData}
theorem ok_law_arrangement (F : Fun K "_law_arrangement" "_law_arrangement" s_law_arrangement f fd) (T : Bt mg) (C1 : Cg P w K mg base 1 "_law_draw" spDraw) (C2 : Cg P w K mg base 2 "_law_shuffled" (spShuf K)) : FnG P w K mg base CX0 3 f fd ["pen", "places"] spArr := by
  refine fnG0 F sc_law_arrangement (fun vs H Q E h => ?_) (fun cdv A outer s H vs Q E hr hg h => ?_)
  · obtain ⟨i, B, n, rfl, _⟩ := h
    rfl
  · obtain ⟨i, B, n, rfl, hp, hB, n2, n1, k⟩ := h
    have nd := sc_law_arrangement.nd
    refine ⟨_, (pss_cons (ps_set (i := 2) nd rfl (Or.inl rfl) (pe_g C1 hr hg (by decide) rfl (pa_cons (pv 0) (pa_cons pe_int pa_nil))))
      (pss_cons (ps_if (pt_cmpR op_eq (pv 2) pe_int (nomark _))
        (pss_one (ps_ret (pe_tupRg rfl (by rfl) T.tuple (prg_1 (by rfl) T.range (pv 1)))))
        pss_nil)
      (pss_cons (ps_set (i := 3) nd rfl (Or.inl rfl) (pe_listRg rfl (by rfl) T.list (prg_1 (by rfl) T.range (pv 1))))
      (pss_cons (ps_if (pt_cmpR op_eq (pv 2) pe_int (nomark _))
        (pss_cons (ps_set (i := 4) nd rfl (Or.inl rfl) (pe_g C1 hr hg (by decide) rfl (pa_cons (pv 0) (pa_cons (pv 1) pa_nil))))
        (pss_cons (ps_set (i := 5) nd rfl (Or.inl rfl) (pe_op op_modN (pe_op op_add (pe_op op_add (pv 4) pe_int) (pe_g C1 hr hg (by decide) rfl (pa_cons (pv 0) (pa_cons (pe_op op_sub (pv 1) pe_int) pa_nil)))) (pv 1)))
        (pss_cons (ps_asg (pe_tup (pa_cons (pe_ix ix_list (pv 3) (pv 5) (fun _ _ => rfl)) (pa_cons (pe_ix ix_list (pv 3) (pv 4) (fun _ _ => rfl)) pa_nil))) (pg_tup (by rfl) (pgs_cons (pg_sub (pv 3) (pv 4) set_list) (pgs_cons (pg_sub (pv 3) (pv 5) set_list) pgs_nil))))
        (pss_one (ps_ret (pe_callTy call_tuple_of (by rfl) T.tuple b_tuple (pa_cons (pv 3) pa_nil)))))))
        pss_nil)
      (pss_one (ps_ret (pe_callTy call_tuple_of (by rfl) T.tuple b_tuple (pa_cons (pe_g C2 hr hg (by decide) rfl (pa_cons (pv 0) (pa_cons (pv 3) pa_nil))) pa_nil)))))))), ?_⟩
    refine ⟨_, rfl, i, 5, B, rfl, hp, by omega, by decide, by decide, fun d G d0 d1 kb pn => ?_⟩
    refine ⟨_, rfl, rfl, _, rfl, ?_⟩
    have ok : RgOk 0 (n : Int) := RgOk.of_le (by decide) (by omega) (by decide) (by omega)
    refine ite2 (fun _ => ?_) (fun h0 => ?_)
    · refine ⟨_, rfl, _, rfl, ok, fun t ht => ?_⟩
      have nt := pn.ne ht
      rw [rg_places]
      exact k t (places n) _ (List.Perm.refl _) (kb.mut (kb.free nt.1 ht)) ((pn.upd nt).mono (by omega)) upd_same
    · refine ⟨_, rfl, _, rfl, ok, fun l hl => ?_⟩
      rw [rg_places]
      have nl := pn.ne hl
      have l0 := kb.free nl.1 hl
      have pn1 := pn.upd (o := .lst ((places n).map V.int)) nl
      have kb1 := kb.mut (o := .lst ((places n).map V.int)) l0
      have h1 : (upd G l (.lst ((places n).map V.int))) l = some (.lst ((places n).map V.int)) := upd_same
      generalize (upd G l (.lst ((places n).map V.int))) = G1 at pn1 kb1 h1
      refine ⟨_, rfl, rfl, _, rfl, ?_⟩
      refine ite2 (fun _ => ?_) (fun _ => ?_)
      · refine ⟨_, rfl, _, rfl, i, _, B + 1, rfl, pn1, by omega, by omega, by omega, fun at' G2 a0 a1 kb2 pn2 => ?_⟩
        refine ⟨_, rfl, _, _, rfl, rfl, _, rfl, _, rfl, _, _, rfl, rfl, i, _, B + 2, rfl, pn2, by omega, by omega, by omega, fun e G3 e0 e1 kb3 pn3 => ?_⟩
        refine ⟨_, _, rfl, rfl, _, rfl, _, _, rfl, rfl, by omega, ?_⟩
        have r1 := rest_at (i := at' + 1 + e) (m := (n : Int)) (by omega)
        have k3 : G3 l = some (.lst ((places n).map V.int)) := kb3 _ _ (kb2 _ _ h1 nl.1) nl.1
        have len : ((places n).map V.int).length = n := by rw [List.length_map, places_len]
        obtain ⟨v1, g1, g2⟩ := atI_in (xs := (places n).map V.int) r1.1 (by rw [len]; exact r1.2)
        obtain ⟨v2, g3, g4⟩ := atI_in (xs := (places n).map V.int) a0 (by rw [len]; exact a1)
        refine ⟨_, rfl, _, rfl, l, _, _, _, rfl, rfl, SqL.of k3, g1, _, rfl, _, rfl, l, _, _, _, rfl, rfl, SqL.of k3, g3, (show 2 ≤ sizeLine by decide), fun t ht => ?_⟩
        have ix : ∀ {z : Int}, 0 ≤ z → z < n → ixN ((places n).map V.int).length z = some z.toNat := fun {z} z0 z1 => by
          rw [len]
          unfold ixN
          rw [if_pos z0, if_pos z1]
        have tl : t ≠ l := fun e => by rw [e, k3] at ht; cases ht
        refine ⟨t, _, rfl, SqT.of upd_same, rfl, ?_⟩
        refine ⟨_, _, rfl, _, rfl, _, rfl, l, _, _, _, rfl, rfl, by rw [upd_ne tl.symm]; exact k3, ix a0 a1, ?_⟩
        refine ⟨_, _, rfl, _, rfl, _, rfl, l, _, _, _, rfl, rfl, upd_same, by rw [List.length_set]; exact ix r1.1 r1.2, ?_⟩
        rw [upd_upd]
        refine ⟨rfl, _, rfl, l, _, rfl, .inl ⟨SqL.of upd_same, fun q hq => ?_⟩⟩
        obtain ⟨ks, hk, pk⟩ := perm_ints (swapped_perm g4 g2)
        rw [hk]
        have ql : q ≠ l := fun e => by rw [e, upd_same] at hq; cases hq
        have qt : q ≠ t := fun e => by rw [e, upd_ne tl, upd_same] at hq; cases hq
        have q3 : G3 q = none := by rw [upd_ne ql, upd_ne qt] at hq; exact hq
        have nt := pn3.ne ht
        have nq := pn3.ne q3
        have kb4 := (kb1.trans kb2).trans kb3
        refine k q ks _ pk (((kb4.mut (kb4.free nt.1 ht)).mut l0).mut (kb4.free nq.1 q3)) ((((pn3.upd nt).upd nl).upd nq).mono (by omega)) ?_
        rw [upd_same]
      · refine ⟨_, rfl, _, rfl, i, B + 1, l, _, rfl, pn1, by omega, .inl (SqL.of h1), ?_, fun q ys G2 pm hq kb2 pn2 h2 => ?_⟩
        · rw [List.length_map, places_len]
          omega
        · refine ⟨q, ys, rfl, .inl ⟨SqL.of h2, fun t ht => ?_⟩⟩
          obtain ⟨ks, rfl, pk⟩ := perm_ints pm
          have nt := pn2.ne ht
          rw [List.length_map, places_len] at pn2
          exact k t ks _ pk ((kb1.trans kb2).mut ((kb1.trans kb2).free nt.1 ht)) ((pn2.upd nt).mono (by omega)) upd_same
end
-- new
/-- v is the tuple of the places to which p brings -/
def Ar (K : PySem.W.Frag) (H : Hp) (v : V) (n : Nat) (p : Nat → Nat) : Prop := ∃ a, v = .ref a ∧ SqT K H a (arV p n)
theorem Ar.same {K : PySem.W.Frag} {H G : Hp} {v : V} {n : Nat} {p : Nat → Nat} (h : Ar K H v n p) (e : Same H G) : Ar K G v n p := by
  obtain ⟨a, h1, h2⟩ := h
  exact ⟨a, h1, sqt_same e h2⟩
theorem Ar.congr {K : PySem.W.Frag} {H : Hp} {v : V} {n : Nat} {p q : Nat → Nat} (h : Ar K H v n p) (e : ∀ k, k < n → p k = q k) : Ar K H v n q := by
  obtain ⟨a, h1, h2⟩ := h
  exact ⟨a, h1, by rw [← arV_congr e]; exact h2⟩
def spBehind (K : PySem.W.Frag) : Sp := fun vs H Q _ => ∃ (x y : V) (n : Nat) (p q : Nat → Nat), vs = [x, y] ∧ Ar K H x n p ∧ Ar K H y n q ∧ (∀ k, k < n → p k < n) ∧ n ≤ 12 ∧
  ∀ v H', Same H H' → Ar K H' v n (fun k => q (p k)) → Q v H'
def spUndone (K : PySem.W.Frag) : Sp := fun vs H Q _ => ∃ (x : V) (n : Nat) (p : Nat → Nat), vs = [x] ∧ Ar K H x n p ∧ IsP n p ∧ n ≤ 12 ∧
  ∀ v r H', Same H H' → (∀ k, k < n → r (p k) = k) → Ar K H' v n r → Q v H'
theorem ixN_nat {n k : Nat} (h : k < n) : ixN n ((k : Nat) : Int) = some k := by
  unfold ixN
  rw [if_pos (by omega), if_pos (by omega), Int.toNat_natCast]
/-- what a list holds, read as a map -/
def readAt (bs : List V) (y : Nat) : Nat := match bs[y]? with
  | some (.int i) => i.toNat
  | _ => 0
theorem read_back {n : Nat} {p : Nat → Nat} {bs : List V} (hp : IsP n p) (hl : bs.length = n) (h : ∀ j, j < n → bs[p j]? = some (V.int (j : Nat))) : bs = arV (readAt bs) n ∧ ∀ k, k < n → readAt bs (p k) = k := by
  have rd : ∀ k, k < n → readAt bs (p k) = k := fun k hk => by
    unfold readAt
    rw [h k hk]
    exact Int.toNat_natCast k
  refine ⟨List.ext_getElem? fun y => ?_, rd⟩
  by_cases hy : y < n
  · obtain ⟨x, hx, rfl⟩ := hp.sur y hy
    rw [arV_get hy, h x hx, rd x hx]
  · rw [List.getElem?_eq_none (by omega), List.getElem?_eq_none (by rw [arV_len]; omega)]
abbrev s_behind : Stmt := top 2
abbrev N_behind : List Str := ["one", "other", "place"]
theorem sc_behind : FnScope N_behind ["one", "other"] (defScope s_behind) := ⟨rfl, rfl, rfl, by decide +kernel, rfl, by decide +kernel, by decide +kernel⟩
abbrev s_undone : Stmt := top 3
abbrev N_undone : List Str := ["one", "back", "start", "end"]
theorem sc_undone : FnScope N_undone ["one"] (defScope s_undone) := ⟨rfl, rfl, rfl, by decide +kernel, rfl, by decide +kernel, by decide +kernel⟩
section
variable {P : Program} {w : World} {K : PySem.W.Frag} {mg : Str → Option Value} {base : Heap} {f : Addr} {fd : FuncData}
theorem ok_behind (F : Fun K "behind" "behind" s_behind f fd) (T : Bt mg) : FnG P w K mg base CX0 1 f fd ["one", "other"] (spBehind K) := by
  refine fnG0 F sc_behind (fun vs H Q E h => ?_) (fun cdv A outer s H vs Q E hr hg h => ?_)
  · obtain ⟨x, y, n, p, q, rfl, _⟩ := h
    rfl
  · obtain ⟨x, y, n, p, q, rfl, ⟨a, rfl, ha⟩, ⟨b, rfl, hb⟩, lt, n12, k⟩ := h
    have nd := sc_behind.nd
    refine ⟨_, (pss_one (ps_ret (pe_callTy call_tuple_of (by rfl) T.tuple b_tuple (pa_cons (pe_lc (own := [("place", 2)]) (g := gName 2) rfl nd (pi_tup (pv 0)) (blkOk_by (own := [("place", 2)]) (N := N_behind) (sc := defScope s_behind) (by decide +kernel)) (fun _ _ _ _ _ => (pg_name (i := 2) nd rfl (Or.inl rfl))) (fun _ _ _ _ _ => pts_nil) (fun _ _ _ _ _ => (pe_callTy call_int1 (by rfl) T.int b_int (pa_cons (pe_ix (r := rIxT K) ix_tup (pv 1) (pv 2) (fun _ _ => rfl)) pa_nil)))) pa_nil)))), ?_⟩
    refine ⟨_, rfl, a, rfl, ⟨_, ha⟩, fun D hD => ?_⟩
    refine comp_tup (K := K) (ys := arV (fun k => q (p k)) n) hD ha (by rw [arV_len, arV_len]) (Nat.lt_of_le_of_lt (by rw [arV_len]; exact n12) (by decide : 12 < sizeLine)) (fun i x y hi hy G e1 Q hq => ?_) fun G e1 hG => ?_
    · have hin : i < n := by
        have := (List.getElem?_eq_some_iff.mp hi).1
        rwa [arV_len] at this
      rw [arV_get hin] at hi hy
      cases hi
      cases hy
      exact ⟨_, rfl, _, rfl, b, _, _, _, rfl, rfl, sqt_same e1 hb, arV_at (lt i hin), .inl ⟨_, rfl, hq G (Same.refl G)⟩⟩
    · refine ⟨D, _, rfl, .inl ⟨SqL.of hG, fun t ht => ?_⟩⟩
      exact k _ _ (same_mut e1 (e1.free ht)) ⟨t, rfl, SqT.of upd_same⟩
theorem ok_undone (F : Fun K "undone" "undone" s_undone f fd) (T : Bt mg) : FnG P w K mg base CX0 1 f fd ["one"] (spUndone K) := by
  refine fnG0 F sc_undone (fun vs H Q E h => ?_) (fun cdv A outer s H vs Q E hr hg h => ?_)
  · obtain ⟨x, n, p, rfl, _⟩ := h
    rfl
  · obtain ⟨x, n, p, rfl, ⟨a, rfl, ha⟩, hp, n12, k⟩ := h
    have nd := sc_undone.nd
    refine ⟨_, (pss_cons (ps_set (i := 1) nd rfl (Or.inl rfl) (pe_op op_rep (pe_lst (pa_cons pe_int pa_nil)) (pe_callB call_len_seq (by rfl) T.len b_len (pa_cons (pv 0) pa_nil))))
      (pss_cons (ps_for PassesOwn.never rfl (pi_enumT (by rfl) T.enumerate (pa_cons (pv 0) pa_nil)) (pg_tup (by rfl) (pgs_cons (pg_name (i := 2) nd rfl (Or.inl rfl)) (pgs_cons (pg_name (i := 3) nd rfl (Or.inl rfl)) pgs_nil)))
        (pss_one (ps_asg (pv 2) (pg_sub (pv 1) (pv 3) set_list))))
      (pss_one (ps_ret (pe_callTy call_tuple_of (by rfl) T.tuple b_tuple (pa_cons (pv 1) pa_nil)))))), ?_⟩
    refine ⟨(show 1 ≤ sizeLine by decide), fun z hz => ?_⟩
    have e1 : Same H (upd H z (.lst [.int 0])) := same_new hz
    have hz1 : (upd H z (.lst [.int 0])) z = some (.lst [.int 0]) := upd_same
    refine ⟨_, rfl, a, _, rfl, .inr (sqt_same e1 ha), z, _, _, rfl, rfl, hz1, by omega, ?_, ?_, fun l hl => ?_⟩
    · rw [arV_len]
      omega
    · rw [arV_len, Int.toNat_natCast]
      exact Nat.le_trans (show 1 * n ≤ 100 by omega) (by decide)
    have s0 : Same H (upd (upd H z (.lst [.int 0])) l (.lst (List.replicate ((arV p n).length : Int).toNat [.int 0]).flatten)) := e1.trans (same_new hl)
    have g0 : (upd (upd H z (.lst [.int 0])) l (.lst (List.replicate ((arV p n).length : Int).toNat [.int 0]).flatten)) l = some (.lst (List.replicate ((arV p n).length : Int).toNat [.int 0]).flatten) := upd_same
    have hl0 : H l = none := e1.free hl
    have b0 : (List.replicate ((arV p n).length : Int).toNat [V.int 0]).flatten.length = n := by
      rw [arV_len, Int.toNat_natCast]
      simp
    change (tSeq _ _ : TS) _ _ (upd (upd H z (.lst [.int 0])) l (.lst (List.replicate ((arV p n).length : Int).toNat [.int 0]).flatten))
    generalize upd (upd H z (.lst [.int 0])) l (.lst (List.replicate ((arV p n).length : Int).toNat [.int 0]).flatten) = G0 at s0 g0 ⊢
    generalize (List.replicate ((arV p n).length : Int).toNat [V.int 0]).flatten = bs0 at g0 b0
    refine ⟨_, rfl, a, _, rfl, sqt_same s0 ha, ?_⟩
    refine for_enumT (xs := arV p n) (fun i σ G => ∃ y2 y3 bs, σ = [some (.ref a), some (.ref l), y2, y3] ∧ Same H G ∧ G l = some (.lst bs) ∧ bs.length = n ∧ ∀ j, j < i → bs[p j]? = some (.int (j : Nat))) ⟨_, _, bs0, rfl, s0, g0, b0, fun j hj => absurd hj (Nat.not_lt_zero j)⟩ (fun i σ G _ q => ?_) (fun i x σ G t hx q ht => ?_) fun σ G q => ?_
    · obtain ⟨_, _, _, _, q, _⟩ := q
      exact sqt_same q ha
    · obtain ⟨y2, y3, bs, rfl, q1, q2, q3, q4⟩ := q
      have hin : i < n := by
        have := (List.getElem?_eq_some_iff.mp hx).1
        rwa [arV_len] at this
      rw [arV_get hin] at hx
      cases hx
      have tl : t ≠ l := fun e => by rw [e, q2] at ht; cases ht
      refine ⟨t, _, rfl, SqT.of upd_same, rfl, ?_⟩
      refine ⟨_, _, rfl, _, _, rfl, rfl, _, rfl, _, rfl, _, rfl, l, _, _, _, rfl, rfl, by rw [upd_ne tl.symm]; exact q2, ixN_nat (by rw [q3]; exact hp.lt i hin), ?_⟩
      refine ⟨_, _, _, rfl, same_mut (q1.trans (same_new ht)) hl0, upd_same, by rw [List.length_set]; exact q3, fun j hj => ?_⟩
      rcases Nat.lt_succ_iff_lt_or_eq.mp hj with hj | rfl
      · have ne : p i ≠ p j := fun e => by
          have := hp.inj i j hin (by omega) e
          omega
        rw [List.getElem?_set_ne ne]
        exact q4 j hj
      · rw [List.getElem?_set_self (by rw [q3]; exact hp.lt j hin)]
    · obtain ⟨y2, y3, bs, rfl, q1, q2, q3, q4⟩ := q
      rw [arV_len] at q4
      obtain ⟨r1, r2⟩ := read_back hp q3 q4
      refine ⟨_, rfl, l, _, rfl, .inl ⟨SqL.of q2, fun t ht => ?_⟩⟩
      rw [r1]
      exact k _ _ _ (same_mut q1 (q1.free ht)) r2 ⟨t, rfl, SqT.of upd_same⟩
end
-- new
def spPow (K : PySem.W.Frag) : Sp := fun vs H Q _ => ∃ (x : V) (n : Nat) (p : Nat → Nat) (t : Int), vs = [x, .int t] ∧ Ar K H x n p ∧ IsP n p ∧ n ≤ 12 ∧ ∀ v H', Same H H' → Ar K H' v n (goes p (tw t)) → Q v H'
def spOften (K : PySem.W.Frag) : Sp := fun vs H Q _ => ∃ (x : V) (n : Nat) (p : Nat → Nat) (t : Int), vs = [x, .int t] ∧ Ar K H x n p ∧ IsP n p ∧ n ≤ 12 ∧ -1000 ≤ t ∧ t ≤ 1000 ∧ ∀ v H', Same H H' → Ar K H' v n (goes p (tw t)) → Q v H'
/-- some whole number -/
def spTimes : Sp := fun vs H Q _ => ∃ (i : PenI) (B : Nat), vs = [.ref i.p] ∧ Pen H i B ∧ B < 2 ^ 40 ∧ ∀ (t : Int) (H' : Hp), Kb i.p H H' → Pen H' i (B + 5) → Q (.int t) H'
section
variable {P : Program} {w : World} {K : PySem.W.Frag} {mg : Str → Option Value} {base : Heap} {f : Addr} {fd : FuncData}
end
-- new
/-- the round from a place on -/
def spRing (K : PySem.W.Frag) : Sp := fun vs H Q _ => ∃ (x : V) (n : Nat) (p : Nat → Nat) (s : Nat), vs = [x, .int (s : Nat)] ∧ Ar K H x n p ∧ IsP n p ∧ n ≤ 12 ∧ s < n ∧ ∀ v H', Same H H' → Ar K H' v (lenOf p n s) (fun j => goes p j s) → Q v H'
/-- rs are the tuples of these rounds -/
def Rings (K : PySem.W.Frag) (H : Hp) (p : Nat → Nat) (n : Nat) (rs : List Addr) (ss : List Nat) : Prop := Paired (fun r s => SqT K H r (arV (fun j => goes p j s) (lenOf p n s))) rs ss
theorem Rings.same {K : PySem.W.Frag} {H G : Hp} {p : Nat → Nat} {n : Nat} {rs : List Addr} {ss : List Nat} (h : Rings K H p n rs ss) (e : Same H G) : Rings K G p n rs ss := Paired.mapP h fun _ _ z => sqt_same e z
def spRounds (K : PySem.W.Frag) : Sp := fun vs H Q _ => ∃ (x : V) (n : Nat) (p : Nat → Nat), vs = [x] ∧ Ar K H x n p ∧ IsP n p ∧ n ≤ 12 ∧ ∀ (a : Addr) (rs : List Addr) H', Same H H' → SqT K H' a (rs.map V.ref) → Rings K H' p n rs (heads p n) → Q (.ref a) H'
def spTurned (K : PySem.W.Frag) : Sp := fun vs H Q _ => ∃ (n : Nat) (a : Addr) (t : Int) (rs : List Addr) (p : Nat → Nat), vs = [.int (n : Nat), .ref a, .int t] ∧ IsP n p ∧ n ≤ 12 ∧ SqT K H a (rs.map V.ref) ∧ Rings K H p n rs (heads p n) ∧ ∀ v H', Same H H' → Ar K H' v n (goes p (tw t)) → Q v H'
abbrev s_ring_from : Stmt := top 8
abbrev N_ring_from : List Str := ["one", "start", "ring", "place"]
theorem sc_ring_from : FnScope N_ring_from ["one", "start"] (defScope s_ring_from) := ⟨rfl, rfl, rfl, by decide +kernel, rfl, by decide +kernel, by decide +kernel⟩
abbrev s_rounds_of : Stmt := top 5
abbrev N_rounds_of : List Str := ["one", "rings", "start", "ring"]
theorem sc_rounds_of : FnScope N_rounds_of ["one"] (defScope s_rounds_of) := ⟨rfl, rfl, rfl, by decide +kernel, rfl, by decide +kernel, by decide +kernel⟩
abbrev s_turned : Stmt := top 9
abbrev N_turned : List Str := ["places", "rings", "times", "moved", "ring", "at", "place"]
theorem sc_turned : FnScope N_turned ["places", "rings", "times"] (defScope s_turned) := ⟨rfl, rfl, rfl, by decide +kernel, rfl, by decide +kernel, by decide +kernel⟩
abbrev s_again : Stmt := top 4
abbrev N_again : List Str := ["one", "times"]
theorem sc_again : FnScope N_again ["one", "times"] (defScope s_again) := ⟨rfl, rfl, rfl, by decide +kernel, rfl, by decide +kernel, by decide +kernel⟩
theorem arV_snoc (g : Nat → Nat) (m : Nat) : arV g (m + 1) = arV g m ++ [.int ((g m : Nat) : Int)] := by
  unfold arV
  rw [List.range_succ, List.map_append]
  rfl
theorem arV_set {g : Nat → Nat} {n y z : Nat} (hy : y < n) : (arV g n).set y (.int (z : Nat)) = arV (fun x => if x = y then z else g x) n := by
  refine List.ext_getElem? fun k => ?_
  by_cases hk : k < n
  · rw [arV_get hk]
    by_cases e : k = y
    · subst e
      rw [List.getElem?_set_self (by rw [arV_len]; exact hk), if_pos rfl]
    · rw [List.getElem?_set_ne (fun z => e z.symm), arV_get hk, if_neg e]
  · rw [List.getElem?_eq_none (by rw [List.length_set, arV_len]; omega), List.getElem?_eq_none (by rw [arV_len]; omega)]
/-- each place is where it was, or where it comes to -/
def TurnP (p : Nat → Nat) (n : Nat) (t : Int) (g : Nat → Nat) : Prop := ∀ x, x < n → g x = x ∨ g x = goes p (tw t) x
def RingsP (K : PySem.W.Frag) (H : Hp) (D : Addr) (p : Nat → Nat) (n i : Nat) (G : Hp) : Prop := Same H G ∧ ∃ rs : List Addr, rs.length = i ∧ G D = some (.lst (rs.map V.ref)) ∧ Rings K G p n rs (List.range i)
section
variable {P : Program} {w : World} {K : PySem.W.Frag} {mg : Str → Option Value} {base : Heap} {f : Addr} {fd : FuncData}
theorem ok_ring_from (F : Fun K "_ring_from" "_ring_from" s_ring_from f fd) (T : Bt mg) : FnG P w K mg base CX0 1 f fd ["one", "start"] (spRing K) := by
  refine fnG0 F sc_ring_from (fun vs H Q E h => ?_) (fun cdv A outer s H vs Q E hr hg h => ?_)
  · obtain ⟨x, n, p, s, rfl, _⟩ := h
    rfl
  · obtain ⟨x, n, p, s, rfl, ⟨a, rfl, ha⟩, hp, n12, hs, k⟩ := h
    have nd := sc_ring_from.nd
    have L := hp.lenOf hs
    refine ⟨_, (pss_cons (ps_set (i := 2) nd rfl (Or.inl rfl) (pe_lst (pa_cons (pv 1) pa_nil)))
      (pss_cons (ps_set (i := 3) nd rfl (Or.inl rfl) (pe_callTy call_int1 (by rfl) T.int b_int (pa_cons (pe_ix ix_tup (pv 0) (pv 1) (fun _ _ => rfl)) pa_nil)))
      (pss_cons (ps_while PassesOwn.never (pt_cmpR op_ne (pv 3) (pv 1) (nomark _))
        (pss_cons (ps_expr (pe_bm PySem.F.plainAttrs_list PySem.F.slot_list_append PySem.F.type_list_append mt_append (pv 2) (pa_cons (pv 3) pa_nil)))
        (pss_one (ps_set (i := 3) nd rfl (Or.inl rfl) (pe_callTy call_int1 (by rfl) T.int b_int (pa_cons (pe_ix ix_tup (pv 0) (pv 3) (fun _ _ => rfl)) pa_nil))))))
      (pss_one (ps_ret (pe_callTy call_tuple_of (by rfl) T.tuple b_tuple (pa_cons (pv 2) pa_nil))))))), ?_⟩
    refine ⟨_, rfl, (show 1 ≤ sizeLine by decide), fun l hl => ?_⟩
    have e0 : Same H (upd H l (.lst [.int (s : Nat)])) := same_new hl
    refine ⟨_, rfl, _, rfl, a, _, _, _, rfl, rfl, sqt_same e0 ha, arV_at hs, .inl ⟨_, rfl, ?_⟩⟩
    refine ⟨fun m σ G => ∃ c, 0 < c ∧ c ≤ lenOf p n s ∧ m = lenOf p n s - c ∧ σ = [some (.ref a), some (.int (s : Nat)), some (.ref l), some (.int ((goes p c s : Nat) : Int))] ∧ Same H G ∧ G l = some (.lst (arV (fun j => goes p j s) c)), ⟨_, 1, Nat.one_pos, L.pos, rfl, rfl, e0, upd_same⟩, ?_⟩
    rintro m σ G ⟨c, c0, cL, rfl, rfl, q1, q2⟩
    refine ⟨_, rfl, _, rfl, rfl, _, rfl, ?_⟩
    by_cases e : goes p c s = s
    · refine iteF' (by simp [e]) ?_
      have ec : c = lenOf p n s := by
        refine Nat.le_antisymm cL (Nat.le_of_not_lt fun lt => L.first c c0 lt e)
      refine ⟨_, rfl, l, _, rfl, .inl ⟨SqL.of q2, fun t ht => ?_⟩⟩
      exact k _ _ (same_mut q1 (q1.free ht)) ⟨t, rfl, by rw [← ec]; exact SqT.of upd_same⟩
    · refine iteT' (by simp; omega) ?_
      have lt : c < lenOf p n s := by
        refine Nat.lt_of_le_of_ne cL fun z => e ?_
        rw [z]
        exact L.home
      have gl := (hp.pow c).lt s hs
      refine ⟨fun σ' G' => ∃ c', c' = c + 1 ∧ σ' = [some (.ref a), some (.int (s : Nat)), some (.ref l), some (.int ((goes p c' s : Nat) : Int))] ∧ Same H G' ∧ G' l = some (.lst (arV (fun j => goes p j s) c')), ?_, ?_⟩
      · rintro σ' G' ⟨c', rfl, r⟩
        exact ⟨lenOf p n s - (c + 1), by omega, c + 1, by omega, lt, rfl, r⟩
      · refine ⟨_, rfl, .inl ⟨rfl, _, SqL.of q2⟩, _, rfl, l, _, _, rfl, rfl, q2, by rw [arV_len]; exact Nat.lt_of_le_of_lt (Nat.le_trans cL (Nat.le_trans L.le n12)) (by decide), ?_⟩
        have e2 : Same H (upd G l (.lst (arV (fun j => goes p j s) c ++ [.int ((goes p c s : Nat) : Int)]))) := same_mut q1 hl
        refine ⟨_, rfl, _, rfl, a, _, _, _, rfl, rfl, sqt_same e2 ha, arV_at gl, .inl ⟨_, rfl, ?_⟩⟩
        exact ⟨c + 1, rfl, rfl, e2, by rw [upd_same, arV_snoc]⟩
theorem ok_rounds_of (F : Fun K "rounds_of" "rounds_of" s_rounds_of f fd) (T : Bt mg) (C_ring_from : Cg P w K mg base 1 "_ring_from" (spRing K)) : FnG P w K mg base CX0 2 f fd ["one"] (spRounds K) := by
  refine fnG0 F sc_rounds_of (fun vs H Q E h => ?_) (fun cdv A outer s H vs Q E hr hg h => ?_)
  · obtain ⟨x, n, p, rfl, _⟩ := h
    rfl
  · obtain ⟨x, n, p, rfl, hx, hp, n12, k⟩ := h
    have nd := sc_rounds_of.nd
    refine ⟨_, (pss_cons (ps_setLc (i := 1) rfl nd rfl rfl (sw_true rfl rfl rfl (by decide +kernel)) (own := [("start", 2)]) (g := gName 2) (pi_range1 (by rfl) T.range (pa_cons (pe_callB call_len_seq (by rfl) T.len b_len (pa_cons (pv 0) pa_nil)) pa_nil)) (blkOk_by (own := [("start", 2)]) (N := N_rounds_of) (sc := defScope s_rounds_of) (by decide +kernel)) (fun _ _ _ _ _ => (pg_name (i := 2) nd rfl (Or.inl rfl))) (fun _ _ _ _ _ => pts_nil) (fun _ _ _ _ _ => (pe_g C_ring_from hr hg (by decide) rfl (pa_cons (pv 0) (pa_cons (pv 2) pa_nil)))))
      (pss_one (ps_ret (pe_callTy call_tuple_of (by rfl) T.tuple b_tuple (pa_cons (pe_lc (own := [("start", 2), ("ring", 3)]) (g := gTup K 2 (gCons (gName 2) (gCons (gName 3) gNil))) rfl nd (pi_enum (by rfl) T.enumerate (pa_cons (pv 1) pa_nil)) (blkOk_by (own := [("start", 2), ("ring", 3)]) (N := N_rounds_of) (sc := defScope s_rounds_of) (by decide +kernel)) (fun _ _ _ _ _ => (pg_tup rfl (pgs_cons (pg_name (i := 2) nd rfl (Or.inl rfl)) (pgs_cons (pg_name (i := 3) nd rfl (Or.inl rfl)) pgs_nil)))) (fun _ _ _ _ _ => (pts_one (PW.pt (pw_and (pt_cmpR op_gt (pe_callB (r := rLenTS K) cr_lenTS (by rfl) T.len b_len (pa_cons (pv 3) pa_nil)) pe_int (nomark _)) (pw_and1 (pt_cmpR op_eq (pv 2) (pe_callB (r := rMinT K) (cr_minT rfl) (by rfl) T.min b_min (pa_cons (pv 3) pa_nil)) (nomark _))))))) (fun _ _ _ _ _ => (pv 3))) pa_nil))))), ?_⟩
    obtain ⟨a, rfl, ha⟩ := id hx
    refine ⟨_, rfl, a, _, rfl, .inr ha, _, rfl, ?_, ?_, fun D hD => ?_⟩
    · rw [arV_len]; omega
    · rw [arV_len]; omega
    rw [arV_len]
    refine lc_range (n := n) (RingsP K H D p n) ⟨same_new hD, [], rfl, upd_same, .nil⟩ (fun j G hj h => ⟨rfl, ?_⟩) fun G h => ?_
    · obtain ⟨e, rs, hl, hd, pp⟩ := h
      refine yes_ ?_
      refine iteT ?_
      refine ⟨_, rfl, _, rfl, .ref a, n, p, j, by rw [Int.zero_add]; rfl, hx.same e, hp, n12, hj, fun v G1 e1 hv => ?_⟩
      obtain ⟨r, rfl, hr'⟩ := hv
      have hd1 := e1 _ _ hd
      refine ⟨_, hd1, by rw [List.length_map, hl]; exact Nat.lt_of_lt_of_le (show j < 12 by omega) (by decide), same_mut (e.trans e1) hD, rs ++ [r], by rw [List.length_append, hl]; rfl, by rw [upd_same, List.map_append]; rfl, ?_⟩
      rw [List.range_succ]
      exact Paired.snoc (Paired.mapP (pp.same e1) fun _ _ z => sqt_put hd1 z) (sqt_put hd1 hr')
    · obtain ⟨e, rs, hl, hd, pp⟩ := h
      refine ⟨_, rfl, D, _, rfl, SqL.of hd, fun D2 hD2 => ?_⟩
      refine lc_enumL (xs := rs.map V.ref) (fun i G2 => Same G G2 ∧ ∃ rs2 : List Addr, rs2.length ≤ i ∧ G2 D2 = some (.lst (rs2.map V.ref)) ∧ Rings K G2 p n rs2 ((List.range i).filter fun s => headB p s (lenOf p n s))) ⟨same_new hD2, [], Nat.le_refl 0, upd_same, .nil⟩ (fun i G2 _ z => SqL.of (z.1 _ _ hd)) (fun i x G2 t hi z ht => ?_) fun G2 z => ?_
      · obtain ⟨e2, rs2, hl2, hd2, pp2⟩ := z
        obtain ⟨r, hr1, rfl⟩ : ∃ r, rs[i]? = some r ∧ V.ref r = x := by
          rw [List.getElem?_map] at hi
          exact Option.map_eq_some_iff.mp hi
        have hin : i < n := by
          rw [← hl]
          exact (List.getElem?_eq_some_iff.mp hr1).1
        have hri : SqT K G r (arV (fun j => goes p j i) (lenOf p n i)) := by
          obtain ⟨s', h1, h2⟩ := paired_at pp hr1
          rw [List.getElem?_range hin] at h1
          cases h1
          exact h2
        have L := hp.lenOf hin
        have e3 : Same G2 (upd G2 t (.tup [.int (i : Nat), .ref r])) := same_new ht
        have rt := sqt_same (e2.trans e3) hri
        refine ⟨t, _, rfl, SqT.of upd_same, rfl, ?_⟩
        refine ⟨_, _, rfl, _, _, rfl, rfl, rfl, ?_⟩
        have hd3 := e3 _ _ hd2
        have pp3 := pp2.same e3
        change (tAnd _ _ : TT) _ (upd G2 t (.tup [.int (i : Nat), .ref r])) _
        generalize upd G2 t (.tup [.int (i : Nat), .ref r]) = G3 at e3 rt hd3 pp3 ⊢
        have rs1 : List.range (i + 1) = List.range i ++ [i] := List.range_succ
        refine ⟨_, rfl, r, _, rfl, .inr rt, _, _, rfl, rfl, _, rfl, ?_⟩
        have room : (rs2.map V.ref).length < sizeLine := by
          rw [List.length_map]
          exact Nat.lt_of_le_of_lt (show rs2.length ≤ 12 by omega) (by decide)
        have no : headB p i (lenOf p n i) = false → Rings K G3 p n rs2 ((List.range (i + 1)).filter fun s => headB p s (lenOf p n s)) := fun z => by
          rw [rs1, List.filter_append, List.filter_cons_of_neg (by rw [z]; decide), List.filter_nil, List.append_nil]
          exact pp3
        by_cases more : 1 < lenOf p n i
        · refine iteT' (by simp [arV_len]; omega) ?_
          refine ⟨_, rfl, _, rfl, r, _, rfl, by rw [← arV_ints]; exact rt, by rw [arI_len]; exact L.pos, fun m hm lo => ⟨rfl, _, rfl, ?_⟩⟩
          by_cases hd' : headB p i (lenOf p n i) = true
          · have em : m = (i : Int) := by
              obtain ⟨_, h2⟩ := headB_iff.mp hd'
              have h3 := lo _ (List.mem_map.mpr ⟨0, List.mem_range.mpr L.pos, rfl⟩)
              obtain ⟨j, hj, rfl⟩ := List.mem_map.mp hm
              have h4 := h2 j (List.mem_range.mp hj)
              have h5 : ((goes p j i : Nat) : Int) ≤ (i : Int) := h3
              show ((goes p j i : Nat) : Int) = _
              omega
            refine iteT' (by rw [em]; simp) ?_
            refine ⟨_, rfl, _, hd3, room, same_mut (e2.trans e3) hD2, rs2 ++ [r], by rw [List.length_append]; exact Nat.succ_le_succ hl2, by rw [upd_same, List.map_append]; rfl, ?_⟩
            have f1 : [i].filter (fun s => headB p s (lenOf p n s)) = [i] := by simp [hd']
            rw [rs1, List.filter_append, f1]
            exact Paired.snoc (Paired.mapP pp3 fun _ _ z => sqt_put hd3 z) (sqt_put hd3 rt)
          · have hd0 : headB p i (lenOf p n i) = false := by simpa using hd'
            have em : m ≠ (i : Int) := fun em => hd' (headB_iff.mpr ⟨more, fun j hj => by
              have := lo _ (List.mem_map.mpr ⟨j, List.mem_range.mpr hj, rfl⟩)
              have h5 : m ≤ ((goes p j i : Nat) : Int) := this
              omega⟩)
            refine iteF' (by simp; omega) ?_
            exact ⟨e2.trans e3, rs2, Nat.le_succ_of_le hl2, hd3, no hd0⟩
        · refine iteF' (by simp [arV_len]; omega) ?_
          refine iteF ?_
          refine ⟨e2.trans e3, rs2, Nat.le_succ_of_le hl2, hd3, no ?_⟩
          unfold headB
          rw [decide_eq_false more, Bool.false_and]
      · obtain ⟨e2, rs2, hl2, hd2, pp2⟩ := z
        rw [List.length_map, hl] at pp2
        refine ⟨D2, _, rfl, .inl ⟨SqL.of hd2, fun t ht => ?_⟩⟩
        exact k t rs2 _ (same_mut (e.trans e2) ((e.trans e2).free ht)) (SqT.of upd_same) (pp2.same (same_new ht))
theorem ok_turned (F : Fun K "_turned" "_turned" s_turned f fd) (T : Bt mg) : FnG P w K mg base CX0 1 f fd ["places", "rings", "times"] (spTurned K) := by
  refine fnG0 F sc_turned (fun vs H Q E h => ?_) (fun cdv A outer s H vs Q E hr hg h => ?_)
  · obtain ⟨n, a, t, rs, p, rfl, _⟩ := h
    rfl
  · obtain ⟨n, a, t, rs, p, rfl, hp, n12, ha, pr, k⟩ := h
    have nd := sc_turned.nd
    refine ⟨_, (pss_cons (ps_set (i := 3) nd rfl (Or.inl rfl) (pe_listRg rfl (by rfl) T.list (prg_1 (by rfl) T.range (pv 0))))
      (pss_cons (ps_for PassesOwn.never rfl (pi_tup (pv 1)) (pg_name (i := 4) nd rfl (Or.inl rfl))
        (pss_one (ps_for PassesOwn.never rfl (pi_enumT (by rfl) T.enumerate (pa_cons (pv 4) pa_nil)) (pg_tup (by rfl) (pgs_cons (pg_name (i := 5) nd rfl (Or.inl rfl)) (pgs_cons (pg_name (i := 6) nd rfl (Or.inl rfl)) pgs_nil)))
          (pss_one (ps_asg (pe_ix ix_tup (pv 4) (pe_op op_modN (pe_op op_add (pv 5) (pv 2)) (pe_callB call_len_seq (by rfl) T.len b_len (pa_cons (pv 4) pa_nil))) (fun _ _ => rfl)) (pg_sub (pv 3) (pv 6) set_list))))))
      (pss_one (ps_ret (pe_callTy call_tuple_of (by rfl) T.tuple b_tuple (pa_cons (pv 3) pa_nil)))))), ?_⟩
    refine ⟨_, rfl, _, rfl, RgOk.of_le (by decide) (by omega) (by decide) (by omega), fun l hl => ?_⟩
    rw [arV_id]
    have e0 : Same H (upd H l (.lst (arV (fun k => k) n))) := same_new hl
    have g0 : (upd H l (.lst (arV (fun k => k) n))) l = some (.lst (arV (fun k => k) n)) := upd_same
    change (tSeq _ _ : TS) _ _ (upd H l (.lst (arV (fun k => k) n)))
    generalize upd H l (.lst (arV (fun k => k) n)) = G0 at e0 g0 ⊢
    refine ⟨_, rfl, a, rfl, ⟨_, sqt_same e0 ha⟩, ?_⟩
    refine for_tup (xs := rs.map V.ref) (fun i σ G => ∃ y4 y5 y6 g, σ = [some (.int (n : Nat)), some (.ref a), some (.int t), some (.ref l), y4, y5, y6] ∧ Same H G ∧ G l = some (.lst (arV g n)) ∧ TurnP p n t g ∧ ∀ q s, q < i → (heads p n)[q]? = some s → ∀ j, j < lenOf p n s → g (goes p j s) = goes p (tw t) (goes p j s)) ⟨_, _, _, _, rfl, e0, g0, fun x _ => .inl rfl, fun q _ hq => absurd hq (Nat.not_lt_zero q)⟩ (fun i σ G _ z => ?_) (fun i x σ G hi z => ?_) fun σ G z => ?_
    · obtain ⟨_, _, _, _, _, e, _⟩ := z
      exact sqt_same e ha
    · obtain ⟨y4, y5, y6, g, rfl, e, hg', tp, dn⟩ := z
      obtain ⟨r, hr1, rfl⟩ : ∃ r, rs[i]? = some r ∧ V.ref r = x := by
        rw [List.getElem?_map] at hi
        exact Option.map_eq_some_iff.mp hi
      obtain ⟨s, hs1, hs2⟩ := paired_at pr hr1
      obtain ⟨hsn, hm1, _⟩ := heads_mem.mp (List.mem_of_getElem? hs1)
      have L := hp.lenOf hsn
      refine ⟨_, rfl, r, _, rfl, sqt_same e hs2, ?_⟩
      refine for_enumT (xs := arV (fun j => goes p j s) (lenOf p n s)) (fun c σ G => ∃ y5 y6 g, σ = [some (.int (n : Nat)), some (.ref a), some (.int t), some (.ref l), some (.ref r), y5, y6] ∧ Same H G ∧ G l = some (.lst (arV g n)) ∧ TurnP p n t g ∧ (∀ q s, q < i → (heads p n)[q]? = some s → ∀ j, j < lenOf p n s → g (goes p j s) = goes p (tw t) (goes p j s)) ∧ ∀ j, j < c → g (goes p j s) = goes p (tw t) (goes p j s)) ⟨_, _, g, rfl, e, hg', tp, dn, fun j hj => absurd hj (Nat.not_lt_zero j)⟩ (fun c σ G _ z => ?_) (fun c x σ G T' hx z hT => ?_) fun σ G z => ?_
      · obtain ⟨_, _, _, _, e, _⟩ := z
        exact sqt_same e hs2
      · obtain ⟨y5, y6, g, rfl, e, hg', tp, dn, dn2⟩ := z
        have hc : c < lenOf p n s := by
          have := (List.getElem?_eq_some_iff.mp hx).1
          rwa [arV_len] at this
        rw [arV_get hc] at hx
        cases hx
        have tl : T' ≠ l := fun z => by rw [z, hg'] at hT; cases hT
        have gn := (hp.pow c).lt s hsn
        have rest := rest_at (i := (c : Int) + t) (m := ((lenOf p n s : Nat) : Int)) (by have := L.pos; omega)
        have e2 : Same H (upd G T' (.tup [.int (c : Nat), .int ((goes p c s : Nat) : Int)])) := e.trans (same_new hT)
        refine ⟨T', _, rfl, SqT.of upd_same, rfl, ?_⟩
        refine ⟨_, _, rfl, _, _, rfl, rfl, ?_⟩
        have mpos : (0 : Int) < ((lenOf p n s : Nat) : Int) := by
          have := L.pos
          omega
        have zr : ((((c : Int) + t).fmod ((lenOf p n s : Nat) : Int)).toNat : Int) = ((c : Int) + t).fmod ((lenOf p n s : Nat) : Int) := Int.toNat_of_nonneg rest.1
        have zl : (((c : Int) + t).fmod ((lenOf p n s : Nat) : Int)).toNat < lenOf p n s := by
          have := rest.2
          omega
        have zv : goes p (((c : Int) + t).fmod ((lenOf p n s : Nat) : Int)).toNat s = goes p (tw t) (goes p c s) := by
          rw [Int.fmod_eq_emod_of_nonneg _ (Int.le_of_lt mpos)]
          exact ring_turn hp n12 hsn L t
        refine ⟨_, rfl, _, rfl, _, rfl, _, _, rfl, rfl, _, rfl, r, _, rfl, .inr (sqt_same e2 hs2), _, _, rfl, rfl, (by rw [arV_len]; omega), ?_⟩
        rw [arV_len]
        refine ⟨r, _, _, _, rfl, rfl, sqt_same e2 hs2, (by rw [← zr]; exact arV_at zl), ?_⟩
        refine ⟨_, rfl, _, rfl, l, _, _, _, rfl, rfl, by rw [upd_ne tl.symm]; exact hg', ixN_nat (by rw [arV_len]; exact gn), ?_⟩
        rw [zv, arV_set gn]
        refine ⟨_, _, _, rfl, same_mut e2 hl, upd_same, fun x hx => ?_, fun q s' hq hs' j hj => ?_, fun j hj => ?_⟩
        · try dsimp only
          by_cases ex : x = goes p c s
          · rw [if_pos ex, ex]
            exact .inr rfl
          · rw [if_neg ex]
            exact tp x hx
        · try dsimp only
          by_cases ex : goes p j s' = goes p c s
          · rw [if_pos ex, ex]
          · rw [if_neg ex]
            exact dn q s' hq hs' j hj
        · try dsimp only
          by_cases ex : goes p j s = goes p c s
          · rw [if_pos ex, ex]
          · rw [if_neg ex]
            refine dn2 j ?_
            rcases Nat.lt_succ_iff_lt_or_eq.mp hj with h | h
            · exact h
            · exact absurd (by rw [h]) ex
      · obtain ⟨y5, y6, g, rfl, e, hg', tp, dn, dn2⟩ := z
        rw [arV_len] at dn2
        refine ⟨_, _, _, g, rfl, e, hg', tp, fun q s' hq hs' j hj => ?_⟩
        rcases Nat.lt_succ_iff_lt_or_eq.mp hq with h | h
        · exact dn q s' h hs' j hj
        · subst h
          rw [hs1] at hs'
          cases hs'
          exact dn2 j hj
    · obtain ⟨y4, y5, y6, g, rfl, e, hg', tp, dn⟩ := z
      refine ⟨_, rfl, l, _, rfl, .inl ⟨SqL.of hg', fun q hq => ?_⟩⟩
      refine k _ _ (same_mut e (e.free hq)) ⟨q, rfl, ?_⟩
      have eq : arV g n = arV (goes p (tw t)) n := arV_congr fun x hx => by
        by_cases fix : p x = x
        · have st : goes p (tw t) x = x := by
            have h := goes_home (p := p) (m := 1) (x := x) fix (tw t)
            rwa [Nat.mul_one] at h
          rcases tp x hx with h | h
          · rw [h, st]
          · exact h
        · obtain ⟨s, hs, j, hj, rfl⟩ := heads_cover hp hx fix
          obtain ⟨q', hq', hs'⟩ := List.getElem_of_mem hs
          refine dn q' s ?_ (by rw [List.getElem?_eq_getElem hq', hs']) j hj
          rw [List.length_map, paired_len pr]
          exact hq'
      rw [← eq]
      exact SqT.of upd_same
theorem ok_again (F : Fun K "again" "again" s_again f fd) (T : Bt mg) (C_turned : Cg P w K mg base 1 "_turned" (spTurned K)) (C_rounds_of : Cg P w K mg base 2 "rounds_of" (spRounds K)) : FnG P w K mg base CX0 3 f fd ["one", "times"] (spPow K) := by
  refine fnG0 F sc_again (fun vs H Q E h => ?_) (fun cdv A outer s H vs Q E hr hg h => ?_)
  · obtain ⟨x, n, p, t, rfl, _⟩ := h
    rfl
  · obtain ⟨x, n, p, t, rfl, hx, hp, n12, k⟩ := h
    have nd := sc_again.nd
    refine ⟨_, (pss_one (ps_ret (pe_g C_turned hr hg (by decide) rfl (pa_cons (pe_callB call_len_seq (by rfl) T.len b_len (pa_cons (pv 0) pa_nil)) (pa_cons (pe_g C_rounds_of hr hg (by decide) rfl (pa_cons (pv 0) pa_nil)) (pa_cons (pv 1) pa_nil)))))), ?_⟩
    obtain ⟨a, rfl, ha⟩ := id hx
    refine ⟨_, rfl, a, _, rfl, .inr ha, _, rfl, .ref a, n, p, rfl, hx, hp, n12, fun b rs G e1 h1 h2 => ⟨_, rfl, n, b, t, rs, p, by rw [arV_len]; rfl, hp, n12, h1, h2, fun v G2 e2 hv => k v G2 (e1.trans e2) hv⟩⟩
end
-- new
def spHow (K : PySem.W.Frag) : Sp := fun vs H Q _ => ∃ (x : V) (n : Nat) (p : Nat → Nat), vs = [x] ∧ Ar K H x n p ∧ IsP n p ∧ n ≤ 12 ∧ ∀ H', Same H H' → Q (.int ((oftP p n : Nat) : Int)) H'
def spEven (K : PySem.W.Frag) : Sp := fun vs H Q _ => ∃ (x : V) (n : Nat) (p : Nat → Nat), vs = [x] ∧ Ar K H x n p ∧ IsP n p ∧ n ≤ 12 ∧ ∀ H', Same H H' → Q (.bl (!sg p n)) H'
abbrev s_how_often : Stmt := top 6
abbrev N_how_often : List Str := ["one", "often", "ring"]
theorem sc_how_often : FnScope N_how_often ["one"] (defScope s_how_often) := ⟨rfl, rfl, rfl, by decide +kernel, rfl, by decide +kernel, by decide +kernel⟩
abbrev s_is_even : Stmt := top 7
abbrev N_is_even : List Str := ["one", "ring"]
theorem sc_is_even : FnScope N_is_even ["one"] (defScope s_is_even) := ⟨rfl, rfl, rfl, by decide +kernel, rfl, by decide +kernel, by decide +kernel⟩
abbrev s_law_even : Stmt := top 17
abbrev N_law_even : List Str := ["one", "many", "k", "j"]
theorem sc_law_even : FnScope N_law_even ["one"] (defScope s_law_even) := ⟨rfl, rfl, rfl, by decide +kernel, rfl, by decide +kernel, by decide +kernel⟩
theorem pairs_snoc (n : Nat) : pairsTo (n + 1) = pairsTo n ++ (List.range n).map fun i => (i, n) := by
  unfold pairsTo
  rw [List.range_succ, List.flatMap_append]
  simp
section
variable {P : Program} {w : World} {K : PySem.W.Frag} {mg : Str → Option Value} {base : Heap} {f : Addr} {fd : FuncData}
theorem ok_how_often (F : Fun K "how_often" "how_often" s_how_often f fd) (T : Bt mg) (lcm : mg "lcm" = some (.builtin "math.lcm")) (C_rounds_of : Cg P w K mg base 2 "rounds_of" (spRounds K)) : FnG P w K mg base CX0 3 f fd ["one"] (spHow K) := by
  refine fnG0 F sc_how_often (fun vs H Q E h => ?_) (fun cdv A outer s H vs Q E hr hg h => ?_)
  · obtain ⟨x, n, p, rfl, _⟩ := h
    rfl
  · obtain ⟨x, n, p, rfl, hx, hp, n12, k⟩ := h
    have nd := sc_how_often.nd
    refine ⟨_, (pss_cons (ps_set (i := 1) nd rfl (Or.inl rfl) pe_int)
      (pss_cons (ps_for PassesOwn.never rfl (pi_tup (pe_g C_rounds_of hr hg (by decide) rfl (pa_cons (pv 0) pa_nil))) (pg_name (i := 2) nd rfl (Or.inl rfl))
        (pss_one (ps_set (i := 1) nd rfl (Or.inl rfl) (pe_callBfun cr_lcm (by rfl) lcm (pa_cons (pv 1) (pa_cons (pe_callB call_len_seq (by rfl) T.len b_len (pa_cons (pv 2) pa_nil)) pa_nil))))))
      (pss_one (ps_ret (pv 1))))), ?_⟩
    refine ⟨_, rfl, x, n, p, rfl, hx, hp, n12, fun a rs G e h1 h2 => ⟨a, rfl, ⟨_, h1⟩, ?_⟩⟩
    refine for_tup (xs := rs.map V.ref) (fun i σ G2 => ∃ y2, σ = [some x, some (.int (((((heads p n).take i).map (lenOf p n)).foldl Nat.lcm 1 : Nat) : Int)), y2] ∧ Same G G2) ⟨_, rfl, Same.refl G⟩ (fun i σ G2 _ z => ?_) (fun i y σ G2 hi z => ?_) fun σ G2 z => ?_
    · obtain ⟨_, _, e2⟩ := z
      exact sqt_same e2 h1
    · obtain ⟨y2, rfl, e2⟩ := z
      obtain ⟨r, hr1, rfl⟩ : ∃ r, rs[i]? = some r ∧ V.ref r = y := by
        rw [List.getElem?_map] at hi
        exact Option.map_eq_some_iff.mp hi
      obtain ⟨s, hs1, hs2⟩ := paired_at h2 hr1
      have hsn := (heads_mem.mp (List.mem_of_getElem? hs1)).1
      have le : ((((heads p n).take i).map (lenOf p n)).foldl Nat.lcm 1) ≤ 27720 := Nat.le_of_dvd (by decide) (lcm_fold _ _ (Nat.one_dvd _) fun m hm => by
        obtain ⟨t, ht, rfl⟩ := List.mem_map.mp hm
        exact len_whole hp n12 (heads_mem.mp (List.mem_of_mem_take ht)).1)
      refine ⟨_, rfl, _, rfl, r, _, rfl, .inr (sqt_same e2 hs2), _, lenOf p n s, by rw [arV_len], le, Nat.le_of_dvd (by decide) (len_whole hp n12 hsn), ?_⟩
      refine ⟨some (.ref r), ?_, e2⟩
      rw [← take_snoc hs1, List.map_append, List.foldl_append]
      rfl
    · obtain ⟨y2, rfl, e2⟩ := z
      refine ⟨_, rfl, ?_⟩
      have fin : (((heads p n).take (rs.map V.ref).length).map (lenOf p n)).foldl Nat.lcm 1 = oftP p n := by
        rw [List.length_map, paired_len h2, List.take_length]
        rfl
      rw [fin]
      exact k G2 (e.trans e2)
theorem ok_is_even (F : Fun K "is_even" "is_even" s_is_even f fd) (T : Bt mg) (C_rounds_of : Cg P w K mg base 2 "rounds_of" (spRounds K)) : FnG P w K mg base CX0 3 f fd ["one"] (spEven K) := by
  refine fnG0 F sc_is_even (fun vs H Q E h => ?_) (fun cdv A outer s H vs Q E hr hg h => ?_)
  · obtain ⟨x, n, p, rfl, _⟩ := h
    rfl
  · obtain ⟨x, n, p, rfl, hx, hp, n12, k⟩ := h
    have nd := sc_is_even.nd
    refine ⟨_, (pss_one (ps_ret (pe_cmpR op_eq (pe_op op_mod (pe_callB call_len_seq (by rfl) T.len b_len (pa_cons (pe_lc (own := [("ring", 1)]) (g := gName 1) rfl nd (pi_tup (pe_g C_rounds_of hr hg (by decide) rfl (pa_cons (pv 0) pa_nil))) (blkOk_by (own := [("ring", 1)]) (N := N_is_even) (sc := defScope s_is_even) (by decide +kernel)) (fun _ _ _ _ _ => (pg_name (i := 1) nd rfl (Or.inl rfl))) (fun _ _ _ _ _ => (pts_one (pt_cmpR op_eq (pe_op op_mod (pe_callB (r := rLenTS K) cr_lenTS (by rfl) T.len b_len (pa_cons (pv 1) pa_nil)) pe_int) pe_int (nomark _)))) (fun _ _ _ _ _ => (pv 1))) pa_nil)) pe_int) pe_int (nomark _)))), ?_⟩
    refine ⟨_, rfl, x, n, p, rfl, hx, hp, n12, fun a rs G e h1 h2 => ⟨a, rfl, ⟨_, h1⟩, fun D hD => ?_⟩⟩
    have rl : rs.length = (heads p n).length := paired_len h2
    have hl : (heads p n).length ≤ 12 := by
      unfold heads
      refine Nat.le_trans (List.length_filter_le _ _) ?_
      rw [List.length_range]
      exact n12
    refine comp_tupT (K := K) (ys := rs.map V.ref) (bs := (heads p n).map fun s => decide (lenOf p n s % 2 = 0)) hD h1 rfl (by rw [List.length_map, List.length_map, rl]) (by rw [List.length_map, rl]; exact Nat.lt_of_le_of_lt hl (by decide)) (fun i y b hi hb G2 e2 q hq => ?_) (fun i y z hi hz G2 e2 q hq => ?_) fun G2 e2 hG => ?_
    · obtain ⟨r, hr1, rfl⟩ : ∃ r, rs[i]? = some r ∧ V.ref r = y := by
        rw [List.getElem?_map] at hi
        exact Option.map_eq_some_iff.mp hi
      obtain ⟨s, hs1, hs2⟩ := paired_at h2 hr1
      rw [List.getElem?_map, hs1] at hb
      cases hb
      refine ⟨_, rfl, r, _, rfl, .inr (sqt_same e2 hs2), _, _, rfl, rfl, (by decide : (0 : Int) < 2), rfl, _, rfl, ?_⟩
      rw [arV_len]
      have ev : decide (V.int (((lenOf p n s : Nat) : Int) % 2) = V.int 0) = decide (lenOf p n s % 2 = 0) := by
        rw [Bool.eq_iff_iff, decide_eq_true_eq, decide_eq_true_eq, V.int.injEq]
        omega
      rw [ev]
      exact hq G2 (Same.refl G2)
    · rw [hi] at hz
      cases hz
      exact ⟨_, rfl, hq G2 (Same.refl G2)⟩
    · refine ⟨D, _, rfl, .inl (SqL.of hG), _, _, rfl, rfl, (by decide : (0 : Int) < 2), rfl, ?_⟩
      have c := kept_count (rs.map V.ref) ((heads p n).map fun s => decide (lenOf p n s % 2 = 0)) (by rw [List.length_map, List.length_map, rl])
      rw [← sg_rings hp n12] at c
      have ev : decide (V.int ((((keptV (rs.map V.ref) ((heads p n).map fun s => decide (lenOf p n s % 2 = 0))).length : Nat) : Int) % 2) = V.int 0) = !sg p n := by
        rw [← c, Bool.eq_iff_iff, decide_eq_true_eq, decide_eq_true_eq, V.int.injEq]
        omega
      rw [ev]
      exact k G2 (e.trans e2)
theorem ok_law_even (F : Fun K "_law_even" "_law_even" s_law_even f fd) (T : Bt mg) : FnG P w K mg base CX0 1 f fd ["one"] (spEven K) := by
  refine fnG0 F sc_law_even (fun vs H Q E h => ?_) (fun cdv A outer s H vs Q E hr hg h => ?_)
  · obtain ⟨x, n, p, rfl, _⟩ := h
    rfl
  · obtain ⟨x, n, p, rfl, ⟨a, rfl, ha⟩, hp, n12, k⟩ := h
    have nd := sc_law_even.nd
    refine ⟨_, (pss_cons (ps_set (i := 1) nd rfl (Or.inl rfl) pe_int)
      (pss_cons (ps_for PassesOwn.never rfl (pi_range1 (by rfl) T.range (pa_cons (pe_callB call_len_seq (by rfl) T.len b_len (pa_cons (pv 0) pa_nil)) pa_nil)) (pg_name (i := 2) nd rfl (Or.inr rfl))
        (pss_one (ps_set (i := 1) nd rfl (Or.inl rfl) (pe_op op_add (pv 1) (pe_callB call_len_seq (by rfl) T.len b_len (pa_cons (pe_lc (own := [("j", 3)]) (g := gName 3) rfl nd (pi_range1 (by rfl) T.range (pa_cons (pv 2) pa_nil)) (blkOk_by (own := [("j", 3)]) (N := N_law_even) (sc := defScope s_law_even) (by decide +kernel)) (fun _ _ _ _ _ => (pg_name (i := 3) nd rfl (Or.inl rfl))) (fun _ _ _ _ _ => (pts_one (pt_cmpR op_gt (pe_ix (r := rIxT K) ix_tup (pv 0) (pv 3) (fun _ _ => rfl)) (pe_ix (r := rIxT K) ix_tup (pv 0) (pv 2) (fun _ _ => rfl)) (nomark _)))) (fun _ _ _ _ _ => (pv 3))) pa_nil))))))
      (pss_one (ps_ret (pe_cmpR op_eq (pe_op op_mod (pv 1) pe_int) pe_int (nomark _)))))), ?_⟩
    refine ⟨_, rfl, a, _, rfl, .inr ha, _, rfl, ?_, ?_, ?_⟩
    · rw [arV_len]; omega
    · rw [arV_len]; omega
    rw [arV_len]
    refine for_range (n := n) (fun i σ G => ∃ (m : Nat) (y2 y3 : Option V), σ = [some (.ref a), some (.int (m : Int)), y2, y3] ∧ Same H G ∧ decide (m % 2 = 0) = !xorL ((pairsTo i).map fun x => decide (p x.2 < p x.1))) ⟨0, _, _, rfl, Same.refl H, rfl⟩ (fun i σ G hi z => ?_) fun σ G z => ?_
    · obtain ⟨m, y2, y3, rfl, e, par⟩ := z
      refine ⟨_, rfl, _, rfl, _, rfl, by omega, by omega, fun D hD => ?_⟩
      have bl : ((List.range i).map fun j => decide (p i < p j)).length = i := by rw [List.length_map, List.length_range]
      have yl : ((List.range i).map fun j => V.int (0 + ((j : Nat) : Int))).length = i := by rw [List.length_map, List.length_range]
      rw [show (0 : Int) + ((i : Nat) : Int) = ((i : Nat) : Int) by omega, Int.toNat_natCast]
      refine comp_rangeT (n := i) (ys := (List.range i).map fun j => V.int (0 + ((j : Nat) : Int))) (bs := (List.range i).map fun j => decide (p i < p j)) hD yl bl (Nat.lt_of_lt_of_le (by omega : i < 12) (by decide)) (fun j b hj hb G2 e2 q hq => ?_) (fun j y hj hy G2 e2 q hq => ?_) fun G2 e2 hG => ?_
      · rw [List.getElem?_map, List.getElem?_range hj] at hb
        cases hb
        have t2 := sqt_same (e.trans e2) ha
        refine ⟨_, rfl, _, rfl, a, _, _, _, rfl, rfl, t2, by rw [Int.zero_add]; exact arV_at (by omega), _, rfl, _, rfl, a, _, _, _, rfl, rfl, t2, arV_at hi, _, _, rfl, rfl, _, rfl, ?_⟩
        have ev : decide (((p i : Nat) : Int) < ((p j : Nat) : Int)) = decide (p i < p j) := by
          rw [Bool.eq_iff_iff, decide_eq_true_eq, decide_eq_true_eq]
          omega
        rw [ev]
        exact hq G2 (Same.refl G2)
      · rw [List.getElem?_map, List.getElem?_range hj] at hy
        cases hy
        exact ⟨_, rfl, hq G2 (Same.refl G2)⟩
      · have c := kept_count _ _ (bl.trans yl.symm)
        refine ⟨D, _, rfl, .inl (SqL.of hG), _, _, rfl, rfl, ?_⟩
        refine ⟨m + (keptV ((List.range i).map fun j => V.int (0 + ((j : Nat) : Int))) ((List.range i).map fun j => decide (p i < p j))).length, _, _, rfl, e.trans e2, ?_⟩
        rw [pairs_snoc, List.map_append, xorL_append, List.map_map]
        have c2 : xorL (((List.range i).map fun j => decide (p i < p j))) = xorL ((List.range i).map ((fun x : Nat × Nat => decide (p x.2 < p x.1)) ∘ fun j => (j, i))) := rfl
        rw [← c2]
        generalize xorL ((List.range i).map fun j => decide (p i < p j)) = b1 at c
        generalize xorL ((pairsTo i).map fun x => decide (p x.2 < p x.1)) = b2 at par
        generalize (keptV ((List.range i).map fun j => V.int (0 + ((j : Nat) : Int))) ((List.range i).map fun j => decide (p i < p j))).length = c0 at c
        cases b1 <;> cases b2 <;> simp at c par ⊢ <;> omega
    · obtain ⟨m, y2, y3, rfl, e, par⟩ := z
      refine ⟨_, rfl, _, _, rfl, rfl, (by decide : (0 : Int) < 2), rfl, ?_⟩
      have ev : decide (V.int (((m : Nat) : Int) % 2) = V.int 0) = !sg p n := by
        show _ = !xorL _
        rw [← par, Bool.eq_iff_iff, decide_eq_true_eq, decide_eq_true_eq, V.int.injEq]
        omega
      rw [ev]
      exact k G e
end
-- new
/-- the rounds of the other way about -/
def spAbout (K : PySem.W.Frag) : Sp := fun vs H Q _ => ∃ (a : Addr) (n : Nat) (p r : Nat → Nat) (rs : List Addr), vs = [.ref a] ∧ IsP n p ∧ n ≤ 12 ∧ (∀ k, k < n → r (p k) = k) ∧ SqT K H a (rs.map V.ref) ∧ Rings K H p n rs (heads p n) ∧
  ∀ (b : Addr) (qs : List Addr) H', Same H H' → SqT K H' b (qs.map V.ref) → Rings K H' r n qs (heads r n) → Q (.ref b) H'
abbrev s_law_turned_about : Stmt := top 18
abbrev N_law_turned_about : List Str := ["parts", "piece"]
theorem sc_law_turned_about : FnScope N_law_turned_about ["parts"] (defScope s_law_turned_about) := ⟨rfl, rfl, rfl, by decide +kernel, rfl, by decide +kernel, by decide +kernel⟩
/-- going back along a round -/
theorem goes_back {n : Nat} {p r : Nat → Nat} (hp : IsP n p) (h : ∀ k, k < n → r (p k) = k) {x : Nat} (hx : x < n) : ∀ j, goes r j (goes p j x) = x
  | 0 => rfl
  | j + 1 => by
    rw [goes_next r j]
    show goes r j (r (p (goes p j x))) = x
    rw [h _ ((hp.pow j).lt x hx)]
    exact goes_back hp h hx j
theorem back_goes {n : Nat} {p r : Nat → Nat} (hp : IsP n p) (h : ∀ k, k < n → r (p k) = k) {s m : Nat} (hs : s < n) (L : Len p n s m) {j : Nat} (hj : j ≤ m) : goes r j s = goes p (m - j) s := by
  have e : goes p j (goes p (m - j) s) = s := by
    rw [← goes_add, show j + (m - j) = m by omega]
    exact L.home
  have e2 := goes_back hp h ((hp.pow (m - j)).lt s hs) j
  rw [e] at e2
  exact e2
theorem Len.back {n : Nat} {p r : Nat → Nat} (hp : IsP n p) (h : ∀ k, k < n → r (p k) = k) {s m : Nat} (hs : s < n) (L : Len p n s m) : Len r n s m := by
  refine ⟨L.pos, L.le, ?_, fun j j0 jm e => ?_⟩
  · rw [back_goes hp h hs L (Nat.le_refl m), Nat.sub_self]
    rfl
  · rw [back_goes hp h hs L (Nat.le_of_lt jm)] at e
    exact L.first (m - j) (by omega) (by omega) e
theorem lenOf_back {n : Nat} {p r : Nat → Nat} (hp : IsP n p) (h : ∀ k, k < n → r (p k) = k) {s : Nat} (hs : s < n) : lenOf r n s = lenOf p n s := (Len.back hp h hs (hp.lenOf hs)).is
theorem heads_back {n : Nat} {p r : Nat → Nat} (hp : IsP n p) (h : ∀ k, k < n → r (p k) = k) : heads r n = heads p n := by
  unfold heads
  refine List.filter_congr fun s hs => ?_
  have hsn := List.mem_range.mp hs
  have L := hp.lenOf hsn
  rw [lenOf_back hp h hsn, Bool.eq_iff_iff, headB_iff, headB_iff]
  have pos := L.pos
  constructor
  · rintro ⟨h1, h2⟩
    refine ⟨h1, fun j hj => ?_⟩
    by_cases j0 : j = 0
    · rw [j0]
      exact Nat.le_refl s
    · have := h2 (lenOf p n s - j) (by omega)
      rw [back_goes hp h hsn L (by omega), show lenOf p n s - (lenOf p n s - j) = j by omega] at this
      exact this
  · rintro ⟨h1, h2⟩
    refine ⟨h1, fun j hj => ?_⟩
    by_cases j0 : j = 0
    · rw [j0]
      exact Nat.le_refl s
    · rw [back_goes hp h hsn L (by omega)]
      exact h2 _ (by omega)
/-- a round read the other way about -/
theorem ring_about {n : Nat} {p r : Nat → Nat} (hp : IsP n p) (h : ∀ k, k < n → r (p k) = k) {s : Nat} (hs : s < n) : (arV (fun j => goes p j s) (lenOf p n s)).take 1 ++ ((arV (fun j => goes p j s) (lenOf p n s)).drop 1).reverse = arV (fun j => goes r j s) (lenOf r n s) := by
  have L := hp.lenOf hs
  have pos := L.pos
  rw [lenOf_back hp h hs]
  refine List.ext_getElem? fun k => ?_
  have l1 : ((arV (fun j => goes p j s) (lenOf p n s)).take 1).length = 1 := by
    rw [List.length_take, arV_len]
    omega
  by_cases k0 : k = 0
  · subst k0
    rw [List.getElem?_append_left (by omega), List.getElem?_take_of_lt (by omega), arV_get pos, arV_get pos]
    rfl
  · rw [List.getElem?_append_right (by omega), l1]
    by_cases hk : k < lenOf p n s
    · rw [List.getElem?_reverse (by rw [List.length_drop, arV_len]; omega), List.length_drop, arV_len, List.getElem?_drop, arV_get hk, arV_get (by omega), back_goes hp h hs L (by omega)]
      congr 4
      omega
    · rw [List.getElem?_eq_none (by rw [List.length_reverse, List.length_drop, arV_len]; omega), List.getElem?_eq_none (by rw [arV_len]; omega)]
/-- tuples of this kind, one a head, in a list -/
def AboutP (K : PySem.W.Frag) (H : Hp) (D : Addr) (r : Nat → Nat) (n : Nat) (hs : List Nat) (i : Nat) (G : Hp) : Prop := Same H G ∧ ∃ qs : List Addr, qs.length = i ∧ G D = some (.lst (qs.map V.ref)) ∧ Rings K G r n qs (hs.take i)
section
variable {P : Program} {w : World} {K : PySem.W.Frag} {mg : Str → Option Value} {base : Heap} {f : Addr} {fd : FuncData}
theorem ok_law_turned_about (F : Fun K "_law_turned_about" "_law_turned_about" s_law_turned_about f fd) (T : Bt mg) : FnG P w K mg base CX0 1 f fd ["parts"] (spAbout K) := by
  refine fnG0 F sc_law_turned_about (fun vs H Q E h => ?_) (fun cdv A outer s H vs Q E hr hg h => ?_)
  · obtain ⟨a, n, p, r, rs, rfl, _⟩ := h
    rfl
  · obtain ⟨a, n, p, r, rs, rfl, hp, n12, hb, ha, pr, k⟩ := h
    have nd := sc_law_turned_about.nd
    refine ⟨_, (pss_one (ps_ret (pe_callTy call_tuple_of (by rfl) T.tuple b_tuple (pa_cons (pe_lc (own := [("piece", 1)]) (g := gName 1) rfl nd (pi_tup (pv 0)) (blkOk_by (own := [("piece", 1)]) (N := N_law_turned_about) (sc := defScope s_law_turned_about) (by decide +kernel)) (fun _ _ _ _ _ => (pg_name (i := 1) nd rfl (Or.inl rfl))) (fun _ _ _ _ _ => pts_nil) (fun _ _ _ _ _ => (pe_op (r := rCatS K) op_catS (pe_slice (r := rSlS K) sl_tupS (pv 1) po_none (po_some pe_int)) (pe_revTK (K := K) rfl (pe_slice (r := rSlS K) sl_tupS (pv 1) (po_some pe_int) po_none))))) pa_nil)))), ?_⟩
    refine ⟨_, rfl, a, rfl, ⟨_, ha⟩, fun D hD => ?_⟩
    have rl : rs.length = (heads p n).length := paired_len pr
    have hl : (heads p n).length ≤ 12 := by
      unfold heads
      refine Nat.le_trans (List.length_filter_le _ _) ?_
      rw [List.length_range]
      exact n12
    refine lc_tup (xs := rs.map V.ref) (AboutP K H D r n (heads p n)) ⟨same_new hD, [], rfl, upd_same, .nil⟩ (fun i G _ z => sqt_same z.1 ha) (fun i y G hi z => ⟨rfl, ?_⟩) fun G z => ?_
    · refine yes_ ?_
      refine iteT ?_
      obtain ⟨e, qs, ql, hd, pp⟩ := z
      obtain ⟨q, hq1, rfl⟩ : ∃ r, rs[i]? = some r ∧ V.ref r = y := by
        rw [List.getElem?_map] at hi
        exact Option.map_eq_some_iff.mp hi
      obtain ⟨s', hs1, hs2⟩ := paired_at pr hq1
      have hsn := (heads_mem.mp (List.mem_of_getElem? hs1)).1
      have small : lenOf p n s' ≤ 12 := Nat.le_trans (hp.lenOf hsn).le n12
      have iin : i < rs.length := (List.getElem?_eq_some_iff.mp hq1).1
      have t0 := sqt_same e hs2
      refine ⟨_, rfl, 1, rfl, q, _, rfl, t0, fun p1 J1 e1 g1 => ?_⟩
      refine ⟨_, rfl, 1, rfl, q, _, rfl, sqt_same e1 t0, fun p2 J2 e2 g2 => ⟨p2, _, rfl, g2, fun p3 hp3 => ?_⟩⟩
      have e3 : Same J2 (upd J2 p3 (.tup (cutV (arV (fun j => goes p j s') (lenOf p n s')) (some 1) none).reverse)) := same_new hp3
      have cl : ∀ lo hi, (cutV (arV (fun j => goes p j s') (lenOf p n s')) lo hi).length ≤ 12 := fun lo hi => Nat.le_trans (cutV_length _ lo hi) (by rw [arV_len]; exact small)
      refine ⟨p1, p3, _, _, rfl, rfl, sqt_same (e2.trans e3) g1, SqT.of upd_same, by rw [List.length_reverse]; exact Nat.le_trans (Nat.add_le_add (cl _ _) (cl _ _)) (by decide), fun p4 J4 e4 g4 => ?_⟩
      have eq : cutV (arV (fun j => goes p j s') (lenOf p n s')) none (some 1) ++ (cutV (arV (fun j => goes p j s') (lenOf p n s')) (some 1) none).reverse = arV (fun j => goes r j s') (lenOf r n s') := by
        have h1 := cut_front (arV (fun j => goes p j s') (lenOf p n s')) 1
        have h2 := cut_back (arV (fun j => goes p j s') (lenOf p n s')) 1
        rw [show ((1 : Nat) : Int) = 1 from rfl] at h1 h2
        rw [h1, h2, ring_about hp hb hsn]
      rw [eq] at g4
      have e5 := ((e1.trans e2).trans e3).trans e4
      have hd4 := e5 _ _ hd
      refine ⟨_, hd4, by rw [List.length_map, ql]; exact Nat.lt_of_lt_of_le (show i < 13 by omega) (by decide), same_mut (e.trans e5) hD, qs ++ [p4], by rw [List.length_append, ql]; rfl, by rw [upd_same, List.map_append]; rfl, ?_⟩
      rw [← take_snoc hs1]
      exact Paired.snoc (Paired.mapP (pp.same e5) fun _ _ z => sqt_put hd4 z) (sqt_put hd4 g4)
    · obtain ⟨e, qs, ql, hd, pp⟩ := z
      rw [List.length_map, rl, List.take_length, ← heads_back hp hb] at pp
      refine ⟨D, _, rfl, .inl ⟨SqL.of hd, fun t ht => ?_⟩⟩
      exact k t qs _ (same_mut e (e.free ht)) (SqT.of upd_same) (pp.same (same_new ht))
end
-- new
def spOfR (K : PySem.W.Frag) : Sp := fun vs H Q _ => ∃ (i : PenI) (B n : Nat), vs = [.ref i.p, .int (n : Int)] ∧ Pen H i B ∧ B < 2 ^ 40 ∧ 2 ≤ n ∧ n ≤ 12 ∧ ∀ (v : V) (p : Nat → Nat) (H' : Hp), IsP n p → Kb i.p H H' → Pen H' i (B + 2 * n) → Ar K H' v n p → Q v H'
abbrev s_law_of_rounds : Stmt := top 15
abbrev N_law_of_rounds : List Str := ["pen", "places", "order", "found", "piece", "k"]
theorem sc_law_of_rounds : FnScope N_law_of_rounds ["pen", "places"] (defScope s_law_of_rounds) := ⟨rfl, rfl, rfl, by decide +kernel, rfl, by decide +kernel, by decide +kernel⟩
theorem places_mem' {n : Nat} {k : Int} (h : k ∈ places n) : 0 ≤ k := by
  obtain ⟨j, _, rfl⟩ := List.mem_map.mp h
  omega
def natV (xs : List Nat) : List V := xs.map fun k => V.int ((k : Nat) : Int)
structure Ofr (H : Hp) (i : PenI) (B n : Nat) (o l : Addr) (xs : List Nat) (f : Nat → Nat) (G : Hp) : Prop where
  kb : Kb i.p H G
  pen : Pen G i (B + n + (n - xs.length))
  od : G o = some (.lst (natV xs))
  fd : G l = some (.lst (arV f n))
  nd : xs.Nodup
  lt : ∀ x ∈ xs, x < n
  is : IsP n f
  fix : ∀ x ∈ xs, f x = x
theorem natV_len (xs : List Nat) : (natV xs).length = xs.length := by
  unfold natV
  rw [List.length_map]
theorem natV_get {xs : List Nat} {k x : Nat} (h : xs[k]? = some x) : (natV xs)[k]? = some (V.int ((x : Nat) : Int)) := by
  unfold natV
  rw [List.getElem?_map, h]
  rfl
theorem perm_nat {ys : List V} {n : Nat} (h : ys.Perm ((places n).map V.int)) : ∃ xs : List Nat, ys = natV xs ∧ xs.Perm (List.range n) := by
  obtain ⟨ks, rfl, pk⟩ := perm_ints h
  refine ⟨ks.map Int.toNat, ?_, ?_⟩
  · unfold natV
    rw [List.map_map]
    refine List.map_congr_left fun k hk => ?_
    have := places_mem' (pk.mem_iff.mp hk)
    show V.int k = V.int ((k.toNat : Nat) : Int)
    rw [Int.toNat_of_nonneg this]
  · have h2 := pk.map Int.toNat
    have e : (places n).map Int.toNat = List.range n := by
      unfold places
      rw [List.map_map]
      have : (Int.toNat ∘ fun k : Nat => ((k : Nat) : Int)) = fun k => k := by
        funext k
        exact Int.toNat_natCast k
      rw [this]
      exact List.map_id' _
    rw [e] at h2
    exact h2
/-- so many are taken off the end of the list at o -/
structure PopP (H : Hp) (i : PenI) (C n : Nat) (o l D : Addr) (xs : List Nat) (f : Nat → Nat) (j : Nat) (G : Hp) : Prop where
  kb : Kb i.p H G
  pen : Pen G i C
  od : G o = some (.lst (natV (xs.take (xs.length - j))))
  fd : G l = some (.lst (arV f n))
  dd : G D = some (.lst (natV (xs.drop (xs.length - j)).reverse))
section
variable {P : Program} {w : World} {K : PySem.W.Frag} {mg : Str → Option Value} {base : Heap} {f : Addr} {fd : FuncData}
theorem ok_law_of_rounds (F : Fun K "_law_of_rounds" "_law_of_rounds" s_law_of_rounds f fd) (T : Bt mg) (C_law_draw : Cg P w K mg base 1 "_law_draw" spDraw) (C_law_shuffled : Cg P w K mg base 2 "_law_shuffled" (spShuf K)) : FnG P w K mg base CX0 3 f fd ["pen", "places"] (spOfR K) := by
  refine fnG0 F sc_law_of_rounds (fun vs H Q E h => ?_) (fun cdv A outer s H vs Q E hr hg h => ?_)
  · obtain ⟨i, B, n, rfl, _⟩ := h
    rfl
  · obtain ⟨i, B, n, rfl, pn, hB, n2, n12, k⟩ := h
    have nd := sc_law_of_rounds.nd
    refine ⟨_, (pss_cons (ps_asg (pe_tup (pa_cons (pe_g C_law_shuffled hr hg (by decide) rfl (pa_cons (pv 0) (pa_cons (pe_listRg rfl (by rfl) T.list (prg_1 (by rfl) T.range (pv 1))) pa_nil))) (pa_cons (pe_listRg rfl (by rfl) T.list (prg_1 (by rfl) T.range (pv 1))) pa_nil))) (pg_tup (by rfl) (pgs_cons (pg_name (i := 2) nd rfl (Or.inr rfl)) (pgs_cons (pg_name (i := 3) nd rfl (Or.inl rfl)) pgs_nil))))
      (pss_cons (ps_while PassesOwn.never (pt_cmpR op_gt (pe_callB call_len_seq (by rfl) T.len b_len (pa_cons (pv 2) pa_nil)) pe_int (nomark _))
        (pss_cons (ps_setLc (i := 4) rfl nd rfl rfl (sw_true rfl rfl rfl (by decide +kernel)) (own := [("k", 5)]) (g := gName 5) (pi_range1 (by rfl) T.range (pa_cons (pe_callB (call_min2 rfl) (by rfl) T.min b_min (pa_cons (pe_callB call_len_seq (by rfl) T.len b_len (pa_cons (pv 2) pa_nil)) (pa_cons (pe_op op_add pe_int (pe_g C_law_draw hr hg (by decide) rfl (pa_cons (pv 0) (pa_cons pe_int pa_nil)))) pa_nil))) pa_nil)) (blkOk_by (own := [("k", 5)]) (N := N_law_of_rounds) (sc := defScope s_law_of_rounds) (by decide +kernel)) (fun _ _ _ _ _ => (pg_name (i := 5) nd rfl (Or.inl rfl))) (fun _ _ _ _ _ => pts_nil) (te := tBM0 K "list" rPop (tVar 2)) (fun _ _ _ _ _ => (pe_bm0 PySem.F.plainAttrs_list PySem.F.slot_list_pop PySem.F.type_list_pop mt_pop (pv 2))))
        (pss_one (ps_for PassesOwn.never rfl (pi_range1 (by rfl) T.range (pa_cons (pe_callB call_len_seq (by rfl) T.len b_len (pa_cons (pv 4) pa_nil)) pa_nil)) (pg_name (i := 5) nd rfl (Or.inl rfl))
          (pss_one (ps_asg (pe_ix ix_list (pv 4) (pe_op op_modN (pe_op op_add (pv 5) pe_int) (pe_callB call_len_seq (by rfl) T.len b_len (pa_cons (pv 4) pa_nil))) (fun _ _ => rfl)) (pg_sub (pv 3) (pe_ix ix_list (pv 4) (pv 5) (fun _ _ => rfl)) set_list)))))))
      (pss_one (ps_ret (pe_callTy call_tuple_of (by rfl) T.tuple b_tuple (pa_cons (pv 3) pa_nil)))))), ?_⟩
    refine ⟨_, rfl, _, rfl, _, rfl, RgOk.of_le (by decide) (by omega) (by decide) (by omega), fun l0 hl0 => ?_⟩
    rw [rg_places]
    have n0 := pn.ne hl0
    refine ⟨i, B, l0, _, rfl, pn.upd n0, by omega, .inl (SqL.of upd_same), ?_, fun o ys G1 pm ho kb1 pn1 h1 => ?_⟩
    · rw [List.length_map, places_len]
      omega
    rw [List.length_map, places_len] at pn1
    refine ⟨_, rfl, _, rfl, RgOk.of_le (by decide) (by omega) (by decide) (by omega), fun l hl => ⟨(show 2 ≤ sizeLine by decide), fun t ht => ?_⟩⟩
    rw [arV_id]
    obtain ⟨xs0, rfl, px⟩ := perm_nat pm
    have no := n0
    have kbH : Kb i.p H G1 := (Kb.new hl0).trans kb1
    have hlH : H l = none := kbH.free (pn1.ne hl).1 hl
    have oH : H o = none := by
      by_cases e : o = l0
      · rw [e]
        exact hl0
      · rw [upd_ne e] at ho
        exact ho
    have nl := pn1.ne hl
    have nop : o ≠ i.p := pn1.neL h1
    have olne : o ≠ l := fun e => by
      rw [e, hl] at h1
      cases h1
    have tl : t ≠ l := fun e => by rw [e, upd_same] at ht; cases ht
    have t1 : G1 t = none := by rw [upd_ne tl] at ht; exact ht
    have tne : t ≠ o := fun e => by rw [e, h1] at t1; cases t1
    have tp := pn1.ne t1
    have init : Ofr H i B n o l xs0 (fun k => k) (upd (upd G1 l (.lst (arV (fun k => k) n))) t (.tup [.ref o, .ref l])) := by
      refine ⟨(kbH.mut hlH).mut (kbH.free tp.1 t1), ((pn1.upd nl).upd tp).mono (by omega), ?_, ?_, ?_, ?_, IsP.id n, fun _ _ => rfl⟩
      · rw [upd_ne tne.symm, upd_ne olne]
        exact h1
      · rw [upd_ne tl.symm, upd_same]
      · exact px.nodup_iff.mpr List.nodup_range
      · exact fun x hx => List.mem_range.mp (px.mem_iff.mp hx)
    have tt : (upd (upd G1 l (.lst (arV (fun k => k) n))) t (.tup [.ref o, .ref l])) t = some (.tup [.ref o, .ref l]) := upd_same
    have x0 : xs0.length ≤ n := by rw [px.length_eq, List.length_range]; exact Nat.le_refl n
    refine ⟨t, _, rfl, SqT.of tt, rfl, _, _, rfl, _, _, rfl, rfl, ?_⟩
    change (tSeq _ _ : TS) _ _ (upd (upd G1 l (.lst (arV (fun k => k) n))) t (.tup [.ref o, .ref l]))
    generalize upd (upd G1 l (.lst (arV (fun k => k) n))) t (.tup [.ref o, .ref l]) = G2 at init ⊢
    have hlp := nl.1
    clear tt ht hl ho h1 pn1 kb1 t1 tne tp tl nl
    have nlp : l ≠ i.p := hlp
    refine ⟨fun m σ G => ∃ (xs : List Nat) (f : Nat → Nat) (x4 x5 : Option V), m = xs.length ∧ xs.length ≤ n ∧ σ = [some (.ref i.p), some (.int (n : Int)), some (.ref o), some (.ref l), x4, x5] ∧ Ofr H i B n o l xs f G, ⟨_, xs0, _, _, _, rfl, x0, rfl, init⟩, ?_⟩
    clear init x0 px pm xs0
    rintro m σ G ⟨xs, f, x4, x5, rfl, xl, rfl, I⟩
    refine ⟨_, rfl, o, _, rfl, .inl (SqL.of I.od), _, _, rfl, rfl, _, rfl, ?_⟩
    rw [natV_len]
    by_cases more : 1 < xs.length
    · refine iteT' (by rw [decide_eq_true_eq]; omega) ?_
      refine ⟨fun σ' G' => ∃ (xs' : List Nat) (f' : Nat → Nat) (y4 y5 : Option V), xs'.length < xs.length ∧ xs'.length ≤ n ∧ σ' = [some (.ref i.p), some (.int (n : Int)), some (.ref o), some (.ref l), y4, y5] ∧ Ofr H i B n o l xs' f' G', ?_, ?_⟩
      · rintro σ' G' ⟨xs', f', y4, y5, r1, r2⟩
        exact ⟨_, r1, xs', f', y4, y5, rfl, r2⟩
      · refine ⟨_, rfl, o, _, rfl, .inl (SqL.of I.od), _, rfl, i, 12, _, rfl, I.pen, by omega, by decide, by decide, fun d G3 d0 d1 kb3 pn3 => ?_⟩
        refine ⟨_, _, rfl, rfl, _, _, rfl, _, rfl, by split <;> omega, by split <;> omega, fun D hD => ?_⟩
        obtain ⟨L, hL, L1, L2⟩ : ∃ L : Nat, (if (1 : Int) + d < ((xs.length : Nat) : Int) then (1 : Int) + d else ((xs.length : Nat) : Int)).toNat = L ∧ 1 ≤ L ∧ L ≤ xs.length := by
          refine ⟨_, rfl, ?_, ?_⟩ <;> split <;> omega
        rw [natV_len, hL]
        have nD := pn3.ne hD
        have od3 := kb3 _ _ I.od nop
        have fd3 := kb3 _ _ I.fd nlp
        have kbG3 := I.kb.trans kb3
        have Do : D ≠ o := fun e => by rw [e, od3] at hD; cases hD
        have Dl : D ≠ l := fun e => by rw [e, fd3] at hD; cases hD
        have DH : H D = none := kbG3.free nD.1 hD
        have nO := pn.ne oH
        have nL := pn.ne hlH
        refine lc_range (n := L) (PopP H i (B + n + (n - xs.length) + 1) n o l D xs f) ⟨kbG3.mut DH, pn3.upd nD, ?_, ?_, ?_⟩ (fun j G hj z => ⟨rfl, ?_⟩) fun G z => ?_
        · rw [upd_ne Do.symm, Nat.sub_zero, List.take_length]
          exact od3
        · rw [upd_ne Dl.symm]
          exact fd3
        · rw [upd_same, Nat.sub_zero, List.drop_length]
          rfl
        · refine yes_ ?_
          refine iteT ?_
          have lt : xs.length - (j + 1) < xs.length := by omega
          have e1 : xs.length - j = xs.length - (j + 1) + 1 := by omega
          have gx : xs[xs.length - (j + 1)]? = some (xs[xs.length - (j + 1)]'lt) := List.getElem?_eq_getElem lt
          have tk : xs.take (xs.length - j) = xs.take (xs.length - (j + 1)) ++ [xs[xs.length - (j + 1)]'lt] := by
            rw [e1, take_snoc gx]
          have dr : xs.drop (xs.length - (j + 1)) = (xs[xs.length - (j + 1)]'lt) :: xs.drop (xs.length - j) := by
            rw [e1]
            exact List.drop_eq_getElem_cons lt
          have nv : natV (xs.take (xs.length - j)) = natV (xs.take (xs.length - (j + 1))) ++ [.int (((xs[xs.length - (j + 1)]'lt) : Nat) : Int)] := by
            rw [tk]
            unfold natV
            rw [List.map_append]
            rfl
          refine ⟨_, rfl, .inl ⟨rfl, _, SqL.of z.od⟩, o, _, .int (((xs[xs.length - (j + 1)]'lt) : Nat) : Int), rfl, rfl, z.od, ?_, ?_⟩
          · rw [nv, List.length_append]
            exact List.getElem?_concat_length ..
          · rw [nv, List.dropLast_concat]
            refine ⟨_, by rw [upd_ne Do]; exact z.dd, ?_, ?_⟩
            · rw [natV_len, List.length_reverse, List.length_drop]
              exact Nat.lt_of_le_of_lt (by omega : xs.length - (xs.length - j) ≤ 12) (by decide)
            · refine ⟨(z.kb.mut oH).mut DH, (z.pen.upd nO).upd nD, ?_, ?_, ?_⟩
              · rw [upd_ne Do.symm, upd_same]
              · rw [upd_ne Dl.symm, upd_ne olne.symm]
                exact z.fd
              · rw [upd_same, dr, List.reverse_cons]
                unfold natV
                rw [List.map_append]
                rfl
        · have pl : (xs.drop (xs.length - L)).reverse.length = L := by
            rw [List.length_reverse, List.length_drop]
            omega
          obtain ⟨ps, hps⟩ : ∃ ps, ps = (xs.drop (xs.length - L)).reverse := ⟨_, rfl⟩
          have zdd := z.dd
          rw [← hps] at pl zdd
          have pin : ∀ x, x ∈ ps → x ∈ xs := fun x hx => by
            rw [hps] at hx
            exact List.mem_of_mem_drop (List.mem_reverse.mp hx)
          have pnd : ps.Nodup := by
            rw [hps]
            exact (List.reverse_perm _).nodup_iff.mpr (I.nd.sublist (List.drop_sublist _ _))
          have pg : ∀ j, j < L → ps[j]? = some (ps.getD j 0) := fun j hj => by
            rw [List.getD_eq_getElem?_getD, List.getElem?_eq_getElem (by omega)]
            rfl
          have pm : ∀ j, j < L → ps.getD j 0 ∈ ps := fun j hj => List.mem_of_getElem? (pg j hj)
          have plt : ∀ j, ps.getD j 0 < n := fun j => by
            by_cases hj : j < L
            · exact I.lt _ (pin _ (pm j hj))
            · rw [List.getD_eq_getElem?_getD, List.getElem?_eq_none (by omega)]
              show 0 < n
              omega
          have pne : ∀ a b, a < L → b < L → ps.getD a 0 = ps.getD b 0 → a = b := fun a b ha hb e => by
            have ea := pg a ha
            rw [e, ← pg b hb] at ea
            exact (List.getElem?_inj (by omega) pnd).mp ea
          obtain ⟨c1, c2, c3⟩ := cyc_at (g := fun j => ps.getD j 0) L pne (L - 1) (by omega)
          have tgt : ∀ c, c < L → f (cyc (fun j => ps.getD j 0) (L - 1) (ps.getD c 0)) = ps.getD ((c + 1) % L) 0 := fun c hc => by
            by_cases last : c = L - 1
            · have e0 : (c + 1) % L = 0 := by
                rw [last, show L - 1 + 1 = L by omega]
                exact Nat.mod_self L
              rw [e0, last]
              have c2' : cyc (fun j => ps.getD j 0) (L - 1) (ps.getD (L - 1) 0) = ps.getD 0 0 := c2
              rw [c2']
              exact I.fix _ (pin _ (pm 0 (by omega)))
            · have e0 : (c + 1) % L = c + 1 := Nat.mod_eq_of_lt (by omega)
              rw [e0]
              have c1' : cyc (fun j => ps.getD j 0) (L - 1) (ps.getD c 0) = ps.getD (c + 1) 0 := c1 c (by omega)
              rw [c1']
              exact I.fix _ (pin _ (pm (c + 1) (by omega)))
          refine ⟨_, rfl, D, _, rfl, .inl (SqL.of zdd), _, rfl, ?_, ?_, ?_⟩
          · rw [natV_len]; omega
          · rw [natV_len]; omega
          rw [natV_len, pl]
          refine for_range (n := L) (fun c σ G' => ∃ (y5 : Option V) (g : Nat → Nat), σ = [some (.ref i.p), some (.int (n : Int)), some (.ref o), some (.ref l), some (.ref D), y5] ∧ Kb i.p H G' ∧ Pen G' i (B + n + (n - xs.length) + 1) ∧ G' o = some (.lst (natV (xs.take (xs.length - L)))) ∧ G' l = some (.lst (arV g n)) ∧ G' D = some (.lst (natV ps)) ∧
            (∀ x, x < n → g x = f x ∨ g x = f (cyc (fun j => ps.getD j 0) (L - 1) x)) ∧ ∀ j, j < c → g (ps.getD j 0) = f (cyc (fun j => ps.getD j 0) (L - 1) (ps.getD j 0))) ⟨_, f, rfl, z.kb, z.pen, z.od, z.fd, zdd, fun x _ => .inl rfl, fun j hj => absurd hj (Nat.not_lt_zero j)⟩ (fun c σ G' hc q => ?_) fun σ G' q => ?_
          · obtain ⟨y5, g, rfl, k1, k2, k3, k4, k5, k6, k7⟩ := q
            have mpos : (0 : Int) < ((L : Nat) : Int) := by omega
            have fe : ((0 : Int) + (c : Int) + 1).fmod ((L : Nat) : Int) = (((c + 1) % L : Nat) : Int) := by
              rw [Int.fmod_eq_emod_of_nonneg _ (Int.le_of_lt mpos), Int.natCast_emod, Int.zero_add]
              rfl
            have ml : (c + 1) % L < L := Nat.mod_lt _ (by omega)
            refine ⟨_, rfl, _, rfl, _, _, rfl, rfl, _, rfl, D, _, rfl, .inl (SqL.of k5), _, _, rfl, rfl, (by rw [natV_len, pl]; omega), ?_⟩
            rw [natV_len, pl]
            refine ⟨D, natV ps, (((c + 1) % L : Nat) : Int), V.int ((ps.getD ((c + 1) % L) 0 : Nat) : Int), rfl, congrArg V.int fe, SqL.of k5, atI_nat (natV_get (pg _ ml)), ?_⟩
            refine ⟨_, rfl, _, rfl, _, rfl, D, _, _, _, rfl, rfl, SqL.of k5, (by rw [Int.zero_add]; exact atI_nat (natV_get (pg c hc))), l, _, _, _, rfl, rfl, k4, ixN_nat (by rw [arV_len]; exact plt c), ?_⟩
            rw [← tgt c hc, arV_set (plt c)]
            refine ⟨_, _, rfl, k1.mut hlH, k2.upd nL, by rw [upd_ne olne]; exact k3, upd_same, by rw [upd_ne Dl]; exact k5, fun x hx => ?_, fun j hj => ?_⟩
            · try dsimp only
              by_cases ex : x = ps.getD c 0
              · rw [if_pos ex, ex]
                exact .inr rfl
              · rw [if_neg ex]
                exact k6 x hx
            · try dsimp only
              by_cases ex : ps.getD j 0 = ps.getD c 0
              · rw [if_pos ex, ex]
              · rw [if_neg ex]
                refine k7 j ?_
                rcases Nat.lt_succ_iff_lt_or_eq.mp hj with h | h
                · exact h
                · exact absurd (by rw [h]) ex
          · obtain ⟨y5, g, rfl, k1, k2, k3, k4, k5, k6, k7⟩ := q
            have out : ∀ x, x ∉ ps → cyc (fun j => ps.getD j 0) (L - 1) x = x := fun x hx => c3 x fun j hj e => hx (by rw [e]; exact pm j (by omega))
            have eq : ∀ x, x < n → g x = f (cyc (fun j => ps.getD j 0) (L - 1) x) := fun x hx => by
              by_cases m : x ∈ ps
              · obtain ⟨j, hj, e⟩ := List.getElem_of_mem m
                have e2 : ps.getD j 0 = x := by
                  rw [List.getD_eq_getElem?_getD, List.getElem?_eq_getElem hj, e]
                  rfl
                rw [← e2]
                exact k7 j (by omega)
              · rcases k6 x hx with h | h
                · rw [h, out x m]
                · exact h
            rw [arV_congr eq] at k4
            have tl : (xs.take (xs.length - L)).length = xs.length - L := by
              rw [List.length_take]
              omega
            refine ⟨xs.take (xs.length - L), _, _, _, by omega, by omega, rfl, k1, k2.mono (by rw [tl]; omega), k3, k4, I.nd.sublist (List.take_sublist _ _), fun x hx => I.lt x (List.mem_of_mem_take hx), (cyc_is plt (L - 1)).comp I.is, fun x hx => ?_⟩
            have apart : x ∉ ps := fun m => by
              rw [hps] at m
              have m2 := List.mem_reverse.mp m
              have nd2 := I.nd
              rw [← List.take_append_drop (xs.length - L) xs] at nd2
              exact (List.nodup_append.mp nd2).2.2 x hx x m2 rfl
            show f (cyc (fun j => ps.getD j 0) (L - 1) x) = x
            rw [out x apart]
            exact I.fix x (List.mem_of_mem_take hx)
    · refine iteF' (by rw [decide_eq_false_iff_not]; omega) ?_
      refine ⟨_, rfl, l, _, rfl, .inl ⟨SqL.of I.fd, fun q hq => ?_⟩⟩
      have nq := I.pen.ne hq
      exact k _ f _ I.is (I.kb.mut (I.kb.free nq.1 hq)) ((I.pen.upd nq).mono (by omega)) ⟨q, rfl, SqT.of upd_same⟩
end
-- new
abbrev s_law_rounds : Stmt := top 16
abbrev N_law_rounds : List Str := ["one", "found", "seen", "k", "piece"]
theorem sc_law_rounds : FnScope N_law_rounds ["one"] (defScope s_law_rounds) := ⟨rfl, rfl, rfl, by decide +kernel, rfl, by decide +kernel, by decide +kernel⟩
theorem flat_natV (xs : List Nat) : (natV xs).all flatV = true := by
  rw [List.all_eq_true]
  intro v hv
  obtain ⟨k, _, rfl⟩ := List.mem_map.mp hv
  rfl
theorem in_natV (k : Nat) (xs : List Nat) : inV (V.int ((k : Nat) : Int)) (natV xs) = decide (k ∈ xs) := by
  unfold inV natV
  rw [Bool.eq_iff_iff, decide_eq_true_eq, List.any_eq_true]
  constructor
  · rintro ⟨v, hv, e⟩
    obtain ⟨j, hj, rfl⟩ := List.mem_map.mp hv
    have : ((j : Nat) : Int) = ((k : Nat) : Int) := by simpa [eqV] using e
    have e2 : j = k := by omega
    rw [← e2]
    exact hj
  · intro h
    exact ⟨_, List.mem_map.mpr ⟨k, h, rfl⟩, by simp [eqV]⟩
theorem arV_nat (g : Nat → Nat) (m : Nat) : arV g m = natV ((List.range m).map g) := by
  unfold arV natV
  rw [List.map_map]
  rfl
noncomputable def headsTo (p : Nat → Nat) (n i : Nat) : List Nat := (List.range i).filter fun s => headB p s (lenOf p n s)
theorem headsTo_snoc (p : Nat → Nat) (n i : Nat) : headsTo p n (i + 1) = headsTo p n i ++ (if headB p i (lenOf p n i) = true then [i] else []) := by
  unfold headsTo
  rw [List.range_succ, List.filter_append]
  congr 1
  by_cases h : headB p i (lenOf p n i) = true
  · rw [if_pos h]
    simp [h]
  · rw [if_neg h]
    simp [h]
theorem headsTo_mem {p : Nat → Nat} {n i s : Nat} (hi : i ≤ n) : s ∈ headsTo p n i ↔ s < i ∧ s ∈ heads p n := by
  unfold headsTo
  rw [List.mem_filter, List.mem_range, heads_mem, headB_iff]
  constructor
  · rintro ⟨h1, h2⟩
    exact ⟨h1, by omega, h2⟩
  · rintro ⟨h1, _, h2⟩
    exact ⟨h1, h2⟩
/-- a round begins here just where the place is moved and stands in no round before -/
theorem head_new {n : Nat} {p : Nat → Nat} (hp : IsP n p) {i : Nat} (hi : i < n) : headB p i (lenOf p n i) = true ↔ p i ≠ i ∧ ¬ ∃ s ∈ headsTo p n i, InRing p n s i := by
  have L := hp.lenOf hi
  constructor
  · intro h
    have hh : i ∈ heads p n := heads_mem.mpr ⟨hi, headB_iff.mp h⟩
    refine ⟨L.first 1 (by omega) (headB_iff.mp h).1, ?_⟩
    rintro ⟨s, hs, hr⟩
    obtain ⟨h1, h2⟩ := (headsTo_mem (Nat.le_of_lt hi)).mp hs
    have e := ring_apart hp h2 hh hr ⟨0, L.pos, rfl⟩
    omega
  · rintro ⟨h1, h2⟩
    obtain ⟨s, hs, hr⟩ := heads_cover hp hi h1
    obtain ⟨g1, g2, g3⟩ := heads_mem.mp hs
    have le : s ≤ i := by
      obtain ⟨j, hj, e⟩ := hr
      rw [← e]
      exact g3 j hj
    rcases Nat.lt_or_eq_of_le le with lt | rfl
    · exact absurd ⟨s, (headsTo_mem (Nat.le_of_lt hi)).mpr ⟨lt, hs⟩, hr⟩ h2
    · exact headB_iff.mpr ⟨g2, g3⟩
structure LrP (K : PySem.W.Frag) (H : Hp) (p : Nat → Nat) (n : Nat) (fo se : Addr) (i : Nat) (rs : List Addr) (ss : List Nat) (G : Hp) : Prop where
  e : Same H G
  fd : G fo = some (.lst (rs.map V.ref))
  sd : G se = some (.lst (natV ss))
  rg : Rings K G p n rs (headsTo p n i)
  mem : ∀ x, x ∈ ss ↔ ∃ s ∈ headsTo p n i, InRing p n s x
  rl : rs.length ≤ i
  sl : ss.length ≤ 12 * i
structure LwP (K : PySem.W.Frag) (H : Hp) (p : Nat → Nat) (n : Nat) (fo se D : Addr) (i : Nat) (rs : List Addr) (ss : List Nat) (c : Nat) (G : Hp) : Prop where
  e : Same H G
  fd : G fo = some (.lst (rs.map V.ref))
  sd : G se = some (.lst (natV ss))
  rg : Rings K G p n rs (headsTo p n i)
  dd : G D = some (.lst (arV (fun j => goes p j i) c))
section
variable {P : Program} {w : World} {K : PySem.W.Frag} {mg : Str → Option Value} {base : Heap} {f : Addr} {fd : FuncData}
theorem ok_law_rounds (F : Fun K "_law_rounds" "_law_rounds" s_law_rounds f fd) (T : Bt mg) : FnG P w K mg base CX0 1 f fd ["one"] (spRounds K) := by
  refine fnG0 F sc_law_rounds (fun vs H Q E h => ?_) (fun cdv A outer s H vs Q E hr hg h => ?_)
  · obtain ⟨x, n, p, rfl, _⟩ := h
    rfl
  · obtain ⟨x, n, p, rfl, ⟨a, rfl, ha⟩, hp, n12, k⟩ := h
    have nd := sc_law_rounds.nd
    refine ⟨_, (pss_cons (ps_par (i := 1) (j := 2) (by rfl) nd rfl rfl (by decide) rfl rfl (pa_cons (pe_lst pa_nil) (pa_cons (pe_lst pa_nil) pa_nil)) (by rfl))
      (pss_cons (ps_for PassesOwn.never rfl (pi_range1 (by rfl) T.range (pa_cons (pe_callB call_len_seq (by rfl) T.len b_len (pa_cons (pv 0) pa_nil)) pa_nil)) (pg_name (i := 3) nd rfl (Or.inl rfl))
        (pss_one (ps_if (PW.pt (pw_and (pt_cmpR op_notIn_seq (pv 3) (pv 2) (by rfl)) (pw_and1 (pt_cmpR op_ne (pe_ix ix_tup (pv 0) (pv 3) (fun _ _ => rfl)) (pv 3) (nomark _)))))
          (pss_cons (ps_set (i := 4) nd rfl (Or.inl rfl) (pe_lst (pa_cons (pv 3) pa_nil)))
          (pss_cons (ps_while PassesOwn.never (pt_cmpR op_ne (pe_ix ix_tup (pv 0) (pe_ix ix_list (pv 4) (pe_un un_neg pe_int) (fun _ _ => rfl)) (fun _ _ => rfl)) (pv 3) (nomark _))
            (pss_one (ps_expr (pe_bm PySem.F.plainAttrs_list PySem.F.slot_list_append PySem.F.type_list_append mt_append (pv 4) (pa_cons (pe_ix ix_tup (pv 0) (pe_ix ix_list (pv 4) (pe_un un_neg pe_int) (fun _ _ => rfl)) (fun _ _ => rfl)) pa_nil)))))
          (pss_cons (ps_expr (pe_bm PySem.F.plainAttrs_list PySem.F.slot_list_extend PySem.F.type_list_extend mt_extend (pv 2) (pa_cons (pv 4) pa_nil)))
          (pss_one (ps_expr (pe_bm PySem.F.plainAttrs_list PySem.F.slot_list_append PySem.F.type_list_append mt_append (pv 1) (pa_cons (pe_callTy call_tuple_of (by rfl) T.tuple b_tuple (pa_cons (pv 4) pa_nil)) pa_nil)))))))
          pss_nil)))
      (pss_one (ps_ret (pe_callTy call_tuple_of (by rfl) T.tuple b_tuple (pa_cons (pv 1) pa_nil)))))), ?_⟩
    refine ⟨by decide, fun fo hfo => ⟨by decide, fun se hse => ⟨_, _, rfl, ?_⟩⟩⟩
    have sf : se ≠ fo := fun e => by rw [e, upd_same] at hse; cases hse
    have hseH : H se = none := by rw [upd_ne sf] at hse; exact hse
    have init : LrP K H p n fo se 0 [] [] (upd (upd H fo (.lst [])) se (.lst [])) := by
      refine ⟨same_mut (same_new hfo) hseH, by rw [upd_ne sf.symm, upd_same]; rfl, by rw [upd_same]; rfl, .nil, fun x => ⟨(fun h => nomatch h), fun ⟨s, h, _⟩ => by cases h⟩, Nat.le_refl 0, Nat.le_refl 0⟩
    change (tSeq _ _ : TS) _ _ (upd (upd H fo (.lst [])) se (.lst []))
    generalize upd (upd H fo (.lst [])) se (.lst []) = G0 at init ⊢
    clear hse
    refine ⟨_, rfl, a, _, rfl, .inr (sqt_same init.e ha), _, rfl, ?_, ?_, ?_⟩
    · rw [arV_len]; omega
    · rw [arV_len]; omega
    rw [arV_len]
    refine for_range (n := n) (fun i σ G => ∃ (rs : List Addr) (ss : List Nat) (y3 y4 : Option V), σ = [some (.ref a), some (.ref fo), some (.ref se), y3, y4] ∧ LrP K H p n fo se i rs ss G) ⟨_, _, _, _, rfl, init⟩ (fun i σ G hi z => ?_) fun σ G z => ?_
    · obtain ⟨rs, ss, y3, y4, rfl, I⟩ := z
      have L := hp.lenOf hi
      have pos := L.pos
      have inv : inV (V.int (0 + ((i : Nat) : Int))) (natV ss) = decide (i ∈ ss) := by
        rw [Int.zero_add]
        exact in_natV i ss
      have no : headB p i (lenOf p n i) = false → LrP K H p n fo se (i + 1) rs ss G := fun z => by
        have e : headsTo p n (i + 1) = headsTo p n i := by
          rw [headsTo_snoc, z]
          simp
        exact ⟨I.e, I.fd, I.sd, by rw [e]; exact I.rg, by rw [e]; exact I.mem, Nat.le_succ_of_le I.rl, by have := I.sl; omega⟩
      refine ⟨_, rfl, _, rfl, se, _, rfl, .inl (SqL.of I.sd), rfl, flat_natV _, _, rfl, ?_⟩
      show (if (!inV (V.int (0 + ((i : Nat) : Int))) (natV ss)) = true then _ else _)
      rw [inv]
      by_cases hin : i ∈ ss
      · refine iteF' (by simp [hin]) ?_
        refine iteF ?_
        refine ⟨rs, ss, _, _, rfl, no ?_⟩
        refine Bool.eq_false_iff.mpr fun q => ((head_new hp hi).mp q).2 ((I.mem i).mp hin)
      · refine iteT' (by simp [hin]) ?_
        refine ⟨_, rfl, _, rfl, a, _, _, _, rfl, rfl, sqt_same I.e ha, (by rw [Int.zero_add]; exact arV_at hi), _, rfl, rfl, _, rfl, ?_⟩
        by_cases fix : p i = i
        · refine iteF' (by simp [fix]) ?_
          refine ⟨rs, ss, _, _, rfl, no ?_⟩
          exact Bool.eq_false_iff.mpr fun q => ((head_new hp hi).mp q).1 fix
        · refine iteT' (by simp; omega) ?_
          have hd : headB p i (lenOf p n i) = true := (head_new hp hi).mpr ⟨fix, fun h => hin ((I.mem i).mpr h)⟩
          refine ⟨_, rfl, (show 1 ≤ sizeLine by decide), fun D hD => ?_⟩
          have Dfo : D ≠ fo := fun e => by
            have := I.fd
            rw [← e, hD] at this
            cases this
          have Dse : D ≠ se := fun e => by
            have := I.sd
            rw [← e, hD] at this
            cases this
          have DH : H D = none := I.e.free hD
          have st0 : LwP K H p n fo se D i rs ss 1 (upd G D (.lst [.int (0 + ((i : Nat) : Int))])) := by
            refine ⟨same_mut I.e DH, by rw [upd_ne Dfo.symm]; exact I.fd, by rw [upd_ne Dse.symm]; exact I.sd, I.rg.same (same_new hD), ?_⟩
            rw [upd_same, Int.zero_add]
            rfl
          refine ⟨fun m σ G' => ∃ c, c < lenOf p n i ∧ m = lenOf p n i - c ∧ σ = [some (.ref a), some (.ref fo), some (.ref se), some (.int (0 + ((i : Nat) : Int))), some (.ref D)] ∧ LwP K H p n fo se D i rs ss (c + 1) G', ⟨_, 0, pos, rfl, rfl, st0⟩, ?_⟩
          rintro m σ G' ⟨c, hc, rfl, rfl, J⟩
          have last : atI (arV (fun j => goes p j i) (c + 1)) (-1) = some (V.int ((goes p c i : Nat) : Int)) := by
            rw [arV_snoc]
            exact atI_last _ _
          have gc := (hp.pow c).lt i hi
          refine ⟨_, rfl, _, rfl, _, rfl, D, _, _, _, rfl, rfl, SqL.of J.dd, last, a, _, _, _, rfl, rfl, sqt_same J.e ha, arV_at gc, _, rfl, rfl, _, rfl, ?_⟩
          by_cases home : p (goes p c i) = i
          · refine iteF' (by simp [home]) ?_
            have ec : c + 1 = lenOf p n i := by
              refine Decidable.byContradiction fun q => L.first (c + 1) (by omega) (by omega) home
            have J2 := J
            rw [ec] at J2
            refine ⟨_, rfl, .inl ⟨rfl, _, SqL.of J2.sd⟩, _, rfl, se, D, _, _, rfl, rfl, J2.sd, J2.dd, ?_, ?_⟩
            · rw [natV_len, arV_len]
              have := I.sl
              have := L.le
              exact Nat.le_trans (by omega : ss.length + lenOf p n i ≤ 200) (by decide)
            have s1 : Same H (upd G' se (.lst (natV ss ++ arV (fun j => goes p j i) (lenOf p n i)))) := same_mut J.e hseH
            have d1 : (upd G' se (.lst (natV ss ++ arV (fun j => goes p j i) (lenOf p n i)))) D = some (.lst (arV (fun j => goes p j i) (lenOf p n i))) := by rw [upd_ne Dse]; exact J2.dd
            have f1 : (upd G' se (.lst (natV ss ++ arV (fun j => goes p j i) (lenOf p n i)))) fo = some (.lst (rs.map V.ref)) := by rw [upd_ne sf.symm]; exact J.fd
            have z1 : (upd G' se (.lst (natV ss ++ arV (fun j => goes p j i) (lenOf p n i)))) se = some (.lst (natV ss ++ arV (fun j => goes p j i) (lenOf p n i))) := upd_same
            have r1 : Rings K (upd G' se (.lst (natV ss ++ arV (fun j => goes p j i) (lenOf p n i)))) p n rs (headsTo p n i) := Paired.mapP J.rg fun _ _ z => sqt_put J.sd z
            generalize upd G' se (.lst (natV ss ++ arV (fun j => goes p j i) (lenOf p n i))) = G2 at s1 d1 f1 z1 r1 ⊢
            refine ⟨_, rfl, .inl ⟨rfl, _, SqL.of f1⟩, _, rfl, D, _, rfl, .inl ⟨SqL.of d1, fun t ht => ?_⟩⟩
            have tfo : fo ≠ t := fun e => by rw [e, ht] at f1; cases f1
            have tse : se ≠ t := fun e => by rw [e, ht] at z1; cases z1
            refine ⟨fo, _, _, rfl, rfl, by rw [upd_ne tfo]; exact f1, ?_, ?_⟩
            · rw [List.length_map]
              have := I.rl
              exact Nat.lt_of_le_of_lt (by omega : rs.length ≤ 12) (by decide)
            have tt : SqT K (upd G2 t (.tup (arV (fun j => goes p j i) (lenOf p n i)))) t (arV (fun j => goes p j i) (lenOf p n i)) := SqT.of upd_same
            have r2 := r1.same (same_new (o := .tup (arV (fun j => goes p j i) (lenOf p n i))) ht)
            have f2 : (upd G2 t (.tup (arV (fun j => goes p j i) (lenOf p n i)))) fo = some (.lst (rs.map V.ref)) := by rw [upd_ne tfo]; exact f1
            have eh : headsTo p n (i + 1) = headsTo p n i ++ [i] := by rw [headsTo_snoc, if_pos hd]
            refine ⟨rs ++ [t], ss ++ (List.range (lenOf p n i)).map (fun j => goes p j i), _, _, rfl, same_mut (same_mut s1 (s1.free ht)) hfo, by rw [upd_same, List.map_append]; rfl, ?_, ?_, fun x => ?_, ?_, ?_⟩
            · rw [upd_ne sf, upd_ne tse, z1, arV_nat]
              unfold natV
              rw [List.map_append]
            · rw [eh]
              exact Paired.snoc (Paired.mapP r2 fun _ _ z => sqt_put f2 z) (sqt_put f2 tt)
            · rw [eh, List.mem_append, I.mem x]
              constructor
              · rintro (⟨s, hs, h⟩ | h)
                · exact ⟨s, List.mem_append_left _ hs, h⟩
                · obtain ⟨j, hj, rfl⟩ := List.mem_map.mp h
                  exact ⟨i, List.mem_append_right _ (List.mem_singleton.mpr rfl), j, List.mem_range.mp hj, rfl⟩
              · rintro ⟨s, hs, h⟩
                rcases List.mem_append.mp hs with hs | hs
                · exact .inl ⟨s, hs, h⟩
                · rw [List.mem_singleton] at hs
                  subst hs
                  obtain ⟨j, hj, rfl⟩ := h
                  exact .inr (List.mem_map.mpr ⟨j, List.mem_range.mpr hj, rfl⟩)
            · rw [List.length_append]
              exact Nat.succ_le_succ I.rl
            · rw [List.length_append, List.length_map, List.length_range]
              have := I.sl
              have := L.le
              omega
          · refine iteT' (by simp; omega) ?_
            have lt : c + 1 < lenOf p n i := by
              refine Nat.lt_of_le_of_ne hc fun z => home ?_
              have h := L.home
              rw [← z] at h
              exact h
            refine ⟨fun σ' G'' => ∃ c', c' = c + 1 ∧ σ' = [some (.ref a), some (.ref fo), some (.ref se), some (.int (0 + ((i : Nat) : Int))), some (.ref D)] ∧ LwP K H p n fo se D i rs ss (c' + 1) G'', ?_, ?_⟩
            · rintro σ' G'' ⟨c', rfl, q1, q2⟩
              exact ⟨lenOf p n i - (c + 1), by omega, c + 1, lt, rfl, q1, q2⟩
            · refine ⟨_, rfl, .inl ⟨rfl, _, SqL.of J.dd⟩, _, rfl, _, rfl, _, rfl, D, _, _, _, rfl, rfl, SqL.of J.dd, last, a, _, _, _, rfl, rfl, sqt_same J.e ha, arV_at gc, D, _, _, rfl, rfl, J.dd, ?_, ?_⟩
              · rw [arV_len]
                have := L.le
                exact Nat.lt_of_le_of_lt (by omega : c + 1 ≤ 12) (by decide)
              · refine ⟨c + 1, rfl, rfl, same_mut J.e DH, by rw [upd_ne Dfo.symm]; exact J.fd, by rw [upd_ne Dse.symm]; exact J.sd, Paired.mapP J.rg fun _ _ z => sqt_put J.dd z, ?_⟩
                rw [upd_same, arV_snoc (fun j => goes p j i) (c + 1)]
                rfl
    · obtain ⟨rs, ss, y3, y4, rfl, I⟩ := z
      refine ⟨_, rfl, fo, _, rfl, .inl ⟨SqL.of I.fd, fun t ht => ?_⟩⟩
      exact k t rs _ (same_mut I.e (I.e.free ht)) (SqT.of upd_same) (I.rg.same (same_new ht))
end
-- new
abbrev s_law : Stmt := top 19
abbrev N_law : List Str := ["script", "pen", "bout", "places", "many", "one", "other", "k"]
theorem sc_law : FnScope N_law ["script"] (defScope s_law) := ⟨rfl, rfl, rfl, by decide +kernel, rfl, by decide +kernel, by decide +kernel⟩
def spLaw (K : PySem.W.Frag) : Sp := fun vs H Q _ => ∃ (a : Addr) (ns : List Int), vs = [.ref a] ∧ SqL K H a (ns.map V.int) ∧ ns.length ≤ 63 ∧ ∀ H', Q (.bl true) H'
def arD (p : Nat → Nat) (n : Nat) : PyData := .tuple ((arI p n).map PyData.int)
theorem dp_ar {K : PySem.W.Frag} {H : Hp} {x : V} {n : Nat} {p : Nat → Nat} (h : Ar K H x n p) : Dp K H x (arD p n) := by
  obtain ⟨a, rfl, ha⟩ := h
  rw [arV_ints] at ha
  exact .tup ha (dp_ints _)
theorem eqv_ar {n : Nat} {p q : Nat → Nat} (e : ∀ k, k < n → p k = q k) : PyData.eqv (arD p n) (arD q n) = true := by
  show PyData.eqvAll _ _ = _
  rw [eqv_ints, decide_eq_true_eq]
  exact arI_inj.mpr e
theorem dd_ar {K : PySem.W.Frag} {H : Hp} {x : V} {n : Nat} {p : Nat → Nat} (hx : Ar K H x n p) : Dd K H x (arD p n) := by
  obtain ⟨a, rfl, ha⟩ := hx
  rw [arV_ints] at ha
  exact .tup ha (DdAll.ints _)
theorem fit_ar {n : Nat} {p : Nat → Nat} (lt : ∀ k, k < n → p k < n) (n12 : n ≤ 12) : Fit 100 1 (arD p n) := by
  have ft : Fits (6 * (arI p n).length) 0 ((arI p n).map PyData.int) := fits_ints fun k hk => by
    obtain ⟨j, hj, rfl⟩ := List.mem_map.mp hk
    have := lt j (List.mem_range.mp hj)
    omega
  exact ft.tuple.mono (by rw [arI_len]; omega) (Nat.le_refl 1)
theorem _root_.RG.Fit.size {W D : Nat} {d : PyData} (h : Fit W D d) (e : W ≤ 1000) : d.shown.length ≤ sizeLine := Nat.le_trans h.le (Nat.le_trans e (by decide))
theorem _root_.RG.Fit.deep {W D : Nat} {d : PyData} (h : Fit W D d) (e : D ≤ 60) : d.depth ≤ 60 := Nat.le_trans h.dp e
theorem shown_ar {n : Nat} {p q : Nat → Nat} (e : ∀ k, k < n → p k = q k) : (arD p n).shown = (arD q n).shown := by
  unfold arD
  rw [arI_inj.mpr e]
theorem back_uniq {n : Nat} {p r s : Nat → Nat} (hp : IsP n p) (hr : ∀ k, k < n → r (p k) = k) (hs : ∀ k, k < n → s (p k) = k) : ∀ k, k < n → r k = s k := fun y hy => by
  obtain ⟨x, hx, rfl⟩ := hp.sur y hy
  rw [hr x hx, hs x hx]
theorem no_ne (v : V) : (!decide (v = v)) = false := by simp
theorem Ar.kb {K : PySem.W.Frag} {H G : Hp} {v : V} {n : Nat} {p : Nat → Nat} {a : Addr} (h : Ar K H v n p) (e : Kb a H G) (hp : PenO H a) : Ar K G v n p := by
  obtain ⟨b, h1, h2⟩ := h
  exact ⟨b, h1, sqt_kb e hp h2⟩
theorem fit_arB {g : Nat → Nat} {m : Nat} (lt : ∀ k, k < m → g k < 1000) (m12 : m ≤ 12) : Fit 100 1 (arD g m) := by
  have ft : Fits (6 * (arI g m).length) 0 ((arI g m).map PyData.int) := fits_ints fun k hk => by
    obtain ⟨j, hj, rfl⟩ := List.mem_map.mp hk
    have := lt j (List.mem_range.mp hj)
    omega
  exact ft.tuple.mono (by rw [arI_len]; omega) (Nat.le_refl 1)
theorem eqv_no {n : Nat} {p q : Nat → Nat} (e : ¬ ∀ k, k < n → p k = q k) : PyData.eqv (arD p n) (arD q n) = false := by
  show PyData.eqvAll _ _ = _
  rw [eqv_ints, decide_eq_false_iff_not]
  exact fun h => e (arI_inj.mp h)
/-- rounds as data -/
noncomputable def ringsD (p : Nat → Nat) (n : Nat) (ss : List Nat) : List PyData := ss.map fun s => arD (fun j => goes p j s) (lenOf p n s)
theorem dd_rings {K : PySem.W.Frag} {H : Hp} {p : Nat → Nat} {n : Nat} : ∀ {rs : List Addr} {ss : List Nat}, Rings K H p n rs ss → DdAll K H (rs.map V.ref) (ringsD p n ss)
  | _, _, .nil => .nil
  | _, _, .cons h t => .cons (by
      rw [arV_ints] at h
      exact .tup h (DdAll.ints _)) (dd_rings t)
theorem fit_rings {p : Nat → Nat} {n : Nat} (hp : IsP n p) (n12 : n ≤ 12) : ∀ ss : List Nat, (∀ s ∈ ss, s < n) → Fits (102 * ss.length) 1 (ringsD p n ss)
  | [], _ => Fits.nil
  | s :: ss, h => by
    have hs := h s List.mem_cons_self
    have L := hp.lenOf hs
    have h1 := fit_arB (g := fun j => goes p j s) (m := lenOf p n s) (fun k _ => Nat.lt_of_lt_of_le ((hp.pow k).lt s hs) (by omega)) (Nat.le_trans L.le n12)
    have h2 := fit_rings hp n12 ss fun t ht => h t (List.mem_cons_of_mem _ ht)
    have e1 := h1.le
    have e2 := h2.le
    refine ⟨?_, ?_, ?_⟩
    · show PyData.showableAll (_ :: _) = true
      simp only [PyData.showableAll, h1.sh, Bool.true_and]
      exact h2.sh
    · show pl (arD (fun j => goes p j s) (lenOf p n s) :: ringsD p n ss) ≤ _
      rw [pl_cons, List.length_cons]
      omega
    · show PyData.depthAll (_ :: _) ≤ 1
      simp only [PyData.depthAll]
      exact Nat.max_le.mpr ⟨h1.dp, h2.dp⟩
theorem heads_len (p : Nat → Nat) (n : Nat) : (heads p n).length ≤ n := by
  unfold heads
  refine Nat.le_trans (List.length_filter_le _ _) ?_
  rw [List.length_range]
  exact Nat.le_refl n
theorem fit_all {p : Nat → Nat} {n : Nat} (hp : IsP n p) (n12 : n ≤ 12) : Fit 1300 2 (.tuple (ringsD p n (heads p n))) := by
  have h := (fit_rings hp n12 (heads p n) fun s hs => (heads_mem.mp hs).1).tuple
  have := heads_len p n
  exact h.mono (by omega) (Nat.le_refl 2)
theorem oft_back {n : Nat} {p r : Nat → Nat} (hp : IsP n p) (h : ∀ k, k < n → r (p k) = k) : oftP r n = oftP p n := by
  unfold oftP
  rw [heads_back hp h]
  congr 1
  refine List.map_congr_left fun s hs => ?_
  exact lenOf_back hp h (heads_mem.mp hs).1
theorem tw_nat {k : Nat} (h : k < 27720) : tw ((k : Nat) : Int) = k := by
  unfold tw
  omega
theorem kept_none : ∀ (ys : List V) (m : Nat), keptV ys (List.replicate m false) = []
  | [], _ => by simp [keptV]
  | _ :: _, 0 => by simp [keptV]
  | y :: ys, m + 1 => by
    have ih := kept_none ys m
    unfold keptV at ih ⊢
    rw [List.replicate_succ, List.zip_cons_cons, List.filter_cons_of_neg (by simp)]
    exact ih
section
variable {P : Program} {w : World} {K : PySem.W.Frag} {mg : Str → Option Value} {base : Heap} {f : Addr} {fd : FuncData}
theorem ok_law (F : Fun K "law" "law" s_law f fd) (T : Bt mg) (C_law_pen : Cg P w K mg base 1 "_law_pen" (spPen K)) (C_law_draw : Cg P w K mg base 1 "_law_draw" spDraw) (C_law_arrangement : Cg P w K mg base 3 "_law_arrangement" spArr)
    (C_law_of_rounds : Cg P w K mg base 3 "_law_of_rounds" (spOfR K)) (C_rounds_of : Cg P w K mg base 2 "rounds_of" (spRounds K)) (C_law_rounds : Cg P w K mg base 1 "_law_rounds" (spRounds K)) (C_law_turned_about : Cg P w K mg base 1 "_law_turned_about" (spAbout K))
    (C_behind : Cg P w K mg base 1 "behind" (spBehind K)) (C_undone : Cg P w K mg base 1 "undone" (spUndone K)) (C_again : Cg P w K mg base 3 "again" (spPow K)) (C_how_often : Cg P w K mg base 3 "how_often" (spHow K))
    (C_is_even : Cg P w K mg base 3 "is_even" (spEven K)) (C_law_even : Cg P w K mg base 1 "_law_even" (spEven K)) : FnG P w K mg base CX0 4 f fd ["script"] (spLaw K) := by
  refine fnG0 F sc_law (fun vs H Q E h => ?_) (fun cdv A outer s H vs Q E hr hg h => ?_)
  · obtain ⟨a, ns, rfl, _⟩ := h
    rfl
  · obtain ⟨a, ns, rfl, ha, hl, k⟩ := h
    have nd := sc_law.nd
    have hu0 : (A.deeper (envOfC "law" (defScope s_law) s.heap.objs.size f cdv)).units < cLine := Nat.lt_of_succ_lt (hu_of hr)
    have hu64 : (A.deeper (envOfC "law" (defScope s_law) s.heap.objs.size f cdv)).units + 64 < cLine := hr.units
    refine ⟨_, (pss_cons (ps_set (i := 1) nd rfl (Or.inl rfl) (pe_g C_law_pen hr hg (by decide) rfl (pa_cons (pv 0) pa_nil)))
      (pss_cons (ps_for PassesOwn.never rfl (pi_range1 (by rfl) T.range (pa_cons (pe_op op_add pe_int (pe_callB (call_min2 rfl) (by rfl) T.min b_min (pa_cons pe_int (pa_cons (pe_callB call_len_seq (by rfl) T.len b_len (pa_cons (pv 0) pa_nil)) pa_nil)))) pa_nil)) (pg_name (i := 2) nd rfl (Or.inl rfl))
        (pss_cons (ps_set (i := 3) nd rfl (Or.inr rfl) (pe_op op_add pe_int (pe_g C_law_draw hr hg (by decide) rfl (pa_cons (pv 1) (pa_cons pe_int pa_nil)))))
        (pss_cons (ps_asg (pe_tup (pa_cons (pe_g C_law_of_rounds hr hg (by decide) rfl (pa_cons (pv 1) (pa_cons (pv 3) pa_nil))) (pa_cons (pe_g C_law_arrangement hr hg (by decide) rfl (pa_cons (pv 1) (pa_cons (pv 3) pa_nil))) pa_nil))) (pg_tup (by rfl) (pgs_cons (pg_name (i := 5) nd rfl (Or.inr rfl)) (pgs_cons (pg_name (i := 6) nd rfl (Or.inl rfl)) pgs_nil))))
        (pss_cons (ps_if (PW.pt (pw_or (pt_cmpR op_ne (pe_callB (cr_repr hg hu64) (by rfl) T.repr b_repr (pa_cons (pe_g C_rounds_of hr hg (by decide) rfl (pa_cons (pv 5) pa_nil)) pa_nil)) (pe_callB (cr_repr hg hu64) (by rfl) T.repr b_repr (pa_cons (pe_g C_law_rounds hr hg (by decide) rfl (pa_cons (pv 5) pa_nil)) pa_nil)) (nomark _)) (pw_or1 (pt_cmpR op_ne (pe_callB (cr_repr hg hu64) (by rfl) T.repr b_repr (pa_cons (pe_g C_rounds_of hr hg (by decide) rfl (pa_cons (pe_g C_undone hr hg (by decide) rfl (pa_cons (pv 5) pa_nil)) pa_nil)) pa_nil)) (pe_callB (cr_repr hg hu64) (by rfl) T.repr b_repr (pa_cons (pe_g C_law_turned_about hr hg (by decide) rfl (pa_cons (pe_g C_law_rounds hr hg (by decide) rfl (pa_cons (pv 5) pa_nil)) pa_nil)) pa_nil)) (nomark _)))))
          (pss_one (ps_ret pe_bl))
          pss_nil)
        (pss_cons (ps_set (i := 4) nd rfl (Or.inl rfl) (pe_g C_how_often hr hg (by decide) rfl (pa_cons (pv 5) pa_nil)))
        (pss_cons (ps_if (PW.pt (pw_or (pt_not (pt_val (pe_callB (r := rIsD K) cr_isD (by rfl) T.isinstance b_isinstance (pa_cons (pv 4) (pa_cons (pe_tint (by rfl) T.int) pa_nil))))) (pw_or (pt_val (pe_callB (r := rIsD K) cr_isD (by rfl) T.isinstance b_isinstance (pa_cons (pv 4) (pa_cons (pe_tbool (by rfl) T.bool) pa_nil)))) (pw_or (pt_cmpR op_lt (pv 4) pe_int (nomark _)) (pw_or1 (pt_cmpR (op_neD hu64) (pe_g C_again hr hg (by decide) rfl (pa_cons (pv 5) (pa_cons (pv 4) pa_nil))) (pe_tupRg rfl (by rfl) T.tuple (prg_1 (by rfl) T.range (pv 3))) (nomark _)))))))
          (pss_one (ps_ret pe_bl))
          pss_nil)
        (pss_cons (ps_if (pt_cmpR (op_neNil hu0) (pe_lc (own := [("k", 7)]) (g := gName 7) rfl nd (pi_range2 (by rfl) T.range (pa_cons pe_int (pa_cons (pe_callB (call_min2 rfl) (by rfl) T.min b_min (pa_cons (pv 4) (pa_cons pe_int pa_nil))) pa_nil))) (blkOk_by (own := [("k", 7)]) (N := N_law) (sc := defScope s_law) (by decide +kernel)) (fun _ _ _ _ _ => (pg_name (i := 7) nd rfl (Or.inl rfl))) (fun _ _ _ _ _ => (pts_one (pt_cmpR (r := rEqD K) (op_eqD hu64) (pe_g C_again hr hg (by decide) rfl (pa_cons (pv 5) (pa_cons (pv 7) pa_nil))) (pe_tupRg rfl (by rfl) T.tuple (prg_1 (by rfl) T.range (pv 3))) (nomark _)))) (fun _ _ _ _ _ => (pv 7))) (pe_lst pa_nil) (nomark _))
          (pss_one (ps_ret pe_bl))
          pss_nil)
        (pss_cons (ps_if (PW.pt (pw_or (pt_cmpR op_ne (pe_callB (cr_repr hg hu64) (by rfl) T.repr b_repr (pa_cons (pe_g C_is_even hr hg (by decide) rfl (pa_cons (pv 5) pa_nil)) pa_nil)) (pe_callB (cr_repr hg hu64) (by rfl) T.repr b_repr (pa_cons (pe_g C_law_even hr hg (by decide) rfl (pa_cons (pv 5) pa_nil)) pa_nil)) (nomark _)) (pw_or1 (pt_cmpR op_ne (pe_g C_is_even hr hg (by decide) rfl (pa_cons (pe_g C_undone hr hg (by decide) rfl (pa_cons (pv 5) pa_nil)) pa_nil)) (pe_g C_is_even hr hg (by decide) rfl (pa_cons (pv 5) pa_nil)) (nomark _)))))
          (pss_one (ps_ret pe_bl))
          pss_nil)
        (pss_one (ps_if (PW.pt (pw_or (pt_cmpR op_ne (pe_g C_is_even hr hg (by decide) rfl (pa_cons (pe_g C_behind hr hg (by decide) rfl (pa_cons (pv 5) (pa_cons (pv 6) pa_nil))) pa_nil)) (pe_cmpR op_eq (pe_g C_is_even hr hg (by decide) rfl (pa_cons (pv 5) pa_nil)) (pe_g C_is_even hr hg (by decide) rfl (pa_cons (pv 6) pa_nil)) (nomark _)) (nomark _)) (pw_or1 (pt_cmpR op_ne (pe_g C_how_often hr hg (by decide) rfl (pa_cons (pe_g C_undone hr hg (by decide) rfl (pa_cons (pv 5) pa_nil)) pa_nil)) (pv 4) (nomark _)))))
          (pss_one (ps_ret pe_bl))
          pss_nil))))))))))
      (pss_one (ps_ret pe_bl)))), ?_⟩
    refine ⟨_, rfl, a, ns, rfl, ha, hl, fun i G e pn => ?_⟩
    refine ⟨_, rfl, a, _, rfl, .inl (sql_same e ha), _, _, rfl, _, _, rfl, rfl, _, rfl, ?_, ?_, ?_⟩
    · rw [List.length_map]; split <;> omega
    · rw [List.length_map]; split <;> omega
    refine for_range (fun b σ G => ∃ x2 x3 x4 x5 x6 x7, σ = [some (.ref a), some (.ref i.p), x2, x3, x4, x5, x6, x7] ∧ Pen G i (b * 60)) ⟨_, _, _, _, _, _, rfl, pn.mono (Nat.zero_le _)⟩ (fun b σ G1 hb h => ?_) (fun σ G1 h => k G1)
    have hb2 : b < 2 ^ 30 := by
      refine Nat.lt_of_lt_of_le hb ?_
      rw [List.length_map]
      split <;> omega
    clear hb
    obtain ⟨x2, x3, x4, x5, x6, x7, rfl, pn1⟩ := h
    clear e pn ha
    refine ⟨_, rfl, i, 11, b * 60, rfl, pn1, by omega, by decide, by decide, fun d G2 d0 d1 kb2 pn2 => ?_⟩
    refine ⟨_, _, rfl, rfl, ?_⟩
    obtain ⟨n, hn, n2, n12⟩ : ∃ n : Nat, (2 : Int) + d = (n : Int) ∧ 2 ≤ n ∧ n ≤ 12 := ⟨(2 + d).toNat, by omega, by omega, by omega⟩
    change gName 3 (V.int (2 + d)) _ _ _
    rw [hn]
    refine ⟨_, rfl, _, rfl, i, b * 60 + 1, n, rfl, pn2, by omega, n2, n12, fun v1 p G3 hp kb3 pn3 h1 => ?_⟩
    refine ⟨_, rfl, _, rfl, i, _, n, rfl, pn3, by omega, n2, by omega, fun tb ks G4 pk kb4 pn4 h4 => ⟨(show 2 ≤ sizeLine by decide), fun tq htq => ?_⟩⟩
    obtain ⟨q, eq, hq⟩ := perm_ar pk
    have s5 : Same G4 (upd G4 tq (.tup [v1, .ref tb])) := same_new htq
    have g1 : Ar K (upd G4 tq (.tup [v1, .ref tb])) v1 n p := (h1.kb kb4 pn3.o).same s5
    have g2 : Ar K (upd G4 tq (.tup [v1, .ref tb])) (.ref tb) n q := ⟨tb, rfl, sqt_same s5 (SqT.of (by rw [← eq]; exact h4))⟩
    have pn5 := pn4.same s5
    refine ⟨tq, _, rfl, SqT.of upd_same, rfl, _, _, rfl, _, _, rfl, rfl, ?_⟩
    change (tSeq _ _ : TS) _ _ (upd G4 tq (.tup [v1, .ref tb]))
    generalize upd G4 tq (.tup [v1, .ref tb]) = G at s5 g1 g2 pn5 ⊢
    clear htq h4 h1
    have ft := fit_all hp n12
    -- the rounds
    refine ⟨_, rfl, v1, n, p, rfl, g1, hp, n12, fun a1 rs1 J1 e1 m1 r1 => ⟨_, _, rfl, .tup m1 (dd_rings r1), ft.sh, Nat.le_trans ft.le (by decide), Nat.le_trans ft.dp (by decide), ?_⟩⟩
    refine ⟨_, rfl, v1, n, p, rfl, g1.same e1, hp, n12, fun a2 rs2 J2 e2 m2 r2 => ⟨_, _, rfl, .tup m2 (dd_rings r2), ft.sh, Nat.le_trans ft.le (by decide), Nat.le_trans ft.dp (by decide), ?_⟩⟩
    refine ⟨rfl, _, rfl, ?_⟩
    rw [no_ne]
    refine iteF ?_
    have E2 := e1.trans e2
    refine ⟨_, rfl, v1, n, p, rfl, g1.same E2, hp, n12, fun u3 r3 J3 e3 hr3 hu3 => ⟨u3, n, r3, rfl, hu3, hp.back hr3, n12, fun a4 rs4 J4 e4 m4 z4 => ⟨_, _, rfl, .tup m4 (dd_rings z4), (fit_all (hp.back hr3) n12).sh, Nat.le_trans (fit_all (hp.back hr3) n12).le (by decide), Nat.le_trans (fit_all (hp.back hr3) n12).dp (by decide), ?_⟩⟩⟩
    have E4 := (E2.trans e3).trans e4
    refine ⟨_, rfl, v1, n, p, rfl, g1.same E4, hp, n12, fun a5 rs5 J5 e5 m5 z5 => ⟨a5, n, p, r3, rs5, rfl, hp, n12, hr3, m5, z5, fun a6 rs6 J6 e6 m6 z6 => ⟨_, _, rfl, .tup m6 (dd_rings z6), (fit_all (hp.back hr3) n12).sh, Nat.le_trans (fit_all (hp.back hr3) n12).le (by decide), Nat.le_trans (fit_all (hp.back hr3) n12).dp (by decide), ?_⟩⟩⟩
    have E6 := (E4.trans e5).trans e6
    refine ⟨rfl, _, rfl, ?_⟩
    rw [no_ne]
    refine iteF ?_
    -- how often
    refine ⟨_, rfl, v1, n, p, rfl, g1.same E6, hp, n12, fun J7 e7 => ?_⟩
    have E7 := E6.trans e7
    have o0 := oft_pos hp n12
    have o1 := Nat.le_of_dvd (by decide) (oft_whole hp n12)
    refine ⟨_, rfl, .int _, .int _, "int", rfl, .int _, by decide, true, rfl, ?_⟩
    refine iteF ?_
    refine ⟨_, rfl, .int _, .int _, "bool", rfl, .int _, by decide, false, rfl, ?_⟩
    refine iteF ?_
    refine ⟨_, rfl, _, _, rfl, rfl, _, rfl, ?_⟩
    refine iteF' (by rw [decide_eq_false_iff_not]; omega) ?_
    refine ⟨_, rfl, _, rfl, v1, n, p, ((oftP p n : Nat) : Int), rfl, g1.same E7, hp, n12, fun u8 J8 e8 hu8 => ?_⟩
    refine ⟨_, rfl, _, rfl, RgOk.of_le (by decide) (by omega) (by decide) (by omega), fun z hz => ?_⟩
    rw [arV_id]
    have e9 : Same J8 (upd J8 z (.tup (arV (fun k => k) n))) := same_new hz
    have hz2 : Ar K (upd J8 z (.tup (arV (fun k => k) n))) (.ref z) n (fun k => k) := ⟨z, rfl, SqT.of upd_same⟩
    have E9 := (E7.trans e8).trans e9
    have home : ∀ x, x < n → goes p (tw ((oftP p n : Nat) : Int)) x = x := fun x hx => by
      rw [← tw_eq hp n12 hx (a := oftP p n) (t := ((oftP p n : Nat) : Int)) (by omega)]
      exact (oft_home hp _).mpr (Nat.dvd_refl _) x hx
    refine ⟨_, _, dp_ar (hu8.same e9), dp_ar hz2, shaped_intsT _, shaped_intsT _, ?_⟩
    rw [eqv_ar home, Bool.not_true]
    refine ⟨_, rfl, ?_⟩
    refine iteF ?_
    -- no fewer times
    refine ⟨_, rfl, _, _, rfl, _, _, rfl, ⟨by decide, by decide, by split <;> omega, by split <;> omega⟩, fun D hD => ?_⟩
    generalize hN : ((if (61 : Int) < ((oftP p n : Nat) : Int) then (61 : Int) else ((oftP p n : Nat) : Int)) - 1).toNat = N
    have N1 : N < 61 ∧ N < oftP p n := by
      rw [← hN]
      constructor <;> split <;> omega
    refine comp_rangeT (lo := 1) (n := N) (ys := (List.range N).map fun j => V.int (1 + ((j : Nat) : Int))) (bs := List.replicate N false) hD (by rw [List.length_map, List.length_range]) List.length_replicate (Nat.lt_trans N1.1 (by decide)) (fun j b hj hb G' e' Q' hq' => ?_) (fun j y hj hy G' e' Q' hq' => ?_) fun G' e' hG => ?_
    · rw [List.getElem?_replicate, if_pos hj] at hb
      cases hb
      refine ⟨_, rfl, _, rfl, v1, n, p, 1 + ((j : Nat) : Int), rfl, g1.same (E9.trans e'), hp, n12, fun u G'' e'' hu => ?_⟩
      refine ⟨_, rfl, _, rfl, RgOk.of_le (by decide) (by omega) (by decide) (by omega), fun y hy => ?_⟩
      rw [arV_id]
      have e3' : Same G'' (upd G'' y (.tup (arV (fun k => k) n))) := same_new hy
      have hy2 : Ar K (upd G'' y (.tup (arV (fun k => k) n))) (.ref y) n (fun k => k) := ⟨y, rfl, SqT.of upd_same⟩
      refine ⟨_, _, dp_ar (hu.same e3'), dp_ar hy2, shaped_intsT _, shaped_intsT _, ?_⟩
      rw [eqv_no fun all => ?_]
      · exact ⟨_, rfl, hq' _ (e''.trans e3')⟩
      · have d := (oft_home hp (j + 1)).mp fun x hx => by
          have := all x hx
          rw [tw_eq hp n12 hx (a := j + 1) (t := 1 + ((j : Nat) : Int)) (by omega)]
          exact this
        have := Nat.le_of_dvd (Nat.succ_pos j) d
        omega
    · rw [List.getElem?_map, List.getElem?_range hj] at hy
      cases hy
      exact ⟨_, rfl, hq' _ (Same.refl _)⟩
    rw [kept_none] at hG
    refine ⟨by decide, fun zz hzz => ⟨D, zz, _, rfl, rfl, .inl ⟨SqL.of (by rw [upd_ne (ne_of_none hG hzz)]; exact hG), SqL.of upd_same⟩, _, rfl, ?_⟩⟩
    refine iteF ?_
    have E10 := (E9.trans e').trans (same_new (o := .lst []) hzz)
    change (tSeq _ _ : TS) _ _ (upd G' zz (.lst []))
    generalize upd G' zz (.lst []) = J10 at E10 ⊢
    -- even
    have bz : ∀ b : Bool, (PyData.bool b).shown.length ≤ sizeLine := fun b => Nat.le_trans (fit_bool b).le (by decide)
    refine ⟨_, rfl, v1, n, p, rfl, g1.same E10, hp, n12, fun J11 e11 => ⟨_, .bool _, rfl, .bl _, rfl, bz _, (by decide : 0 ≤ 60), ?_⟩⟩
    have E11 := E10.trans e11
    refine ⟨_, rfl, v1, n, p, rfl, g1.same E11, hp, n12, fun J12 e12 => ⟨_, .bool _, rfl, .bl _, rfl, bz _, (by decide : 0 ≤ 60), ?_⟩⟩
    have E12 := E11.trans e12
    refine ⟨rfl, _, rfl, ?_⟩
    rw [no_ne]
    refine iteF ?_
    refine ⟨_, rfl, v1, n, p, rfl, g1.same E12, hp, n12, fun u13 r13 J13 e13 hr13 hu13 => ⟨u13, n, r13, rfl, hu13, hp.back hr13, n12, fun J14 e14 => ?_⟩⟩
    have E14 := (E12.trans e13).trans e14
    refine ⟨_, rfl, v1, n, p, rfl, g1.same E14, hp, n12, fun J15 e15 => ⟨rfl, _, rfl, ?_⟩⟩
    have E15 := E14.trans e15
    rw [sg_back hp hr13, no_ne]
    refine iteF ?_
    -- one behind the other
    refine ⟨_, rfl, _, rfl, v1, .ref tb, n, p, q, rfl, g1.same E15, g2.same E15, hp.lt, n12, fun u16 J16 e16 hu16 => ⟨u16, n, _, rfl, hu16, hp.comp hq, n12, fun J17 e17 => ?_⟩⟩
    have E17 := (E15.trans e16).trans e17
    refine ⟨_, rfl, v1, n, p, rfl, g1.same E17, hp, n12, fun J18 e18 => ?_⟩
    have E18 := E17.trans e18
    refine ⟨_, rfl, .ref tb, n, q, rfl, g2.same E18, hq, n12, fun J19 e19 => ⟨rfl, rfl, _, rfl, ?_⟩⟩
    have E19 := E18.trans e19
    have fin : (!decide (V.bl (!sg (fun x => q (p x)) n) = V.bl (decide (V.bl (!sg p n) = V.bl (!sg q n))))) = false := by
      rw [sg_comp hp hq]
      cases sg p n <;> cases sg q n <;> simp
    rw [fin]
    refine iteF ?_
    refine ⟨_, rfl, v1, n, p, rfl, g1.same E19, hp, n12, fun u20 r20 J20 e20 hr20 hu20 => ⟨u20, n, r20, rfl, hu20, hp.back hr20, n12, fun J21 e21 => ⟨_, rfl, rfl, _, rfl, ?_⟩⟩⟩
    have E21 := (E19.trans e20).trans e21
    rw [oft_back hp hr20, no_ne]
    refine iteF ?_
    exact ⟨_, _, _, _, _, _, rfl, (pn5.same E21).mono (by omega)⟩
end
theorem all_mk {l : PySem.W.OpenLaw} {w : World} {K : PySem.W.Frag} {h : Heap} {mg : Str → Option Value} {fa f1 f2 f3 f4 f5 f6 f7 f8 f9 f10 f11 f12 f13 f14 f15 f16 f17 : Addr} (X : K.In h) (G : h.Ns mainGlobals mg) (hfa : mg "law" = some (.ref fa))
    {od1 od2 od3 od4 od5 od6 od7 od8 od9 od10 od11 od12 od13 od14 od15 od16 od17 an1 an2 an3 an4 an5 an6 an7 an8 an9 an10 an11 an12 an13 an14 an15 an16 an17 : Option Addr} {sl1 sl2 sl3 sl4 sl5 sl6 sl7 sl8 sl9 sl10 sl11 sl12 sl13 sl14 sl15 sl16 sl17 : Array (Option Value)} {oc1 oc2 oc3 oc4 oc5 oc6 oc7 oc8 oc9 oc10 oc11 oc12 oc13 oc14 oc15 oc16 oc17 kV1 kV2 kV3 kV4 kV5 kV6 kV7 kV8 kV9 kV10 kV11 kV12 kV13 kV14 kV15 kV16 kV17 dc1 dc2 dc3 dc4 dc5 dc6 dc7 dc8 dc9 dc10 dc11 dc12 dc13 dc14 dc15 dc16 dc17 pm1 pm2 pm3 pm4 pm5 pm6 pm7 pm8 pm9 pm10 pm11 pm12 pm13 pm14 pm15 pm16 pm17 cd1 cd2 cd3 cd4 cd5 cd6 cd7 cd8 cd9 cd10 cd11 cd12 cd13 cd14 cd15 cd16 cd17 ct1 ct2 ct3 ct4 ct5 ct6 ct7 ct8 ct9 ct10 ct11 ct12 ct13 ct14 ct15 ct16 ct17 : Value}
    (a1 : PySem.W.nsIn K mainGlobals "behind" = some (some (.ref f1))) (l1 : K.lookup f1 = some ⟨oc1, od1, .func (PySem.W.fnOf "behind" "behind" (defArgs s_behind) (defBody s_behind) (defScope s_behind) .none kV1 dc1 pm1 an1 cd1 ct1), sl1⟩) (c1 : PySem.W.codeIn K cd1 "behind" = true) (k1 : PySem.W.keepIn K (.ref f1) = true)
    (a2 : PySem.W.nsIn K mainGlobals "undone" = some (some (.ref f2))) (l2 : K.lookup f2 = some ⟨oc2, od2, .func (PySem.W.fnOf "undone" "undone" (defArgs s_undone) (defBody s_undone) (defScope s_undone) .none kV2 dc2 pm2 an2 cd2 ct2), sl2⟩) (c2 : PySem.W.codeIn K cd2 "undone" = true) (k2 : PySem.W.keepIn K (.ref f2) = true)
    (a3 : PySem.W.nsIn K mainGlobals "_ring_from" = some (some (.ref f3))) (l3 : K.lookup f3 = some ⟨oc3, od3, .func (PySem.W.fnOf "_ring_from" "_ring_from" (defArgs s_ring_from) (defBody s_ring_from) (defScope s_ring_from) .none kV3 dc3 pm3 an3 cd3 ct3), sl3⟩) (c3 : PySem.W.codeIn K cd3 "_ring_from" = true) (k3 : PySem.W.keepIn K (.ref f3) = true)
    (a4 : PySem.W.nsIn K mainGlobals "_turned" = some (some (.ref f4))) (l4 : K.lookup f4 = some ⟨oc4, od4, .func (PySem.W.fnOf "_turned" "_turned" (defArgs s_turned) (defBody s_turned) (defScope s_turned) .none kV4 dc4 pm4 an4 cd4 ct4), sl4⟩) (c4 : PySem.W.codeIn K cd4 "_turned" = true) (k4 : PySem.W.keepIn K (.ref f4) = true)
    (a5 : PySem.W.nsIn K mainGlobals "rounds_of" = some (some (.ref f5))) (l5 : K.lookup f5 = some ⟨oc5, od5, .func (PySem.W.fnOf "rounds_of" "rounds_of" (defArgs s_rounds_of) (defBody s_rounds_of) (defScope s_rounds_of) .none kV5 dc5 pm5 an5 cd5 ct5), sl5⟩) (c5 : PySem.W.codeIn K cd5 "rounds_of" = true) (k5 : PySem.W.keepIn K (.ref f5) = true)
    (a6 : PySem.W.nsIn K mainGlobals "again" = some (some (.ref f6))) (l6 : K.lookup f6 = some ⟨oc6, od6, .func (PySem.W.fnOf "again" "again" (defArgs s_again) (defBody s_again) (defScope s_again) .none kV6 dc6 pm6 an6 cd6 ct6), sl6⟩) (c6 : PySem.W.codeIn K cd6 "again" = true) (k6 : PySem.W.keepIn K (.ref f6) = true)
    (a7 : PySem.W.nsIn K mainGlobals "how_often" = some (some (.ref f7))) (l7 : K.lookup f7 = some ⟨oc7, od7, .func (PySem.W.fnOf "how_often" "how_often" (defArgs s_how_often) (defBody s_how_often) (defScope s_how_often) .none kV7 dc7 pm7 an7 cd7 ct7), sl7⟩) (c7 : PySem.W.codeIn K cd7 "how_often" = true) (k7 : PySem.W.keepIn K (.ref f7) = true)
    (a8 : PySem.W.nsIn K mainGlobals "is_even" = some (some (.ref f8))) (l8 : K.lookup f8 = some ⟨oc8, od8, .func (PySem.W.fnOf "is_even" "is_even" (defArgs s_is_even) (defBody s_is_even) (defScope s_is_even) .none kV8 dc8 pm8 an8 cd8 ct8), sl8⟩) (c8 : PySem.W.codeIn K cd8 "is_even" = true) (k8 : PySem.W.keepIn K (.ref f8) = true)
    (a9 : PySem.W.nsIn K mainGlobals "_law_pen" = some (some (.ref f9))) (l9 : K.lookup f9 = some ⟨oc9, od9, .func (PySem.W.fnOf "_law_pen" "_law_pen" (defArgs s_law_pen) (defBody s_law_pen) (defScope s_law_pen) .none kV9 dc9 pm9 an9 cd9 ct9), sl9⟩) (c9 : PySem.W.codeIn K cd9 "_law_pen" = true) (k9 : PySem.W.keepIn K (.ref f9) = true)
    (a10 : PySem.W.nsIn K mainGlobals "_law_draw" = some (some (.ref f10))) (l10 : K.lookup f10 = some ⟨oc10, od10, .func (PySem.W.fnOf "_law_draw" "_law_draw" (defArgs s_law_draw) (defBody s_law_draw) (defScope s_law_draw) .none kV10 dc10 pm10 an10 cd10 ct10), sl10⟩) (c10 : PySem.W.codeIn K cd10 "_law_draw" = true) (k10 : PySem.W.keepIn K (.ref f10) = true)
    (a11 : PySem.W.nsIn K mainGlobals "_law_shuffled" = some (some (.ref f11))) (l11 : K.lookup f11 = some ⟨oc11, od11, .func (PySem.W.fnOf "_law_shuffled" "_law_shuffled" (defArgs s_law_shuffled) (defBody s_law_shuffled) (defScope s_law_shuffled) .none kV11 dc11 pm11 an11 cd11 ct11), sl11⟩) (c11 : PySem.W.codeIn K cd11 "_law_shuffled" = true) (k11 : PySem.W.keepIn K (.ref f11) = true)
    (a12 : PySem.W.nsIn K mainGlobals "_law_arrangement" = some (some (.ref f12))) (l12 : K.lookup f12 = some ⟨oc12, od12, .func (PySem.W.fnOf "_law_arrangement" "_law_arrangement" (defArgs s_law_arrangement) (defBody s_law_arrangement) (defScope s_law_arrangement) .none kV12 dc12 pm12 an12 cd12 ct12), sl12⟩) (c12 : PySem.W.codeIn K cd12 "_law_arrangement" = true) (k12 : PySem.W.keepIn K (.ref f12) = true)
    (a13 : PySem.W.nsIn K mainGlobals "_law_of_rounds" = some (some (.ref f13))) (l13 : K.lookup f13 = some ⟨oc13, od13, .func (PySem.W.fnOf "_law_of_rounds" "_law_of_rounds" (defArgs s_law_of_rounds) (defBody s_law_of_rounds) (defScope s_law_of_rounds) .none kV13 dc13 pm13 an13 cd13 ct13), sl13⟩) (c13 : PySem.W.codeIn K cd13 "_law_of_rounds" = true) (k13 : PySem.W.keepIn K (.ref f13) = true)
    (a14 : PySem.W.nsIn K mainGlobals "_law_rounds" = some (some (.ref f14))) (l14 : K.lookup f14 = some ⟨oc14, od14, .func (PySem.W.fnOf "_law_rounds" "_law_rounds" (defArgs s_law_rounds) (defBody s_law_rounds) (defScope s_law_rounds) .none kV14 dc14 pm14 an14 cd14 ct14), sl14⟩) (c14 : PySem.W.codeIn K cd14 "_law_rounds" = true) (k14 : PySem.W.keepIn K (.ref f14) = true)
    (a15 : PySem.W.nsIn K mainGlobals "_law_even" = some (some (.ref f15))) (l15 : K.lookup f15 = some ⟨oc15, od15, .func (PySem.W.fnOf "_law_even" "_law_even" (defArgs s_law_even) (defBody s_law_even) (defScope s_law_even) .none kV15 dc15 pm15 an15 cd15 ct15), sl15⟩) (c15 : PySem.W.codeIn K cd15 "_law_even" = true) (k15 : PySem.W.keepIn K (.ref f15) = true)
    (a16 : PySem.W.nsIn K mainGlobals "_law_turned_about" = some (some (.ref f16))) (l16 : K.lookup f16 = some ⟨oc16, od16, .func (PySem.W.fnOf "_law_turned_about" "_law_turned_about" (defArgs s_law_turned_about) (defBody s_law_turned_about) (defScope s_law_turned_about) .none kV16 dc16 pm16 an16 cd16 ct16), sl16⟩) (c16 : PySem.W.codeIn K cd16 "_law_turned_about" = true) (k16 : PySem.W.keepIn K (.ref f16) = true)
    (a17 : PySem.W.nsIn K mainGlobals "law" = some (some (.ref f17))) (l17 : K.lookup f17 = some ⟨oc17, od17, .func (PySem.W.fnOf "law" "law" (defArgs s_law) (defBody s_law) (defScope s_law) .none kV17 dc17 pm17 an17 cd17 ct17), sl17⟩) (c17 : PySem.W.codeIn K cd17 "law" = true) (k17 : PySem.W.keepIn K (.ref f17) = true)
    (z_isinstance : PySem.W.nsIn K mainGlobals "isinstance" = some none)
    (z_int : PySem.W.nsIn K mainGlobals "int" = some none)
    (z_bool : PySem.W.nsIn K mainGlobals "bool" = some none)
    (z_str : PySem.W.nsIn K mainGlobals "str" = some none)
    (z_tuple : PySem.W.nsIn K mainGlobals "tuple" = some none)
    (z_list : PySem.W.nsIn K mainGlobals "list" = some none)
    (z_dict : PySem.W.nsIn K mainGlobals "dict" = some none)
    (z_set : PySem.W.nsIn K mainGlobals "set" = some none)
    (z_len : PySem.W.nsIn K mainGlobals "len" = some none)
    (z_all : PySem.W.nsIn K mainGlobals "all" = some none)
    (z_any : PySem.W.nsIn K mainGlobals "any" = some none)
    (z_sum : PySem.W.nsIn K mainGlobals "sum" = some none)
    (z_abs : PySem.W.nsIn K mainGlobals "abs" = some none)
    (z_range : PySem.W.nsIn K mainGlobals "range" = some none)
    (z_sorted : PySem.W.nsIn K mainGlobals "sorted" = some none)
    (z_min : PySem.W.nsIn K mainGlobals "min" = some none)
    (z_max : PySem.W.nsIn K mainGlobals "max" = some none)
    (z_repr : PySem.W.nsIn K mainGlobals "repr" = some none)
    (z_zip : PySem.W.nsIn K mainGlobals "zip" = some none)
    (z_enumerate : PySem.W.nsIn K mainGlobals "enumerate" = some none)
    (z_reversed : PySem.W.nsIn K mainGlobals "reversed" = some none)
    (m_lcm : PySem.W.nsIn K mainGlobals "lcm" = some (some (.builtin "math.lcm"))) :
    ∃ fd : FuncData, (∀ (s : Shared) (v : Value), BindsTo s fd ⟨[v], []⟩ [("script", v)]) ∧ ∀ base : Heap, K.In base → base.Ns mainGlobals mg → FnG l.prog w K mg base CX0 4 fa fd ["script"] (spLaw K) := by
  have e := hfa.symm.trans (PySem.W.mg_of X G a17)
  cases e
  have TB : Bt mg := ⟨PySem.W.mg_none_of X G z_isinstance, PySem.W.mg_none_of X G z_int, PySem.W.mg_none_of X G z_bool, PySem.W.mg_none_of X G z_str, PySem.W.mg_none_of X G z_tuple, PySem.W.mg_none_of X G z_list, PySem.W.mg_none_of X G z_dict, PySem.W.mg_none_of X G z_set, PySem.W.mg_none_of X G z_len, PySem.W.mg_none_of X G z_all, PySem.W.mg_none_of X G z_any, PySem.W.mg_none_of X G z_sum, PySem.W.mg_none_of X G z_abs, PySem.W.mg_none_of X G z_range, PySem.W.mg_none_of X G z_sorted, PySem.W.mg_none_of X G z_min, PySem.W.mg_none_of X G z_max, PySem.W.mg_none_of X G z_repr, PySem.W.mg_none_of X G z_zip, PySem.W.mg_none_of X G z_enumerate, PySem.W.mg_none_of X G z_reversed⟩
  have F1 := fun_mk (st := s_behind) l1 c1 k1
  have b1 := F1.binds (ps := ["one", "other"]) fun _ _ _ _ _ _ us hl => match us, hl with | [_, _], _ => rfl
  have F2 := fun_mk (st := s_undone) l2 c2 k2
  have b2 := F2.binds (ps := ["one"]) fun _ _ _ _ _ _ us hl => match us, hl with | [_], _ => rfl
  have F3 := fun_mk (st := s_ring_from) l3 c3 k3
  have b3 := F3.binds (ps := ["one", "start"]) fun _ _ _ _ _ _ us hl => match us, hl with | [_, _], _ => rfl
  have F4 := fun_mk (st := s_turned) l4 c4 k4
  have b4 := F4.binds (ps := ["places", "rings", "times"]) fun _ _ _ _ _ _ us hl => match us, hl with | [_, _, _], _ => rfl
  have F5 := fun_mk (st := s_rounds_of) l5 c5 k5
  have b5 := F5.binds (ps := ["one"]) fun _ _ _ _ _ _ us hl => match us, hl with | [_], _ => rfl
  have F6 := fun_mk (st := s_again) l6 c6 k6
  have b6 := F6.binds (ps := ["one", "times"]) fun _ _ _ _ _ _ us hl => match us, hl with | [_, _], _ => rfl
  have F7 := fun_mk (st := s_how_often) l7 c7 k7
  have b7 := F7.binds (ps := ["one"]) fun _ _ _ _ _ _ us hl => match us, hl with | [_], _ => rfl
  have F8 := fun_mk (st := s_is_even) l8 c8 k8
  have b8 := F8.binds (ps := ["one"]) fun _ _ _ _ _ _ us hl => match us, hl with | [_], _ => rfl
  have F9 := fun_mk (st := s_law_pen) l9 c9 k9
  have b9 := F9.binds (ps := ["script"]) fun _ _ _ _ _ _ us hl => match us, hl with | [_], _ => rfl
  have F10 := fun_mk (st := s_law_draw) l10 c10 k10
  have b10 := F10.binds (ps := ["pen", "many"]) fun _ _ _ _ _ _ us hl => match us, hl with | [_, _], _ => rfl
  have F11 := fun_mk (st := s_law_shuffled) l11 c11 k11
  have b11 := F11.binds (ps := ["pen", "some"]) fun _ _ _ _ _ _ us hl => match us, hl with | [_, _], _ => rfl
  have F12 := fun_mk (st := s_law_arrangement) l12 c12 k12
  have b12 := F12.binds (ps := ["pen", "places"]) fun _ _ _ _ _ _ us hl => match us, hl with | [_, _], _ => rfl
  have F13 := fun_mk (st := s_law_of_rounds) l13 c13 k13
  have b13 := F13.binds (ps := ["pen", "places"]) fun _ _ _ _ _ _ us hl => match us, hl with | [_, _], _ => rfl
  have F14 := fun_mk (st := s_law_rounds) l14 c14 k14
  have b14 := F14.binds (ps := ["one"]) fun _ _ _ _ _ _ us hl => match us, hl with | [_], _ => rfl
  have F15 := fun_mk (st := s_law_even) l15 c15 k15
  have b15 := F15.binds (ps := ["one"]) fun _ _ _ _ _ _ us hl => match us, hl with | [_], _ => rfl
  have F16 := fun_mk (st := s_law_turned_about) l16 c16 k16
  have b16 := F16.binds (ps := ["parts"]) fun _ _ _ _ _ _ us hl => match us, hl with | [_], _ => rfl
  have F17 := fun_mk (st := s_law) l17 c17 k17
  refine ⟨PySem.W.fnOf "law" "law" (defArgs s_law) (defBody s_law) (defScope s_law) .none kV17 dc17 pm17 an17 cd17 ct17, fun s v => .of_eq rfl, fun base _ _ => ?_⟩
  have C_behind : Cg l.prog w K mg base 1 "behind" (spBehind K) := ⟨_, _, _, ok_behind F1 TB, PySem.W.mg_of X G a1, k1, b1⟩
  have C_undone : Cg l.prog w K mg base 1 "undone" (spUndone K) := ⟨_, _, _, ok_undone F2 TB, PySem.W.mg_of X G a2, k2, b2⟩
  have C__ring_from : Cg l.prog w K mg base 1 "_ring_from" (spRing K) := ⟨_, _, _, ok_ring_from F3 TB, PySem.W.mg_of X G a3, k3, b3⟩
  have C__turned : Cg l.prog w K mg base 1 "_turned" (spTurned K) := ⟨_, _, _, ok_turned F4 TB, PySem.W.mg_of X G a4, k4, b4⟩
  have C_rounds_of : Cg l.prog w K mg base 2 "rounds_of" (spRounds K) := ⟨_, _, _, ok_rounds_of F5 TB C__ring_from, PySem.W.mg_of X G a5, k5, b5⟩
  have C_again : Cg l.prog w K mg base 3 "again" (spPow K) := ⟨_, _, _, ok_again F6 TB C__turned C_rounds_of, PySem.W.mg_of X G a6, k6, b6⟩
  have C_how_often : Cg l.prog w K mg base 3 "how_often" (spHow K) := ⟨_, _, _, ok_how_often F7 TB (PySem.W.mg_of X G m_lcm) C_rounds_of, PySem.W.mg_of X G a7, k7, b7⟩
  have C_is_even : Cg l.prog w K mg base 3 "is_even" (spEven K) := ⟨_, _, _, ok_is_even F8 TB C_rounds_of, PySem.W.mg_of X G a8, k8, b8⟩
  have C__law_pen : Cg l.prog w K mg base 1 "_law_pen" (spPen K) := ⟨_, _, _, ok_law_pen F9 TB, PySem.W.mg_of X G a9, k9, b9⟩
  have C__law_draw : Cg l.prog w K mg base 1 "_law_draw" (spDraw) := ⟨_, _, _, ok_law_draw F10 TB, PySem.W.mg_of X G a10, k10, b10⟩
  have C__law_shuffled : Cg l.prog w K mg base 2 "_law_shuffled" (spShuf K) := ⟨_, _, _, ok_law_shuffled F11 TB C__law_draw, PySem.W.mg_of X G a11, k11, b11⟩
  have C__law_arrangement : Cg l.prog w K mg base 3 "_law_arrangement" (spArr) := ⟨_, _, _, ok_law_arrangement F12 TB C__law_draw C__law_shuffled, PySem.W.mg_of X G a12, k12, b12⟩
  have C__law_of_rounds : Cg l.prog w K mg base 3 "_law_of_rounds" (spOfR K) := ⟨_, _, _, ok_law_of_rounds F13 TB C__law_draw C__law_shuffled, PySem.W.mg_of X G a13, k13, b13⟩
  have C__law_rounds : Cg l.prog w K mg base 1 "_law_rounds" (spRounds K) := ⟨_, _, _, ok_law_rounds F14 TB, PySem.W.mg_of X G a14, k14, b14⟩
  have C__law_even : Cg l.prog w K mg base 1 "_law_even" (spEven K) := ⟨_, _, _, ok_law_even F15 TB, PySem.W.mg_of X G a15, k15, b15⟩
  have C__law_turned_about : Cg l.prog w K mg base 1 "_law_turned_about" (spAbout K) := ⟨_, _, _, ok_law_turned_about F16 TB, PySem.W.mg_of X G a16, k16, b16⟩
  exact ok_law F17 TB C__law_pen C__law_draw C__law_arrangement C__law_of_rounds C_rounds_of C__law_rounds C__law_turned_about C_behind C_undone C_again C_how_often C_is_even C__law_even
end T
open PySem PySem.W PyProof.Rows
set_option maxRecDepth 100000 in
set_option maxHeartbeats 0 in
theorem PySem.Challenge.cw_recutkeys_k03_rounds_of_arrangements_holds : PySem.Challenge.rw_recutkeys_k03_rounds_of_arrangements.Holds := by
  w_on; o_law; k_head; (case hw => w_witness2)
  k_fill
  refine RG.walk_G (l := PySem.Challenge.rw_recutkeys_k03_rounds_of_arrangements) (n := 63) (k := 4) (x := "script") (sp := fun K => T.spLaw K) rfl (by decide) rfl ⟨rfl, by decide, by decide⟩ (fun w h Y => PySem.W.kIn_of Y) ?F (fun K H a ns hl hS hH => ⟨a, ns, rfl, hS, hl, fun _ => rfl⟩)
  case F =>
    intro w mg fa h KX G hmg
    refine' T.all_mk KX G hmg ?a1 ?l1 ?c1 ?k1 ?a2 ?l2 ?c2 ?k2 ?a3 ?l3 ?c3 ?k3 ?a4 ?l4 ?c4 ?k4 ?a5 ?l5 ?c5 ?k5 ?a6 ?l6 ?c6 ?k6 ?a7 ?l7 ?c7 ?k7 ?a8 ?l8 ?c8 ?k8 ?a9 ?l9 ?c9 ?k9 ?a10 ?l10 ?c10 ?k10 ?a11 ?l11 ?c11 ?k11 ?a12 ?l12 ?c12 ?k12 ?a13 ?l13 ?c13 ?k13 ?a14 ?l14 ?c14 ?k14 ?a15 ?l15 ?c15 ?k15 ?a16 ?l16 ?c16 ?k16 ?a17 ?l17 ?c17 ?k17 ?z_isinstance ?z_int ?z_bool ?z_str ?z_tuple ?z_list ?z_dict ?z_set ?z_len ?z_all ?z_any ?z_sum ?z_abs ?z_range ?z_sorted ?z_min ?z_max ?z_repr ?z_zip ?z_enumerate ?z_reversed ?m_lcm
    (case a1 => k_is)
    (case l1 => k_is)
    (case c1 => k_is)
    (case k1 => k_is)
    (case a2 => k_is)
    (case l2 => k_is)
    (case c2 => k_is)
    (case k2 => k_is)
    (case a3 => k_is)
    (case l3 => k_is)
    (case c3 => k_is)
    (case k3 => k_is)
    (case a4 => k_is)
    (case l4 => k_is)
    (case c4 => k_is)
    (case k4 => k_is)
    (case a5 => k_is)
    (case l5 => k_is)
    (case c5 => k_is)
    (case k5 => k_is)
    (case a6 => k_is)
    (case l6 => k_is)
    (case c6 => k_is)
    (case k6 => k_is)
    (case a7 => k_is)
    (case l7 => k_is)
    (case c7 => k_is)
    (case k7 => k_is)
    (case a8 => k_is)
    (case l8 => k_is)
    (case c8 => k_is)
    (case k8 => k_is)
    (case a9 => k_is)
    (case l9 => k_is)
    (case c9 => k_is)
    (case k9 => k_is)
    (case a10 => k_is)
    (case l10 => k_is)
    (case c10 => k_is)
    (case k10 => k_is)
    (case a11 => k_is)
    (case l11 => k_is)
    (case c11 => k_is)
    (case k11 => k_is)
    (case a12 => k_is)
    (case l12 => k_is)
    (case c12 => k_is)
    (case k12 => k_is)
    (case a13 => k_is)
    (case l13 => k_is)
    (case c13 => k_is)
    (case k13 => k_is)
    (case a14 => k_is)
    (case l14 => k_is)
    (case c14 => k_is)
    (case k14 => k_is)
    (case a15 => k_is)
    (case l15 => k_is)
    (case c15 => k_is)
    (case k15 => k_is)
    (case a16 => k_is)
    (case l16 => k_is)
    (case c16 => k_is)
    (case k16 => k_is)
    (case a17 => k_is)
    (case l17 => k_is)
    (case c17 => k_is)
    (case k17 => k_is)
    (case z_isinstance => k_is)
    (case z_int => k_is)
    (case z_bool => k_is)
    (case z_str => k_is)
    (case z_tuple => k_is)
    (case z_list => k_is)
    (case z_dict => k_is)
    (case z_set => k_is)
    (case z_len => k_is)
    (case z_all => k_is)
    (case z_any => k_is)
    (case z_sum => k_is)
    (case z_abs => k_is)
    (case z_range => k_is)
    (case z_sorted => k_is)
    (case z_min => k_is)
    (case z_max => k_is)
    (case z_repr => k_is)
    (case z_zip => k_is)
    (case z_enumerate => k_is)
    (case z_reversed => k_is)
    (case m_lcm => k_is)
