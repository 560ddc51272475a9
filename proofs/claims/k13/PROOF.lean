import PyProof.Rows.All
import Wide.All
import OpenK.AllK
import Wide.FinOn
import HandS.ForMost
import HandS.SetBool
import PyProof.Rows.SortShellAny
import KE.GoesMore
import KE.GoesEnum
import HandS.Walk
import HandS.TupMul
import HandS.Codes
import HandS.IsInst
import HandS.Zip
import HandS.SortRule
import HandS.Deep
import KE.LtData
import HandS.TupAny
import PyProof.Rows.StrMeet
import PyProof.Rows.SortKeyStr
import HandS.DictComp
import HandS.DictTup
import HandS.Conv
import HandS.Style
import KE.KDictSum
import KE.KDictDisplayH
import HandS.ForExc
import HandS.ExcInit
import HandS.ExcOwn
import HandS.ExcField
import HandS.TryOnly
import PyProof.InstEq
import HandS.Base
import HandS.Call
import HandS.List
import HandS.ExcIs
import HandS.TupLe
import HandS.Steps
import PySem.Challenge.RW_untoldgames_k13_whole_halls_turned_joine
set_option Elab.async false
set_option linter.all false
set_option maxRecDepth 100000
set_option maxHeartbeats 4000000
/-! Sets of texts: what stands there, a text more, a comprehension that makes one, sorted of it. -/
namespace Nm
open PySem PySem.Spec PyProof.Rows L2
section
variable {P : Program} {w : World} {A : Around} {E : Value → Shared → Prop} {s : Shared} {a : Addr} {o : Obj}
/-- the end of an addition: the set is stored, and laid out anew if it is too full -/
theorem tailG {g : Bool → Sem Unit} (hg : ∀ (b : Bool) (z : Shared) (U : Unit → Shared → Prop), U () z → wpAny (model P w) A (g b) U E z)
    {es fs : Array (Int × Value)} {ep : Nat} {t u : SetTable} {dm : Bool} {R : Option Bool → Shared → Prop}
    (ho : s.heap.get? a = some o) (hd : o.data = .set es ep t) (hb : fs.size < scanBound) (hf : u.fits fs.size = true) (hr : Ris u.place.toList)
    (hR : ∀ h' (es' : Array (Int × Value)) (ep' : Nat) (t' : SetTable), Heap.SameBut a s.heap h' → h'.get? a = some { o with data := .set es' ep' t' } → es'.toList.Perm fs.toList → t'.fits es'.size = true →
      Ris t'.place.toList → t'.led = u.led → R (some true) { s with heap := h' }) :
    wpAny (model P w) A (do
        storeSet a fs u
        if (!dm && u.tooFull) = true then do
            g (relayAll u fs (SetTable.grown fs.size)).2.2
            storeSet a (relayAll u fs (SetTable.grown fs.size)).1 (relayAll u fs (SetTable.grown fs.size)).2.1
            pure (some true)
          else pure (some true)) R E s := by
  have at1 := store_at (es' := fs) (t' := u) ho hd
  have same1 := Heap.SameBut.update s.heap a (Obj.putSet fs u)
  refine wpAny_bind (wpAny_storeSet_of ho hd ?_ (fits_of_scanBound hb))
  split
  · have perm := relayAll_perm u fs (SetTable.grown fs.size)
    have fit3 := relayAll_fits u fs (SetTable.grown fs.size)
    have ris3 := relayAll_ris u fs (SetTable.grown fs.size)
    have led3 := relayAll_led u fs (SetTable.grown fs.size)
    generalize relayAll u fs (SetTable.grown fs.size) = Z at perm fit3 ris3 led3 ⊢
    obtain ⟨gs, v, gave⟩ := Z
    dsimp only at perm fit3 ris3 led3 ⊢
    have size3 : gs.size = fs.size := by
      have q := perm.length_eq
      rwa [Array.length_toList, Array.length_toList] at q
    refine wpAny_bind (hg _ _ _ ?_)
    refine wpAny_bind (wpAny_storeSet_of at1 rfl ?_ (fits_of_scanBound (by rw [size3]; exact hb)))
    have at3 := store_at (es' := gs) (t' := v) at1 rfl
    exact wpAny_pure (hR _ gs _ v (same1.trans (Heap.SameBut.update _ a _)) at3 perm fit3 ris3 led3)
  · exact wpAny_pure (hR _ fs _ u same1 at1 (List.Perm.refl _) hf hr rfl)
/-- a key is added whose hash is known: it is there, or it comes in -/
theorem addG {κ : Type} [DecidableEq κ] {knd : PySem.KeyKind P w κ} {k : κ} {x : Value} {es : Array (Int × Value)} {ep : Nat} {t : SetTable} {Q : Bool → Shared → Prop}
    (hk : knd.is k x = true) (hx : x.scannable = true) (ho : s.heap.get? a = some o) (hd : o.data = .set es ep t) (hel : ElemsOf knd es.toList) (hb : es.size + 1 < scanBound) (hf : t.fits es.size = true) (hr : Ris t.place.toList)
    (old : (∃ e ∈ es.toList, knd.is k e.2 = true) → Q false s)
    (new : (∀ e ∈ es.toList, knd.is k e.2 = false) → ∀ h' (es' : Array (Int × Value)) (ep' : Nat) (t' : SetTable), Heap.SameBut a s.heap h' → h'.get? a = some { o with data := .set es' ep' t' } →
      es'.toList.Perm ((knd.hash k, x) :: es.toList) → t'.fits es'.size = true → Ris t'.place.toList → t'.led = t.led → Q true { s with heap := h' }) :
    wpAny (model P w) A (setAddHashed a x (knd.hash k)) Q E s := by
  unfold setAddHashed setAddHashedIn
  refine wpAny_holding (wpAny_bind (wpAny_setState_of ho hd hf ?_))
  dsimp only
  rw [byScan_of hx (Nat.lt_of_succ_lt hb) hel]
  simp only [↓reduceIte]
  unfold setAddByScan
  refine wpAny_bind (wpAny_bind (wpAny_rule ?_))
  refine wpAny_bind (wpAny_setScan_of hk ho hd hf hel ?_)
  cases met : List.findIdx? (fun e => knd.is k e.2) es.toList with
  | some j =>
    dsimp only
    obtain ⟨hj, pj, _⟩ := List.findIdx?_eq_some_iff_getElem.mp met
    exact wpAny_pure (wpAny_pure (old ⟨_, List.getElem_mem hj, pj⟩))
  | none =>
    dsimp only
    have no : ∀ e ∈ es.toList, knd.is k e.2 = false := fun e he => List.findIdx?_eq_none_iff.mp met e he
    have gw : ∀ (b : Bool) {z : Shared} {U : Unit → Shared → Prop}, U () z → wpAny (model P w) A (match b with | true => rule "set.scan.the-table-gave-way" | false => pure ()) U E z := fun b z U q => by
      cases b
      · exact wpAny_pure q
      · exact wpAny_rule q
    have perm := layNew_perm t es (knd.hash k) x
    have fit1 := layNew_fits t es (knd.hash k) x
    have ris1 := layNew_ris t es (knd.hash k) x hr
    have led1 := layNew_led t es (knd.hash k) x
    generalize layNew t es (knd.hash k) x = Z at perm fit1 ris1 led1 ⊢
    obtain ⟨fs, u, dm, gave⟩ := Z
    dsimp only at perm fit1 ris1 led1 ⊢
    rw [Array.toList_push] at perm
    have pc : fs.toList.Perm ((knd.hash k, x) :: es.toList) := perm.trans (List.perm_append_singleton _ _)
    have size1 : fs.size < scanBound := by
      have q := pc.length_eq
      rw [List.length_cons, Array.length_toList, Array.length_toList] at q
      omega
    have fin : ∀ (u' : SetTable), u'.led = u.led → ∀ h' (es' : Array (Int × Value)) (ep' : Nat) (t' : SetTable), Heap.SameBut a s.heap h' → h'.get? a = some { o with data := .set es' ep' t' } → es'.toList.Perm fs.toList →
        t'.fits es'.size = true → Ris t'.place.toList → t'.led = u'.led → Q true { s with heap := h' } := fun u' e h' es' ep' t' sb g p f r l =>
      new no h' es' ep' t' sb g (p.trans pc) f r (l.trans (e.trans led1))
    refine wpAny_bind (gw _ ?_)
    split
    · refine wpAny_bind ?_
      rw [hashByValue_scannable 8 hx]
      refine wpAny_pure ?_
      refine tailG ?_ ho hd size1 ?_ ?_ ?_
      · intro b z U q
        cases b
        · exact wpAny_pure q
        · exact wpAny_rule q
      · first
          | exact fit1
          | (split <;> first | exact fit1 | exact SetTable.fits_plain_off fit1)
      · first
          | exact ris1
          | (split <;> exact ris1)
      · intro h' es' ep' t' sb g p f r l
        dsimp only
        refine wpAny_pure (fin _ ?_ h' es' ep' t' sb g p f r l)
        first
          | rfl
          | (split <;> rfl)
    · refine wpAny_bind (wpAny_pure ?_)
      simp only [↓reduceIte]
      refine tailG ?_ ho hd size1 fit1 ris1 ?_
      · intro b z U q
        cases b
        · exact wpAny_pure q
        · exact wpAny_rule q
      · intro h' es' ep' t' sb g p f r l
        dsimp only
        exact wpAny_pure (fin u rfl h' es' ep' t' sb g p f r l)
end
/-! ### a set of texts -/
def nm (e : Int × Value) : Str := match e.2 with | .str x _ => x | _ => Str.empty
def Tx (w : World) (e : Int × Value) : Prop := ∃ x t, e.2 = Value.str x t ∧ e.1 = hashStr w x
/-- the set at a has just the texts ks, each once -/
def Has (w : World) (h : Heap) (a : Addr) (ks : List Str) : Prop :=
  ∃ o es ep t, h.get? a = some o ∧ o.ExactSet ∧ o.data = .set es ep t ∧ (∀ e ∈ es.toList, Tx w e) ∧ (es.toList.map nm).Perm ks ∧ ks.Nodup ∧ ks.length < scanBound ∧ t.fits es.size = true ∧ Ris t.place.toList ∧
    (w.params.followText "set-order" = true ∨ t.led = true)
def plus (ks : List Str) (k : Str) : List Str := if k ∈ ks then ks else k :: ks
section
variable {P : Program} {w : World} {A : Around} {E : Value → Shared → Prop} {s : Shared} {a : Addr} {ks : List Str} {h h' : Heap}
theorem Has.at (R : Has w h a ks) (k : ∀ o, h.get? a = some o → h'.get? a = some o) : Has w h' a ks := by
  obtain ⟨o, es, ep, t, ho, r⟩ := R
  exact ⟨o, es, ep, t, k o ho, r⟩
theorem tx_elems {l : List (Int × Value)} (g : ∀ e ∈ l, Tx w e) : ElemsOf (strKind P w) l := fun e he => by
  obtain ⟨x, t, e1, e2⟩ := g e he
  refine ⟨⟨x, ?_, e2⟩, ?_⟩
  · rw [e1]
    exact strKind_is P w x t
  · rw [e1]
    rfl
theorem tx_is {e : Int × Value} (g : Tx w e) (k : Str) : (strKind P w).is k e.2 = true ↔ nm e = k := by
  obtain ⟨x, t, e1, _⟩ := g
  have n : nm e = x := by unfold nm; rw [e1]
  rw [n, e1]
  constructor
  · intro q
    exact (strKind P w).inj _ _ _ (strKind_is P w x t) q
  · intro q
    subst q
    exact strKind_is P w x t
theorem size_of {es : Array (Int × Value)} (p : (es.toList.map nm).Perm ks) : es.size = ks.length := by
  have q := p.length_eq
  rwa [List.length_map, Array.length_toList] at q
/-- one text more -/
theorem add_raw {k : Str} {tk : Tok} {Q : Value → Shared → Prop} (R : Has w s.heap a ks) (room : ks.length + 1 < scanBound)
    (hQ : ∀ h', Heap.SameBut a s.heap h' → Has w h' a (plus ks k) → Q .none { s with heap := h', toks := s.toks + 1 }) :
    wpAny (model P w) A (call (.builtin "set.add") [.ref a, .str k tk]) Q E s := by
  obtain ⟨o, es, ep, t, ho, hex, hd, g, pm, nd, hb, hf, hr, hl⟩ := R
  have hsz := size_of pm
  have hS : s.TypeIs (.ref a) "set" := ⟨o, ho, hex.1⟩
  refine wpAny_call_entry F.slot_set_add hS F.entry_set_add ?_ (F.args_set_add_2 _ _)
  unfold Builtin.«set.add» Builtin.Frozenset.oneOther
  simp only [List.isEmpty_nil, bind_assoc]
  unfold Builtin.Frozenset.addrOf setAdd
  refine wpAny_bind (wpAny_pure ?_)
  try dsimp only
  refine wpAny_bind (wpAny_pure ?_)
  try dsimp only
  refine wpAny_bind (wpAny_holding (wpAny_bind ((strKind P w).pyHash (strKind_is P w k tk) ?_)))
  have mem : (∃ e ∈ es.toList, (strKind P w).is k e.2 = true) ↔ k ∈ ks := by
    rw [← pm.mem_iff, List.mem_map]
    exact ⟨fun ⟨e, he, q⟩ => ⟨e, he, (tx_is (g e he) k).1 q⟩, fun ⟨e, he, q⟩ => ⟨e, he, (tx_is (g e he) k).2 q⟩⟩
  refine addG (knd := strKind P w) (s := { s with toks := s.toks + 1 }) (strKind_is P w k tk) rfl ho hd (tx_elems g) (by rw [hsz]; exact room) hf hr ?_ ?_
  · intro there
    have hk : k ∈ ks := mem.1 there
    have ek : plus ks k = ks := if_pos hk
    refine wpAny_pure ⟨_, rfl, hQ s.heap (Heap.SameBut.refl a s.heap) ?_⟩
    rw [ek]
    exact ⟨o, es, ep, t, ho, hex, hd, g, pm, nd, hb, hf, hr, hl⟩
  · intro no h' es' ep' t' sb ho' p f r l
    have hk : k ∉ ks := fun z => by
      obtain ⟨e, he, q⟩ := mem.2 z
      rw [no e he] at q
      cases q
    have ek : plus ks k = k :: ks := if_neg hk
    refine wpAny_pure ⟨_, rfl, hQ h' sb ?_⟩
    rw [ek]
    refine ⟨_, es', ep', t', ho', hex, rfl, fun e he => ?_, ?_, List.nodup_cons.mpr ⟨hk, nd⟩, room, f, r, hl.imp id fun z => l.trans z⟩
    · rcases List.mem_cons.mp (p.mem_iff.mp he) with z | z
      · rw [z]
        exact ⟨k, tk, rfl, rfl⟩
      · exact g e z
    · exact (p.map nm).trans (pm.cons k)
theorem has_fresh {h : Heap} (w : World) : Has w (h.push { cls := .type "set", dict := none, data := .set #[] 0 (.fresh 0 0 (!w.params.followText "set-order")) }) h.objs.size [] := by
  refine ⟨_, #[], 0, _, Heap.get?_push_size _ rfl, ⟨rfl, rfl, rfl⟩, rfl, (fun e he => by simp at he), List.Perm.refl _, List.nodup_nil, by decide, by rfl, List.Pairwise.nil, ?_⟩
  show _ ∨ (!w.params.followText "set-order") = true
  cases w.params.followText "set-order" with
  | false => exact .inr rfl
  | true => exact .inl rfl
end
/-- a set of texts as a tracked thing -/
def TxO (w : World) (a : Addr) (ks : List Str) : HO := .ext fun h => Has w h a ks
theorem txO_new {w : World} {P : Program} {H : Hp} {h : Heap} {a : Addr} {ks : List Str} (R : Has w h a ks) : ObjOk P w H h a (TxO w a ks) := by
  have ⟨o, _, _, _, ho, _⟩ := R
  exact ⟨R, ⟨o, ho⟩, fun h1 h2 p k => Has.at p k⟩
section
variable {X : Cx}
theorem txO_get {pins : List (Addr × Obj)} {σ : L2.St} {H : Hp} {s : Shared} {a : Addr} {ks : List Str} (I : Inv X pins σ H s) (ha : H a = some (TxO X.w a ks)) : Has X.w s.heap a ks := (I.hok a _ ha).1
theorem add_ok {pins : List (Addr × Obj)} {σ : L2.St} {H : Hp} {s : Shared} {E : Value → Shared → Prop} {D : Addr} {ks : List Str} {k : Str} {tk : Tok} {Q : Value → Shared → Prop} (I : Inv X pins σ H s) (hD : H D = some (TxO X.w D ks)) (room : ks.length + 1 < scanBound)
    (q : ∀ s', Inv X pins σ (upd H D (TxO X.w D (plus ks k))) s' → Q .none s') : wpAny (model X.prog X.w) X.A (call (.builtin "set.add") [.ref D, .str k tk]) Q E s := by
  refine add_raw (txO_get I hD) room fun h' sb new => ?_
  have there : ∃ u, h'.get? D = some u := by
    obtain ⟨o, _, _, _, ho, _⟩ := new
    exact ⟨o, ho⟩
  exact q _ (I.write (e := D) (t' := s.toks + 1) (by rw [hD]; trivial) (.inl rfl) (fun b u hb hu => (sb.2 b hb).trans hu) there (txO_new new))
/-! ### sorted of it -/
def rSortTx (w : World) : List V → Hp → VK → Prop := fun vs H Q => ∃ (a : Addr) (ks : List Str), vs = [V.ref a] ∧ H a = some (TxO w a ks) ∧ ks.length < 64 ∧
  ∀ (ys : List Str) (p : Addr), ys.Perm ks → sortedS ys = true → H p = none → Q (.ref p) (upd H p (.lst (ys.map V.str)))
end
/-- all of them, each once -/
def gathered (xs : List Str) : List Str := xs.foldl plus []
theorem plus_mem {ks : List Str} {k x : Str} : x ∈ plus ks k ↔ x = k ∨ x ∈ ks := by
  unfold plus
  by_cases h : k ∈ ks
  · rw [if_pos h]
    exact ⟨.inr, fun z => z.elim (fun e => e ▸ h) id⟩
  · rw [if_neg h, List.mem_cons]
theorem plus_nd {ks : List Str} {k : Str} (nd : ks.Nodup) : (plus ks k).Nodup := by
  unfold plus
  by_cases h : k ∈ ks
  · rw [if_pos h]
    exact nd
  · rw [if_neg h]
    exact List.nodup_cons.mpr ⟨h, nd⟩
theorem plus_len (ks : List Str) (k : Str) : (plus ks k).length ≤ ks.length + 1 := by
  unfold plus
  by_cases h : k ∈ ks
  · rw [if_pos h]
    exact Nat.le_succ _
  · rw [if_neg h]
    exact Nat.le_refl _
theorem fold_facts : ∀ (xs ks : List Str), ks.Nodup → (xs.foldl plus ks).Nodup ∧ (∀ x, x ∈ xs.foldl plus ks ↔ x ∈ xs ∨ x ∈ ks) ∧ (xs.foldl plus ks).length ≤ ks.length + xs.length
  | [], ks, nd => ⟨nd, fun x => by simp, by simp⟩
  | k :: xs, ks, nd => by
    obtain ⟨h1, h2, h3⟩ := fold_facts xs (plus ks k) (plus_nd nd)
    refine ⟨h1, fun x => ?_, ?_⟩
    · rw [List.foldl_cons, h2 x, plus_mem, List.mem_cons]
      constructor
      · rintro (h | h | h)
        · exact .inl (.inr h)
        · exact .inl (.inl h)
        · exact .inr h
      · rintro ((h | h) | h)
        · exact .inr (.inl h)
        · exact .inl h
        · exact .inr (.inr h)
    · rw [List.foldl_cons, List.length_cons]
      have := plus_len ks k
      omega
theorem gathered_facts (xs : List Str) : (gathered xs).Nodup ∧ (∀ x, x ∈ gathered xs ↔ x ∈ xs) ∧ (gathered xs).length ≤ xs.length := by
  obtain ⟨h1, h2, h3⟩ := fold_facts xs [] List.nodup_nil
  refine ⟨h1, fun x => ?_, ?_⟩
  · show x ∈ xs.foldl plus [] ↔ _
    rw [h2 x]
    simp
  · show (xs.foldl plus []).length ≤ xs.length
    simpa using h3
theorem gathered_snoc (xs : List Str) (k : Str) : gathered (xs ++ [k]) = plus (gathered xs) k := by
  unfold gathered
  rw [List.foldl_append]
  rfl
end Nm
namespace Nm
open PySem PySem.Spec PyProof.Rows L2
section
variable {P : Program} {w : World} {A : Around} {E : Value → Shared → Prop} {s : Shared} {a : Addr}
theorem strs_of : ∀ (l : List Value) (ks : List Str), Paired (fun v k => ∃ t, v = Value.str k t) l ks → StrsAre l ks
  | _, _, .nil => .nil
  | _, _, .cons h r => by
    obtain ⟨t, e⟩ := h
    subst e
    exact .cons _ t (strs_of _ _ r)
def tx (v : Value) : Str := match v with | .str x _ => x | _ => Str.empty
theorem strs_tx : ∀ (l : List Value), (∀ v ∈ l, ∃ x t, v = Value.str x t) → StrsAre l (l.map tx)
  | [], _ => .nil
  | v :: l, h => by
    obtain ⟨x, t, e⟩ := h v List.mem_cons_self
    subst e
    exact .cons x t (strs_tx l fun u hu => h u (List.mem_cons_of_mem _ hu))
theorem sorted_raw {ks : List Str} {Q : Value → Shared → Prop} (R : Has w s.heap a ks) (hh : A.handled = none)
    (hQ : ∀ s' p (out : Array Value) (c : Nat) (ys : List Str), (∀ b o, s.heap.get? b = some o → s'.heap.get? b = some o) → s'.gens = s.gens → s'.os = s.os → s.heap.objs.size ≤ p →
      s'.heap.get? p = some (seqObj "list" out c) → StrsAre out.toList ys → ys.Perm ks → sortedS ys = true → Q (.ref p) s') :
    wpAny (model P w) A (call (.builtin "sorted") [.ref a]) Q E s := by
  obtain ⟨o, es, ep, t, ho, hex, hd, g, pm, nd, hb, hf, hr, hl⟩ := R
  have hsz := size_of pm
  refine Calls.call_function_entry kind_sorted plain_sorted entry_sorted (args_sorted1 _) ?_
  unfold Builtin.«sorted»
  refine wpAny_bind (m := checkCount "sorted" 1 1 _) (wpAny_pure ?_)
  refine wpAny_bind (collect_set (A := A.in1) hh ⟨o, ho, hex.1, hd⟩ hf (by rw [hsz]; exact hb) hr hl fun s1 vs k1 hz g1 o1 q => ?_)
  have len : vs.length ≤ sizeLine := by
    have z : vs.length = es.size := by rw [q.length_eq, List.length_map, Array.length_toList]
    rw [z, hsz]
    exact fits_of_scanBound hb
  have hS : StrsAre vs (vs.map tx) := strs_tx vs fun v hv => by
    obtain ⟨e, he, z⟩ := List.mem_map.mp (q.mem_iff.mp hv)
    obtain ⟨x, tk, h1, _⟩ := g e he
    exact ⟨x, tk, by rw [← z]; exact h1⟩
  have pk : (vs.map tx).Perm ks := by
    have z := q.map tx
    rw [List.map_map] at z
    exact z.trans pm
  refine wpAny_bind (wpAny_newList ?_ len)
  have hoL : (s1.heap.push (seqObj "list" vs.toArray 0)).get? s1.heap.objs.size = some (seqObj "list" vs.toArray 0) := Heap.get?_push_size _ rfl
  refine wpAny_bind (wpAny_holding (wpAny_call_entry slot_list_sort ⟨_, hoL, rfl⟩ entry_list_sort
    (list_sort_treeKAny strKind_oneLt hoL hS.keysOf (fun v₁ v₂ rest e => keyKind_strs (by rw [← e]; exact hS)) len fun st' hp hs => ?_) (args_list_sort _)))
  obtain ⟨ys, b1, b2, b3⟩ := sorted_out_str hS hp hs
  obtain ⟨c, hc⟩ := sortedHeap_at (vs := vs) (out := (arrOf st').map (·.2)) hoL
  refine ⟨_, rfl, wpAny_pure ⟨_, rfl, hQ _ s1.heap.objs.size _ c ys (fun b u e => ?_) g1 o1 hz hc b1 (b2.trans pk) b3⟩⟩
  have z := k1 b u e
  have lt := Heap.lt_size z
  show (sortedHeap (s1.heap.push (seqObj "list" vs.toArray 0)) s1.heap.objs.size vs ((arrOf st').map (·.2))).get? b = some u
  rw [sortedHeap_old (Nat.ne_of_lt lt) (by rw [size_push']; exact Nat.lt_succ_of_lt lt)]
  exact Heap.get?_push_of_some _ z
end
section
variable {X : Cx}
theorem cr_sortTx (hc : X.calm = true) : CallR X (.builtin "sorted") (rSortTx X.w) := by
  intro pins s σ H vs us Q I r h
  obtain ⟨a, ks, rfl, ha, h64, q⟩ := h
  rw [Vals.ref1 r]
  refine sorted_raw (txO_get I ha) (I.ok.hd hc) fun s' p out c ys k g o hp hg hS pm so => ?_
  have len : (ys.map V.str).length ≤ sizeLine := by
    rw [List.length_map, pm.length_eq]
    exact small64 h64
  have hn : H p = none := I.hok.fresh hp
  have J : Inv X pins σ (upd H p (.lst (ys.map V.str))) { s with heap := s'.heap, gens := s'.gens, drawn := s'.drawn, toks := s'.toks } :=
    I.call (ch := []) (Un.laid k hp hn) (I.hok.laid k hp ⟨len, out.toList, c, vals_of_strs hS, hg⟩) (by rw [g]; exact I.bare) (fun _ z => nomatch z)
  have e : s' = { s with heap := s'.heap, gens := s'.gens, drawn := s'.drawn, toks := s'.toks } := by
    cases s'
    cases s
    cases o
    rfl
  rw [e]
  exact ⟨.ref p, _, J, rfl, q ys p pm so hn⟩
end
end Nm
namespace Nm
open PySem PySem.Spec PyProof.Rows L2
section
variable {X : Cx}
/-- what a set display by a walk asks, its element being a text -/
def tNm (w : World) (wi : TI) (g : TG) (te : TE) (vs : List Nat) : TE := fun σ H Q => wi σ H fun J H1 => ∀ D, H1 D = none → ∃ W : Nat → Nat → Hp → Prop,
  (∃ m, W 0 m (upd H1 D (TxO w D []))) ∧ ∀ i m H, W i m H → (J.stop i H ∧ Q (.ref D) H) ∨ (J.go i H ∧ ∃ Nx : Hp → Prop, (∀ H', Nx H' → ∃ m', m' < m ∧ W (i + 1) m' H') ∧
    ∀ x H', J.yld i H x H' → g x (wipe σ vs) H' fun σ2 H2 => wipe σ2 vs = wipe σ vs ∧ te σ2 H2 fun y H4 =>
      ∃ (c : Str) (ks : List Str), y = .str c ∧ H4 D = some (TxO w D ks) ∧ ks.length + 1 < scanBound ∧ Nx (upd H4 D (TxO w D (plus ks c))))
/-- a new set as the model makes it -/
abbrev setObj (X : Cx) : Obj := { cls := .type "set", dict := none, data := .set #[] 0 (.fresh 0 0 (!X.w.params.followText "set-order")) }
theorem pe_nm {elt tg iter : Expr} {scope : Scope} {own : List (PySem.Str × Nat)} {pos : Pos} {wi : TI} {g : TG} {te : TE} (hc : X.calm = true) (hN : X.N.Nodup) (hi : PI X tg iter wi) (ok : BlkOk X.N X.env.scope scope own)
    (hg : ∀ (s : Shared) (H : Hp) (C : Addr) (cl : List (PySem.Str × Addr)) (fp : List Addr), PG (X.blk s H scope (compEnvC scope cl C X.env) fp) tg g)
    (he : ∀ (s : Shared) (H : Hp) (C : Addr) (cl : List (PySem.Str × Addr)) (fp : List Addr), PE (X.blk s H scope (compEnvC scope cl C X.env) fp) elt te)
    (hs : ∀ x, foldedSetIterable iter X.env x = pure x := by intro _; rfl) : PE X (.SetComp elt [⟨tg, iter, [], 0⟩] scope pos) (tNm X.w wi g te (own.map (·.2))) := by
  refine ⟨fun pins s σ H Q I h => ?_⟩
  rw [PpSet.eval_SetComp]
  have closed : ∀ y ∈ scope.names, y.2 = .free → ∃ c, X.env.cells.lookup y.1 = some c := fun y hy e => (ok.free y hy e).elim (fun k => I.ok.has _ (.inl k)) fun k => I.ok.has _ (.inr k)
  refine wpAny_comprehension_free (use := none) rfl hs (closure_ok closed) ok.kind (fun y hy e => by rw [ok.uniq y hy, e]) (thn (hi.run pins s σ H _ I h) fun xv s1 hx => thn hx fun itv s2 h2 => ?_)
  obtain ⟨it, fp, tn, J, H2, e, I2, T, st2, f2, q⟩ := h2
  subst e
  refine PpSet.newSet_ok (newEnv_comp ?_)
  generalize hD : s2.heap.objs.size = D
  have hDn : H2 D = none := I2.hok.fresh (Nat.le_of_eq hD)
  obtain ⟨W, ⟨m0, w0⟩, turn⟩ := q D hDn
  generalize hs3 : ({ s2 with heap := s2.heap.push (setObj X) } : Shared) = s3
  have h3 : s3.heap = s2.heap.push (setObj X) := by rw [← hs3]
  generalize hH3 : upd H2 D (TxO X.w D []) = H3 at w0
  have I3 : Inv X pins σ H3 s3 := by
    rw [← hs3, ← hH3]
    refine I2.laid (t' := s2.toks) (fun b o e => Heap.get?_push_of_some _ e) (Nat.le_of_eq hD) ?_
    rw [← hD]
    exact txO_new (has_fresh X.w)
  have below : ∀ b ∈ fp, b < s2.heap.objs.size := fun b hb => by
    obtain ⟨o, e, _⟩ := T.obj _ _ st2 b hb
    exact Heap.lt_size e
  have f3 : ∀ b ∈ fp, FpOk X pins H3 b ∧ b < s3.heap.objs.size := fun b hb => by
    have lt := below b hb
    have ne : b ≠ D := by rw [← hD]; exact Nat.ne_of_lt lt
    refine ⟨⟨?_, (f2 b hb).2⟩, by rw [h3, Heap.size_push]; exact Nat.lt_succ_of_lt lt⟩
    rw [← hH3, upd_ne ne]
    exact (f2 b hb).1
  have st3 : tn 0 s3.heap := T.keep _ _ _ st2 fun b _ o e => by rw [h3]; exact Heap.get?_push_of_some _ e
  have I4 := block_start I3 ok hN f3
  generalize hcl : cellsFrom (s3.heap.objs.size + 1) scope.names (cloFrom X.env.cells scope.names []) = cl at I4
  have pg := hg s3 H3 s3.heap.objs.size cl fp
  have pe := he s3 H3 s3.heap.objs.size cl fp
  have goal : codeAny (model X.prog X.w) X.A (.compStart (.SetComp elt [⟨tg, iter, [], 0⟩] scope pos) 0 (.ref it) (.ref D) (compEnvC scope cl s3.heap.objs.size X.env))
      (compPost (model X.prog X.w) X.A X.xe none (EP X pins σ Q) (.ref D) s3.heap.objs.size) { s3 with heap := pushCells (s3.heap.push { cls := .type "dict", data := .dict #[] }) scope.names } := by
    have free3 : ∀ b ∈ fp, H3 b = none := fun b hb => (f3 b hb).1.1
    generalize hce : compEnvC scope cl s3.heap.objs.size X.env = ce at I4 pg pe ⊢
    have locals : ce.locals = s3.heap.objs.size := by subst hce; rfl
    generalize hs4 : ({ s3 with heap := pushCells (s3.heap.push { cls := .type "dict", data := .dict #[] }) scope.names } : Shared) = s4 at I4 ⊢
    have st4 : tn 0 s4.heap := T.keep _ _ _ st3 fun b _ o e => by rw [← hs4]; exact pushCells_keeps _ _ _ _ (Heap.get?_push_of_some _ e)
    have stat : ∀ {σ' : L2.St} {H' : Hp} {s' : Shared}, Inv (X.blk s3 H3 scope ce fp) [] σ' H' s' → (∀ b ∈ fp, H' b = none) → ∀ b ∈ fp, FpOk (X.blk s3 H3 scope ce fp) [] H' b := fun {σ' H' s'} I' hn b hb =>
      ⟨hn b hb, (I'.ok.exf b hb).1, I'.ok.exfs b hb, .inl hb, fun x c e => (I'.ok.exf b hb).2 x c e, fun p hp => absurd (show p ∈ ([] : List (Addr × Obj)) ++ [] from hp) (by simp)⟩
    have loop : codeAny (model X.prog X.w) X.A (.compLoop (.SetComp elt [⟨tg, iter, [], 0⟩] scope pos) 0 (.ref it) (.ref D) ce) (compPost (model X.prog X.w) X.A X.xe none (EP X pins σ Q) (.ref D) s3.heap.objs.size) s4 := by
      refine PpSet.compLoopS_any (fun n s' => ∃ i H', Inv (X.blk s3 H3 scope ce fp) [] (wipe σ (own.map (·.2))) H' s' ∧ tn i s'.heap ∧ (∀ b ∈ fp, H' b = none) ∧ W i n H') ?_ m0 ⟨0, H3, I4, st4, free3, w0⟩
      rintro n s5 ⟨i, H5, I5, st5, n5, w5⟩
      rcases turn i n H5 w5 with ⟨stop, qq⟩ | ⟨go, Nx, hNx, step⟩
      · refine thnF (T.done (X.blk s3 H3 scope ce fp) rfl rfl rfl hc i [] s5 _ H5 (fun _ _ => False) I5 (stat I5 n5) st5 stop) fun r s6 ⟨hr, I6⟩ => ?_
        subst hr
        have I7 : Inv X pins σ H5 s6 := I3.call' (ch := fp) I6.os I6.base I6.hok I6.bare fun b hb => by
          have z := (f3 b hb).1
          exact ⟨z.2.2.2.1, z.2.1, z.2.2.2.2.1, z.2.2.2.2.2⟩
        have nC : H5 s3.heap.objs.size = none := by
          rw [← locals]
          exact I6.free
        obtain ⟨m, hn, _⟩ := I6.loc
        have hn' : s6.heap.Ns s3.heap.objs.size m := by
          rw [← locals]
          exact hn
        refine ⟨m, hn', fun h'' sb => ?_⟩
        obtain ⟨z0, z1, z2, z3, z4, z5⟩ := I3.fpOk (Nat.le_refl _) nC
        exact ⟨.ref D, H5, I7.turned (t' := s6.toks) (fun b o hb e => (sb.2 b hb).trans e) z0 z1 z3 z4 z5, rfl, qq⟩
      · refine thnF (T.item (X.blk s3 H3 scope ce fp) rfl rfl rfl hc i [] s5 _ H5 (fun _ _ => False) I5 (stat I5 n5) st5 go) fun r s6 ⟨u, hr, h6⟩ => ?_
        subst hr
        refine thnF h6 fun _ s7 ⟨x, H7, I7, r7, y7, st7, n7⟩ => ?_
        have I7' := I7.pinned (stat I7 n7) (T.obj _ _ st7)
        refine thnF (pg.run _ s7 _ H7 x u _ I7' r7 (step x H7 y7)) fun _ s8 ⟨σ8, H8, I8, hw8, q8⟩ => ?_
        refine wpAny_pure ?_
        rw [if_pos rfl]
        refine thnF (pe.run _ s8 σ8 H8 _ I8 q8) fun z s10 ⟨yv, H10, I10, r10, c, ks, ey, hD10, room, nx⟩ => ?_
        subst ey
        obtain ⟨tk, ez⟩ := (show ∃ t, z = Value.str c t from r10)
        subst ez
        refine add_ok (X := X.blk s3 H3 scope ce fp) I10 hD10 room fun s11 I11 => ?_
        obtain ⟨m', hm, w'⟩ := hNx _ nx
        have pin' : ∀ b ∈ fp, ∀ o, s7.heap.get? b = some o → s11.heap.get? b = some o ∧ upd H10 D (TxO (X.blk s3 H3 scope ce fp).w D (plus ks c)) b = none := fun b hb o e =>
          let z := I11.pin (b, o) (List.mem_append_right _ (List.mem_append_right _ (mem_pinsAt hb e)))
          ⟨z.1, z.2.1⟩
        have len : (wipe σ (own.map (·.2))).length = σ8.length := by rw [← hw8, wipe_length]
        refine ⟨m', hm, i + 1, _, (I11.unpinned (pins := [])).weak len (fun j v e => ?_), T.keep _ _ _ st7 fun b hb o e => (pin' b hb o e).1, fun b hb => ?_, w'⟩
        · rw [← hw8] at e
          exact (wipe_some e).1
        · obtain ⟨o, e, _⟩ := T.obj _ _ st7 b hb
          exact (pin' b hb o e).2
    exact PpSet.codeAny_compStart_set loop (T.self X.A 0 _ _ _ st4 loop)
  exact goal
/-- over a tuple that stands still -/
theorem nm_tup {w : World} {K : PySem.W.Frag} {a : Addr} {xs : List V} {g : TG} {te : TE} {vs : List Nat} {σ : L2.St} {H1 : Hp} {D : Addr} {Qd : Hp → Prop} (Pv : Nat → Hp → Prop) (h0 : Pv 0 (upd H1 D (TxO w D [])))
    (hl : ∀ i H, i ≤ xs.length → Pv i H → SqT K H a xs)
    (hs : ∀ i x H, xs[i]? = some x → Pv i H → g x (wipe σ vs) H fun σ2 H2 => wipe σ2 vs = wipe σ vs ∧ te σ2 H2 fun y H4 =>
      ∃ (c : Str) (ks : List Str), y = .str c ∧ H4 D = some (TxO w D ks) ∧ ks.length + 1 < scanBound ∧ Pv (i + 1) (upd H4 D (TxO w D (plus ks c)))) (hd : ∀ H, Pv xs.length H → Qd H) :
    ∃ W : Nat → Nat → Hp → Prop, (∃ m, W 0 m (upd H1 D (TxO w D []))) ∧ ∀ i m H, W i m H → ((Itt K a).stop i H ∧ Qd H) ∨ ((Itt K a).go i H ∧ ∃ Nx : Hp → Prop, (∀ H', Nx H' → ∃ m', m' < m ∧ W (i + 1) m' H') ∧
      ∀ x H', (Itt K a).yld i H x H' → g x (wipe σ vs) H' fun σ2 H2 => wipe σ2 vs = wipe σ vs ∧ te σ2 H2 fun y H4 =>
        ∃ (c : Str) (ks : List Str), y = .str c ∧ H4 D = some (TxO w D ks) ∧ ks.length + 1 < scanBound ∧ Nx (upd H4 D (TxO w D (plus ks c)))) := by
  refine ⟨fun i m H => m = xs.length - i ∧ i ≤ xs.length ∧ Pv i H, ⟨xs.length, by simp, Nat.zero_le _, h0⟩, ?_⟩
  rintro i m H ⟨rfl, hi, p⟩
  have q := hl i H hi p
  rcases Nat.lt_or_ge i xs.length with lt | ge
  · refine .inr ⟨⟨xs, xs[i], q, by simp [lt]⟩, Pv (i + 1), fun H' p' => ⟨xs.length - (i + 1), by omega, rfl, lt, p'⟩, fun x H' y => ?_⟩
    obtain ⟨e, y⟩ := y
    subst e
    exact hs i x _ (y xs q) p
  · have e : i = xs.length := by omega
    subst e
    exact .inl ⟨⟨xs, q, Nat.le_refl _⟩, hd H p⟩
end
end Nm
namespace Nm
open PySem PySem.Spec PyProof.Rows L2
open Sem (wp)
abbrev enumObj (it : Addr) : Obj := { cls := .type "enumerate", data := .fields #[.none, .bool false, .ref it, rawInt 0, .none, .none] }
theorem meets_enum1 {v : Value} {o : Obj} {G : Heap → Prop} (B : Begins v o G) :
    Meets (Builtin.«enumerate.__new__» ⟨[.type "enumerate", v], []⟩) (fun _ R s => G s.heap ∧ R (.ok (.ret (.ref (s.heap.push o).objs.size))) { s with heap := (s.heap.push o).push (enumObj s.heap.objs.size) }) :=
  .of_wp fun prog w A R s h => by
    obtain ⟨hp, g, d, tk, os⟩ := s
    obtain ⟨h1, h⟩ := h
    have sub := sub_enumerate
    have begins : ∀ {A' : Around} {E : Value → Shared → Prop} {Q : Value → Shared → Prop}, Q (.ref hp.objs.size) ⟨hp.push o, g, d, tk, os⟩ → wpAny (model prog w) A' (pyIter v) Q E ⟨hp, g, d, tk, os⟩ := fun q => B.iter prog w _ _ ⟨hp, g, d, tk, os⟩ _ h1 q
    wp_walk
    refine wpAny_stack_any fun st => wpAny_pure ?_
    split
    · rename_i c _ _ _ _ _
      cases (c == Value.type "enumerate") <;> (wp_walk using begins; exact ⟨_, rfl, h⟩)
    · wp_walk using begins
      exact ⟨_, rfl, h⟩
section
variable {prog : Program} {w : World} {A : Around} {E : Value → Shared → Prop} {s : Shared}
theorem call_enum1 {v : Value} {o : Obj} {G : Heap → Prop} {Q : Value → Shared → Prop} (B : Begins v o G) (h1 : G s.heap)
    (h : ∀ h', IsEnum h' (s.heap.objs.size + 1) s.heap.objs.size 0 .none → h'.get? s.heap.objs.size = some o → h'.objs.size = s.heap.objs.size + 2 → (∀ b u, s.heap.get? b = some u → h'.get? b = some u) →
      Q (.ref (s.heap.objs.size + 1)) { s with heap := h' }) : wpAny (model prog w) A (call (.type "enumerate") [v]) Q E s := by
  have one : (s.heap.push o).objs.size = s.heap.objs.size + 1 := Heap.size_push ..
  have made : IsEnum ((s.heap.push o).push (enumObj s.heap.objs.size)) (s.heap.objs.size + 1) s.heap.objs.size 0 .none := by
    have q := Heap.get?_push_size (s.heap.push o) (o := enumObj s.heap.objs.size) rfl
    rw [one] at q
    exact q
  refine callType_new F.called_enumerate (by decide) (F.typeCall_enumerate_1 _) (F.newCall_enumerate_1 _) (fun obj => F.args_object_init_2 obj _) F.entry_enumerate_new (meets_enum1 B) ⟨h1, ?_⟩
  show _ ∧ _
  rw [one]
  exact ⟨⟨_, made, rfl⟩, h _ made (Heap.get?_push_of_some _ (Heap.get?_push_size _ B.free)) (by rw [Heap.size_push, one]) fun b u x => Heap.get?_push_of_some _ (Heap.get?_push_of_some _ x)⟩
end
/-- enumerate of a tuple that stands still: each item in a new pair -/
def Itu (K : PySem.W.Frag) (a : Addr) : It :=
  ⟨fun i H => ∃ (xs : List V) (x : V), SqT K H a xs ∧ xs[i]? = some x,
   fun i H v H' => ∃ T x, v = .ref T ∧ H T = none ∧ H' = upd H T (.tup [.int (i : Nat), x]) ∧ ∀ xs, SqT K H a xs → xs[i]? = some x,
   fun i H => ∃ xs : List V, SqT K H a xs ∧ xs.length ≤ i⟩
theorem turn_itu {P : Program} {w : World} {K : PySem.W.Frag} {elts : List Expr} {kk : Nat} {tpos : Pos} (a e it : Addr) (hei : e ≠ it) (hea : e ≠ a) (hia : a ≠ it) :
    Turn P w K (.Tuple elts kk tpos) (Itu K a) [e, it] e (fun i h => (∃ old, IsEnum h e it ((i : Nat) : Int) old) ∧ h.IsTupleIter it a i) where
  mem := by simp
  obj := fun i h st b hb => by
    obtain ⟨⟨old, he⟩, ⟨o, ho, hc, hd⟩⟩ := st
    rcases (show b = e ∨ b = it by simpa using hb) with z | z
    · rw [z]
      exact ⟨_, he, fun v q => nomatch q⟩
    · rw [z]
      exact ⟨o, ho, fun v q => by rw [hd] at q; cases q⟩
  keep := fun i h h' st k => ⟨st.1.imp fun old he => k e (by simp) _ he, st.2.at fun o q => k it (by simp) o q⟩
  item := by
    intro X hP hw hK hc i pins s σ H E I hf st hg
    subst hP hw hK
    obtain ⟨⟨old, he⟩, hit⟩ := st
    obtain ⟨xs, x, hq, hx⟩ := hg
    obtain ⟨its, rv, p, hz⟩ := I.tuple hq
    obtain ⟨u, hu, ru⟩ := rv.get hx
    have lte : e < s.heap.objs.size := Heap.lt_size he
    have lti : it < s.heap.objs.size := by
      obtain ⟨_, q, _⟩ := hit
      exact Heap.lt_size q
    have li : i < its.toArray.size := by
      have q := (List.getElem?_eq_some_iff.mp hu).1
      simpa using q
    refine wpAny_pyNext_enum_itemD (Draws.tuple (A := X.A.in1) (I.ok.hd hc) it a hia its.toArray) he ⟨hit, p⟩ li hei (by simp [hei, hea]) fun y h' tk hy ho hst' hT hsz hk => ?_
    have ey : y = u := by
      rw [show its.toArray[i]? = some u by simpa using hu] at hy
      exact (Option.some.inj hy).symm
    subst ey
    refine ⟨_, rfl, wpAny_letOwnedTupleGo_enum (s := { s with heap := h', toks := tk + 1 }) ho fun h'' he' sb => ?_⟩
    have hT2 : h''.get? s.heap.objs.size = some { cls := .type "tuple", data := .seq #[.int i tk, y] } := (sb.2 _ (Nat.ne_of_gt lte)).trans hT
    have new : ObjOk X.prog X.w (upd H s.heap.objs.size (.tup [.int (i : Nat), x])) h'' s.heap.objs.size (.tup [.int (i : Nat), x]) :=
      ⟨by show 2 ≤ sizeLine; decide, [.int i tk, y], .cons ⟨_, rfl⟩ (.cons ru .nil), ⟨_, hT2, rfl, _, rfl⟩⟩
    have I1 : Inv X pins σ (upd H s.heap.objs.size (.tup [.int (i : Nat), x])) { s with heap := h'', toks := tk + 1 } :=
      I.turnedNew (ch := [e, it]) (fun b ob hb q => (sb.2 b (fun z => hb (by simp [z]))).trans (hk b ob (fun z => hb (by simp [z])) (fun z => hb (by simp [z])) q)) hf (Nat.le_refl _) new
    refine ⟨.ref s.heap.objs.size, _, I1, rfl, ⟨_, x, rfl, I.hok.fresh (Nat.le_refl _), rfl, fun ys hys => by rw [I.tuple_inj hys hq]; exact hx⟩, ⟨⟨y, ?_⟩, hst'.1.at fun o q => (sb.2 it (Ne.symm hei)).trans q⟩, fun b hb => ?_⟩
    · rw [show ((i + 1 : Nat) : Int) = (i : Int) + 1 by omega]
      exact he'
    · have lt : b < s.heap.objs.size := by
        rcases (show b = e ∨ b = it by simpa using hb) with z | z
        · rw [z]; exact lte
        · rw [z]; exact lti
      rw [upd_ne (Nat.ne_of_lt lt)]
      exact (hf b hb).1
  done := by
    intro X hP hw hK hc i pins s σ H E I hf st hg
    subst hP hw hK
    obtain ⟨⟨old, he⟩, hit⟩ := st
    obtain ⟨xs, hq, hx⟩ := hg
    obtain ⟨its, rv, p, hz⟩ := I.tuple hq
    obtain ⟨f0, f1, f2, f3, f4, f5⟩ := hf it (by simp)
    have hl := rv.length
    have D : Draws X.prog X.w X.A.in1 it [it, a] i (fun _ _ => True) (fun j h => j = i ∧ h.IsTupleIter it a j ∧ h.IsTuple a its.toArray) := by
      have T := Draws.tuple (prog := X.prog) (w := X.w) (A := X.A.in1) (I.ok.hd hc) it a hia its.toArray
      exact {
        live := fun j h z => T.live j h z.2
        frame := fun j h h' z k => ⟨z.1, T.frame j h h' z.2 k⟩
        item := fun j s Q E hj st hQ => absurd hj (by rw [st.1]; exact Nat.lt_irrefl _)
        done := fun s Q E st hE => wpAny_nextOf_tuple_end (I.ok.hd hc) st.2.1 st.2.2 (by simp; omega) hE }
    exact wpAny_pyNext_enum_endD D he ⟨rfl, hit, p⟩ fun h' eb => ⟨rfl, I.turned (t' := s.toks) (fun b o hb q => eb b o hb q) f0 f1 f3 f4 f5⟩
  self := fun A i s Q E st h => let ⟨⟨_, he⟩, _⟩ := st; wpAny_pyIter_enum he h
/-- for i, x in enumerate(t), t a tuple -/
def iEnuT (K : PySem.W.Frag) (ta : TA) : TI := fun σ H R => ta σ H fun vs H1 => ∃ a xs, vs = [.ref a] ∧ SqT K H1 a xs ∧ R (Itu K a) H1
theorem pi_enuT {X : Cx} {e : Expr} {ta : TA} {p pos tpos : Pos} {elts : List Expr} {kk : Nat} (hg : Gl X "enumerate") (hm : X.mg "enumerate" = none) (ha : PA X [e] ta) (hs : starEach [e] X.env = [(false, eval e X.env)] := by rfl) :
    PI X (.Tuple elts kk tpos) (.Call (.Name "enumerate" p) [e] [] pos) (iEnuT X.K ta) := by
  refine ⟨fun pins s σ H R I h => ?_⟩
  refine Call_ (ld_blt I hg hm boot_enumerate (PyProof.Rows.callWith_type1 (thn (ha.run pos pins s σ H _ I h) fun us s1 ⟨vs, H1, I1, r1, q1⟩ => ?_) hs rfl))
  obtain ⟨a, xs, ex, hq, q⟩ := q1
  subst ex
  cases r1 with
  | cons r rr =>
    cases rr
    cases r
    obtain ⟨its, rv, p', hz⟩ := I1.tuple hq
    have lta : a < s1.heap.objs.size := by
      obtain ⟨o, ho, _⟩ := id p'
      exact Heap.lt_size ho
    refine call_enum1 (begins_tuple a its.toArray) p' fun h' he hit hsz hk => wpAny_pyIter_enum he ?_
    have I2 : Inv X pins σ H1 { s1 with heap := h' } := I1.kept (t' := s1.toks) hk
    refine ⟨s1.heap.objs.size + 1, [s1.heap.objs.size + 1, s1.heap.objs.size], _, _, H1, rfl, I2,
      turn_itu a (s1.heap.objs.size + 1) s1.heap.objs.size (Nat.succ_ne_self _) (Nat.ne_of_gt (Nat.lt_succ_of_lt lta)) (Nat.ne_of_lt lta), ⟨⟨.none, he⟩, ⟨_, hit, rfl, rfl⟩⟩, fun b hb => ?_, q⟩
    have le : s1.heap.objs.size ≤ b := by
      rcases (show b = s1.heap.objs.size + 1 ∨ b = s1.heap.objs.size by simpa using hb) with z | z
      · rw [z]; exact Nat.le_add_right _ _
      · rw [z]; exact Nat.le_refl _
    exact I1.fpOk le (I1.hok.fresh le)
theorem walk_itu {K : PySem.W.Frag} {a : Addr} {xs : List V} : Walk (Itu K a) xs.length (fun H => SqT K H a xs) (YPair (fun i => some (.int (i : Nat))) (fun i => xs[i]?)) := by
  refine ⟨fun i _ hi q => ⟨xs, xs[i], q, by simp [hi]⟩, fun _ q => ⟨xs, q, Nat.le_refl _⟩, fun i H v H' _ q y => ?_⟩
  obtain ⟨T, x, h1, h2, h3, h4⟩ := y
  exact ⟨T, .int (i : Nat), x, h1, h2, h3, rfl, h4 xs q⟩
end Nm
namespace Nm
open PySem PySem.Spec PyProof.Rows L2
/-- t * 1 is t itself -/
theorem tuple_mul1 (l : Addr) (items : Array Value) (n : Nat) (dd : Option Addr) (sl : Array (Option Value)) (u : Tok) :
    Meets (Builtin.«tuple.__mul__» ⟨[.ref l, .int 1 u], []⟩) (fun _ R s => s.heap.get? l = some { cls := .type "tuple", dict := dd, data := .seq items n, slots := sl } ∧ R (.ok (.ret (Value.ref l))) s) :=
  .of_wp fun prog w A R s h => by
    obtain ⟨hp, g, d, tk, os⟩ := s
    obtain ⟨hl, h⟩ := h
    have f1 := AutoSeq1.idx_int
    have c0 : (decide ((1 : Int) < -(2 ^ 63)) || decide ((1 : Int) ≥ 2 ^ 63)) = false := by decide
    have c1 : (items.isEmpty || (1 : Int) == 1) = true := by cases items.isEmpty <;> rfl
    wp_walk using wpAny_loadPart' hl
    exact ⟨_, rfl, h⟩
def rRep1 (K : PySem.W.Frag) : R2 := fun x y H Q => ∃ l xs, x = .ref l ∧ y = .int 1 ∧ SqT K H l xs ∧ Q (.ref l) H
def rBlCount (K : PySem.W.Frag) : V → List V → Hp → VK → Prop := fun x xs H Q => ∃ (p : Addr) (bs : List Bool) (c : Bool), x = .ref p ∧ xs = [.bl c] ∧ SqL K H p (bs.map V.bl) ∧ Q (.int (bs.count c : Nat)) H
section
variable {X : Cx}
theorem op_rep1 : OpR X (binaryOp .Mult) (rRep1 X.K) := by
  intro pins s σ H x y v u Q I rx ry h
  obtain ⟨l, xs, rfl, rfl, hT, q⟩ := h
  cases rx
  obtain ⟨t, rfl⟩ := ry
  obtain ⟨its, r, ⟨⟨cls, dd, data, sl⟩, ho, hc, n, hd⟩, hs⟩ := I.tuple hT
  simp only at hc hd
  subst hc hd
  refine wpAny_binaryOp_repeat_ref (T := "tuple") (U := "int") (by decide) ⟨_, ho, rfl⟩ (fun s' => typeIs_int s' 1 t) noFill_tuple_mul F.fills_int_mul F.slot_int_rmul repeat_tuple F.slot_int_index.lookup
    (call_meets F.slot_int_rmul (typeIs_int s 1 t) F.entry_int_rmul (F.args_int_rmul_2 _ _) (int_rmul_tuple 1 t l its.toArray n dd sl)
      ⟨ho, rfl, ⟨_, ho, rfl⟩, call_meets F.slot_tuple_mul ⟨_, ho, rfl⟩ F.entry_tuple_mul (F.args_tuple_mul_2 _ _) (tuple_mul1 l its.toArray n dd sl t) ⟨ho, ⟨.ref l, H, I, rfl, q⟩⟩⟩)
def isBl (c : Bool) (v : Value) : Bool := match v with | .bool b => b == c | _ => false
theorem mt_blcount : MtR X "list.count" (rBlCount X.K) := by
  intro pins s σ H x xs v us Q I rx rxs h
  obtain ⟨p, bs, c, rfl, rfl, hs, q⟩ := h
  cases rx
  obtain ⟨u, rfl, ru⟩ := rxs.one
  obtain rfl : u = Value.bool c := ru
  obtain ⟨its, rv, ⟨⟨cls, dd, data, sl⟩, n, ho, hc, hdn, hd⟩, hlen⟩ := I.list hs
  simp only at hc hd
  subst hc hd
  have eb := Vals.bls rv
  refine call_meets PySem.F.slot_list_count ⟨_, ho, rfl⟩ PySem.F.entry_list_count (PySem.F.args_list_count_2 _ _) (SeqAt.list_countAt p its.toArray n dd sl (.bool c) (isBl c)) ⟨ho, fun y hy => ?_, ?_⟩
  · have hm : y ∈ its := by simpa using hy
    rw [eb] at hm
    obtain ⟨b, _, rfl⟩ := List.mem_map.mp hm
    exact SeqAt.EqAt.bool_bool b c
  · have ec : its.toArray.toList.countP (isBl c) = bs.count c := by
      show its.countP (isBl c) = _
      rw [eb, List.countP_map]
      rfl
    refine ⟨.int (bs.count c : Nat), H, I.tok _, ⟨s.toks, ?_⟩, q⟩
    show Value.int ((its.toArray.toList.countP (isBl c) : Nat) : Int) s.toks = Value.int ((bs.count c : Nat) : Int) s.toks
    rw [ec]
/-- nothing is asked that could be met: an expression that is never reached -/
theorem pe_never {e : Expr} : PE X e (fun _ _ _ => False) := ⟨fun _ _ _ _ _ _ h => h.elim⟩
end
end Nm
namespace Nm
open PySem PySem.Spec PyProof.Rows L2
open C8 (Cal Mak pe_c pe_mk pe_gc)
open RZ (ItzT pi_zipA)
/-- a def of the text that stands under its name -/
def Top (K : PySem.W.Frag) (mg : Str → Option Value) (x : Str) (st : Stmt) : Prop := ∃ f fd, Fun K x x st f fd ∧ mg x = some (.ref f)
section
variable {P : Program} {w : World} {K : PySem.W.Frag} {mg : Str → Option Value} {base : Heap}
theorem cal_of {x : Str} {st : Stmt} {N ps : List Str} {k : Nat} {sp : Sp} (D : Top K mg x st) (S : FnScope N ps (defScope st))
    (hb : ∀ (kV doc pm : Value) (an : Option Addr) (cdv ct : Value) (us : List Value), us.length = ps.length → bindArgs (PySem.W.fnOf x x (defArgs st) (defBody st) (defScope st) .none kV doc pm an cdv ct) ⟨us, []⟩ = pure (ps.zip us))
    (len : ∀ vs H Q E, sp vs H Q E → vs.length = ps.length)
    (body : ∀ (f : Addr) (cdv : Value) (A : Around) (outer : List Env) (s : Shared) (H : Hp) (vs : List V) (Q : VK) (E : XK), Room k (A.deeper (envOfC x (defScope st) s.heap.objs.size f cdv)) → sp vs H Q E →
      ∃ t, PSs (cxOf CX0 P w K mg base N x (defScope st) f cdv A outer s H E).nox (defBody st) t ∧ t { nx := fun _ H' => Q .non H', rt := Q } (start N vs) H) : Cal P w K mg base (k + 1) x sp [] := by
  obtain ⟨f, fd, F, hm⟩ := D
  exact ⟨f, fd, ps, [], F.ok S len fun cdv A outer s H vs Q E hr h => body f cdv A outer s H vs Q E hr h, hm, F.kp, F.binds hb, .nil⟩
end
theorem cal_mono {P : Program} {w : World} {K : PySem.W.Frag} {mg : Str → Option Value} {base : Heap} {k : Nat} {x : Str} {sp sp' : Sp} (c : Cal P w K mg base k x sp []) (h : ∀ vs H Q E, sp' vs H Q E → sp vs H Q E) : Cal P w K mg base k x sp' [] := by
  obtain ⟨f, fd, ps, ds, F, hm, kp, b, d⟩ := c.ex
  obtain ⟨F1, F2⟩ := F
  exact ⟨f, fd, ps, ds, ⟨fun vs H Q E q => F1 vs H Q E (h vs H Q E q), fun A outer s H args us vs Q E a1 a2 a3 a4 q => F2 A outer s H args us vs Q E a1 a2 a3 a4 (h vs H Q E q)⟩, hm, kp, b, d⟩
/-- laid over something new all stands -/
theorem same_new {H : Hp} {p : Addr} {o : HO} (h : H p = none) : Same H (upd H p o) := fun b u q => by
  rw [upd_ne (ne_of_none q h)]
  exact q
/-- what happens to a new object leaves the rest -/
theorem same_mut {H H' : Hp} {p : Addr} {o : HO} (g : Same H H') (h : H p = none) : Same H (upd H' p o) := fun b u q => by
  rw [upd_ne (ne_of_none q h)]
  exact g b u q
/-- what isinstance says -/
theorem is_int {K : PySem.W.Frag} : PySem.W.kitOne K (.type "int") (.type "int") = some true := kit_ty (by decide +kernel)
theorem is_int_bool {K : PySem.W.Frag} : PySem.W.kitOne K (.type "int") (.type "bool") = some false := kit_ty (by decide +kernel)
theorem is_tup_int {K : PySem.W.Frag} : PySem.W.kitOne K (.type "tuple") (.type "int") = some false := kit_ty (by decide +kernel)
theorem is_tup {K : PySem.W.Frag} : PySem.W.kitOne K (.type "tuple") (.type "tuple") = some true := kit_ty (by decide +kernel)
theorem is_int_tup {K : PySem.W.Frag} : PySem.W.kitOne K (.type "int") (.type "tuple") = some false := kit_ty (by decide +kernel)
theorem is_str {K : PySem.W.Frag} : PySem.W.kitOne K (.type "str") (.type "str") = some true := kit_ty (by decide +kernel)
theorem is_bool {K : PySem.W.Frag} : PySem.W.kitOne K (.type "bool") (.type "bool") = some true := kit_ty (by decide +kernel)
def isInt : V → Bool
  | .int _ => true
  | _ => false
def isStr : V → Bool
  | .str _ => true
  | _ => false
/-- isinstance(x, n) is b -/
def TyC (K : PySem.W.Frag) (H : Hp) (x : V) (n : String) (b : Bool) : Prop := ∃ t, TyX K H x t ∧ PySem.W.kitOne K t (.type n) = some b
/-- what the program's own look for an integer needs -/
def TyI (K : PySem.W.Frag) (H : Hp) (x : V) : Prop := ∃ b c, TyC K H x "int" b ∧ TyC K H x "bool" c ∧ (b && !c) = isInt x
section
variable {K : PySem.W.Frag} {H : Hp}
theorem tyc_int (i : Int) : TyC K H (.int i) "int" true := ⟨_, .base (.int i), kit_ty (by decide +kernel)⟩
theorem tyi_int (i : Int) : TyI K H (.int i) := ⟨true, false, ⟨_, .base (.int i), kit_ty (by decide +kernel)⟩, ⟨_, .base (.int i), kit_ty (by decide +kernel)⟩, rfl⟩
theorem tyi_tup {a : Addr} {xs : List V} (h : H a = some (.tup xs)) : TyI K H (.ref a) := ⟨false, false, ⟨_, .base (.tup h), kit_ty (by decide +kernel)⟩, ⟨_, .base (.tup h), kit_ty (by decide +kernel)⟩, rfl⟩
theorem tyi_str (z : Str) : TyI K H (.str z) := ⟨false, false, ⟨_, .base (.str z), kit_ty (by decide +kernel)⟩, ⟨_, .base (.str z), kit_ty (by decide +kernel)⟩, rfl⟩
theorem tyc_tup {a : Addr} {xs : List V} (h : H a = some (.tup xs)) : TyC K H (.ref a) "tuple" true := ⟨_, .base (.tup h), kit_ty (by decide +kernel)⟩
theorem tyc_int_tup (i : Int) : TyC K H (.int i) "tuple" false := ⟨_, .base (.int i), kit_ty (by decide +kernel)⟩
theorem tyc_str (z : Str) : TyC K H (.str z) "str" true := ⟨_, .base (.str z), kit_ty (by decide +kernel)⟩
theorem tyc_bl (b : Bool) : TyC K H (.bl b) "bool" true := ⟨_, .base (.bl b), kit_ty (by decide +kernel)⟩
end
/-- a text of 1 to most letters a to z -/
def letB (z : Str) (most : Int) : Bool := decide (1 ≤ (z.length : Int)) && decide ((z.length : Int) ≤ most) && z.cps.toList.all (fun c => decide (97 ≤ c) && decide (c ≤ 122))
def letV (x : V) (most : Int) : Bool := match x with | .str z => letB z most | _ => false
def within (x : V) (lo hi : Int) : Bool := match x with | .int n => decide (lo ≤ n) && decide (n ≤ hi) | _ => false
theorem sign_lt (c d : Nat) : decide (([c] : List Nat) < [d]) = decide (c < d) := by
  by_cases h : c < d
  · rw [decide_eq_true h]
    exact decide_eq_true (List.Lex.rel h)
  · rw [decide_eq_false h]
    refine decide_eq_false fun q => ?_
    cases q with
    | rel r => exact h r
    | cons r => cases r
/-! ### boards -/
/-- a board: its name, the side, the row that was played -/
abbrev Bd := Str × Int × List Str
def BoardAt (H : Hp) (v : V) (b : Bd) : Prop := ∃ a r, v = .ref a ∧ H a = some (.tup [.str b.1, .int b.2.1, .ref r]) ∧ H r = some (.tup (b.2.2.map V.str))
def BoardsAt (H : Hp) (a : Addr) (bs : List Bd) : Prop := ∃ xs, H a = some (.tup xs) ∧ Paired (BoardAt H) xs bs
def rowB (ws : List Str) (most : Int) : Bool := decide ((ws.length : Int) ≤ most) && ws.all (fun z => letB z 20)
def boardB (b : Bd) : Bool := letB b.1 8 && (within (.int b.2.1) 0 1 && rowB b.2.2 20)
/-- nothing here is too long for the model -/
def smallBd (b : Bd) : Prop := b.1.length ≤ 1000 ∧ b.2.2.length ≤ 1000 ∧ ∀ z ∈ b.2.2, z.length ≤ 1000
theorem BoardAt.mono {H H' : Hp} (k : ∀ a xs, H a = some (.tup xs) → H' a = some (.tup xs)) {v : V} {b : Bd} (h : BoardAt H v b) : BoardAt H' v b := by
  obtain ⟨a, r, e, h1, h2⟩ := h
  exact ⟨a, r, e, k _ _ h1, k _ _ h2⟩
theorem paired_mono {α β : Type} {R S : α → β → Prop} (h : ∀ a b, R a b → S a b) : ∀ {xs : List α} {ys : List β}, Paired R xs ys → Paired S xs ys
  | _, _, .nil => .nil
  | _, _, .cons r t => .cons (h _ _ r) (paired_mono h t)
theorem paired_at {α β : Type} {R : α → β → Prop} : ∀ {xs : List α} {ys : List β}, Paired R xs ys → ∀ (i : Nat) (x : α), xs[i]? = some x → ∃ y, ys[i]? = some y ∧ R x y
  | _, _, .nil, i, x, h => by simp at h
  | _, _, .cons r t, 0, x, h => by
    simp at h
    subst h
    exact ⟨_, rfl, r⟩
  | _, _, .cons r t, i + 1, x, h => by
    obtain ⟨y, h1, h2⟩ := paired_at t i x (by simpa using h)
    exact ⟨y, by simpa using h1, h2⟩
theorem paired_len {α β : Type} {R : α → β → Prop} : ∀ {xs : List α} {ys : List β}, Paired R xs ys → xs.length = ys.length
  | _, _, .nil => rfl
  | _, _, .cons _ t => by rw [List.length_cons, List.length_cons, paired_len t]
theorem BoardsAt.mono {H H' : Hp} (k : ∀ a xs, H a = some (.tup xs) → H' a = some (.tup xs)) {a : Addr} {bs : List Bd} (h : BoardsAt H a bs) : BoardsAt H' a bs := by
  obtain ⟨xs, h1, h2⟩ := h
  exact ⟨xs, k _ _ h1, paired_mono (fun _ _ => BoardAt.mono k) h2⟩
theorem same_tups {H H' : Hp} (g : Same H H') : ∀ a xs, H a = some (.tup xs) → H' a = some (.tup xs) := fun a xs h => g a _ h
/-! ### texts gathered -/
theorem take_one {α : Type} {l : List α} {i : Nat} {x : α} (h : l[i]? = some x) : l.take (i + 1) = l.take i ++ [x] := by
  rw [List.take_add_one, h]
  rfl
/-- the program's own word for the names: each once, ascending -/
structure Names (xs ys : List Str) : Prop where
  up : PyProof.Rows.sortedS ys = true
  nd : ys.Nodup
  mem : ∀ x, x ∈ ys ↔ x ∈ xs
/-- a hall stands at p, with these boards -/
def HallAt (K : PySem.W.Frag) (H : Hp) (p : Addr) (bs : List Bd) : Prop := ∃ C dx fs a n ys, Cls K C ∧ NoAttr K C "boards" ∧ NoAttr K C "names" ∧ H p = some (.ins C dx fs) ∧ fs.lookup ("boards" : Str) = some (.ref a) ∧ fs.lookup ("names" : Str) = some (.ref n) ∧
  BoardsAt H a bs ∧ H n = some (.tup (ys.map V.str)) ∧ Names (bs.map (·.1)) ys
/-- all that is no list stands -/
def Keep (H H' : Hp) : Prop := ∀ b o, H b = some o → (∀ xs, o ≠ .lst xs) → H' b = some o
theorem same_keep {H H' : Hp} (g : Same H H') : Keep H H' := fun b o h _ => g b o h
theorem Keep.refl (H : Hp) : Keep H H := fun _ _ h _ => h
theorem Keep.trans {H H1 H2 : Hp} (a : Keep H H1) (b : Keep H1 H2) : Keep H H2 := fun c o h n => b c o (a c o h n) n
theorem Keep.tups {H H' : Hp} (g : Keep H H') : ∀ a xs, H a = some (.tup xs) → H' a = some (.tup xs) := fun a xs h => g a _ h fun _ e => nomatch e
theorem HallAt.mono {K : PySem.W.Frag} {H H' : Hp} (g : Keep H H') {p : Addr} {bs : List Bd} (h : HallAt K H p bs) : HallAt K H' p bs := by
  obtain ⟨C, dx, fs, a, n, ys, h1, h2, h3, h4, h5, h6, h7, h8, h9⟩ := h
  exact ⟨C, dx, fs, a, n, ys, h1, h2, h3, g _ _ h4 (fun _ e => nomatch e), h5, h6, h7.mono g.tups, g.tups _ _ h8, h9⟩
theorem nb_ne : ¬ (("boards" : Str) = "names") := by decide +kernel
/-! ### zip of two tuples of any lengths -/
theorem walk_zipT {K : PySem.W.Frag} {a b : Addr} {xs ys : List V} {n : Nat} (hn : n = min xs.length ys.length) : Walk (ItzT K a b) n (fun H => SqT K H a xs ∧ SqT K H b ys) (YPair (fun i => xs[i]?) (fun i => ys[i]?)) := by
  subst hn
  refine ⟨fun i _ hi q => ?_, fun _ q => ⟨xs, ys, q.1, q.2, by omega⟩, fun i H v H' _ q y => ?_⟩
  · have h1 : i < xs.length := by omega
    have h2 : i < ys.length := by omega
    exact ⟨xs, ys, xs[i], ys[i], q.1, q.2, by simp [h1], by simp [h2]⟩
  · obtain ⟨T, x, z, h1, h2, h3, h4, h5⟩ := y
    exact ⟨T, x, z, h1, h2, h3, h4 xs q.1, h5 ys q.2⟩
/-- the ints rise, each pair of neighbours looked at -/
def ascB (ns : List Int) : Bool := (ns.zip (ns.drop 1)).all fun p => decide (p.1 < p.2)
theorem ascB_of {ns : List Int} (h : ns.Pairwise (· < ·)) : ascB ns = true := by
  unfold ascB
  rw [List.all_eq_true]
  intro p hp
  refine decide_eq_true ?_
  induction ns with
  | nil => simp at hp
  | cons a r ih =>
    obtain ⟨h1, h2⟩ := List.pairwise_cons.mp h
    cases r with
    | nil => simp at hp
    | cons b r =>
      rw [List.drop_one, List.tail_cons] at hp
      rcases List.mem_cons.mp (by simpa using hp) with e | e
      · subst e
        exact h1 b List.mem_cons_self
      · refine ih h2 ?_
        rw [List.drop_one, List.tail_cons]
        exact e
theorem map_at {α β : Type} {f : α → β} {l : List α} {i : Nat} {y : β} (h : (l.map f)[i]? = some y) : ∃ x, l[i]? = some x ∧ y = f x := by
  rw [List.getElem?_map] at h
  cases e : l[i]? with
  | none =>
    rw [e] at h
    cases h
  | some x =>
    rw [e] at h
    exact ⟨x, rfl, (Option.some.inj h).symm⟩
/-- a def that nobody can ask anything of -/
theorem cal_void {P : Program} {w : World} {K : PySem.W.Frag} {mg : Str → Option Value} {base : Heap} {x : Str} {st : Stmt} {ps : List Str} {k : Nat} {sp : Sp} (D : Top K mg x st)
    (hb : ∀ (kV doc pm : Value) (an : Option Addr) (cdv ct : Value) (us : List Value), us.length = ps.length → PySem.bindArgs (PySem.W.fnOf x x (defArgs st) (defBody st) (defScope st) .none kV doc pm an cdv ct) ⟨us, []⟩ = pure (ps.zip us))
    (no : ∀ vs H Q E, ¬ sp vs H Q E) : Cal P w K mg base k x sp [] := by
  obtain ⟨f, fd, F, hm⟩ := D
  exact ⟨f, fd, ps, [], ⟨fun vs H Q E h => absurd h (no vs H Q E), fun A outer s H args us vs Q E _ _ _ _ h => absurd h (no vs H Q E)⟩, hm, F.kp, F.binds hb, .nil⟩
/-! ### aims -/
inductive AKind where
  | all | some | least (k : Int)
def AKind.head : AKind → List V
  | .all => [.str "all"]
  | .some => [.str "some"]
  | .least k => [.str "least", .int k]
def AKind.ok : AKind → Prop
  | .least k => 0 ≤ k ∧ k ≤ 25
  | _ => True
def AKind.val : AKind → List Bool → Bool
  | .all, bs => bs.all id
  | .some, bs => bs.any id
  | .least k, bs => decide (k ≤ (bs.count true : Nat))
def AKind.need : AKind → Nat → Int
  | .all, n => n
  | .some, _ => 1
  | .least k, _ => k
/-- what an aim says of the boards that are won -/
abbrev ASem := (Int → Bool) → Bool
/-- at v stands an aim of boards below many, at most d deep, of s aims, that says φ -/
def AimV (H : Hp) (many : Int) : Nat → V → Nat → ASem → Prop
  | 0, _, _, _ => False
  | d + 1, v, s, φ => (∃ n : Int, v = .int n ∧ 0 ≤ n ∧ n < many ∧ s = 1 ∧ φ = fun w => w n) ∨
    (∃ (a p : Addr) (xs : List V) (kd : AKind) (ys : List (Nat × ASem)), v = .ref a ∧ H a = some (.tup (kd.head ++ [.ref p])) ∧ H p = some (.tup xs) ∧ kd.ok ∧ xs.length ≤ 24 ∧ Paired (fun x y => AimV H many d x y.1 y.2) xs ys ∧
      s = 1 + (ys.map (·.1)).sum ∧ φ = fun w => kd.val (ys.map fun y => y.2 w))
theorem AimV.mono {H H' : Hp} {many : Int} (k : ∀ a xs, H a = some (.tup xs) → H' a = some (.tup xs)) : ∀ {d : Nat} {v : V} {s : Nat} {φ : ASem}, AimV H many d v s φ → AimV H' many d v s φ
  | 0, _, _, _, h => h.elim
  | d + 1, v, s, φ, h => by
    rcases h with h | ⟨a, p, xs, kd, ys, h1, h2, h3, h4, h5, h6, h7, h8⟩
    · exact .inl h
    · exact .inr ⟨a, p, xs, kd, ys, h1, k _ _ h2, k _ _ h3, h4, h5, paired_mono (fun _ _ h => AimV.mono k h) h6, h7, h8⟩
theorem AimV.deeper {H : Hp} {many : Int} : ∀ {d e : Nat} {v : V} {s : Nat} {φ : ASem}, d ≤ e → AimV H many d v s φ → AimV H many e v s φ
  | 0, _, _, _, _, _, h => h.elim
  | d + 1, 0, _, _, _, l, _ => absurd l (Nat.not_succ_le_zero d)
  | d + 1, e + 1, v, s, φ, l, h => by
    rcases h with h | ⟨a, p, xs, kd, ys, h1, h2, h3, h4, h5, h6, h7, h8⟩
    · exact .inl h
    · exact .inr ⟨a, p, xs, kd, ys, h1, h2, h3, h4, h5, paired_mono (fun _ _ h => AimV.deeper (Nat.le_of_succ_le_succ l) h) h6, h7, h8⟩
theorem AimV.pos {H : Hp} {many : Int} : ∀ {d : Nat} {v : V} {s : Nat} {φ : ASem}, AimV H many d v s φ → 1 ≤ s
  | 0, _, _, _, h => h.elim
  | d + 1, v, s, φ, h => by
    rcases h with ⟨n, _, _, _, e, _⟩ | ⟨a, p, xs, kd, ys, h1, h2, h3, h4, h5, h6, h7, h8⟩ <;> omega
theorem head_len (kd : AKind) : (kd.head ++ [V.ref p]).length = 2 ∨ (kd.head ++ [V.ref p]).length = 3 := by
  cases kd
  · exact .inl rfl
  · exact .inl rfl
  · exact .inr rfl
def b2 (b : Bool) : Int := if b then 1 else 0
theorem iteP {c A B : Prop} [Decidable c] (hc : c) (h : A) : if c then A else B := by
  rw [if_pos hc]
  exact h
theorem iteN {c A B : Prop} [Decidable c] (hc : ¬ c) (h : B) : if c then A else B := by
  rw [if_neg hc]
  exact h
theorem nt {b : Bool} (h : b = false) : ¬ b = true := by rw [h]; exact Bool.false_ne_true
theorem l2 : 2 ≤ PySem.sizeLine := by decide
theorem sum_take_le : ∀ (l : List Nat) (i : Nat), (l.take i).sum ≤ l.sum
  | [], i => by simp
  | x :: l, 0 => by simp
  | x :: l, i + 1 => by
    have := sum_take_le l i
    simp only [List.take_succ_cons, List.sum_cons]
    omega
theorem sum_take_one {l : List Nat} {i x : Nat} (h : l[i]? = some x) : (l.take (i + 1)).sum = (l.take i).sum + x := by
  rw [take_one h, List.sum_append]
  simp
theorem int_ne {i j : Int} (h : i ≠ j) : decide (V.int i = V.int j) = false := decide_eq_false fun e => h (V.int.inj e)
theorem int_eq {i j : Int} (h : i = j) : decide (V.int i = V.int j) = true := decide_eq_true (congrArg V.int h)
/-! ### the tape from which a law draws -/
def TapeAt (H : Hp) (tp l : Addr) : Prop := ∃ (ns : List Int) (i c m n : Int), H tp = some (.lst [.ref l, .int i, .int c, .int m, .int n]) ∧ H l = some (.lst (ns.map V.int)) ∧ 0 ≤ i
/-- all but the tape stands -/
def Mov (tp : Addr) (H H' : Hp) : Prop := ∀ b o, H b = some o → b ≠ tp → H' b = some o
theorem Mov.refl (tp : Addr) (H : Hp) : Mov tp H H := fun _ _ h _ => h
theorem Mov.trans {tp : Addr} {H H1 H2 : Hp} (a : Mov tp H H1) (b : Mov tp H1 H2) : Mov tp H H2 := fun c o h n => b c o (a c o h n) n
theorem mov_same {tp : Addr} {H H' : Hp} (g : Same H H') : Mov tp H H' := fun b o h _ => g b o h
theorem mov_upd {tp : Addr} {H : Hp} {o : HO} : Mov tp H (upd H tp o) := fun b u h n => by
  rw [upd_ne n]
  exact h
theorem mov_mut {tp : Addr} {H H' : Hp} {p : Addr} {o : HO} (g : Mov tp H H') (h : H p = none) : Mov tp H (upd H' p o) := fun b u q n => by
  rw [upd_ne (ne_of_none q h)]
  exact g b u q n
theorem TapeAt.keep {H H' : Hp} {tp l : Addr} (t : TapeAt H tp l) (m : Mov tp H H') : Keep H H' := fun b o h n => m b o h fun e => by
  obtain ⟨ns, i, c, k, j, h1, _⟩ := t
  rw [e, h1] at h
  exact n _ (Option.some.inj h).symm
theorem TapeAt.same {H H' : Hp} {tp l : Addr} (t : TapeAt H tp l) (g : Same H H') : TapeAt H' tp l := by
  obtain ⟨ns, i, c, k, j, h1, h2, h3⟩ := t
  exact ⟨ns, i, c, k, j, g _ _ h1, g _ _ h2, h3⟩
theorem TapeAt.new {H : Hp} {tp l p : Addr} (t : TapeAt H tp l) (h : H p = none) : p ≠ tp ∧ p ≠ l := by
  obtain ⟨ns, i, c, k, j, h1, h2, h3⟩ := t
  exact ⟨(ne_of_none h1 h).symm, (ne_of_none h2 h).symm⟩
theorem TapeAt.upd {H : Hp} {tp l p : Addr} {o : HO} (t : TapeAt H tp l) (n : p ≠ tp ∧ p ≠ l) : TapeAt (L2.upd H p o) tp l := by
  obtain ⟨ns, i, c, k, j, h1, h2, h3⟩ := t
  exact ⟨ns, i, c, k, j, by rw [upd_ne n.1.symm]; exact h1, by rw [upd_ne n.2.symm]; exact h2, h3⟩
theorem keep_lst {H : Hp} {p : Addr} {xs ys : List V} (h : H p = some (.lst xs)) : Keep H (upd H p (.lst ys)) := fun b o hb n => by
  rw [upd_ne (fun e => by rw [e, h] at hb; exact n _ (Option.some.inj hb).symm)]
  exact hb
theorem paired_snoc {α β : Type} {R : α → β → Prop} : ∀ {xs : List α} {ys : List β} {x : α} {y : β}, Paired R xs ys → R x y → Paired R (xs ++ [x]) (ys ++ [y])
  | _, _, _, _, .nil, h => .cons h .nil
  | _, _, _, _, .cons r t, h => .cons r (paired_snoc t h)
theorem sum_bound {B : Nat} : ∀ (l : List Nat), (∀ x ∈ l, x ≤ B) → l.sum ≤ B * l.length
  | [], _ => by simp
  | x :: l, h => by
    have h1 := h x List.mem_cons_self
    have h2 := sum_bound l fun y hy => h y (List.mem_cons_of_mem _ hy)
    rw [List.sum_cons, List.length_cons, Nat.mul_succ]
    omega
theorem tape_ne {H : Hp} {tp l : Addr} {ns : List Int} {i c m n : Int} (h1 : H tp = some (.lst [.ref l, .int i, .int c, .int m, .int n])) (h2 : H l = some (.lst (ns.map V.int))) : l ≠ tp := fun e => by
  rw [e, h1] at h2
  cases ns with
  | nil => cases h2
  | cons a r => cases h2
theorem at_getD {L : List Int} {k : Nat} (h : k < L.length) : atI (L.map V.int) (k : Int) = some (V.int (L.getD k 0)) := by
  refine atI_nat ?_
  rw [List.getElem?_map, List.getD_eq_getElem?_getD, List.getElem?_eq_getElem h]
  rfl
theorem ixN_nat {n k : Nat} (h : k < n) : ixN n (k : Int) = some k := by
  unfold ixN
  rw [if_pos (by omega), if_pos (by omega)]
  rfl
theorem in_ints (n : Int) : ∀ ns : List Int, inV (.int n) (ns.map V.int) = decide (n ∈ ns)
  | [] => rfl
  | m :: ns => by
    have ih := in_ints n ns
    unfold inV at ih ⊢
    rw [List.map_cons, List.any_cons, ih]
    have e : eqV (V.int m) (V.int n) = decide (m = n) := by
      show (m == n) = decide (m = n)
      by_cases h : m = n
      · rw [decide_eq_true h, h]
        exact beq_self_eq_true n
      · rw [decide_eq_false h]
        exact beq_eq_false_iff_ne.mpr h
    rw [e]
    by_cases h : m = n
    · subst h
      simp
    · have h' : ¬ n = m := fun z => h z.symm
      simp [h, h']
theorem flat_ints (ns : List Int) : (ns.map V.int).all flatV = true := by
  rw [List.all_map]
  exact List.all_eq_true.mpr fun _ _ => rfl
end Nm
namespace NmD
open PySem PySem.Spec PyProof.Rows L2 PySem.W PySem.SeqAt
mutual
/-- no list and no dict in it -/
def pureD : PyData → Bool
  | .none => true
  | .bool _ => true
  | .int _ => true
  | .str _ => true
  | .list _ => false
  | .tuple xs => pureAll xs
  | .dict _ => false
def pureAll : List PyData → Bool
  | [] => true
  | x :: xs => pureD x && pureAll xs
end
def Tups (h h' : Heap) : Prop := ∀ b o, h.get? b = some o → o.cls = .type "tuple" → h'.get? b = some o
mutual
theorem reads_keep {h h' : Heap} (kp : Tups h h') : ∀ (d : PyData) (v : Value) (as : List Addr), pureD d = true → Reads h v d as → ∃ bs, Reads h' v d bs
  | .none, _, _, _, r => by
    cases r
    exact ⟨_, .none⟩
  | .bool b, _, _, _, r => by
    cases r
    exact ⟨_, .bool b⟩
  | .int i, _, _, _, r => by
    cases r
    exact ⟨_, .int i _⟩
  | .str x, _, _, _, r => by
    cases r
    exact ⟨_, .str x _⟩
  | .list xs, _, _, p, _ => by
    unfold pureD at p
    cases p
  | .dict xs, _, _, p, _ => by
    unfold pureD at p
    cases p
  | .tuple xs, _, _, p, r => by
    cases r with
    | tuple h1 h2 h3 h4 =>
      obtain ⟨bs, q⟩ := reads_keepA kp xs _ _ (by unfold pureD at p; exact p) h4
      exact ⟨bs, .tuple (kp _ _ h1 h2) h2 h3 q⟩
theorem reads_keepA {h h' : Heap} (kp : Tups h h') : ∀ (ds : List PyData) (vs : List Value) (as : List Addr), pureAll ds = true → ReadsAll h vs ds as → ∃ bs, ReadsAll h' vs ds bs
  | [], _, _, _, r => by
    cases r
    exact ⟨_, .nil⟩
  | d :: ds, _, _, p, r => by
    cases r with
    | cons r1 r2 =>
      unfold pureAll at p
      rw [Bool.and_eq_true] at p
      obtain ⟨b1, q1⟩ := reads_keep kp d _ _ p.1 r1
      obtain ⟨b2, q2⟩ := reads_keepA kp ds _ _ p.2 r2
      exact ⟨_, .cons q1 q2⟩
end
/-- the first item of each -/
def Firsts (h : Heap) : List Value → List (Option Value) → Prop
  | [], [] => True
  | v :: vs, f :: fs => (∃ a o xs n, v = .ref a ∧ h.get? a = some o ∧ o.cls = .type "tuple" ∧ o.data = .seq xs n ∧ xs[0]? = f) ∧ Firsts h vs fs
  | _, _ => False
section
variable {M : Model} {A : Around} {E : Value → Shared → Prop} {s : Shared}
theorem firsts_run : ∀ (vs : List Value) (fs : List (Option Value)) {Q : List (Option Value) → Shared → Prop}, Firsts s.heap vs fs → Q fs s → wpAny M A (vs.mapM firstOfTuple') Q E s
  | [], [], _, _, h => by rw [List.mapM_nil]; exact wpAny_pure h
  | [], _ :: _, _, t, _ => t.elim
  | _ :: _, [], _, t, _ => t.elim
  | v :: vs, f :: fs, Q, t, h => by
    obtain ⟨⟨a, o, xs, n, rfl, ho, hc, hd, hf⟩, t⟩ := t
    rw [List.mapM_cons]
    refine wpAny_bind ?_
    rw [kas_first_eq]
    refine wpAny_bind (Looks.here (show Looks M s.heap (typeOf (.ref a)) o.cls from (Looks.ld ho).andThen .now) ?_)
    rw [hc, if_neg (by first | decide | simp)]
    refine wpAny_bind (listItems_at ho hd (wpAny_pure ?_))
    rw [hf]
    exact wpAny_bind (firsts_run vs fs (Q := fun bs s' => wpAny M A (pure (f :: bs)) Q E s') t (wpAny_pure h))
theorem firsts_typ : ∀ {vs : List Value} {fs : List (Option Value)}, Firsts s.heap vs fs → ∀ v ∈ vs, Looks M s.heap (typeOf v) (.type "tuple")
  | [], _, _, v, hv => absurd hv (List.not_mem_nil)
  | _ :: _, [], t, _, _ => t.elim
  | u :: us, f :: fs, t, v, hv => by
    obtain ⟨⟨a, o, xs, n, rfl, ho, hc, hd, hf⟩, t⟩ := t
    rcases List.mem_cons.mp hv with rfl | hv
    · have L : Looks M s.heap (typeOf (.ref a)) o.cls := (Looks.ld ho).andThen .now
      rw [hc] at L
      exact L
    · exact firsts_typ t v hv
/-- an empty one among them -/
theorem kind_mix {vs : List Value} {fs : List (Option Value)} {Q : SortKind → Shared → Prop} (t : Firsts s.heap vs fs) (hn : (fs.toArray.all fun x => x.isSome) = false) (h : ∀ κ, κ = general' ∨ κ = oneType' → Q κ s) :
    wpAny M A (keyKind' vs.toArray) Q E s := by
  rw [kat_kind_eq, List.mapM_toArray, map_eq_pure_bind]
  refine wpAny_bind (wpAny_bind (firsts_run vs _ t (wpAny_pure ?_)))
  rw [if_neg (by rw [hn]; exact Bool.false_ne_true)]
  refine wpAny_ite ?_
  split
  · exact wpAny_pure (h _ (.inl rfl))
  · rw [oneTypeOnly'_eq, List.mapM_toArray, map_eq_pure_bind]
    refine wpAny_bind (wpAny_bind (wpAny_bind (kas_mapM (r := Value.type "tuple") _ (fun v hv Q' hq => (firsts_typ t v hv).here hq) (wpAny_pure ?_))))
    split
    · split
      · exact wpAny_pure (wpAny_pure (h _ (.inr rfl)))
      · exact wpAny_pure (wpAny_pure (h _ (.inl rfl)))
    · exact wpAny_pure (wpAny_pure (h _ (.inl rfl)))
theorem kat_of : ∀ {vs : List Value} {fs : List (Option Value)}, Firsts s.heap vs fs → (fs.toArray.all fun x => x.isSome) = true → ∃ gs, fs = gs.map some ∧ KatTups s.heap vs gs
  | [], [], _, _ => ⟨[], rfl, KatTups.nil⟩
  | [], _ :: _, t, _ => t.elim
  | _ :: _, [], t, _ => t.elim
  | v :: vs, f :: fs, t, e => by
    obtain ⟨⟨a, o, xs, n, rfl, ho, hc, hd, hf⟩, t⟩ := t
    have e' : f.isSome = true ∧ (fs.all fun x => x.isSome) = true := by simpa using e
    obtain ⟨gs, rfl, kt⟩ := kat_of t (by simpa using e'.2)
    obtain ⟨g, rfl⟩ := Option.isSome_iff_exists.mp e'.1
    exact ⟨g :: gs, rfl, ⟨a, o, xs, n, rfl, ho, hc, hd, hf⟩, kt⟩
end
def tyD : PyData → String
  | .int _ => "int"
  | .str _ => "str"
  | .tuple _ => "tuple"
  | .bool _ => "bool"
  | .none => "NoneType"
  | .list _ => "list"
  | .dict _ => "dict"
section
variable {prog : Program} {w : World} {A : Around} {E : Value → Shared → Prop} {s : Shared}
theorem look_ty {M : Model} {h : Heap} {z : PyData} {v : Value} {as : List Addr} (p : pureD z = true) (r : Reads h v z as) : Looks M h (typeOf v) (.type (tyD z)) := by
  cases r with
  | none => exact Looks.now
  | bool b => exact Looks.now
  | int i t => exact Looks.now
  | str x t => exact Looks.now
  | list _ _ _ _ =>
    unfold pureD at p
    cases p
  | dict _ _ _ _ _ =>
    unfold pureD at p
    cases p
  | @tuple a o vs n xs as h1 h2 h3 h4 =>
    have L : Looks M h (typeOf (.ref a)) o.cls := (Looks.ld h1).andThen .now
    rw [h2] at L
    exact L
theorem alike_ty {x y : PyData} (h : alike x y = true) : tyD x = tyD y := by
  cases x <;> cases y <;> first | rfl | exact absurd h (by simp [alike])
/-- what is known of the items: tuples, as k tells, of such data, any two of them alike -/
structure Rows (h : Heap) (vs : List Value) (k : Value → List PyData) : Prop where
  rd : ∀ v ∈ vs, ∃ as, Reads h v (.tuple (k v)) as
  pu : ∀ v ∈ vs, pureAll (k v) = true
  al : ∀ v ∈ vs, ∀ u ∈ vs, alikeAll (k v) (k u) = true
  dp : ∀ v ∈ vs, PyData.depthAll (k v) ≤ 40
abbrev ltD (k : Value → List PyData) (v u : Value) : Bool := PyProof.Rows.lexLt itemOrd (keyToksAll (k v)) (keyToksAll (k u))
theorem ltD_swo (k : Value → List PyData) : SrtO.Swo (ltD k) := by
  refine ⟨fun x y h => ?_, fun x y z h1 h2 => ?_⟩
  · cases e : ltD k y x with
    | false => rfl
    | true =>
      have z := (listOrd itemOrd).trans _ _ _ h e
      rw [(listOrd itemOrd).irrefl] at z
      cases z
  · cases e : ltD k z x with
    | false => rfl
    | true =>
      rcases (listOrd itemOrd).negTrans _ (keyToksAll (k y)) _ e with q | q
      · rw [show ltD k z y = true from q] at h2
        cases h2
      · rw [show ltD k y x = true from q] at h1
        cases h1
theorem Rows.keep {h h' : Heap} {vs : List Value} {k : Value → List PyData} (R : Rows h vs k) (kp : Tups h h') : Rows h' vs k :=
  ⟨fun v hv => by
    obtain ⟨as, r⟩ := R.rd v hv
    exact reads_keep kp _ _ _ (by unfold pureD; exact R.pu v hv) r, R.pu, R.al, R.dp⟩
theorem rows_firsts {h : Heap} : ∀ {vs : List Value} {k : Value → List PyData}, Rows h vs k → ∃ fs, Firsts h vs fs ∧ ∀ f ∈ fs, ∀ g, f = some g → ∃ v ∈ vs, ∃ z r as, k v = z :: r ∧ Reads h g z as
  | [], _, _ => ⟨[], trivial, fun f hf => absurd hf (List.not_mem_nil)⟩
  | v :: vs, k, R => by
    obtain ⟨fs, t, q⟩ := rows_firsts (vs := vs) (k := k) ⟨fun u hu => R.rd u (List.mem_cons_of_mem _ hu), fun u hu => R.pu u (List.mem_cons_of_mem _ hu), fun u hu x hx => R.al u (List.mem_cons_of_mem _ hu) x (List.mem_cons_of_mem _ hx), fun u hu => R.dp u (List.mem_cons_of_mem _ hu)⟩
    obtain ⟨as, r⟩ := R.rd v List.mem_cons_self
    generalize hd : k v = d at r
    cases r with
    | @tuple a o xs n ds as h1 h2 h3 h4 =>
      refine ⟨xs[0]? :: fs, ⟨⟨a, o, xs, n, rfl, h1, h2, h3, rfl⟩, t⟩, fun f hf g e => ?_⟩
      rcases List.mem_cons.mp hf with rfl | hf
      · obtain ⟨xl⟩ := xs
        cases h4 with
        | nil => simp at e
        | @cons v0 vs0 d0 ds0 a0 b0 r1 r2 =>
          have e' : v0 = g := by simpa using e
          subst e'
          exact ⟨.ref a, List.mem_cons_self, _, _, _, hd, r1⟩
      · obtain ⟨u, hu, z⟩ := q f hf g e
        exact ⟨u, List.mem_cons_of_mem _ hu, z⟩
theorem call_tuple_lt {Q : Value → Shared → Prop} {l b : Addr} {items items2 : Array Value} {e r : Nat → Bool} (hl : s.heap.IsTuple l items) (hb : s.heap.IsTuple b items2)
    (he : ∀ j (h1 : j < items.size) (h2 : j < items2.size), EqAt A.in1 s items[j] items2[j] (e j)) (hr : ∀ j (h1 : j < items.size) (h2 : j < items2.size), e j = false → RcLt A.in1 s items[j] items2[j] (r j))
    (h : Q (.bool (firstLt e r (decide (items.size < items2.size)) (List.range (min items.size items2.size)))) s) : wpAny (model prog w) A (call (.builtin "tuple.__lt__") [.ref l, .ref b]) Q E s := by
  obtain ⟨⟨cls, dd, data, sl⟩, ho, hc, n, hd⟩ := id hl
  obtain ⟨⟨cls2, dd2, data2, sl2⟩, ho2, hc2, n2, hd2⟩ := id hb
  simp only at hc hd hc2 hd2
  subst hc hd hc2 hd2
  exact call_meets F.slot_tuple_lt ⟨_, ho, rfl⟩ F.entry_tuple_lt (F.args_tuple_lt_2 _ _) (PySem.SeqAt.tuple_ltAt l b items items2 n n2 dd dd2 sl sl2 e r) ⟨ho, ho2, he, hr, h⟩
theorem one_tup {xs ys : List PyData} {a b : Value} {as bs : List Addr} {Q : Bool → Shared → Prop} (f : Bool) (ra : Reads s.heap a (.tuple xs) as) (rb : Reads s.heap b (.tuple ys) bs) (hal : alikeAll xs ys = true)
    (hu : A.units + min (PyData.tuple xs).depth (PyData.tuple ys).depth < cLine) (hq : Q (PyProof.Rows.lexLt itemOrd (keyToksAll xs) (keyToksAll ys)) s) : wpAny (model prog w) A (oneLt' f a b) Q E s := by
  cases f with
  | false => exact oneLt_alike (fun z => absurd z Bool.false_ne_true) ra rb (by simpa [alike] using hal) (fun z => nomatch z) hu (by rw [dataLt_tuple]; exact hq)
  | true =>
    cases ra with
    | @tuple l o vs n _ as₁ h1 h2 h3 h4 =>
      cases rb with
      | @tuple l' o' vs' n' _ bs₁ k1 k2 k3 k4 =>
        have n1 : vs.size = xs.length := by simpa using ReadsAll.length _ _ _ h4
        have n2 : vs'.size = ys.length := by simpa using ReadsAll.length _ _ _ k4
        rw [← firstLt_toks xs ys hal, ← n1, ← n2] at hq
        rw [oneLt'_eq]
        simp only [if_true]
        refine wpAny_bind (wpAny_cRoomFor (room_here hu) ?_)
        refine wpAny_bind (wpAny_callSpecialIfBound?_slot (T := "tuple") ⟨_, h1, h2⟩ F.slot_tuple_lt (call_tuple_lt (e := pairEq xs ys) (r := fun j => dataLt (xs.getD j .none) (ys.getD j .none)) ⟨_, h1, h2, _, h3⟩ ⟨_, k1, k2, _, k3⟩ (fun j j1 j2 => ?_) (fun j j1 j2 hj => ?_) ?_))
        · have := eqAt_alikeAll xs ys A.in1 s vs.toList vs'.toList _ _ h4 k4 hal (room_in hu) j (by simpa using j1) (by simpa using j2)
          simpa using this
        · have := rcLt_alikeAll xs ys A.in1 s vs.toList vs'.toList _ _ h4 k4 hal (room_in hu) j (by simpa using j1) (by simpa using j2) hj
          simpa using this
        · exact wpAny_truthy_bool hq
theorem dep (xs ys : List PyData) (h : PyData.depthAll xs ≤ 40) : min (PyData.tuple xs).depth (PyData.tuple ys).depth ≤ 41 := by
  have e : (PyData.tuple xs).depth = PyData.depthAll xs + 1 := by first | rfl | simp [PyData.depth]
  omega
theorem cmp_rows {vs : List Value} {k : Value → List PyData} {κ : SortKind} (R : Rows s.heap vs k) (hu : A.units + 64 < cLine) (hk : κ = general' ∨ κ = oneType' ∨ ∃ b, κ = tuples' b ∧ (b = true → ∀ v ∈ vs, ∀ z r t, k v = z :: r → z ≠ .tuple t)) :
    SrtO.Cmp prog w A s κ (fun p => p.1 ∈ vs) (SrtO.lt2 (ltD k)) := by
  intro p q hp hq
  obtain ⟨as, ra⟩ := R.rd _ hp
  obtain ⟨bs, rb⟩ := R.rd _ hq
  have al := R.al _ hp _ hq
  have d := dep (k p.1) (k q.1) (R.dp _ hp)
  rcases hk with rfl | rfl | ⟨b, rfl, hb⟩
  · exact one_tup false ra rb al (by omega) ⟨rfl, rfl⟩
  · exact one_tup true ra rb al (by omega) ⟨rfl, rfl⟩
  · have hf := hb
    generalize hx : k p.1 = xs at ra
    generalize hy : k q.1 = ys at rb
    have dx := R.dp _ hp
    have dl : ltD k p.1 q.1 = PyProof.Rows.lexLt itemOrd (keyToksAll xs) (keyToksAll ys) := by rw [← hx, ← hy]
    rw [hx] at dx al
    rw [hy] at al
    show wpAny (model prog w) A (keyLt' (tuples' b) p.1 q.1) (fun r s' => s' = s ∧ r = ltD k p.1 q.1) (fun _ _ => False) s
    rw [dl]
    have hfp := fun (z : b = true) => hf z p.1 hp
    generalize p.1 = pv at ra hfp hx
    generalize q.1 = qv at rb hy
    cases ra with
    | @tuple l o vs n _ as₁ h1 h2 h3 h4 =>
      cases rb with
      | @tuple l' o' vs' n' _ bs₁ k1 k2 k3 k4 =>
        have n1 : vs.size = xs.length := by simpa using ReadsAll.length _ _ _ h4
        have n2 : vs'.size = ys.length := by simpa using ReadsAll.length _ _ _ k4
        refine kat_lt h1 h3 k1 k3 ?_
        refine katLex_alike xs ys 0 _ _ _ _ h4 k4 al (by omega) (fun z _ x r t e => hfp z x r t (by rw [hx, e])) (by rw [n1, n2]) ⟨rfl, rfl⟩
theorem rows_sortable {a : Addr} {vs : List Value} {k : Value → List PyData} (R : Rows s.heap vs k) (hu : A.units + 64 < cLine) (h0 : 0 < vs.length) (ha : ∀ o, s.heap.get? a = some o → o.cls ≠ .type "tuple") : SrtO.SortableO prog w A s a vs (ltD k) := by
  intro h' keep
  have R' : Rows h' vs k := R.keep fun b o e c => keep b o (fun z => by subst z; exact ha o e c) e
  obtain ⟨fs, t, q⟩ := rows_firsts R'
  cases e : (fs.toArray.all fun x => x.isSome) with
  | false =>
    have hne : ∃ κ, (κ = general' ∨ κ = oneType') ∧ ∀ (Q : SortKind → Shared → Prop) (E : Value → Shared → Prop), Q κ { s with heap := h' } → wpAny (model prog w) A (keyKind' vs.toArray) Q E { s with heap := h' } := by
      by_cases c : (fs.toArray[0]?.bind id).isSome = true
      · refine ⟨general', .inl rfl, fun Q E hq => ?_⟩
        rw [kat_kind_eq, List.mapM_toArray, map_eq_pure_bind]
        refine wpAny_bind (wpAny_bind (firsts_run vs _ t (wpAny_pure ?_)))
        rw [if_neg (by rw [e]; exact Bool.false_ne_true), if_pos c]
        exact wpAny_pure hq
      · refine ⟨oneType', .inr rfl, fun Q E hq => ?_⟩
        rw [kat_kind_eq, List.mapM_toArray, map_eq_pure_bind]
        refine wpAny_bind (wpAny_bind (firsts_run vs _ t (wpAny_pure ?_)))
        rw [if_neg (by rw [e]; exact Bool.false_ne_true), if_neg c]
        rw [oneTypeOnly'_eq, List.mapM_toArray, map_eq_pure_bind]
        refine wpAny_bind (wpAny_bind (wpAny_bind (kas_mapM (r := Value.type "tuple") _ (fun v hv Q' hq => (firsts_typ (s := { s with heap := h' }) t v hv).here hq) (wpAny_pure ?_))))
        obtain ⟨v1, vr, rfl⟩ : ∃ v1 vr, vs = v1 :: vr := by
          match vs, h0 with
          | v1 :: vr, _ => exact ⟨v1, vr, rfl⟩
        have hall : ((List.map (fun _ => Value.type "tuple") (v1 :: vr)).toArray.all fun x => x == Value.type "tuple") = true := by
          simp only [List.all_toArray, List.all_map, List.all_eq_true]
          intro _ _
          exact (by rfl : (Value.type "tuple" == Value.type "tuple") = true)
        have hz : (List.map (fun _ => Value.type "tuple") (v1 :: vr)).toArray[0]? = some (Value.type "tuple") := by simp
        rw [hz]
        simp only [hall, if_true]
        exact wpAny_pure (wpAny_pure hq)
    obtain ⟨κ, hκ, run⟩ := hne
    exact ⟨κ, run, cmp_rows (s := { s with heap := h' }) R' hu (by rcases hκ with z | z; exact .inl z; exact .inr (.inl z))⟩
  | true =>
    obtain ⟨gs, rfl, kt⟩ := kat_of (s := { s with heap := h' }) t e
    have lg : gs.length = vs.length := by
      have l : ∀ {us : List Value} {gs : List Value}, KatTups h' us gs → gs.length = us.length := by
        intro us
        induction us with
        | nil =>
          intro gs t
          cases gs with
          | nil => rfl
          | cons _ _ => exact t.elim
        | cons u us ih =>
          intro gs t
          cases gs with
          | nil => exact t.elim
          | cons g gs => rw [List.length_cons, List.length_cons, ih t.2]
      exact l kt
    obtain ⟨g1, gr, rfl⟩ : ∃ g1 gr, gs = g1 :: gr := by
      match gs, (show 0 < gs.length by omega) with
      | g1 :: gr, _ => exact ⟨g1, gr, rfl⟩
    obtain ⟨v1, hv1, z1, r1, as1, e1, rd1⟩ := q (some g1) (by simp) g1 rfl
    have same : ∀ v ∈ vs, ∀ z r, k v = z :: r → tyD z = tyD z1 := fun v hv z r ez => by
      have a := R.al v hv v1 hv1
      rw [ez, e1] at a
      exact alike_ty (alike_all_cons a).1
    refine ⟨tuples' (Value.type (tyD z1) != Value.type "tuple"), fun Q E hq => ?_, cmp_rows (s := { s with heap := h' }) R' hu (.inr (.inr ⟨_, rfl, fun hb v hv z r t ez c => ?_⟩))⟩
    · refine kat_kind (T := .type (tyD z1)) kt (by simp) (fun f hf => ?_) (by simp) hq
      obtain ⟨v, hv, z, r, as, ez, rz⟩ := q (some f) (List.mem_map.mpr ⟨f, hf, rfl⟩) f rfl
      rw [← same v hv z r ez]
      refine look_ty ?_ rz
      have p := R.pu v hv
      rw [ez] at p
      unfold pureAll at p
      exact (Bool.and_eq_true _ _ ▸ p).1
    · have w := same v hv z r ez
      rw [c] at w
      rw [← w] at hb
      exact absurd hb (show ¬ ((Value.type "tuple" != Value.type "tuple") = true) by decide)
end
/-- x before y, as Python orders these tuples -/
abbrev ltV (k : V → List PyData) (x y : V) : Bool := PyProof.Rows.lexLt itemOrd (keyToksAll (k x)) (keyToksAll (k y))
theorem ltV_swo (k : V → List PyData) : SrtO.Swo (ltV k) := by
  refine ⟨fun x y h => ?_, fun x y z h1 h2 => ?_⟩
  · cases e : ltV k y x with
    | false => rfl
    | true =>
      have z := (listOrd itemOrd).trans _ _ _ h e
      rw [(listOrd itemOrd).irrefl] at z
      cases z
  · cases e : ltV k z x with
    | false => rfl
    | true =>
      rcases (listOrd itemOrd).negTrans _ (keyToksAll (k y)) _ e with q | q
      · rw [show ltV k z y = true from q] at h2
        cases h2
      · rw [show ltV k y x = true from q] at h1
        cases h1
/-- sorted(xs), xs a list of tuples (k tells them) of numbers, texts, tuples of these, any two of them alike: a new list, sorted, equal ones in their order -/
def rSortD (K : PySem.W.Frag) : List V → Hp → VK → Prop := fun vs H Q => ∃ (a : Addr) (xs : List V) (k : V → List PyData), vs = [V.ref a] ∧ SqL K H a xs ∧ (∀ x ∈ xs, (∃ t, x = V.ref t) ∧ Dp K H x (.tuple (k x)) ∧ pureAll (k x) = true ∧ PyData.depthAll (k x) ≤ 40) ∧
  (∀ x ∈ xs, ∀ y ∈ xs, alikeAll (k x) (k y) = true) ∧ ∀ ys p, SrtO.Srtd (ltV k) ys → SrtO.Stb (ltV k) ys xs → H p = none → Q (.ref p) (upd H p (.lst ys))
section
variable {X : Cx}
theorem cr_sortD (hu : X.A.units + 66 < cLine) : CallR X (.builtin "sorted") (rSortD X.K) := by
  intro pins s σ H vs us Q I r h
  obtain ⟨a, xs, k, rfl, hs, hx, al, q⟩ := h
  obtain ⟨its, rv, hl, hz⟩ := I.list hs
  obtain ⟨u, rfl, ru⟩ := vals1 r
  obtain rfl : u = Value.ref a := ru
  obtain ⟨e1, e2⟩ := refs_back rv fun x m => (hx x m).1
  have back : ∀ v ∈ its, backV v ∈ xs := fun v hv => by
    rw [e1]
    exact List.mem_map.mpr ⟨_, hv, rfl⟩
  have R : Rows s.heap its (fun u => k (backV u)) := ⟨fun v hv => by
      obtain ⟨t, rfl⟩ := e2 v hv
      exact Dp.reads I _ (backV (.ref t)) (.ref t) (hx _ (back _ hv)).2.1 rfl, fun v hv => (hx _ (back v hv)).2.2.1, fun v hv u hu => al _ (back v hv) _ (back u hu), fun v hv => (hx _ (back v hv)).2.2.2⟩
  refine SrtO.sorted_ord (ltv := ltD fun u => k (backV u)) (ltD_swo _) hl.isList (by rw [← rv.length]; exact hz) (fun h2 h₁ b hb kk => ?_) fun out h1 h2 => ?_
  · refine rows_sortable (s := { s with heap := h₁ }) (R.keep fun c o e _ => (kk c o e).2) (by show X.A.units + 1 + 1 + 64 < cLine; omega) (by omega) fun o e => ?_
    have e' : some o = some (seqObj "list" its.toArray 0) := e.symm.trans hb
    cases e'
    intro c
    exact absurd (Value.type.inj c) (by decide)
  · have h3 : ∀ u ∈ out, ∃ a, u = Value.ref a := fun u hu => e2 u (h2.perm.mem_iff.mp hu)
    obtain ⟨n, hn⟩ := PyProof.Rows.sortedAll_at s.heap its out.toArray
    have hb : SrtO.Stb (ltV k) (out.map backV) xs := by
      rw [e1]
      exact SrtO.Stb.map (ltV_swo k) backV h2
    refine ⟨.ref (s.heap.objs.size + 1), upd H (s.heap.objs.size + 1) (.lst (out.map backV)), I.laid (t' := s.toks) (fun b o e => PyProof.Rows.sortedAll_old e) (Nat.le_succ _) ⟨?_, out, n, vals_back h3, hn⟩, rfl, q _ _ (SrtO.srtd_map h1) hb (I.hok.fresh (Nat.le_succ _))⟩
    rw [hb.len]
    exact hz
end
end NmD
namespace Nm
open PySem PySem.Spec PyProof.Rows L2 NmD
/-! ### rows of words as data -/
abbrev rowL (ws : List Str) : List PyData := ws.map PyData.str
theorem rowL_nil : rowL [] = [] := rfl
theorem rowL_cons (w : Str) (ws : List Str) : rowL (w :: ws) = PyData.str w :: rowL ws := rfl
abbrev rowD (ws : List Str) : PyData := .tuple (rowL ws)
theorem dpAll_row {K : PySem.W.Frag} {H : Hp} : ∀ ws : List Str, DpAll K H (ws.map V.str) (rowL ws)
  | [] => .nil
  | w :: ws => .cons (.str w) (dpAll_row ws)
theorem dp_row {K : PySem.W.Frag} {H : Hp} {a : Addr} {ws : List Str} (h : H a = some (.tup (ws.map V.str))) : Dp K H (.ref a) (rowD ws) := .tup (SqT.of h) (dpAll_row ws)
theorem eqv_rowL : ∀ a b : List Str, PyData.eqvAll (rowL a) (rowL b) = decide (a = b)
  | [], [] => by simp [PyData.eqvAll]
  | [], _ :: _ => by simp [PyData.eqvAll]
  | _ :: _, [] => by simp [PyData.eqvAll]
  | x :: a, y :: b => by
    have ih := eqv_rowL a b
    rw [rowL_cons, rowL_cons, PyData.eqvAll, ih, PyData.eqv]
    by_cases h : x = y
    · subst h
      simp
    · simp [h]
theorem eqv_row (a b : List Str) : PyData.eqv (rowD a) (rowD b) = decide (a = b) := by rw [PyData.eqv, eqv_rowL]
theorem depth_rowL : ∀ ws : List Str, PyData.depthAll (rowL ws) = 0
  | [] => by simp [PyData.depthAll]
  | w :: ws => by
    rw [rowL_cons, PyData.depthAll, depth_rowL ws, PyData.depth]
    rfl
theorem lay_rowL : ∀ ws : List Str, (∀ z ∈ ws, PyData.canLay0 (.str z) = true) → PyData.canLayAll0 (rowL ws) = true
  | [], _ => by simp [PyData.canLayAll0]
  | w :: ws, h => by
    rw [rowL_cons, PyData.canLayAll0, h w List.mem_cons_self, lay_rowL ws fun z hz => h z (List.mem_cons_of_mem _ hz)]
    rfl
theorem shaped_row {ws : List Str} (h : ∀ z ∈ ws, PyData.canLay0 (.str z) = true) : SeqAt.shaped (rowD ws) = true := by
  unfold SeqAt.shaped
  rw [PyData.canLay0, lay_rowL ws h, PyData.depth, depth_rowL]
  decide
theorem pure_rowL : ∀ ws : List Str, pureAll (rowL ws) = true
  | [] => by simp [pureAll]
  | w :: ws => by
    rw [rowL_cons, pureAll, pure_rowL ws, pureD]
    rfl
theorem alike_rowL : ∀ a b : List Str, PySem.W.alikeAll (rowL a) (rowL b) = true
  | [], [] => by simp [PySem.W.alikeAll]
  | [], _ :: _ => by simp [PySem.W.alikeAll]
  | _ :: _, [] => by simp [PySem.W.alikeAll]
  | x :: a, y :: b => by
    rw [rowL_cons, rowL_cons, PySem.W.alikeAll, alike_rowL a b, PySem.W.alike]
    rfl
abbrev rowLt (a b : List Str) : Bool := PyProof.Rows.lexLt itemOrd (PySem.W.keyToksAll (rowL a)) (PySem.W.keyToksAll (rowL b))
theorem row_pre : ∀ (p a b : List Str), rowLt (p ++ a) (p ++ b) = rowLt a b
  | [], a, b => rfl
  | w :: p, a, b => by
    have ih := row_pre p a b
    unfold rowLt at ih ⊢
    rw [List.cons_append, List.cons_append, rowL_cons, rowL_cons, PySem.W.toks_all_cons, PySem.W.toks_all_cons, lex_self, PySem.W.lex_pre]
    exact ih
/-- a row comes before each that begins with it -/
theorem row_more (a : List Str) (w : Str) : rowLt a (a ++ [w]) = true := by
  have h := row_pre a [] [w]
  rw [List.append_nil] at h
  rw [h]
  unfold rowLt
  rw [rowL_nil, rowL_cons, PySem.W.toks_all_cons]
  simp only [PySem.W.keyToksAll]
  rw [lex_diff (O := itemOrd) (by simp)]
  rfl
/-! ### pieces of tuples -/
theorem sl_last {K : PySem.W.Frag} {H : Hp} {a : Addr} {xs : List V} {Q : VK} (h : H a = some (.tup xs)) (q : ∀ r H', Same H H' → H' r = some (.tup xs.dropLast) → Q (.ref r) H') : rSlA K (.ref a) none (some (-1)) H Q := by
  have s1 : HT.sIx xs.length xs.length (some (-1)) = xs.length - 1 := by
    show (if (-1 : Int) < 0 then ((-1 : Int) + (xs.length : Int)).toNat else min (-1 : Int).toNat xs.length) = xs.length - 1
    rw [if_pos (by decide)]
    omega
  refine ⟨a, xs, rfl, SqT.of h, fun z => ?_, fun z p hp => ?_⟩
  · have e := z.2
    rw [s1] at e
    have : xs = [] := List.eq_nil_of_length_eq_zero (by omega)
    subst this
    exact q a H (Same.refl H) h
  · refine q p _ (same_new hp) ?_
    rw [upd_same]
    unfold cutV
    rw [s1, HT.sIx_none, List.drop_zero, Nat.sub_zero, List.dropLast_eq_take]
theorem sl_take {K : PySem.W.Frag} {H : Hp} {a : Addr} {xs : List V} {k : Nat} {Q : VK} (h : H a = some (.tup xs)) (q : ∀ r H', Same H H' → H' r = some (.tup (xs.take k)) → Q (.ref r) H') : rSlA K (.ref a) none (some (k : Int)) H Q := by
  refine ⟨a, xs, rfl, SqT.of h, fun z => ?_, fun z p hp => ?_⟩
  · have e := z.2
    rw [HT.sIx_nat] at e
    refine q a H (Same.refl H) ?_
    rw [List.take_of_length_le (by omega)]
    exact h
  · refine q p _ (same_new hp) ?_
    rw [upd_same]
    unfold cutV
    rw [HT.sIx_nat, HT.sIx_none, List.drop_zero, Nat.sub_zero]
    by_cases c : k ≤ xs.length
    · rw [Nat.min_eq_left c]
    · rw [Nat.min_eq_right (by omega), List.take_of_length_le (Nat.le_refl _), List.take_of_length_le (by omega)]
theorem cat_tups {K : PySem.W.Frag} {H : Hp} {a b : Addr} {xs ys : List V} {Q : VK} (ha : H a = some (.tup xs)) (hb : H b = some (.tup ys)) (l : xs.length + ys.length ≤ 4000) (q : ∀ r H', Same H H' → H' r = some (.tup (xs ++ ys)) → Q (.ref r) H') : rCatA K (.ref a) (.ref b) H Q := by
  have b4 : (4000 : Nat) ≤ PySem.sizeLine := by decide
  refine ⟨a, b, xs, ys, rfl, rfl, SqT.of ha, SqT.of hb, by omega, fun e => ?_, fun _ e => ?_, fun _ _ p hp => q p _ (same_new hp) upd_same⟩
  · subst e
    exact q b H (Same.refl H) hb
  · subst e
    refine q a H (Same.refl H) ?_
    rw [List.append_nil]
    exact ha
/-! ### pairs of numbers -/
abbrev Pr := Int × Int
abbrev prD (p : Pr) : PyData := .tuple [.int p.1, .int p.2]
abbrev prsD (ps : List Pr) : PyData := .list (ps.map prD)
def PrAt (H : Hp) (x : V) (p : Pr) : Prop := ∃ t, x = .ref t ∧ H t = some (.tup [.int p.1, .int p.2])
theorem PrAt.mono {H H' : Hp} (k : ∀ a xs, H a = some (.tup xs) → H' a = some (.tup xs)) {x : V} {p : Pr} (h : PrAt H x p) : PrAt H' x p := by
  obtain ⟨t, e, h1⟩ := h
  exact ⟨t, e, k _ _ h1⟩
/-- a list of pairs -/
def PrsAt (H : Hp) (a : Addr) (ps : List Pr) : Prop := ∃ xs, H a = some (.lst xs) ∧ Paired (PrAt H) xs ps
theorem PrsAt.same {H H' : Hp} (g : Same H H') {a : Addr} {ps : List Pr} (h : PrsAt H a ps) : PrsAt H' a ps := by
  obtain ⟨xs, h1, h2⟩ := h
  exact ⟨xs, g _ _ h1, paired_mono (fun _ _ => PrAt.mono (same_tups g)) h2⟩
theorem dp_pr {K : PySem.W.Frag} {H : Hp} {x : V} {p : Pr} (h : PrAt H x p) : Dp K H x (prD p) := by
  obtain ⟨t, rfl, h1⟩ := h
  exact .tup (SqT.of h1) (.cons (.int _) (.cons (.int _) .nil))
theorem dp_prsL {K : PySem.W.Frag} {H : Hp} : ∀ {xs : List V} {ps : List Pr}, Paired (PrAt H) xs ps → DpAll K H xs (ps.map prD)
  | _, _, .nil => .nil
  | _, _, .cons h t => .cons (dp_pr h) (dp_prsL t)
theorem dp_prs {K : PySem.W.Frag} {H : Hp} {a : Addr} {ps : List Pr} (h : PrsAt H a ps) : Dp K H (.ref a) (prsD ps) := by
  obtain ⟨xs, h1, h2⟩ := h
  exact .lst (SqL.of h1) (dp_prsL h2)
theorem eqv_pr (p q : Pr) : PyData.eqv (prD p) (prD q) = decide (p = q) := by
  obtain ⟨a, b⟩ := p
  obtain ⟨c, d⟩ := q
  simp only [PyData.eqv, PyData.eqvAll]
  by_cases h1 : a = c <;> by_cases h2 : b = d <;> simp [h1, h2]
theorem eqv_prsL : ∀ ps qs : List Pr, PyData.eqvAll (ps.map prD) (qs.map prD) = decide (ps = qs)
  | [], [] => by simp [PyData.eqvAll]
  | [], _ :: _ => by simp [PyData.eqvAll]
  | _ :: _, [] => by simp [PyData.eqvAll]
  | p :: ps, q :: qs => by
    rw [List.map_cons, List.map_cons, PyData.eqvAll, eqv_prsL ps qs, eqv_pr]
    by_cases h1 : p = q <;> by_cases h2 : ps = qs <;> simp [h1, h2]
theorem eqv_prs (ps qs : List Pr) : PyData.eqv (prsD ps) (prsD qs) = decide (ps = qs) := by rw [PyData.eqv, eqv_prsL]
theorem any_pr (q : Pr) : ∀ ps : List Pr, ((ps.map prD).any fun z => PyData.eqv z (prD q)) = decide (q ∈ ps)
  | [] => by simp
  | p :: ps => by
    rw [List.map_cons, List.any_cons, any_pr q ps, eqv_pr]
    by_cases h : p = q
    · subst h
      simp
    · have h' : ¬ q = p := fun z => h z.symm
      simp [h, h']
theorem shaped_pr (p : Pr) : SeqAt.shaped (prD p) = true := by
  unfold SeqAt.shaped
  simp [PyData.canLay0, PyData.canLayAll0, PyData.depth, PyData.depthAll]
theorem lay_prsL : ∀ ps : List Pr, PyData.canLayAll0 (ps.map prD) = true ∧ PyData.depthAll (ps.map prD) ≤ 1
  | [] => by simp [PyData.canLayAll0, PyData.depthAll]
  | p :: ps => by
    obtain ⟨h1, h2⟩ := lay_prsL ps
    rw [List.map_cons, PyData.canLayAll0, h1, PyData.depthAll]
    refine ⟨by simp [PyData.canLay0, PyData.canLayAll0], ?_⟩
    have e : PyData.depth (prD p) ≤ 1 := by simp [PyData.depth, PyData.depthAll]
    omega
theorem shaped_prs (ps : List Pr) : SeqAt.shaped (prsD ps) = true := by
  unfold SeqAt.shaped
  obtain ⟨h1, h2⟩ := lay_prsL ps
  rw [PyData.canLay0, h1, PyData.depth, Bool.true_and]
  exact decide_eq_true (by omega)
end Nm
namespace Nm
open PySem PySem.Spec PyProof.Rows L2
theorem u65 {k : Nat} {A : Around} (r : Room k A) : A.units + 65 < cLine := by
  have := r.un
  omega
theorem u66 {k : Nat} {A : Around} (r : Room k A) : A.units + 66 < cLine := by
  have := r.un
  omega
/-! ### all pairs i < j with f, row by row -/
def rowUp (f : Nat → Nat → Bool) (i k : Nat) : List Pr := (((List.range k).map fun d => i + 1 + d).filter (f i)).map fun (j : Nat) => ((i : Int), (j : Int))
def pairsUp (f : Nat → Nat → Bool) (n m : Nat) : List Pr := (List.range m).flatMap fun i => rowUp f i (n - (i + 1))
abbrev pairsOf (f : Nat → Nat → Bool) (n : Nat) : List Pr := pairsUp f n n
theorem rowUp_one (f : Nat → Nat → Bool) (i k : Nat) : rowUp f i (k + 1) = rowUp f i k ++ (if f i (i + 1 + k) = true then [((i : Int), ((i + 1 + k : Nat) : Int))] else []) := by
  unfold rowUp
  rw [List.range_succ, List.map_append, List.filter_append, List.map_append]
  congr 1
  by_cases h : f i (i + 1 + k) = true
  · rw [if_pos h, List.map_singleton, List.filter_cons_of_pos h]
    rfl
  · rw [if_neg h, List.map_singleton, List.filter_cons_of_neg h]
    rfl
theorem pairsUp_one (f : Nat → Nat → Bool) (n m : Nat) : pairsUp f n (m + 1) = pairsUp f n m ++ rowUp f m (n - (m + 1)) := by
  unfold pairsUp
  rw [List.range_succ, List.flatMap_append]
  simp
theorem mem_rowUp {f : Nat → Nat → Bool} {i k : Nat} {p : Pr} : p ∈ rowUp f i k ↔ ∃ j : Nat, p = ((i : Int), (j : Int)) ∧ i < j ∧ j < i + 1 + k ∧ f i j = true := by
  unfold rowUp
  rw [List.mem_map]
  constructor
  · rintro ⟨j, hj, rfl⟩
    obtain ⟨h1, h2⟩ := List.mem_filter.mp hj
    obtain ⟨d, hd, rfl⟩ := List.mem_map.mp h1
    have := List.mem_range.mp hd
    exact ⟨_, rfl, by omega, by omega, h2⟩
  · rintro ⟨j, rfl, h1, h2, h3⟩
    exact ⟨j, List.mem_filter.mpr ⟨List.mem_map.mpr ⟨j - (i + 1), List.mem_range.mpr (by omega), by omega⟩, h3⟩, rfl⟩
theorem mem_pairsUp {f : Nat → Nat → Bool} {n m : Nat} {p : Pr} : p ∈ pairsUp f n m ↔ ∃ i j : Nat, p = ((i : Int), (j : Int)) ∧ i < j ∧ j < n ∧ i < m ∧ f i j = true := by
  unfold pairsUp
  rw [List.mem_flatMap]
  constructor
  · rintro ⟨i, hi, hp⟩
    obtain ⟨j, e, h1, h2, h3⟩ := mem_rowUp.mp hp
    exact ⟨i, j, e, h1, by omega, List.mem_range.mp hi, h3⟩
  · rintro ⟨i, j, rfl, h1, h2, h3, h4⟩
    exact ⟨i, List.mem_range.mpr h3, mem_rowUp.mpr ⟨j, rfl, h1, by omega, h4⟩⟩
theorem rowUp_congr {f g : Nat → Nat → Bool} {i k : Nat} (h : ∀ j, i < j → j < i + 1 + k → f i j = g i j) : rowUp f i k = rowUp g i k := by
  unfold rowUp
  congr 1
  refine List.filter_congr fun j hj => ?_
  obtain ⟨d, hd, rfl⟩ := List.mem_map.mp hj
  have := List.mem_range.mp hd
  exact h _ (by omega) (by omega)
theorem flat_congr {α β : Type} {f g : α → List β} : ∀ {l : List α}, (∀ x ∈ l, f x = g x) → l.flatMap f = l.flatMap g
  | [], _ => rfl
  | x :: l, h => by rw [List.flatMap_cons, List.flatMap_cons, h x List.mem_cons_self, flat_congr fun y hy => h y (List.mem_cons_of_mem _ hy)]
theorem pairsOf_congr {f g : Nat → Nat → Bool} {n : Nat} (h : ∀ i j, i < j → j < n → f i j = g i j) : pairsOf f n = pairsOf g n := by
  refine flat_congr fun i hi => rowUp_congr fun j h1 h2 => ?_
  exact h i j h1 (by omega)
theorem filter_rowUp (f : Nat → Nat → Bool) (c : Pr → Bool) (i k : Nat) : (rowUp f i k).filter c = rowUp (fun (i j : Nat) => f i j && c ((i : Int), (j : Int))) i k := by
  unfold rowUp
  rw [List.filter_map, List.filter_filter]
  congr 1
  refine List.filter_congr fun j _ => ?_
  show (c ((i : Int), (j : Int)) && f i j) = (f i j && c ((i : Int), (j : Int)))
  exact Bool.and_comm _ _
theorem filter_flat {α β : Type} (c : β → Bool) (f : α → List β) : ∀ l : List α, (l.flatMap f).filter c = l.flatMap fun x => (f x).filter c
  | [] => rfl
  | x :: l => by rw [List.flatMap_cons, List.flatMap_cons, List.filter_append, filter_flat c f l]
theorem filter_pairsOf (f : Nat → Nat → Bool) (c : Pr → Bool) (n : Nat) : (pairsOf f n).filter c = pairsOf (fun (i j : Nat) => f i j && c ((i : Int), (j : Int))) n := by
  unfold pairsOf pairsUp
  rw [filter_flat]
  exact flat_congr fun i _ => filter_rowUp f c i _
theorem rowUp_none {f : Nat → Nat → Bool} {i k : Nat} (h : ∀ j, i < j → j < i + 1 + k → f i j = false) : rowUp f i k = [] := by
  refine List.eq_nil_iff_forall_not_mem.mpr fun p hp => ?_
  obtain ⟨j, _, h1, h2, h3⟩ := mem_rowUp.mp hp
  rw [h j h1 h2] at h3
  cases h3
theorem rowUp_less {f : Nat → Nat → Bool} {i : Nat} : ∀ {k l : Nat}, l ≤ k → (∀ j, i + 1 + l ≤ j → j < i + 1 + k → f i j = false) → rowUp f i k = rowUp f i l
  | 0, l, h, _ => by
    have : l = 0 := by omega
    subst this
    rfl
  | k + 1, l, h, hf => by
    by_cases e : l = k + 1
    · rw [e]
    · rw [rowUp_one, rowUp_less (k := k) (l := l) (by omega) fun j h1 h2 => hf j h1 (by omega), hf (i + 1 + k) (by omega) (by omega)]
      simp
/-- of a joined hall: the first ones -/
theorem first_pairs (f : Nat → Nat → Bool) (n m : Nat) : (pairsOf f (n + m)).filter (fun p => decide (p.2 < (n : Int))) = pairsOf f n := by
  rw [filter_pairsOf]
  unfold pairsOf pairsUp
  rw [List.range_add, List.flatMap_append]
  have z : (List.map (fun x => n + x) (List.range m)).flatMap (fun i => rowUp (fun (i j : Nat) => f i j && decide (((i : Int), (j : Int)).2 < (n : Int))) i (n + m - (i + 1))) = [] := by
    refine List.eq_nil_iff_forall_not_mem.mpr fun p hp => ?_
    obtain ⟨i, hi, hp⟩ := List.mem_flatMap.mp hp
    obtain ⟨x, _, rfl⟩ := List.mem_map.mp hi
    obtain ⟨j, _, h1, h2, h3⟩ := mem_rowUp.mp hp
    rw [Bool.and_eq_true] at h3
    have := of_decide_eq_true h3.2
    have : (j : Int) < (n : Int) := this
    omega
  rw [z, List.append_nil]
  refine flat_congr fun i hi => ?_
  have hi' := List.mem_range.mp hi
  rw [rowUp_less (k := n + m - (i + 1)) (l := n - (i + 1)) (by omega) fun j h1 h2 => by
    rw [decide_eq_false (show ¬ ((j : Int) < (n : Int)) by omega), Bool.and_false]]
  refine rowUp_congr fun j h1 h2 => ?_
  rw [decide_eq_true (show ((j : Int) < (n : Int)) by omega), Bool.and_true]
/-- of a joined hall: the last ones, numbered anew -/
theorem last_pairs (f g : Nat → Nat → Bool) (n m : Nat) (h : ∀ i j, f (n + i) (n + j) = g i j) : ((pairsOf f (n + m)).filter (fun p => decide ((n : Int) ≤ p.1))).map (fun p => (p.1 - (n : Int), p.2 - (n : Int))) = pairsOf g m := by
  rw [filter_pairsOf]
  unfold pairsOf pairsUp
  rw [List.range_add, List.flatMap_append]
  have z : (List.range n).flatMap (fun i => rowUp (fun (i j : Nat) => f i j && decide ((n : Int) ≤ ((i : Int), (j : Int)).1)) i (n + m - (i + 1))) = [] := by
    refine List.eq_nil_iff_forall_not_mem.mpr fun p hp => ?_
    obtain ⟨i, hi, hp⟩ := List.mem_flatMap.mp hp
    obtain ⟨j, _, h1, h2, h3⟩ := mem_rowUp.mp hp
    rw [Bool.and_eq_true] at h3
    have := of_decide_eq_true h3.2
    have : (n : Int) ≤ (i : Int) := this
    have := List.mem_range.mp hi
    omega
  rw [z, List.nil_append, List.map_flatMap, List.flatMap_map]
  refine flat_congr fun i hi => ?_
  have e : n + m - (n + i + 1) = m - (i + 1) := by omega
  rw [e]
  unfold rowUp
  rw [List.map_map]
  have r : (List.range (m - (i + 1))).map (fun d => n + i + 1 + d) = ((List.range (m - (i + 1))).map (fun d => i + 1 + d)).map (fun j => n + j) := by
    rw [List.map_map]
    refine List.map_congr_left fun d _ => ?_
    show n + i + 1 + d = n + (i + 1 + d)
    omega
  rw [r, List.filter_map, List.map_map]
  have c : List.filter ((fun (j : Nat) => f (n + i) j && decide ((n : Int) ≤ (((n + i : Nat) : Int), (j : Int)).1)) ∘ fun j => n + j) ((List.range (m - (i + 1))).map fun d => i + 1 + d) = List.filter (g i) ((List.range (m - (i + 1))).map fun d => i + 1 + d) := by
    refine List.filter_congr fun j _ => ?_
    show (f (n + i) (n + j) && decide ((n : Int) ≤ ((n + i : Nat) : Int))) = g i j
    rw [decide_eq_true (show (n : Int) ≤ ((n + i : Nat) : Int) by omega), Bool.and_true, h]
  rw [c]
  refine List.map_congr_left fun j _ => ?_
  show ((((n + i : Nat) : Int) - (n : Int)), (((n + j : Nat) : Int) - (n : Int))) = ((i : Int), (j : Int))
  rw [show (((n + i : Nat) : Int) - (n : Int)) = (i : Int) by omega, show (((n + j : Nat) : Int) - (n : Int)) = (j : Int) by omega]
/-! ### boards that are pairs -/
def rowExt (a b : List Str) : Bool := decide (b.dropLast = a) && decide (b.length = a.length + 1)
/-- one longer by a word that the longer one's master has played -/
def extOk (b c : Bd) : Bool := rowExt b.2.2 c.2.2 && !decide ((b.2.2.length : Int) % 2 = c.2.1)
def arePair (b c : Bd) : Bool := decide (b.1 = c.1) && (!decide (b.2.1 = c.2.1) && (decide (b.2.2 = c.2.2) || (extOk b c || extOk c b)))
def areApart (b c : Bd) : Bool := decide (b.1 = c.1) && (!decide (b.2.1 = c.2.1) && (rowExt b.2.2 c.2.2 || rowExt c.2.2 b.2.2))
def onB (f : Bd → Bd → Bool) (bs : List Bd) (i j : Nat) : Bool := match bs[i]?, bs[j]? with
  | some b, some c => f b c
  | _, _ => false
theorem onB_at {f : Bd → Bd → Bool} {bs : List Bd} {i j : Nat} {b c : Bd} (h1 : bs[i]? = some b) (h2 : bs[j]? = some c) : onB f bs i j = f b c := by
  unfold onB
  rw [h1, h2]
def turnB (b : Bd) : Bd := (b.1, 1 - b.2.1, b.2.2)
def sideOk (b : Bd) : Prop := b.2.1 = 0 ∨ b.2.1 = 1
theorem ext_ne {a b : List Str} (h : rowExt a b = true) : ¬ a = b := by
  unfold rowExt at h
  rw [Bool.and_eq_true] at h
  intro e
  subst e
  have := of_decide_eq_true h.2
  omega
theorem ext_one {a b : List Str} (h : rowExt a b = true) : rowExt b a = false := by
  unfold rowExt at h ⊢
  rw [Bool.and_eq_true] at h
  have := of_decide_eq_true h.2
  rw [decide_eq_false (show ¬ (a.length = b.length + 1) by omega), Bool.and_false]
theorem sideB {x : Int} {l : Nat} (h : x = 0 ∨ x = 1) : (decide ((l : Int) % 2 = 1 - x)) = !decide ((l : Int) % 2 = x) := by
  by_cases e : (l : Int) % 2 = x
  · rw [decide_eq_true e, decide_eq_false (show ¬ ((l : Int) % 2 = 1 - x) by omega)]
    rfl
  · rw [decide_eq_false e, decide_eq_true (show ((l : Int) % 2 = 1 - x) by omega)]
    rfl
theorem unlike_turn {b c : Bd} : decide ((turnB b).2.1 = (turnB c).2.1) = decide (b.2.1 = c.2.1) := by
  show decide (1 - b.2.1 = 1 - c.2.1) = decide (b.2.1 = c.2.1)
  by_cases e : b.2.1 = c.2.1
  · rw [decide_eq_true e, decide_eq_true (by omega)]
  · rw [decide_eq_false e, decide_eq_false (by omega)]
/-- turned about: those that begin alike are the same, of those one word apart just the others -/
theorem turn_pair {b c : Bd} (hb : sideOk b) (hc : sideOk c) : (areApart b c = false → arePair (turnB b) (turnB c) = arePair b c) ∧ (areApart b c = true → arePair (turnB b) (turnB c) = !arePair b c) := by
  have ub := unlike_turn (b := b) (c := c)
  have e1 : extOk (turnB b) (turnB c) = (rowExt b.2.2 c.2.2 && decide ((b.2.2.length : Int) % 2 = c.2.1)) := by
    show (rowExt b.2.2 c.2.2 && !decide ((b.2.2.length : Int) % 2 = 1 - c.2.1)) = _
    rw [sideB hc, Bool.not_not]
  have e2 : extOk (turnB c) (turnB b) = (rowExt c.2.2 b.2.2 && decide ((c.2.2.length : Int) % 2 = b.2.1)) := by
    show (rowExt c.2.2 b.2.2 && !decide ((c.2.2.length : Int) % 2 = 1 - b.2.1)) = _
    rw [sideB hb, Bool.not_not]
  unfold arePair areApart
  rw [ub, e1, e2]
  unfold extOk
  show (_ → (decide (b.1 = c.1) && _) = _) ∧ (_ → (decide (b.1 = c.1) && _) = _)
  cases n : decide (b.1 = c.1)
  · simp
  · cases s : decide (b.2.1 = c.2.1)
    · simp only [Bool.true_and, Bool.not_false]
      show (_ → (decide (b.2.2 = c.2.2) || _) = _) ∧ (_ → (decide (b.2.2 = c.2.2) || _) = _)
      cases x : rowExt b.2.2 c.2.2
      · cases y : rowExt c.2.2 b.2.2
        · simp
        · rw [decide_eq_false (fun e => ext_ne y e.symm)]
          simp
      · rw [ext_one x, decide_eq_false (ext_ne x)]
        simp
    · simp
/-! ### boards that are in order -/
def okB (b : Bd) : Prop := boardB b = true ∧ smallBd b
theorem lay_let {z : Str} {m : Int} (h : letB z m = true) : PyData.canLay0 (.str z) = true := by
  unfold letB at h
  rw [Bool.and_eq_true] at h
  have a := List.all_eq_true.mp h.2
  rw [PyData.canLay0]
  show z.cps.all (· < 0x110000) = true
  rw [Array.all_eq_true']
  intro c hc
  have := a c (by simpa using hc)
  rw [Bool.and_eq_true] at this
  have := of_decide_eq_true this.2
  exact decide_eq_true (by omega)
theorem okB.row {b : Bd} (h : okB b) : rowB b.2.2 20 = true := by
  have h1 := h.1
  unfold boardB at h1
  rw [Bool.and_eq_true, Bool.and_eq_true] at h1
  exact h1.2.2
theorem okB.lay {b : Bd} (h : okB b) : ∀ z ∈ b.2.2, PyData.canLay0 (.str z) = true := fun z hz => by
  have r := h.row
  unfold rowB at r
  rw [Bool.and_eq_true] at r
  exact lay_let (List.all_eq_true.mp r.2 z hz)
theorem okB.len {b : Bd} (h : okB b) : b.2.2.length ≤ 20 := by
  have r := h.row
  unfold rowB at r
  rw [Bool.and_eq_true] at r
  have := of_decide_eq_true r.1
  omega
theorem okB.side {b : Bd} (h : okB b) : sideOk b := by
  have h1 := h.1
  unfold boardB at h1
  rw [Bool.and_eq_true, Bool.and_eq_true] at h1
  have h2 : (decide (0 ≤ b.2.1) && decide (b.2.1 ≤ 1)) = true := h1.2.1
  rw [Bool.and_eq_true] at h2
  have a := of_decide_eq_true h2.1
  have c := of_decide_eq_true h2.2
  unfold sideOk
  omega
theorem okB.turn {b : Bd} (h : okB b) : okB (turnB b) := by
  have s := h.side
  have h1 := h.1
  unfold boardB at h1
  rw [Bool.and_eq_true, Bool.and_eq_true] at h1
  refine ⟨?_, h.2⟩
  show (letB b.1 8 && ((decide (0 ≤ 1 - b.2.1) && decide (1 - b.2.1 ≤ 1)) && rowB b.2.2 20)) = true
  unfold sideOk at s
  rw [h1.1, h1.2.2, decide_eq_true (show (0 : Int) ≤ 1 - b.2.1 by omega), decide_eq_true (show (1 : Int) - b.2.1 ≤ 1 by omega)]
  rfl
theorem decS {x y : Str} : decide (V.str x = V.str y) = decide (x = y) := by
  by_cases e : x = y
  · rw [e, decide_eq_true rfl, decide_eq_true rfl]
  · rw [decide_eq_false e, decide_eq_false fun z => e (V.str.inj z)]
theorem decI {x y : Int} : decide (V.int x = V.int y) = decide (x = y) := by
  by_cases e : x = y
  · rw [e, decide_eq_true rfl, decide_eq_true rfl]
  · rw [decide_eq_false e, decide_eq_false fun z => e (V.int.inj z)]
/-- what the program's own look at two boards comes to -/
theorem pair_short {b c : Bd} (n : b.1 = c.1) (s : ¬ b.2.1 = c.2.1) (l : b.2.2.length ≤ c.2.2.length) :
    arePair b c = (decide (b.2.2 = c.2.2) || (decide (c.2.2.dropLast = b.2.2) && !decide ((b.2.2.length : Int) % 2 = c.2.1))) := by
  unfold arePair extOk
  rw [decide_eq_true n, decide_eq_false s, Bool.true_and, Bool.not_false, Bool.true_and]
  by_cases e : b.2.2 = c.2.2
  · rw [decide_eq_true e, Bool.true_or, Bool.true_or]
  · rw [decide_eq_false e, Bool.false_or, Bool.false_or]
    have x2 : rowExt c.2.2 b.2.2 = false := by
      unfold rowExt
      rw [decide_eq_false (show ¬ (b.2.2.length = c.2.2.length + 1) by omega), Bool.and_false]
    have x1 : rowExt b.2.2 c.2.2 = decide (c.2.2.dropLast = b.2.2) := by
      unfold rowExt
      by_cases d : c.2.2.dropLast = b.2.2
      · rw [decide_eq_true d, Bool.true_and]
        refine decide_eq_true ?_
        have ld := congrArg List.length d
        rw [List.length_dropLast] at ld
        by_cases z : c.2.2.length = 0
        · exfalso
          have c0 : c.2.2 = [] := List.eq_nil_of_length_eq_zero z
          rw [c0] at d
          exact e (by rw [c0]; exact d.symm)
        · omega
      · rw [decide_eq_false d, Bool.false_and]
    rw [x1, x2, Bool.false_and, Bool.or_false]
theorem pair_swap (b c : Bd) : arePair b c = arePair c b := by
  unfold arePair
  rw [show decide (b.1 = c.1) = decide (c.1 = b.1) from decide_eq_decide.mpr eq_comm, show decide (b.2.1 = c.2.1) = decide (c.2.1 = b.2.1) from decide_eq_decide.mpr eq_comm, show decide (b.2.2 = c.2.2) = decide (c.2.2 = b.2.2) from decide_eq_decide.mpr eq_comm,
    Bool.or_comm (extOk b c) (extOk c b)]
theorem paired_take {α β : Type} {R : α → β → Prop} : ∀ {xs : List α} {ys : List β}, Paired R xs ys → ∀ n, Paired R (xs.take n) (ys.take n)
  | _, _, .nil, n => by
    rw [List.take_nil, List.take_nil]
    exact .nil
  | _, _, .cons r t, 0 => .nil
  | _, _, .cons r t, n + 1 => .cons r (paired_take t n)
theorem paired_app {α β : Type} {R : α → β → Prop} : ∀ {xs : List α} {ys : List β} {us : List α} {ws : List β}, Paired R xs ys → Paired R us ws → Paired R (xs ++ us) (ys ++ ws)
  | _, _, _, _, .nil, h => h
  | _, _, _, _, .cons r t, h => .cons r (paired_app t h)
theorem putF_len (f : Str) (y : V) : ∀ fs : List (Str × V), (putF f y fs).length ≤ fs.length + 1
  | [] => by simp [putF]
  | (g, z) :: fs => by
    have ih := putF_len f y fs
    unfold putF
    split
    · simp
    · rw [List.length_cons, List.length_cons]
      omega
theorem cutV_take (xs : List V) (k : Nat) : cutV xs none (some (k : Int)) = xs.take k := by
  unfold cutV
  rw [HT.sIx_nat, HT.sIx_none, List.drop_zero, Nat.sub_zero]
  by_cases c : k ≤ xs.length
  · rw [Nat.min_eq_left c]
  · rw [Nat.min_eq_right (by omega), List.take_of_length_le (Nat.le_refl _), List.take_of_length_le (by omega)]
end Nm
namespace Nm
open PySem PySem.Spec PyProof.Rows L2
abbrev sK := PyProof.Rows.strKind
/-- a text before another one -/
abbrev before (a b : Str) : Prop := sK.blt a.cps.toList b.cps.toList = true
theorem lt_blt (a b : Str) : ltCps a.cps.toList b.cps.toList = sK.blt a.cps.toList b.cps.toList := PyProof.Rows.ltCps_eq _ _
theorem before_not {a b : Str} (h : before a b) : ¬ before b a := fun h2 => by
  have z := sK.trans _ _ _ h h2
  rw [sK.irrefl] at z
  cases z
theorem before_tr {a b c : Str} (h : before a b) (h2 : before b c) : before a c := sK.trans a.cps.toList b.cps.toList c.cps.toList h h2
theorem before_tot {a b : Str} (h : ¬ before b a) (n : a ≠ b) : before a b := by
  cases e : sK.blt a.cps.toList b.cps.toList with
  | true => exact e
  | false =>
    have z := sK.total a.cps.toList b.cps.toList e (by
      cases e2 : sK.blt b.cps.toList a.cps.toList with
      | true => exact absurd e2 h
      | false => rfl)
    refine absurd ?_ n
    obtain ⟨⟨x⟩⟩ := a
    obtain ⟨⟨y⟩⟩ := b
    have z' : x = y := z
    rw [z']
/-- two ascending lists of the same texts are one -/
theorem rise_one : ∀ {xs ys : List Str}, xs.Pairwise before → ys.Pairwise before → (∀ z, z ∈ xs ↔ z ∈ ys) → xs = ys
  | [], [], _, _, _ => rfl
  | [], y :: ys, _, _, h => absurd ((h y).mpr List.mem_cons_self) (List.not_mem_nil)
  | x :: xs, [], _, _, h => absurd ((h x).mp List.mem_cons_self) (List.not_mem_nil)
  | x :: xs, y :: ys, p, q, h => by
    obtain ⟨p1, p2⟩ := List.pairwise_cons.mp p
    obtain ⟨q1, q2⟩ := List.pairwise_cons.mp q
    have e : x = y := by
      rcases List.mem_cons.mp ((h x).mp List.mem_cons_self) with e | m
      · exact e
      · rcases List.mem_cons.mp ((h y).mpr List.mem_cons_self) with e | m2
        · exact e.symm
        · exact absurd (p1 y m2) (before_not (q1 x m))
    subst e
    rw [rise_one p2 q2 fun z => ?_]
    have hz := h z
    constructor
    · intro m
      rcases List.mem_cons.mp (hz.mp (List.mem_cons_of_mem _ m)) with rfl | m2
      · exact absurd (p1 z m) (fun w => before_not w w)
      · exact m2
    · intro m
      rcases List.mem_cons.mp (hz.mpr (List.mem_cons_of_mem _ m)) with rfl | m2
      · exact absurd (q1 z m) (fun w => before_not w w)
      · exact m2
theorem rising_pw : ∀ (r : List Str) (p : Str), risingS p r = true → (p :: r).Pairwise fun a b => ¬ before b a
  | [], p, _ => List.pairwise_singleton _ _
  | x :: r, p, h => by
    have h' : (!ltCps x.cps.toList p.cps.toList && risingS x r) = true := h
    rw [Bool.and_eq_true, lt_blt] at h'
    have ih := rising_pw r x h'.2
    have px : ¬ before x p := fun z => by
      have w := h'.1
      rw [show sK.blt x.cps.toList p.cps.toList = true from z] at w
      cases w
    refine List.pairwise_cons.mpr ⟨fun b hb => ?_, ih⟩
    rcases List.mem_cons.mp hb with rfl | hb
    · exact px
    · intro z
      have xb := (List.pairwise_cons.mp ih).1 b hb
      rcases sK.negTrans b.cps.toList x.cps.toList p.cps.toList z with w | w
      · exact xb w
      · exact px w
theorem sorted_pw {xs : List Str} (h : sortedS xs = true) : xs.Pairwise fun a b => ¬ before b a := by
  cases xs with
  | nil => exact List.Pairwise.nil
  | cons x r => exact rising_pw r x h
theorem Names.rise {xs ys : List Str} (h : Names xs ys) : ys.Pairwise before :=
  (List.Pairwise.and (sorted_pw h.up) h.nd).imp fun ⟨a, b⟩ => before_tot a b
/-- each once, as the neighbours tell -/
def onceUp (zs : List Str) : Nat → List Str
  | 0 => []
  | i + 1 => onceUp zs i ++ (if i = 0 ∨ zs.getD i Str.empty ≠ zs.getD (i - 1) Str.empty then [zs.getD i Str.empty] else [])
theorem once_mem {zs : List Str} (h : zs.Pairwise fun a b => ¬ before b a) : ∀ i, i ≤ zs.length → (onceUp zs i).Pairwise before ∧ (∀ z, z ∈ onceUp zs i ↔ z ∈ zs.take i)
  | 0, _ => ⟨List.Pairwise.nil, fun z => by simp [onceUp]⟩
  | i + 1, hi => by
    obtain ⟨p, m⟩ := once_mem h i (by omega)
    have hx : zs[i]? = some (zs.getD i Str.empty) := by
      rw [List.getD_eq_getElem?_getD, List.getElem?_eq_getElem (by omega)]
      rfl
    have tk := take_one hx
    unfold onceUp
    by_cases c : i = 0 ∨ zs.getD i Str.empty ≠ zs.getD (i - 1) Str.empty
    · rw [if_pos c, tk]
      refine ⟨?_, fun z => by rw [List.mem_append, List.mem_append, m z]⟩
      rw [List.pairwise_append]
      refine ⟨p, List.pairwise_singleton _ _, fun u hu v hv => ?_⟩
      rw [List.mem_singleton.mp hv]
      have hu' := (m u).mp hu
      obtain ⟨j, hj⟩ := List.mem_iff_getElem?.mp hu'
      rw [List.getElem?_take] at hj
      by_cases ji : j < i
      rotate_left
      · rw [if_neg ji] at hj
        cases hj
      rw [if_pos ji] at hj
      have pw := List.pairwise_iff_getElem.mp h
      have ej : zs[j]'(by omega) = u := by
        rw [List.getElem?_eq_getElem (by omega)] at hj
        exact Option.some.inj hj
      have ei : zs[i]'(by omega) = zs.getD i Str.empty := by
        rw [List.getElem?_eq_getElem (by omega)] at hx
        exact Option.some.inj hx
      have vu : ¬ before (zs.getD i Str.empty) u := by
        have z := pw j i (by omega) (by omega) ji
        rw [ej, ei] at z
        exact z
      refine before_tot vu fun e => ?_
      have cc : zs.getD i Str.empty ≠ zs.getD (i - 1) Str.empty := c.elim (fun z => by omega) id
      have el : zs[i - 1]'(by omega) = zs.getD (i - 1) Str.empty := by
        rw [List.getD_eq_getElem?_getD, List.getElem?_eq_getElem (by omega)]
        rfl
      by_cases jl : j = i - 1
      · subst jl
        exact cc (by rw [← e, ← ej, el])
      · have z1 := pw j (i - 1) (by omega) (by omega) (by omega)
        have z2 := pw (i - 1) i (by omega) (by omega) (by omega)
        rw [ej, el] at z1
        rw [el, ei] at z2
        have z3 := before_tot z2 (fun q => cc q.symm)
        rw [← e] at z3
        exact z1 z3
    · rw [if_neg c, List.append_nil, tk]
      refine ⟨p, fun z => ?_⟩
      rw [m z, List.mem_append]
      refine ⟨.inl, fun w => w.elim id fun w => ?_⟩
      rw [List.mem_singleton.mp w]
      have e : zs.getD i Str.empty = zs.getD (i - 1) Str.empty := Classical.not_not.mp fun q => c (.inr q)
      have i0 : i ≠ 0 := fun q => c (.inl q)
      rw [e, List.mem_iff_getElem?]
      refine ⟨i - 1, ?_⟩
      rw [List.getElem?_take, if_pos (by omega), List.getD_eq_getElem?_getD, List.getElem?_eq_getElem (by omega)]
      rfl
/-- the names once each are the hall's names -/
theorem once_names {zs ns ys : List Str} (h : sortedS zs = true) (pm : zs.Perm ns) (nm : Names ns ys) : onceUp zs zs.length = ys := by
  obtain ⟨p, m⟩ := once_mem (sorted_pw h) zs.length (Nat.le_refl _)
  refine rise_one p nm.rise fun z => ?_
  rw [m z, List.take_length, pm.mem_iff, nm.mem]
end Nm
namespace Nm
open PySem PySem.Spec PyProof.Rows L2 NmD
/-! ### the order of rows -/
theorem rowToks_inj {a b : List Str} (h : PySem.W.keyToksAll (rowL a) = PySem.W.keyToksAll (rowL b)) : a = b := by
  cases e : PyData.eqvAll (rowL a) (rowL b) with
  | true =>
    rw [eqv_rowL] at e
    exact of_decide_eq_true e
  | false =>
    have k := (PySem.W.toksAll_eqv (rowL a) (rowL b) (alike_rowL a b)).2 e [Sum.inl 0] [Sum.inl 1]
    rw [h, PySem.W.lex_pre, lex_irrefl] at k
    exact absurd k (by decide)
theorem rowLt_irr (a : List Str) : rowLt a a = false := lex_irrefl (O := itemOrd) _
theorem rowLt_tr {a b c : List Str} (h1 : rowLt a b = true) (h2 : rowLt b c = true) : rowLt a c = true := lex_trans (O := itemOrd) _ _ _ h1 h2
theorem rowLt_tot {a b : List Str} (h1 : rowLt a b = false) (h2 : rowLt b a = false) : a = b := rowToks_inj (lex_total (O := itemOrd) _ _ h1 h2)
abbrev bef (a b : List Str) : Prop := rowLt a b = true
theorem bef_not {a b : List Str} (h : bef a b) : ¬ bef b a := fun h2 => by
  have z := rowLt_tr h h2
  rw [rowLt_irr] at z
  cases z
theorem rows_one : ∀ {xs ys : List (List Str)}, xs.Pairwise bef → ys.Pairwise bef → (∀ z, z ∈ xs ↔ z ∈ ys) → xs = ys
  | [], [], _, _, _ => rfl
  | [], y :: ys, _, _, h => absurd ((h y).mpr List.mem_cons_self) (List.not_mem_nil)
  | x :: xs, [], _, _, h => absurd ((h x).mp List.mem_cons_self) (List.not_mem_nil)
  | x :: xs, y :: ys, p, q, h => by
    obtain ⟨p1, p2⟩ := List.pairwise_cons.mp p
    obtain ⟨q1, q2⟩ := List.pairwise_cons.mp q
    have e : x = y := by
      rcases List.mem_cons.mp ((h x).mp List.mem_cons_self) with e | m
      · exact e
      · rcases List.mem_cons.mp ((h y).mpr List.mem_cons_self) with e | m2
        · exact e.symm
        · exact absurd (p1 y m2) (bef_not (q1 x m))
    subst e
    rw [rows_one p2 q2 fun z => ?_]
    have hz := h z
    constructor
    · intro m
      rcases List.mem_cons.mp (hz.mp (List.mem_cons_of_mem _ m)) with rfl | m2
      · exact absurd (p1 z m) (fun w => bef_not w w)
      · exact m2
    · intro m
      rcases List.mem_cons.mp (hz.mpr (List.mem_cons_of_mem _ m)) with rfl | m2
      · exact absurd (q1 z m) (fun w => bef_not w w)
      · exact m2
theorem bef_nodup {xs : List (List Str)} (h : xs.Pairwise bef) : xs.Nodup := h.imp fun {a b} h e => by
  subst e
  exact bef_not h h
theorem srt_bef {xs : List (List Str)} (h : xs.Pairwise fun a b => rowLt b a = false) (n : xs.Nodup) : xs.Pairwise bef := by
  induction xs with
  | nil => exact .nil
  | cons x xs ih =>
    obtain ⟨h1, h2⟩ := List.pairwise_cons.mp h
    obtain ⟨n1, n2⟩ := List.nodup_cons.mp n
    refine List.pairwise_cons.mpr ⟨fun y hy => ?_, ih h2 n2⟩
    cases e : rowLt x y with
    | true => exact e
    | false => exact absurd (rowLt_tot e (h1 y hy)) (fun z => n1 (z ▸ hy))
theorem nil_bef (w : Str) (r : List Str) : bef [] (w :: r) := by
  show rowLt [] (w :: r) = true
  unfold rowLt
  rw [rowL_nil, rowL_cons, PySem.W.toks_all_cons]
  simp only [PySem.W.keyToksAll]
  rw [lex_diff (O := itemOrd) (by simp)]
  rfl
theorem bef_pre {a b : List Str} (h : a <+: b) (n : a ≠ b) : bef a b := by
  obtain ⟨t, rfl⟩ := h
  cases t with
  | nil => exact absurd (List.append_nil a).symm n
  | cons w r =>
    have e := row_pre a [] (w :: r)
    rw [List.append_nil] at e
    show rowLt a (a ++ w :: r) = true
    rw [e]
    exact nil_bef w r
theorem one_lt (a b : Str) : rowLt [a] [b] = true ↔ before a b := by
  have e : rowLt [a] [b] = decide (a.cps.toList < b.cps.toList) := by
    show PyProof.Rows.lexLt itemOrd (PySem.W.keyToksAll (rowL [a])) (PySem.W.keyToksAll (rowL [b])) = _
    by_cases c : a = b
    · subst c
      rw [lex_irrefl]
      exact (decide_eq_false (List.lt_irrefl _)).symm
    · rw [show rowL [a] = [PyData.str a] from rfl, show rowL [b] = [PyData.str b] from rfl, PySem.W.dataLt_all_no (by simp [PySem.W.alike]) (by rw [PyData.eqv]; simp [c]), PySem.W.dataLt_str]
  rw [e]
theorem snoc_lt (r : List Str) (a b : Str) : bef (r ++ [a]) (r ++ [b]) ↔ before a b := by
  show rowLt (r ++ [a]) (r ++ [b]) = true ↔ _
  rw [row_pre]
  exact one_lt a b
/-! ### games -/
/-- a word that is one and that is not too long for the model -/
def wordOk (z : Str) : Prop := letB z 20 = true ∧ z.length ≤ 1000
def rwOk (r : List Str) : Prop := r.length ≤ 60 ∧ ∀ z ∈ r, wordOk z
structure IsG (rs : List (List Str)) : Prop where
  up : rs.Pairwise bef
  nil : [] ∈ rs
  pre : ∀ r ∈ rs, r.dropLast ∈ rs
  ok : ∀ r ∈ rs, rwOk r
  few : rs.length ≤ 600
theorem IsG.take {rs : List (List Str)} (g : IsG rs) {r : List Str} (h : r ∈ rs) (k : Nat) : r.take k ∈ rs := by
  obtain ⟨n, hn⟩ : ∃ n, r.length - k = n := ⟨_, rfl⟩
  induction n generalizing k with
  | zero =>
    rw [List.take_of_length_le (by omega)]
    exact h
  | succ n ih =>
    have m := g.pre _ (ih (k + 1) (by omega))
    rw [List.dropLast_eq_take, List.length_take, List.take_take, show min (min (k + 1) r.length - 1) (k + 1) = k by omega] at m
    exact m
theorem IsG.pfx {rs : List (List Str)} (g : IsG rs) {r a : List Str} (h : r ∈ rs) (p : a <+: r) : a ∈ rs := by
  rw [List.prefix_iff_eq_take.mp p]
  exact g.take h _
def lastW (r : List Str) : Str := r.getLast?.getD Str.empty
theorem lastW_snoc (r : List Str) (w : Str) : lastW (r ++ [w]) = w := by
  unfold lastW
  rw [List.getLast?_append]
  rfl
def isNext (row l : List Str) : Bool := decide (l.length = row.length + 1) && decide (l.dropLast = row)
theorem isNext_iff {row l : List Str} : isNext row l = true ↔ ∃ w, l = row ++ [w] := by
  unfold isNext
  rw [Bool.and_eq_true]
  constructor
  · rintro ⟨h1, h2⟩
    have h1 := of_decide_eq_true h1
    have h2 := of_decide_eq_true h2
    have n : l ≠ [] := fun z => by
      rw [z] at h1
      simp at h1
    exact ⟨l.getLast n, by rw [← h2]; exact (List.dropLast_concat_getLast n).symm⟩
  · rintro ⟨w, rfl⟩
    exact ⟨decide_eq_true (by simp), decide_eq_true (by simp)⟩
/-- the words that are let at a row -/
def wordsAt (rs : List (List Str)) (row : List Str) : List Str := (rs.filter (isNext row)).map lastW
theorem mem_words {rs : List (List Str)} {row : List Str} {w : Str} : w ∈ wordsAt rs row ↔ row ++ [w] ∈ rs := by
  unfold wordsAt
  rw [List.mem_map]
  constructor
  · rintro ⟨l, hl, rfl⟩
    obtain ⟨h1, h2⟩ := List.mem_filter.mp hl
    obtain ⟨w, rfl⟩ := isNext_iff.mp h2
    rw [lastW_snoc]
    exact h1
  · intro h
    exact ⟨_, List.mem_filter.mpr ⟨h, isNext_iff.mpr ⟨w, rfl⟩⟩, lastW_snoc _ _⟩
theorem words_up {rs : List (List Str)} (g : rs.Pairwise bef) (row : List Str) : (wordsAt rs row).Pairwise before := by
  unfold wordsAt
  rw [List.pairwise_map]
  refine List.Pairwise.imp_of_mem ?_ (g.filter (isNext row))
  intro a b ha hb h
  obtain ⟨v, rfl⟩ := isNext_iff.mp (List.mem_filter.mp ha).2
  obtain ⟨w, rfl⟩ := isNext_iff.mp (List.mem_filter.mp hb).2
  rw [lastW_snoc, lastW_snoc]
  exact (snoc_lt row v w).mp h
theorem before_nodup {xs : List Str} (h : xs.Pairwise before) : xs.Nodup := h.imp fun {a b} h e => by
  subst e
  exact before_not h h
/-- what is left behind a row -/
def behindOf (rs : List (List Str)) (row : List Str) : List (List Str) := (rs.filter fun l => decide (l.take row.length = row)).map (List.drop row.length)
theorem mem_behind {rs : List (List Str)} {row x : List Str} : x ∈ behindOf rs row ↔ row ++ x ∈ rs := by
  unfold behindOf
  rw [List.mem_map]
  constructor
  · rintro ⟨l, hl, rfl⟩
    obtain ⟨h1, h2⟩ := List.mem_filter.mp hl
    have h2 : l.take row.length = row := of_decide_eq_true h2
    have e : row ++ l.drop row.length = l := by
      conv => lhs; arg 1; rw [← h2]
      exact List.take_append_drop _ _
    rw [e]
    exact h1
  · intro h
    exact ⟨_, List.mem_filter.mpr ⟨h, decide_eq_true (by simp)⟩, by simp⟩
theorem isG_behind {rs : List (List Str)} (g : IsG rs) {row : List Str} (h : row ∈ rs) : IsG (behindOf rs row) := by
  refine ⟨?_, ?_, fun r hr => ?_, fun r hr => ?_, ?_⟩
  · unfold behindOf
    rw [List.pairwise_map]
    refine List.Pairwise.imp_of_mem ?_ (g.up.filter _)
    intro a b ha hb hab
    have ha' : a.take row.length = row := of_decide_eq_true (List.mem_filter.mp ha).2
    have hb' : b.take row.length = row := of_decide_eq_true (List.mem_filter.mp hb).2
    have ea : a = row ++ a.drop row.length := by
      conv => rhs; arg 1; rw [← ha']
      exact (List.take_append_drop _ _).symm
    have eb : b = row ++ b.drop row.length := by
      conv => rhs; arg 1; rw [← hb']
      exact (List.take_append_drop _ _).symm
    have q : rowLt (row ++ a.drop row.length) (row ++ b.drop row.length) = true := by
      rw [← ea, ← eb]
      exact hab
    rw [row_pre] at q
    exact q
  · rw [mem_behind, List.append_nil]
    exact h
  · rw [mem_behind] at hr ⊢
    cases List.eq_nil_or_concat r with
    | inl e =>
      subst e
      exact hr
    | inr e =>
      obtain ⟨r', w, rfl⟩ := e
      have z := g.pre _ hr
      rw [List.concat_eq_append] at z ⊢
      rw [← List.append_assoc, List.dropLast_concat] at z
      rw [List.dropLast_concat]
      exact z
  · rw [mem_behind] at hr
    obtain ⟨h1, h2⟩ := g.ok _ hr
    rw [List.length_append] at h1
    exact ⟨by omega, fun z hz => h2 z (List.mem_append_right _ hz)⟩
  · unfold behindOf
    rw [List.length_map]
    exact Nat.le_trans (List.length_filter_le _ _) g.few
theorem words_behind {rs : List (List Str)} (g : IsG rs) {row more : List Str} (h : row ∈ rs) : wordsAt (behindOf rs row) more = wordsAt rs (row ++ more) :=
  rise_one (words_up (isG_behind g h).up more) (words_up g.up _) fun z => by rw [mem_words, mem_words, mem_behind, List.append_assoc]
theorem behind_behind {rs : List (List Str)} (g : IsG rs) {row more : List Str} (h : row ∈ rs) (h2 : row ++ more ∈ rs) : behindOf (behindOf rs row) more = behindOf rs (row ++ more) :=
  rows_one (isG_behind (isG_behind g h) (mem_behind.mpr h2)).up (isG_behind g h2).up fun z => by rw [mem_behind, mem_behind, mem_behind, List.append_assoc]
theorem behind_nil {rs : List (List Str)} (g : IsG rs) : behindOf rs [] = rs := rows_one (isG_behind g g.nil).up g.up fun z => by rw [mem_behind, List.nil_append]
/-- the rows that are in both -/
def bothOf (rs qs : List (List Str)) : List (List Str) := rs.filter fun r => decide (r ∈ qs)
theorem mem_both {rs qs : List (List Str)} {r : List Str} : r ∈ bothOf rs qs ↔ r ∈ rs ∧ r ∈ qs := by
  unfold bothOf
  rw [List.mem_filter, decide_eq_true_eq]
theorem isG_both {rs qs : List (List Str)} (g : IsG rs) (k : IsG qs) : IsG (bothOf rs qs) :=
  ⟨g.up.filter _, mem_both.mpr ⟨g.nil, k.nil⟩, fun r hr => mem_both.mpr ⟨g.pre _ (mem_both.mp hr).1, k.pre _ (mem_both.mp hr).2⟩, fun r hr => g.ok _ (mem_both.mp hr).1, Nat.le_trans (List.length_filter_le _ _) g.few⟩
theorem both_swap {rs qs : List (List Str)} (g : IsG rs) (k : IsG qs) : bothOf rs qs = bothOf qs rs := rows_one (isG_both g k).up (isG_both k g).up fun z => by rw [mem_both, mem_both, and_comm]
theorem both_self {rs : List (List Str)} (g : IsG rs) : bothOf rs rs = rs := rows_one (isG_both g g).up g.up fun z => by rw [mem_both, and_self]
/-- the rows and their beginnings -/
structure Begs (rs gs : List (List Str)) : Prop where
  up : gs.Pairwise bef
  mem : ∀ x, x ∈ gs ↔ x = [] ∨ ∃ r ∈ rs, x <+: r
theorem Begs.one {rs gs hs : List (List Str)} (a : Begs rs gs) (b : Begs rs hs) : gs = hs := rows_one a.up b.up fun z => by rw [a.mem, b.mem]
theorem Begs.same {rs qs gs : List (List Str)} (a : Begs rs gs) (h : ∀ z, z ∈ rs ↔ z ∈ qs) : Begs qs gs := ⟨a.up, fun x => by
  rw [a.mem]
  constructor
  · rintro (e | ⟨r, h1, h2⟩)
    · exact .inl e
    · exact .inr ⟨r, (h r).mp h1, h2⟩
  · rintro (e | ⟨r, h1, h2⟩)
    · exact .inl e
    · exact .inr ⟨r, (h r).mpr h1, h2⟩⟩
theorem Begs.isG {rs gs : List (List Str)} (a : Begs rs gs) (ok : ∀ r ∈ rs, rwOk r) (few : gs.length ≤ 600) : IsG gs := by
  refine ⟨a.up, (a.mem _).mpr (.inl rfl), fun r hr => ?_, fun r hr => ?_, few⟩
  · rcases (a.mem r).mp hr with rfl | ⟨q, h1, h2⟩
    · exact hr
    · exact (a.mem _).mpr (.inr ⟨q, h1, (List.dropLast_prefix r).trans h2⟩)
  · rcases (a.mem r).mp hr with rfl | ⟨q, h1, h2⟩
    · exact ⟨Nat.zero_le _, fun z hz => absurd hz (List.not_mem_nil)⟩
    · obtain ⟨k1, k2⟩ := ok q h1
      exact ⟨Nat.le_trans h2.length_le k1, fun z hz => k2 z (h2.subset hz)⟩
theorem begs_game {rs : List (List Str)} (g : IsG rs) : Begs rs rs := ⟨g.up, fun x => ⟨fun h => .inr ⟨x, h, List.prefix_refl _⟩, fun h => by
  rcases h with rfl | ⟨r, h1, h2⟩
  · exact g.nil
  · exact g.pfx h1 h2⟩⟩
/-- at most so many: each row has no more beginnings than words, but for () -/
theorem begs_len {rs gs : List (List Str)} (a : Begs rs gs) : gs.length ≤ 1 + (rs.map List.length).sum := by
  have sub : ∀ (rs : List (List Str)) (gs : List (List Str)), gs.Nodup → (∀ x ∈ gs, x ≠ [] ∧ ∃ r ∈ rs, x <+: r) → gs.length ≤ (rs.map List.length).sum := by
    intro rs
    induction rs with
    | nil =>
      intro gs _ h
      cases gs with
      | nil => exact Nat.le_refl _
      | cons x _ =>
        obtain ⟨_, r, hr, _⟩ := h x List.mem_cons_self
        exact absurd hr (List.not_mem_nil)
    | cons r rs ih =>
      intro gs nd h
      have one : (gs.filter fun x => decide (x <+: r)).length ≤ r.length := by
        have s := List.Nodup.length_le_of_subset (l₂ := (List.range r.length).map fun k => r.take (k + 1)) (List.Pairwise.filter (fun x => decide (x <+: r)) nd) (fun x hx => by
          have px : x <+: r := of_decide_eq_true (List.mem_filter.mp hx).2
          have ne := (h x (List.mem_filter.mp hx).1).1
          have l := px.length_le
          have p : 0 < x.length := List.length_pos_iff.mpr ne
          refine List.mem_map.mpr ⟨x.length - 1, List.mem_range.mpr (by omega), ?_⟩
          rw [show x.length - 1 + 1 = x.length by omega]
          exact (List.prefix_iff_eq_take.mp px).symm)
        rw [List.length_map, List.length_range] at s
        exact s
      have two := ih (gs.filter fun x => !decide (x <+: r)) (List.Pairwise.filter _ nd) fun x hx => by
        obtain ⟨h1, h2⟩ := List.mem_filter.mp hx
        obtain ⟨n, q, hq, p⟩ := h x h1
        rcases List.mem_cons.mp hq with rfl | hq
        · rw [decide_eq_true p] at h2
          cases h2
        · exact ⟨n, q, hq, p⟩
      have all := (List.filter_append_perm (fun x => decide (x <+: r)) gs).length_eq
      rw [List.length_append] at all
      rw [List.map_cons, List.sum_cons]
      omega
  have nd := bef_nodup a.up
  have l2 := sub rs (gs.filter fun x => decide (x ≠ [])) (List.Pairwise.filter _ nd) fun x hx => by
    obtain ⟨h1, h2⟩ := List.mem_filter.mp hx
    have n : x ≠ [] := of_decide_eq_true h2
    rcases (a.mem x).mp h1 with e | z
    · exact absurd e n
    · exact ⟨n, z⟩
  have all := (List.filter_append_perm (fun x => decide (x ≠ [])) gs).length_eq
  rw [List.length_append] at all
  have rest : (gs.filter fun x => !decide (x ≠ [])).length ≤ 1 := by
    exact List.Nodup.length_le_of_subset (l₂ := [[]]) (List.Pairwise.filter (fun x => !decide (x ≠ [])) nd) fun x hx => by
      have h2 := (List.mem_filter.mp hx).2
      have : x = [] := by
        by_cases e : x = []
        · exact e
        · rw [decide_eq_true e] at h2
          cases h2
      rw [this]
      exact List.mem_singleton.mpr rfl
  omega
end Nm
namespace Nm
open PySem PySem.Spec PyProof.Rows L2 NmD PySem.SeqAt
section
variable {X : Cx}
/-! ### x in t, t a tuple of data -/
def rInT (K : PySem.W.Frag) (neg : Bool) : R2 := fun x y H Q => ∃ d ds, Dp K H x d ∧ Dp K H y (.tuple ds) ∧ shaped d = true ∧ shaped (.tuple ds) = true ∧ Q (.bl (xor neg (ds.any fun z => PyData.eqv z d))) H
theorem op_inT (hu : X.A.units + 65 < cLine) : OpR X (compareOp .In) (rInT X.K false) := by
  intro pins s σ H x y v u Q I rx ry ⟨d, ds, d1, d2, s1, s2, q⟩
  obtain ⟨as, r1⟩ := Dp.reads I d x v d1 rx
  obtain ⟨bs, r2⟩ := Dp.reads I (.tuple ds) y u d2 ry
  rw [Bool.false_xor] at q
  exact in_tuple_reads r2 r1 (canLay_of_shaped s2) (canLay_of_shaped s1) (room_in_shaped s1 hu) ⟨.bl _, H, I, rfl, q⟩
theorem op_notInT (hu : X.A.units + 65 < cLine) : OpR X (compareOp .NotIn) (rInT X.K true) := by
  intro pins s σ H x y v u Q I rx ry ⟨d, ds, d1, d2, s1, s2, q⟩
  obtain ⟨as, r1⟩ := Dp.reads I d x v d1 rx
  obtain ⟨bs, r2⟩ := Dp.reads I (.tuple ds) y u d2 ry
  rw [Bool.true_xor] at q
  exact notIn_tuple_reads r2 r1 (canLay_of_shaped s2) (canLay_of_shaped s1) (room_in_shaped s1 hu) ⟨.bl _, H, I, rfl, q⟩
/-! ### t < u of tuples that are alike -/
def rLtDt (K : PySem.W.Frag) : R2 := fun x y H Q => ∃ xs ys, Dp K H x (.tuple xs) ∧ Dp K H y (.tuple ys) ∧ PySem.W.alikeAll xs ys = true ∧ PyData.depthAll xs ≤ 40 ∧ Q (.bl (PyProof.Rows.lexLt itemOrd (PySem.W.keyToksAll xs) (PySem.W.keyToksAll ys))) H
theorem op_ltDt (hu : X.A.units + 65 < cLine) : OpR X (compareOp .Lt) (rLtDt X.K) := by
  intro pins s σ H x y v u Q I rx ry ⟨xs, ys, d1, d2, al, dp, q⟩
  obtain ⟨as, r1⟩ := Dp.reads I (.tuple xs) x v d1 rx
  obtain ⟨bs, r2⟩ := Dp.reads I (.tuple ys) y u d2 ry
  have lim := dep xs ys dp
  refine PySem.W.rcLt_alike (.tuple xs) (.tuple ys) X.A s v u as bs r1 r2 (by simpa [PySem.W.alike] using al) (fun z => nomatch z) (by omega) _ _ _ _ ?_
  rw [PySem.W.dataLt_tuple]
  exact ⟨.bl _, H, I, rfl, q⟩
/-! ### dicts keyed by tuples -/
theorem dset_tk {pins : List (Addr × Obj)} {σ : L2.St} {H : Hp} {s : Shared} {E : Value → Shared → Prop} {D b : Addr} {ents : List (List Key × V)} {k : List Key} {y : V} {r : Value} {Q : Unit → Shared → Prop} (hu : X.A.units + 1 < cLine) (I : Inv X pins σ H s)
    (hD : H D = some (.dT ents)) (hb : H b = some (.tup (k.map kV))) (few : ents.length < sizeLine) (rv : RelV y r) (h : ∀ s', Inv X pins σ (upd H D (.dT (putK ents k y))) s' → Q () s') : wpAny (model X.prog X.w) X.A (dictSet D (.ref b) r) Q E s := by
  obtain ⟨z, low, xs, rel, dd⟩ := dt_of I.hok hD
  have fit : xs.length ≤ sizeLine := (Paired.length rel) ▸ z
  have more := length_putK ents k y
  refine wpAny_dictSet_heap (hsz := fit) (by show X.A.units < cLine; omega) (key_of I.hok hb) dd fun h' nd sb => h _ ?_
  obtain ⟨ob, es, ep, g1, g2, g3, g4, _, g5⟩ := nd
  refine d_write I (by rw [hD]; exact True.intro) sb ⟨ob, g1⟩ ⟨by omega, low, _, (rel.put k hb rv).keeps fun c us ec => ?_, ob, es, ep, g1, g2, g3, g4, g5⟩
  rw [upd_ne (ne_of ec hD (fun z => nomatch z))]
  exact ec
/-- {k: v}, k a tuple -/
def tDisp1 (tk tv : TE) : TE := fun σ H Q => ∀ p, H p = none → tk σ (upd H p (.dT [])) fun x H1 => tv σ H1 fun y H2 => H2 p = some (.dT []) ∧ ∃ (k : List Key) (b : Addr), x = .ref b ∧ H2 b = some (.tup (k.map kV)) ∧ Q (.ref p) (upd H2 p (.dT [(k, y)]))
theorem pe_disp1 {kx vx : Expr} {pos : Pos} {tk tv : TE} (hu : X.A.units + 1 < cLine) (hk : PE X kx tk) (hv : PE X vx tv) : PE X (.Dict [some kx] [vx] pos) (tDisp1 tk tv) := by
  refine ⟨fun pins s σ H Q I q => ?_⟩
  have free := I.hok.fresh (Nat.le_refl s.heap.objs.size)
  have I1 := I.laid (a := s.heap.objs.size) (o := .dT []) (h' := s.heap.push { cls := .type "dict", data := .dict #[] }) (t' := s.toks) (fun _ _ e => Heap.get?_push_of_some _ e) (Nat.le_refl _) (dt_empty s.heap I.big)
  have room : (tupleKind (mixKind X.prog X.w)).room X.A := by show X.A.units < cLine; omega
  rw [arm_eval_Dict, zip_pairTrees [some kx] [vx] X.env pos rfl rfl, dictDisplay_pairs (pairTrees [some kx] [vx] X.env pos) (fun e => by have z := congrArg List.length e; rw [pairTrees_length _ _ _ _ rfl rfl] at z; cases z) (by rw [pairTrees_length _ _ _ _ rfl rfl]; exact (by decide : (1 : Nat) < 17))]
  refine wpAny_bind (wpAny_standAt (wpAny_bind (wpAny_subDictH (knd := tupleKind (mixKind X.prog X.w)) room (by rw [pairTrees_length _ _ _ _ rfl rfl]; exact (by decide : (1 : Nat) ≤ 15)) ?_)))
  refine pairTrees_cons_walk (thn (hk.run pins _ σ _ _ I1 (q _ free)) fun u s1 ⟨x, H1, I2, rx, q1⟩ => thn (hv.run pins s1 σ H1 _ I2 q1) fun w2 s2 ⟨y, H2, I3, ry, q2⟩ => pairTrees_nil_walk ?_)
  obtain ⟨e, k, b, rfl, hb, q3⟩ := q2
  cases (show u = Value.ref b from rx)
  obtain ⟨_, low, xs, rel, dd⟩ := dt_of I3.hok e
  cases rel
  refine ⟨[(k, b, w2)], ⟨rfl, rfl, key_of I3.hok hb, trivial⟩, dd, fun h' tk nd sb => wpAny_pure ⟨.ref s.heap.objs.size, _, ?_, rfl, q3⟩⟩
  obtain ⟨ob, es, ep, g1, g2, g3, g4, _, g5⟩ := nd
  refine d_write I3 (by rw [e]; exact True.intro) sb ⟨ob, g1⟩ ⟨by show 1 ≤ sizeLine; decide, low, _, KT.keeps (H := H2) (Paired.cons ⟨rfl, hb, ry⟩ Paired.nil) fun c us ec => ?_, ob, es, ep, g1, g2, g3, g4, g5⟩
  rw [upd_ne (ne_of ec e (fun z => nomatch z))]
  exact ec
/-! ### {row: v for row in ..} -/
/-- what a dict made by a walk asks, its keys being tuples -/
def tDcT (wi : TI) (g : TG) (tk tv : TE) (vs : List Nat) : TE := fun σ H Q => wi σ H fun J H1 => ∀ D, H1 D = none → ∃ W : Nat → Nat → Hp → Prop,
  (∃ m, W 0 m (upd H1 D (.dT []))) ∧ ∀ i m H, W i m H → (J.stop i H ∧ Q (.ref D) H) ∨ (J.go i H ∧ ∃ Nx : Hp → Prop, (∀ H', Nx H' → ∃ m', m' < m ∧ W (i + 1) m' H') ∧
    ∀ x H', J.yld i H x H' → g x (wipe σ vs) H' fun σ2 H2 => wipe σ2 vs = wipe σ vs ∧ tk σ2 H2 fun y H4 => tv σ2 H4 fun z H5 =>
      ∃ (ents : List (List Key × V)) (k : List Key) (b : Addr), y = .ref b ∧ H5 D = some (.dT ents) ∧ H5 b = some (.tup (k.map kV)) ∧ ents.length < sizeLine ∧ Nx (upd H5 D (.dT (putK ents k z))))
theorem pe_dcT {kx vx tg iter : Expr} {scope : Scope} {own : List (PySem.Str × Nat)} {pos : Pos} {wi : TI} {g : TG} {tk tv : TE} (hc : X.calm = true) (hN : X.N.Nodup) (hu : X.A.units + 1 < cLine) (hi : PI X tg iter wi) (ok : BlkOk X.N X.env.scope scope own)
    (hg : ∀ (s : Shared) (H : Hp) (C : Addr) (cl : List (PySem.Str × Addr)) (fp : List Addr), PG (X.blk s H scope (compEnvC scope cl C X.env) fp) tg g)
    (hk : ∀ (s : Shared) (H : Hp) (C : Addr) (cl : List (PySem.Str × Addr)) (fp : List Addr), PE (X.blk s H scope (compEnvC scope cl C X.env) fp) kx tk)
    (he : ∀ (s : Shared) (H : Hp) (C : Addr) (cl : List (PySem.Str × Addr)) (fp : List Addr), PE (X.blk s H scope (compEnvC scope cl C X.env) fp) vx tv)
    (hs : ∀ x, foldedSetIterable iter X.env x = pure x := by intro _; rfl) : PE X (.DictComp kx vx [⟨tg, iter, [], 0⟩] scope pos) (tDcT wi g tk tv (own.map (·.2))) := by
  refine ⟨fun pins s σ H Q I h => ?_⟩
  rw [arm_eval_DictComp]
  have closed : ∀ y ∈ scope.names, y.2 = .free → ∃ c, X.env.cells.lookup y.1 = some c := fun y hy e => (ok.free y hy e).elim (fun k => I.ok.has _ (.inl k)) fun k => I.ok.has _ (.inr k)
  refine wpAny_comprehension_free (use := none) rfl hs (closure_ok closed) ok.kind (fun y hy e => by rw [ok.uniq y hy, e]) (thn (hi.run pins s σ H _ I h) fun xv s1 hx => thn hx fun itv s2 h2 => ?_)
  obtain ⟨it, fp, tn, J, H2, e, I2, T, st2, f2, q⟩ := h2
  subst e
  refine wpAny_newObj_type (newEnv_comp ?_)
  generalize hD : s2.heap.objs.size = D
  have hDn : H2 D = none := I2.hok.fresh (Nat.le_of_eq hD)
  obtain ⟨W, ⟨m0, w0⟩, turn⟩ := q D hDn
  generalize hs3 : ({ s2 with heap := s2.heap.push { cls := .type "dict", data := .dict #[] } } : Shared) = s3
  have h3 : s3.heap = s2.heap.push { cls := .type "dict", data := .dict #[] } := by rw [← hs3]
  generalize hH3 : upd H2 D (.dT []) = H3 at w0
  have I3 : Inv X pins σ H3 s3 := by
    rw [← hs3, ← hH3]
    refine I2.laid (t' := s2.toks) (fun b o e => Heap.get?_push_of_some _ e) (Nat.le_of_eq hD) ?_
    rw [← hD]
    exact dt_empty s2.heap I2.big
  have below : ∀ b ∈ fp, b < s2.heap.objs.size := fun b hb => by
    obtain ⟨o, e, _⟩ := T.obj _ _ st2 b hb
    exact Heap.lt_size e
  have f3 : ∀ b ∈ fp, FpOk X pins H3 b ∧ b < s3.heap.objs.size := fun b hb => by
    have lt := below b hb
    have ne : b ≠ D := by rw [← hD]; exact Nat.ne_of_lt lt
    refine ⟨⟨?_, (f2 b hb).2⟩, by rw [h3, Heap.size_push]; exact Nat.lt_succ_of_lt lt⟩
    rw [← hH3, upd_ne ne]
    exact (f2 b hb).1
  have st3 : tn 0 s3.heap := T.keep _ _ _ st2 fun b _ o e => by rw [h3]; exact Heap.get?_push_of_some _ e
  have I4 := block_start I3 ok hN f3
  generalize hcl : cellsFrom (s3.heap.objs.size + 1) scope.names (cloFrom X.env.cells scope.names []) = cl at I4
  have pg := hg s3 H3 s3.heap.objs.size cl fp
  have pk := hk s3 H3 s3.heap.objs.size cl fp
  have pe := he s3 H3 s3.heap.objs.size cl fp
  have goal : codeAny (model X.prog X.w) X.A (.compStart (.DictComp kx vx [⟨tg, iter, [], 0⟩] scope pos) 0 (.ref it) (.ref D) (compEnvC scope cl s3.heap.objs.size X.env))
      (compPost (model X.prog X.w) X.A X.xe none (EP X pins σ Q) (.ref D) s3.heap.objs.size) { s3 with heap := pushCells (s3.heap.push { cls := .type "dict", data := .dict #[] }) scope.names } := by
    have free3 : ∀ b ∈ fp, H3 b = none := fun b hb => (f3 b hb).1.1
    generalize hce : compEnvC scope cl s3.heap.objs.size X.env = ce at I4 pg pk pe ⊢
    have locals : ce.locals = s3.heap.objs.size := by subst hce; rfl
    generalize hs4 : ({ s3 with heap := pushCells (s3.heap.push { cls := .type "dict", data := .dict #[] }) scope.names } : Shared) = s4 at I4 ⊢
    have st4 : tn 0 s4.heap := T.keep _ _ _ st3 fun b _ o e => by rw [← hs4]; exact pushCells_keeps _ _ _ _ (Heap.get?_push_of_some _ e)
    have stat : ∀ {σ' : L2.St} {H' : Hp} {s' : Shared}, Inv (X.blk s3 H3 scope ce fp) [] σ' H' s' → (∀ b ∈ fp, H' b = none) → ∀ b ∈ fp, FpOk (X.blk s3 H3 scope ce fp) [] H' b := fun {σ' H' s'} I' hn b hb =>
      ⟨hn b hb, (I'.ok.exf b hb).1, I'.ok.exfs b hb, .inl hb, fun x c e => (I'.ok.exf b hb).2 x c e, fun p hp => absurd (show p ∈ ([] : List (Addr × Obj)) ++ [] from hp) (by simp)⟩
    have loop : codeAny (model X.prog X.w) X.A (.compLoop (.DictComp kx vx [⟨tg, iter, [], 0⟩] scope pos) 0 (.ref it) (.ref D) ce) (compPost (model X.prog X.w) X.A X.xe none (EP X pins σ Q) (.ref D) s3.heap.objs.size) s4 := by
      refine compLoop_anyD (fun n s' => ∃ i H', Inv (X.blk s3 H3 scope ce fp) [] (wipe σ (own.map (·.2))) H' s' ∧ tn i s'.heap ∧ (∀ b ∈ fp, H' b = none) ∧ W i n H') ?_ m0 ⟨0, H3, I4, st4, free3, w0⟩
      rintro n s5 ⟨i, H5, I5, st5, n5, w5⟩
      rcases turn i n H5 w5 with ⟨stop, qq⟩ | ⟨go, Nx, hNx, step⟩
      · refine thnF (T.done (X.blk s3 H3 scope ce fp) rfl rfl rfl hc i [] s5 _ H5 (fun _ _ => False) I5 (stat I5 n5) st5 stop) fun r s6 ⟨hr, I6⟩ => ?_
        subst hr
        have I7 : Inv X pins σ H5 s6 := I3.call' (ch := fp) I6.os I6.base I6.hok I6.bare fun b hb => by
          have z := (f3 b hb).1
          exact ⟨z.2.2.2.1, z.2.1, z.2.2.2.2.1, z.2.2.2.2.2⟩
        have nC : H5 s3.heap.objs.size = none := by
          rw [← locals]
          exact I6.free
        obtain ⟨m, hn, _⟩ := I6.loc
        have hn' : s6.heap.Ns s3.heap.objs.size m := by
          rw [← locals]
          exact hn
        refine ⟨m, hn', fun h'' sb => ?_⟩
        obtain ⟨z0, z1, z2, z3, z4, z5⟩ := I3.fpOk (Nat.le_refl _) nC
        exact ⟨.ref D, H5, I7.turned (t' := s6.toks) (fun b o hb e => (sb.2 b hb).trans e) z0 z1 z3 z4 z5, rfl, qq⟩
      · refine thnF (T.item (X.blk s3 H3 scope ce fp) rfl rfl rfl hc i [] s5 _ H5 (fun _ _ => False) I5 (stat I5 n5) st5 go) fun r s6 ⟨u, hr, h6⟩ => ?_
        subst hr
        refine thnF h6 fun _ s7 ⟨x, H7, I7, r7, y7, st7, n7⟩ => ?_
        have I7' := I7.pinned (stat I7 n7) (T.obj _ _ st7)
        refine thnF (pg.run _ s7 _ H7 x u _ I7' r7 (step x H7 y7)) fun _ s8 ⟨σ8, H8, I8, hw8, q8⟩ => ?_
        refine wpAny_pure ?_
        rw [if_pos rfl]
        refine thnF (pk.run _ s8 σ8 H8 _ I8 q8) fun z s10 ⟨yv, H10, I10, r10, q10⟩ => ?_
        refine thnF (pe.run _ s10 σ8 H10 _ I10 q10) fun z2 s11 ⟨zv, H11, I11, r11, ents, k, b, ey, hD11, hb11, room, nx⟩ => ?_
        subst ey
        cases (show z = Value.ref b from r10)
        refine dset_tk (X := X.blk s3 H3 scope ce fp) hu I11 hD11 hb11 room r11 fun s12 I12 => ?_
        obtain ⟨m', hm, w'⟩ := hNx _ nx
        have pin' : ∀ c ∈ fp, ∀ o, s7.heap.get? c = some o → s12.heap.get? c = some o ∧ upd H11 D (.dT (putK ents k zv)) c = none := fun c hc' o e =>
          let z := I12.pin (c, o) (List.mem_append_right _ (List.mem_append_right _ (mem_pinsAt hc' e)))
          ⟨z.1, z.2.1⟩
        have len : (wipe σ (own.map (·.2))).length = σ8.length := by rw [← hw8, wipe_length]
        refine ⟨m', hm, i + 1, _, (I12.unpinned (pins := [])).weak len (fun j v e => ?_), T.keep _ _ _ st7 fun c hc' o e => (pin' c hc' o e).1, fun c hc' => ?_, w'⟩
        · rw [← hw8] at e
          exact (wipe_some e).1
        · obtain ⟨o, e, _⟩ := T.obj _ _ st7 c hc'
          exact (pin' c hc' o e).2
    exact codeAny_compStart_dict loop (T.self X.A 0 _ _ _ st4 loop)
  exact goal
/-- the same over a tuple that stands still -/
theorem dcT_tup {K : PySem.W.Frag} {a : Addr} {xs : List V} {g : TG} {tk tv : TE} {vs : List Nat} {σ : L2.St} {H1 : Hp} {D : Addr} {Qd : Hp → Prop} (Pv : Nat → Hp → Prop) (h0 : Pv 0 (upd H1 D (.dT [])))
    (hl : ∀ i H, i ≤ xs.length → Pv i H → SqT K H a xs)
    (hs : ∀ i x H, xs[i]? = some x → Pv i H → g x (wipe σ vs) H fun σ2 H2 => wipe σ2 vs = wipe σ vs ∧ tk σ2 H2 fun y H4 => tv σ2 H4 fun z H5 =>
      ∃ (ents : List (List Key × V)) (k : List Key) (b : Addr), y = .ref b ∧ H5 D = some (.dT ents) ∧ H5 b = some (.tup (k.map kV)) ∧ ents.length < sizeLine ∧ Pv (i + 1) (upd H5 D (.dT (putK ents k z)))) (hd : ∀ H, Pv xs.length H → Qd H) :
    ∃ W : Nat → Nat → Hp → Prop, (∃ m, W 0 m (upd H1 D (.dT []))) ∧ ∀ i m H, W i m H → ((Itt K a).stop i H ∧ Qd H) ∨ ((Itt K a).go i H ∧ ∃ Nx : Hp → Prop, (∀ H', Nx H' → ∃ m', m' < m ∧ W (i + 1) m' H') ∧
      ∀ x H', (Itt K a).yld i H x H' → g x (wipe σ vs) H' fun σ2 H2 => wipe σ2 vs = wipe σ vs ∧ tk σ2 H2 fun y H4 => tv σ2 H4 fun z H5 =>
        ∃ (ents : List (List Key × V)) (k : List Key) (b : Addr), y = .ref b ∧ H5 D = some (.dT ents) ∧ H5 b = some (.tup (k.map kV)) ∧ ents.length < sizeLine ∧ Nx (upd H5 D (.dT (putK ents k z)))) := by
  refine ⟨fun i m H => m = xs.length - i ∧ i ≤ xs.length ∧ Pv i H, ⟨xs.length, by simp, Nat.zero_le _, h0⟩, ?_⟩
  rintro i m H ⟨rfl, hi, p⟩
  have q := hl i H hi p
  rcases Nat.lt_or_ge i xs.length with lt | ge
  · refine .inr ⟨⟨xs, xs[i], q, by simp [lt]⟩, Pv (i + 1), fun H' p' => ⟨xs.length - (i + 1), by omega, rfl, lt, p'⟩, fun x H' y => ?_⟩
    obtain ⟨e, y⟩ := y
    subst e
    exact hs i x _ (y xs q) p
  · have e : i = xs.length := by omega
    subst e
    exact .inl ⟨⟨xs, q, Nat.le_refl _⟩, hd H p⟩
/-! ### sorted(d), the keys being rows of texts -/
def keyRow (ws : List Str) : List Key := ws.map Sum.inr
theorem kV_row (ws : List Str) : (keyRow ws).map kV = ws.map V.str := by
  unfold keyRow
  rw [List.map_map]
  rfl
/-- what stands at a tuple's address -/
def tupOf (H : Hp) (x : V) : List V := match x with
  | .ref a => match H a with | some (.tup xs) => xs | _ => []
  | _ => []
def strOf : V → Str
  | .str z => z
  | _ => Str.empty
/-- the row of texts that is told by a value -/
def rowOf (H : Hp) (x : V) : List Str := (tupOf H x).map strOf
theorem rowOf_at {H : Hp} {a : Addr} {ws : List Str} (h : H a = some (.tup (ws.map V.str))) : rowOf H (.ref a) = ws := by
  unfold rowOf tupOf
  simp only [h]
  rw [List.map_map]
  exact List.map_id' ws
def rSortKD : List V → Hp → VK → Prop := fun vs H Q => ∃ (d : Addr) (rs : List (List Str)) (ents : List (List Key × V)), vs = [V.ref d] ∧ H d = some (.dT ents) ∧ ents.map (·.1) = rs.map keyRow ∧
  ∀ (bs ys : List V) (p : Addr), Paired (fun (b : V) (ws : List Str) => ∃ a, b = V.ref a ∧ H a = some (.tup (ws.map V.str))) bs rs →
    SrtO.Srtd (ltV fun x => rowL (rowOf H x)) ys → SrtO.Stb (ltV fun x => rowL (rowOf H x)) ys bs → H p = none → Q (.ref p) (upd H p (.lst ys))
theorem keys_rows {H : Hp} : ∀ {ents : List (List Key × V)} {xs : List (List Key × Addr × Value)} {rs : List (List Str)}, KT H ents xs → ents.map (·.1) = rs.map keyRow →
    Paired (fun (b : V) (ws : List Str) => ∃ a, b = V.ref a ∧ H a = some (.tup (ws.map V.str))) (xs.map fun x => V.ref x.2.1) rs
  | _, _, [], r, e => by
    cases r with
    | nil => exact .nil
    | cons _ _ => cases e
  | _, _, ws :: rs, r, e => by
    cases r with
    | nil => cases e
    | cons h t =>
      rw [List.map_cons, List.map_cons] at e
      injection e with e1 e2
      obtain ⟨_, h2, _⟩ := h
      rw [e1, kV_row] at h2
      exact .cons ⟨_, rfl, h2⟩ (keys_rows t e2)
theorem ref_vals : ∀ as : List Addr, Vals (as.map V.ref) (as.map Value.ref)
  | [] => .nil
  | _ :: as => .cons rfl (ref_vals as)
theorem cr_sortKD (hc : X.calm = true) (hu : X.A.units + 66 < cLine) : CallR X (.builtin "sorted") rSortKD := by
  intro pins s σ H vs us Q I r ⟨d, rs, ents, e0, hd, hk, q⟩
  subst e0
  rw [Vals.ref1 r]
  obtain ⟨zf, low, xs, pr, o, es, ep, ho, hx, hdt, he, _, _⟩ := dt_of I.hok hd
  have l1 : es.size = xs.length := size_of_entries he
  have l2 : ents.length = xs.length := Paired.length pr
  refine Calls.call_function_entry kind_sorted plain_sorted entry_sorted (args_sorted1 _) ?_
  unfold Builtin.«sorted»
  refine wpAny_bind (m := checkCount "sorted" 1 1 _) (wpAny_pure ?_)
  refine wpAny_bind (PySem.W.kdu_collect (A := X.A.in1) (kdl_raw low hx hdt) (I.ok.hd hc) ho (by omega) fun h' tk acc kp it => ?_)
  have ea : acc.toList = (xs.map fun x => x.2.1).map Value.ref := by
    have len : acc.toList.length = xs.length := by rw [Array.length_toList, it.1]; exact l1
    apply List.ext_getElem?
    intro j
    rw [List.getElem?_map, List.getElem?_map]
    cases hj : acc.toList[j]? with
    | none =>
      have := List.getElem?_eq_none_iff.mp hj
      rw [List.getElem?_eq_none (by omega)]
      rfl
    | some v =>
      obtain ⟨en, hen, hv⟩ := it.2 j v (by rw [← Array.getElem?_toList]; exact hj)
      have w := entry_at he j
      rw [hen] at w
      cases hb : xs[j]? with
      | none =>
        rw [hb] at w
        cases w
      | some b =>
        rw [hb] at w
        have e2 : en = entryOfKey (tupleKind (mixKind X.prog X.w)) b := Option.some.inj w
        rw [hv, e2]
        rfl
  have I1 : Inv X pins σ H { s with heap := h', toks := tk } := I.kept kp
  have hz : acc.toList.length ≤ sizeLine := by rw [ea, List.length_map, List.length_map]; omega
  refine wpAny_bind (wpAny_newList ?_ hz)
  have pb := keys_rows pr hk
  have gb : ∀ v ∈ acc.toList, ∃ (a : Addr) (ws : List Str), v = Value.ref a ∧ H a = some (.tup (ws.map V.str)) := fun v hv => by
    rw [ea] at hv
    obtain ⟨a, ha, rfl⟩ := List.mem_map.mp hv
    have ha' : V.ref a ∈ xs.map fun x => V.ref x.2.1 := by
      obtain ⟨x, hx1, hx2⟩ := List.mem_map.mp ha
      exact List.mem_map.mpr ⟨x, hx1, by rw [hx2]⟩
    obtain ⟨i, hi⟩ := List.mem_iff_getElem?.mp ha'
    obtain ⟨ws, _, a', e, h2⟩ := paired_at pb i _ hi
    cases e
    exact ⟨a, ws, rfl, h2⟩
  have R : NmD.Rows h' acc.toList (fun u => rowL (rowOf H (backV u))) := by
    refine ⟨fun v hv => ?_, fun v hv => pure_rowL _, fun v hv u hu => alike_rowL _ _, fun v hv => by rw [depth_rowL]; decide⟩
    obtain ⟨a, ws, rfl, ha⟩ := gb v hv
    show ∃ as, Reads h' (.ref a) (.tuple (rowL (rowOf H (.ref a)))) as
    rw [rowOf_at ha]
    exact Dp.reads I1 _ (.ref a) (.ref a) (dp_row ha) rfl
  have hoL : (h'.push (seqObj "list" acc.toList.toArray 0)).get? h'.objs.size = some (seqObj "list" acc.toList.toArray 0) := Heap.get?_push_size _ rfl
  show wpAny _ _ _ _ _ { s with heap := h'.push (seqObj "list" acc.toList.toArray 0), toks := tk }
  refine wpAny_bind (wpAny_holding (wpAny_call_entry slot_list_sort ⟨_, hoL, rfl⟩ entry_list_sort
    (SrtO.list_sort_ord (s := { s with heap := h'.push (seqObj "list" acc.toList.toArray 0), toks := tk }) (NmD.ltD_swo fun u => rowL (rowOf H (backV u))) hoL hz
      (fun two => NmD.rows_sortable (s := { s with heap := h'.push (seqObj "list" acc.toList.toArray 0), toks := tk }) (R.keep fun b ob e _ => Heap.get?_push_of_some _ e) (by show X.A.units + 1 + 1 + 64 < cLine; omega) (by omega) fun ob e => ?_)
      fun out h1 h2 => ⟨_, rfl, ?_⟩) (args_list_sort _)))
  · have e' : some ob = some (seqObj "list" acc.toList.toArray 0) := e.symm.trans hoL
    cases e'
    intro c
    exact absurd (Value.type.inj c) (by decide)
  · obtain ⟨n, hn⟩ := sortedHeap_at (vs := acc.toList) (out := out.toArray) hoL
    have allRef : ∀ u ∈ out, ∃ a, u = Value.ref a := fun u hu => by
      obtain ⟨a, _, e, _⟩ := gb u (h2.perm.mem_iff.mp hu)
      exact ⟨a, e⟩
    have eb : acc.toList.map backV = xs.map fun x => V.ref x.2.1 := by
      rw [ea, List.map_map, List.map_map]
      rfl
    have hb : SrtO.Stb (ltV fun x => rowL (rowOf H x)) (out.map backV) (xs.map fun x => V.ref x.2.1) := by
      rw [← eb]
      exact SrtO.Stb.map (ltV_swo _) backV h2
    have fit : (out.map backV).length ≤ sizeLine := by rw [hb.len, List.length_map]; omega
    refine wpAny_pure ⟨_, rfl, .ref h'.objs.size, upd H h'.objs.size (.lst (out.map backV)), I1.laid (t' := tk) (fun b u e => ?_) (Nat.le_refl _) ⟨fit, out, n, vals_back allRef, hn⟩, rfl, q _ _ _ pb (SrtO.srtd_map h1) hb (I1.hok.fresh (Nat.le_refl _))⟩
    have lt := Heap.lt_size e
    rw [sortedHeap_old (Nat.ne_of_lt lt) (by rw [size_push']; exact Nat.lt_succ_of_lt lt)]
    exact Heap.get?_push_of_some _ e
end
end Nm
namespace Nm
open PySem PySem.Spec PyProof.Rows L2 NmD
/-- all tuples stand -/
def Tups (H H' : Hp) : Prop := ∀ a xs, H a = some (.tup xs) → H' a = some (.tup xs)
theorem Tups.refl (H : Hp) : Tups H H := fun _ _ h => h
theorem Tups.trans {H H1 H2 : Hp} (a : Tups H H1) (b : Tups H1 H2) : Tups H H2 := fun c o h => b c o (a c o h)
theorem tups_same {H H' : Hp} (g : Same H H') : Tups H H' := fun a xs h => g a _ h
theorem tups_lst {H : Hp} {D : Addr} {us vs : List V} (h : H D = some (.lst us)) : Tups H (upd H D (.lst vs)) := fun a xs e => by
  rw [upd_ne (fun z => by rw [z, h] at e; cases e)]
  exact e
theorem tups_dT {H : Hp} {D : Addr} {us vs : List (List Key × V)} (h : H D = some (.dT us)) : Tups H (upd H D (.dT vs)) := fun a xs e => by
  rw [upd_ne (fun z => by rw [z, h] at e; cases e)]
  exact e
/-- a tuple of things that are told by β -/
def TupOf {β : Type} (R : Hp → V → β → Prop) (H : Hp) (a : Addr) (bs : List β) : Prop := ∃ xs, H a = some (.tup xs) ∧ Paired (R H) xs bs
def LstOf {β : Type} (R : Hp → V → β → Prop) (H : Hp) (a : Addr) (bs : List β) : Prop := ∃ xs, H a = some (.lst xs) ∧ Paired (R H) xs bs
/-- what is told stays as long as tuples do -/
def Stays {β : Type} (R : Hp → V → β → Prop) : Prop := ∀ H H' x b, Tups H H' → R H x b → R H' x b
theorem TupOf.keep {β : Type} {R : Hp → V → β → Prop} (st : Stays R) {H H' : Hp} (t : Tups H H') {a : Addr} {bs : List β} (h : TupOf R H a bs) : TupOf R H' a bs := by
  obtain ⟨xs, h1, h2⟩ := h
  exact ⟨xs, t _ _ h1, paired_mono (fun _ _ => st _ _ _ _ t) h2⟩
theorem stays_tup {β : Type} {R : Hp → V → β → Prop} (st : Stays R) : Stays (fun H x (bs : List β) => ∃ a, x = V.ref a ∧ TupOf R H a bs) := fun H H' x bs t ⟨a, e, h⟩ => ⟨a, e, h.keep st t⟩
theorem LstOf.same {β : Type} {R : Hp → V → β → Prop} (st : Stays R) {H H' : Hp} (g : Same H H') {a : Addr} {bs : List β} (h : LstOf R H a bs) : LstOf R H' a bs := by
  obtain ⟨xs, h1, h2⟩ := h
  exact ⟨xs, g _ _ h1, paired_mono (fun _ _ => st _ _ _ _ (tups_same g)) h2⟩
/-- a word -/
def StrV (_ : Hp) (x : V) (z : Str) : Prop := x = .str z
theorem stays_str : Stays StrV := fun _ _ _ _ _ h => h
theorem strs_vs {H : Hp} : ∀ {xs : List V} {zs : List Str}, Paired (StrV H) xs zs → xs = zs.map V.str
  | _, _, .nil => rfl
  | _, _, .cons h t => by
    rw [show _ = V.str _ from h, strs_vs t]
    rfl
theorem strs_pv {H : Hp} : ∀ zs : List Str, Paired (StrV H) (zs.map V.str) zs
  | [] => .nil
  | _ :: zs => .cons rfl (strs_pv zs)
def BlV (_ : Hp) (x : V) (b : Bool) : Prop := x = .bl b
theorem stays_bl : Stays BlV := fun _ _ _ _ _ h => h
theorem bls_vs {H : Hp} : ∀ {xs : List V} {bs : List Bool}, Paired (BlV H) xs bs → xs = bs.map V.bl
  | _, _, .nil => rfl
  | _, _, .cons h t => by
    rw [show _ = V.bl _ from h, bls_vs t]
    rfl
def IntV (_ : Hp) (x : V) (n : Int) : Prop := x = .int n
theorem stays_int : Stays IntV := fun _ _ _ _ _ h => h
theorem ints_vs {H : Hp} : ∀ {xs : List V} {ns : List Int}, Paired (IntV H) xs ns → xs = ns.map V.int
  | _, _, .nil => rfl
  | _, _, .cons h t => by
    rw [show _ = V.int _ from h, ints_vs t]
    rfl
/-- a row -/
def RwAt (H : Hp) (x : V) (ws : List Str) : Prop := ∃ r, x = .ref r ∧ H r = some (.tup (ws.map V.str))
theorem stays_rw : Stays RwAt := fun _ _ _ _ t ⟨r, e, h⟩ => ⟨r, e, t _ _ h⟩
abbrev GmAt := TupOf RwAt
abbrev GlAt := LstOf RwAt
theorem GmAt.keep {H H' : Hp} (t : Tups H H') {a : Addr} {rs : List (List Str)} (h : GmAt H a rs) : GmAt H' a rs := TupOf.keep stays_rw t h
theorem paired_fmap {α β γ : Type} {R : α → β → Prop} (f : β → Bool) (g : β → γ) (l : List β) (i : Nat) (b : β) (h : l[i]? = some b) : ((l.take (i + 1)).filter f).map g = ((l.take i).filter f).map g ++ (if f b = true then [g b] else []) := by
  rw [take_one h, List.filter_append, List.map_append]
  by_cases c : f b = true
  · rw [if_pos c, List.filter_cons_of_pos c]
    rfl
  · rw [if_neg c, List.filter_cons_of_neg c]
    rfl
theorem fmap_one {β γ : Type} (f : β → Bool) (g : β → γ) (l : List β) (i : Nat) (b : β) (h : l[i]? = some b) : ((l.take (i + 1)).filter f).map g = ((l.take i).filter f).map g ++ (if f b = true then [g b] else []) := by
  rw [take_one h, List.filter_append, List.map_append]
  by_cases c : f b = true
  · rw [if_pos c, List.filter_cons_of_pos c]
    rfl
  · rw [if_neg c, List.filter_cons_of_neg c]
    rfl
theorem fmap_len {β γ : Type} (f : β → Bool) (g : β → γ) (l : List β) (i : Nat) : (((l.take i).filter f).map g).length ≤ l.length := by
  rw [List.length_map]
  exact Nat.le_trans (List.length_filter_le _ _) (by rw [List.length_take]; exact Nat.min_le_right _ _)
/-- a comprehension that only reads: over n items bs, those with f, each made by m; what is made is told by R -/
theorem lcS {J : It} {n : Nat} {G : Hp → Prop} {Y : Nat → Hp → V → Hp → Prop} (wk : Walk J n G Y) {β γ : Type} {R : Hp → V → γ → Prop} (st : Stays R) (bs : List β) (f : β → Bool) (m : β → γ) {H0 : Hp} (hn : n = bs.length) (hz : bs.length ≤ 100000) (hG : ∀ H, Same H0 H → G H)
    {g : TG} {tt : TT} {te : TE} {vs : List Nat} {σ : L2.St} {D : Addr} {Qd : Hp → Prop} (hD : H0 D = none)
    (hs : ∀ (i : Nat) (x : V) (b : β) (H H' : Hp) (Nx : Hp → Prop), bs[i]? = some b → Y i H x H' → Same H0 H → (f b = false → ∀ H2, Same H H2 → Nx H2) →
      (f b = true → ∀ y H2, Same H H2 → R H2 y (m b) → ∃ acc, H2 D = some (.lst acc) ∧ acc.length < sizeLine ∧ Nx (upd H2 D (.lst (acc ++ [y])))) →
      g x (wipe σ vs) H' fun σ2 H2 => wipe σ2 vs = wipe σ vs ∧ tt σ2 H2 fun c H3 => if c = true then te σ2 H3 fun y H4 => ∃ acc, H4 D = some (.lst acc) ∧ acc.length < sizeLine ∧ Nx (upd H4 D (.lst (acc ++ [y]))) else Nx H3)
    (hd : ∀ H, Same H0 H → LstOf R H D ((bs.filter f).map m) → Qd H) :
    ∃ W : Nat → Nat → Hp → Prop, (∃ m, W 0 m (upd H0 D (.lst []))) ∧ ∀ i m H, W i m H → (J.stop i H ∧ Qd H) ∨ (J.go i H ∧ ∃ Nx : Hp → Prop, (∀ H', Nx H' → ∃ m', m' < m ∧ W (i + 1) m' H') ∧
      ∀ x H', J.yld i H x H' → g x (wipe σ vs) H' fun σ2 H2 => wipe σ2 vs = wipe σ vs ∧ tt σ2 H2 fun c H3 => if c = true then te σ2 H3 fun y H4 => ∃ acc, H4 D = some (.lst acc) ∧ acc.length < sizeLine ∧ Nx (upd H4 D (.lst (acc ++ [y]))) else Nx H3) := by
  subst hn
  have big : (100000 : Nat) < sizeLine := by decide
  refine lc_it wk (fun i H => Same H0 H ∧ LstOf R H D (((bs.take i).filter f).map m)) ⟨same_new hD, [], upd_same, .nil⟩ (fun i H _ p => hG H p.1) ?_ ?_
  · rintro i x H H' hi ⟨sm, acc, ha, pa⟩ hy
    have hb : bs[i]? = some bs[i] := List.getElem?_eq_getElem hi
    have la : acc.length ≤ bs.length := by
      rw [paired_len pa]
      exact fmap_len f m bs i
    refine hs i x _ H H' (fun H2 => Same H0 H2 ∧ LstOf R H2 D (((bs.take (i + 1)).filter f).map m)) hb hy sm (fun c H2 g2 => ⟨sm.trans g2, acc, g2 _ _ ha, ?_⟩) (fun c y H2 g2 r => ⟨acc, g2 _ _ ha, by omega, ?_⟩)
    · rw [fmap_one f m bs i _ hb, c, if_neg Bool.false_ne_true, List.append_nil]
      exact paired_mono (fun _ _ => st _ _ _ _ (tups_same g2)) pa
    · have t := tups_lst (vs := acc ++ [y]) (g2 _ _ ha)
      refine ⟨same_mut (sm.trans g2) hD, acc ++ [y], upd_same, ?_⟩
      rw [fmap_one f m bs i _ hb, c, if_pos rfl]
      exact paired_snoc (paired_mono (fun _ _ z => st _ _ _ _ t (st _ _ _ _ (tups_same g2) z)) pa) (st _ _ _ _ t r)
  · rintro H ⟨sm, l⟩
    rw [List.take_length] at l
    exact hd H sm l
theorem filter_all {β : Type} (bs : List β) : bs.filter (fun _ => true) = bs := List.filter_eq_self.mpr fun _ _ => rfl
/-! ### rows as data -/
theorem dpAll_rows {K : PySem.W.Frag} {H : Hp} : ∀ {xs : List V} {rs : List (List Str)}, Paired (RwAt H) xs rs → DpAll K H xs (rs.map rowD)
  | _, _, .nil => .nil
  | _, _, .cons ⟨r, e, h⟩ t => by
    subst e
    exact .cons (dp_row h) (dpAll_rows t)
abbrev gameD (rs : List (List Str)) : PyData := .tuple (rs.map rowD)
theorem dp_game {K : PySem.W.Frag} {H : Hp} {a : Addr} {rs : List (List Str)} (h : GmAt H a rs) : Dp K H (.ref a) (gameD rs) := by
  obtain ⟨xs, h1, h2⟩ := h
  exact .tup (SqT.of h1) (dpAll_rows h2)
theorem dp_gameL {K : PySem.W.Frag} {H : Hp} {a : Addr} {rs : List (List Str)} (h : GlAt H a rs) : Dp K H (.ref a) (.list (rs.map rowD)) := by
  obtain ⟨xs, h1, h2⟩ := h
  exact .lst (SqL.of h1) (dpAll_rows h2)
theorem eqv_rows : ∀ rs qs : List (List Str), PyData.eqvAll (rs.map rowD) (qs.map rowD) = decide (rs = qs)
  | [], [] => by simp [PyData.eqvAll]
  | [], _ :: _ => by simp [PyData.eqvAll]
  | _ :: _, [] => by simp [PyData.eqvAll]
  | r :: rs, q :: qs => by
    rw [List.map_cons, List.map_cons, PyData.eqvAll, eqv_rows rs qs, eqv_row]
    by_cases h1 : r = q <;> by_cases h2 : rs = qs <;> simp [h1, h2]
theorem eqv_game (rs qs : List (List Str)) : PyData.eqv (gameD rs) (gameD qs) = decide (rs = qs) := by rw [PyData.eqv, eqv_rows]
theorem any_row (q : List Str) : ∀ rs : List (List Str), ((rs.map rowD).any fun z => PyData.eqv z (rowD q)) = decide (q ∈ rs)
  | [] => by simp
  | r :: rs => by
    rw [List.map_cons, List.any_cons, any_row q rs, eqv_row]
    by_cases h : r = q
    · subst h
      simp
    · have h' : ¬ q = r := fun z => h z.symm
      simp [h, h']
theorem any_str (q : Str) : ∀ ws : List Str, ((rowL ws).any fun z => PyData.eqv z (.str q)) = decide (q ∈ ws)
  | [] => by simp
  | w :: ws => by
    rw [rowL_cons, List.any_cons, any_str q ws, PyData.eqv]
    by_cases h : w = q
    · subst h
      simp
    · have h' : ¬ q = w := fun z => h z.symm
      simp [h, h']
theorem lay_word {z : Str} (h : wordOk z) : PyData.canLay0 (.str z) = true := lay_let h.1
theorem shaped_rw {r : List Str} (h : ∀ z ∈ r, wordOk z) : SeqAt.shaped (rowD r) = true := shaped_row fun z hz => lay_word (h z hz)
theorem lay_rows : ∀ rs : List (List Str), (∀ r ∈ rs, ∀ z ∈ r, wordOk z) → PyData.canLayAll0 (rs.map rowD) = true ∧ PyData.depthAll (rs.map rowD) ≤ 1
  | [], _ => by simp [PyData.canLayAll0, PyData.depthAll]
  | r :: rs, h => by
    obtain ⟨h1, h2⟩ := lay_rows rs fun r hr => h r (List.mem_cons_of_mem _ hr)
    rw [List.map_cons, PyData.canLayAll0, h1, PyData.depthAll]
    have e : PyData.depth (rowD r) = 1 := by
      rw [PyData.depth, depth_rowL]
    refine ⟨?_, by omega⟩
    rw [PyData.canLay0, lay_rowL r fun z hz => lay_word (h r List.mem_cons_self z hz)]
    rfl
theorem shaped_game {rs : List (List Str)} (h : ∀ r ∈ rs, ∀ z ∈ r, wordOk z) : SeqAt.shaped (gameD rs) = true := by
  unfold SeqAt.shaped
  obtain ⟨h1, h2⟩ := lay_rows rs h
  rw [PyData.canLay0, h1, PyData.depth, Bool.true_and]
  exact decide_eq_true (by omega)
theorem shaped_gameL {rs : List (List Str)} (h : ∀ r ∈ rs, ∀ z ∈ r, wordOk z) : SeqAt.shaped (.list (rs.map rowD)) = true := by
  unfold SeqAt.shaped
  obtain ⟨h1, h2⟩ := lay_rows rs h
  rw [PyData.canLay0, h1, PyData.depth, Bool.true_and]
  exact decide_eq_true (by omega)
theorem shaped_wd {z : Str} (h : wordOk z) : SeqAt.shaped (.str z) = true := by
  unfold SeqAt.shaped
  rw [lay_word h, PyData.depth]
  rfl
/-! ### dicts keyed by rows -/
theorem inr_inj {a b : List Str} : keyRow a = keyRow b ↔ a = b := by
  constructor
  · intro h
    have := congrArg (List.map fun k : Key => match k with | .inr z => z | .inl _ => Str.empty) h
    unfold keyRow at this
    rw [List.map_map, List.map_map] at this
    exact (List.map_id a).symm.trans ((show List.map id a = List.map id b from this).trans (List.map_id b))
  · intro h
    rw [h]
/-- the keys, rows, and what is told of each -/
structure RDict {γ : Type} (R : V → γ → Prop) (ents : List (List Key × V)) (ks : List (List Str)) (val : List Str → γ) : Prop where
  keys : ents.map (·.1) = ks.map keyRow
  nd : ks.Nodup
  vals : ∀ e ∈ ents, ∀ k, e.1 = keyRow k → R e.2 (val k)
/-- the keys with one more -/
def plusR (ks : List (List Str)) (k : List Str) : List (List Str) := if k ∈ ks then ks else ks ++ [k]
theorem mem_plusR {ks : List (List Str)} {k x : List Str} : x ∈ plusR ks k ↔ x ∈ ks ∨ x = k := by
  unfold plusR
  by_cases h : k ∈ ks
  · rw [if_pos h]
    constructor
    · exact .inl
    · rintro (z | rfl)
      · exact z
      · exact h
  · rw [if_neg h, List.mem_append, List.mem_singleton]
theorem plusR_nd {ks : List (List Str)} (n : ks.Nodup) (k : List Str) : (plusR ks k).Nodup := by
  unfold plusR
  by_cases h : k ∈ ks
  · rw [if_pos h]
    exact n
  · rw [if_neg h]
    exact List.nodup_append.mpr ⟨n, List.pairwise_singleton _ _, fun a ha b hb e => h (by rw [← List.mem_singleton.mp hb, ← e]; exact ha)⟩
theorem key_any {ents : List (List Key × V)} {ks : List (List Str)} (h : ents.map (·.1) = ks.map keyRow) (k : List Str) : (ents.any fun e => decide (e.1 = keyRow k)) = decide (k ∈ ks) := by
  have e1 : (ents.any fun e => decide (e.1 = keyRow k)) = (ents.map (·.1)).any fun y => decide (y = keyRow k) := by
    rw [List.any_map]
    rfl
  rw [e1, h, List.any_map]
  by_cases m : k ∈ ks
  · rw [decide_eq_true m, List.any_eq_true]
    exact ⟨k, m, decide_eq_true rfl⟩
  · rw [decide_eq_false m, List.any_eq_false]
    intro x hx z
    exact m (inr_inj.mp (of_decide_eq_true z) ▸ hx)
theorem RDict.put {γ : Type} {R : V → γ → Prop} {ents : List (List Key × V)} {ks : List (List Str)} {val : List Str → γ} (d : RDict R ents ks val) (k : List Str) {y : V} {c : γ} (r : R y c) :
    RDict R (putK ents (keyRow k) y) (plusR ks k) (fun x => if x = k then c else val x) := by
  have ka := key_any d.keys k
  refine ⟨?_, plusR_nd d.nd k, ?_⟩
  · unfold putK plusR
    rw [ka]
    by_cases m : k ∈ ks
    · rw [if_pos (decide_eq_true m), if_pos m, List.map_map, ← d.keys]
      refine List.map_congr_left fun e _ => ?_
      show (if e.1 = keyRow k then (e.1, y) else e).1 = e.1
      by_cases c : e.1 = keyRow k
      · rw [if_pos c]
      · rw [if_neg c]
    · rw [if_neg (by rw [decide_eq_false m]; exact Bool.false_ne_true), if_neg m, List.map_append, List.map_append, d.keys]
      rfl
  · intro e he x ex
    unfold putK at he
    rw [ka] at he
    by_cases m : k ∈ ks
    · rw [if_pos (decide_eq_true m)] at he
      obtain ⟨f, hf, rfl⟩ := List.mem_map.mp he
      by_cases c1 : f.1 = keyRow k
      · rw [if_pos c1] at ex ⊢
        have : x = k := inr_inj.mp (ex.symm.trans c1)
        rw [if_pos this]
        exact r
      · rw [if_neg c1] at ex ⊢
        have : x ≠ k := fun z => c1 (by rw [ex, z])
        rw [if_neg this]
        exact d.vals f hf x ex
    · rw [if_neg (by rw [decide_eq_false m]; exact Bool.false_ne_true)] at he
      rcases List.mem_append.mp he with h1 | h1
      · have : x ≠ k := fun z => m (by
          have hm : keyRow x ∈ ks.map keyRow := by
            rw [← d.keys, ← ex]
            exact List.mem_map.mpr ⟨e, h1, rfl⟩
          obtain ⟨y', hy, ey⟩ := List.mem_map.mp hm
          rw [← z, ← inr_inj.mp ey]
          exact hy)
        rw [if_neg this]
        exact d.vals e h1 x ex
      · rw [List.mem_singleton.mp h1] at ex ⊢
        have : x = k := (inr_inj.mp ex).symm
        rw [if_pos this]
        exact r
theorem RDict.get {γ : Type} {R : V → γ → Prop} {ents : List (List Key × V)} {ks : List (List Str)} {val : List Str → γ} (d : RDict R ents ks val) {k : List Str} (h : k ∈ ks) : ∃ y, valV ents (keyRow k) = some y ∧ R y (val k) := by
  have ka := key_any d.keys k
  rw [decide_eq_true h, List.any_eq_true] at ka
  unfold valV
  cases e : ents.find? fun kv => decide (kv.1 = keyRow k) with
  | none =>
    obtain ⟨x, hx, z⟩ := ka
    exact absurd z (List.find?_eq_none.mp e x hx)
  | some f =>
    have z := List.find?_some e
    exact ⟨f.2, rfl, d.vals f (List.mem_of_find?_eq_some e) k (of_decide_eq_true z)⟩
theorem keys_isSome {ents : List (List Key × V)} {ks : List (List Str)} (h : ents.map (·.1) = ks.map keyRow) (k : List Str) : (valV ents (keyRow k)).isSome = decide (k ∈ ks) := by
  rw [← key_any h k]
  unfold valV
  rw [Option.isSome_map]
  cases e : ents.find? fun kv => decide (kv.1 = keyRow k) with
  | none =>
    symm
    rw [Option.isSome_none, List.any_eq_false]
    exact List.find?_eq_none.mp e
  | some f =>
    symm
    rw [Option.isSome_some, List.any_eq_true]
    have z := List.find?_some e
    exact ⟨f, List.mem_of_find?_eq_some e, z⟩
end Nm
namespace Nm
open PySem PySem.Spec PyProof.Rows L2 NmD
theorem sl_drop {K : PySem.W.Frag} {H : Hp} {a : Addr} {xs : List V} {k : Nat} {Q : VK} (h : H a = some (.tup xs)) (q : ∀ r H', Same H H' → H' r = some (.tup (xs.drop k)) → Q (.ref r) H') : rSlA K (.ref a) (some (k : Int)) none H Q := by
  have e1 : HT.sIx xs.length 0 (some (k : Int)) = min k xs.length := HT.sIx_nat _ _ _
  refine ⟨a, xs, rfl, SqT.of h, fun z => ?_, fun z p hp => ?_⟩
  · have e := z.1
    rw [e1] at e
    refine q a H (Same.refl H) ?_
    by_cases c : k = 0
    · rw [c, List.drop_zero]
      exact h
    · have : xs = [] := List.eq_nil_of_length_eq_zero (by omega)
      rw [this, List.drop_nil]
      rw [this] at h
      exact h
  · refine q p _ (same_new hp) ?_
    rw [upd_same]
    unfold cutV
    rw [e1, HT.sIx_none, List.take_of_length_le (by rw [List.length_drop]; omega)]
    by_cases c : k ≤ xs.length
    · rw [Nat.min_eq_left c]
    · rw [Nat.min_eq_right (by omega), List.drop_length, List.drop_of_length_le (by omega)]
/-- rows sorted: each once, ascending -/
theorem sorted_rows {H : Hp} {xs ys : List V} {rs : List (List Str)} (pa : Paired (RwAt H) xs rs) (nd : rs.Nodup) (srt : SrtO.Srtd (ltV fun x => rowL (rowOf H x)) ys) (stb : SrtO.Stb (ltV fun x => rowL (rowOf H x)) ys xs) :
    Paired (RwAt H) ys (ys.map (rowOf H)) ∧ (ys.map (rowOf H)).Pairwise bef ∧ (ys.map (rowOf H)).Perm rs := by
  have back : ∀ {us : List V} {qs : List (List Str)}, Paired (RwAt H) us qs → us.map (rowOf H) = qs := by
    intro us qs p
    induction p with
    | nil => rfl
    | cons h _ ih =>
      obtain ⟨r, e, hr⟩ := h
      rw [List.map_cons, ih, e, rowOf_at hr]
  have each : ∀ y ∈ ys, RwAt H y (rowOf H y) := fun y hy => by
    obtain ⟨i, hi⟩ := List.mem_iff_getElem?.mp (stb.perm.mem_iff.mp hy)
    obtain ⟨ws, _, r, e, hr⟩ := paired_at pa i y hi
    subst e
    rw [rowOf_at hr]
    exact ⟨r, rfl, hr⟩
  have pm : (ys.map (rowOf H)).Perm rs := by
    rw [← back pa]
    exact stb.perm.map _
  refine ⟨?_, ?_, pm⟩
  · clear stb srt pm
    induction ys with
    | nil => exact .nil
    | cons y ys ih => exact .cons (each y List.mem_cons_self) (ih fun z hz => each z (List.mem_cons_of_mem _ hz))
  · refine srt_bef ?_ (pm.nodup_iff.mpr nd)
    rw [List.pairwise_map]
    exact srt
theorem sql_bl {K : PySem.W.Frag} {H : Hp} {D : Addr} {bs : List Bool} (l : LstOf BlV H D bs) : SqL K H D (bs.map V.bl) := by
  obtain ⟨acc, h, pa⟩ := l
  rw [bls_vs pa] at h
  exact SqL.of h
theorem lst_str {H : Hp} {D : Addr} {zs : List Str} (l : LstOf StrV H D zs) : H D = some (.lst (zs.map V.str)) := by
  obtain ⟨acc, h, pa⟩ := l
  rw [strs_vs pa] at h
  exact h
/-- {row: True for row in rows} -/
theorem dcT_true {K : PySem.W.Frag} {a : Addr} {rs : List (List Str)} {H0 : Hp} {g : TG} {tk tv : TE} {vs : List Nat} {σ : L2.St} {D : Addr} {Qd : Hp → Prop} (hx : GmAt H0 a rs) (hz : rs.length ≤ 100000) (hD : H0 D = none)
    (hs : ∀ (i : Nat) (r : Addr) (ws : List Str) (H : Hp) (Nx : Hp → Prop), rs[i]? = some ws → Same H0 H → H r = some (.tup (ws.map V.str)) → (∃ ents : List (List Key × V), H D = some (.dT ents) ∧ ents.length < sizeLine ∧ Nx (upd H D (.dT (putK ents (keyRow ws) (.bl true))))) →
      g (.ref r) (wipe σ vs) H fun σ2 H2 => wipe σ2 vs = wipe σ vs ∧ tk σ2 H2 fun y H4 => tv σ2 H4 fun z H5 =>
        ∃ (ents : List (List Key × V)) (k : List Key) (b : Addr), y = .ref b ∧ H5 D = some (.dT ents) ∧ H5 b = some (.tup (k.map kV)) ∧ ents.length < sizeLine ∧ Nx (upd H5 D (.dT (putK ents k z))))
    (hd : ∀ H (ents : List (List Key × V)) (ks : List (List Str)), Same H0 H → H D = some (.dT ents) → ents.map (·.1) = ks.map keyRow → (∀ z, z ∈ ks ↔ z ∈ rs) → Qd H) :
    ∃ W : Nat → Nat → Hp → Prop, (∃ m, W 0 m (upd H0 D (.dT []))) ∧ ∀ i m H, W i m H → ((Itt K a).stop i H ∧ Qd H) ∨ ((Itt K a).go i H ∧ ∃ Nx : Hp → Prop, (∀ H', Nx H' → ∃ m', m' < m ∧ W (i + 1) m' H') ∧
      ∀ x H', (Itt K a).yld i H x H' → g x (wipe σ vs) H' fun σ2 H2 => wipe σ2 vs = wipe σ vs ∧ tk σ2 H2 fun y H4 => tv σ2 H4 fun z H5 =>
        ∃ (ents : List (List Key × V)) (k : List Key) (b : Addr), y = .ref b ∧ H5 D = some (.dT ents) ∧ H5 b = some (.tup (k.map kV)) ∧ ents.length < sizeLine ∧ Nx (upd H5 D (.dT (putK ents k z)))) := by
  obtain ⟨xs, ha, pa⟩ := hx
  have el := paired_len pa
  have big : (100000 : Nat) < sizeLine := by decide
  refine dcT_tup (xs := xs) (fun i H => Same H0 H ∧ ∃ (ents : List (List Key × V)) (ks : List (List Str)), H D = some (.dT ents) ∧ ents.length ≤ i ∧ RDict (fun y (b : Bool) => y = V.bl b) ents ks (fun _ => true) ∧ ∀ z, z ∈ ks ↔ z ∈ rs.take i)
    ⟨same_new hD, [], [], upd_same, Nat.le_refl _, ⟨rfl, .nil, fun e he => absurd he (List.not_mem_nil)⟩, fun z => by simp⟩ (fun i H _ p => SqT.of (p.1 _ _ ha)) ?_ ?_
  · rintro i x H hi ⟨sm, ents, ks, hd1, le, dd, mem⟩
    obtain ⟨ws, hw, r, rfl, hr⟩ := paired_at pa i x hi
    have li := (List.getElem?_eq_some_iff.mp hi).1
    refine hs i r ws H (fun H => Same H0 H ∧ ∃ (ents : List (List Key × V)) (ks : List (List Str)), H D = some (.dT ents) ∧ ents.length ≤ i + 1 ∧ RDict (fun y (b : Bool) => y = V.bl b) ents ks (fun _ => true) ∧ ∀ z, z ∈ ks ↔ z ∈ rs.take (i + 1)) hw sm (sm _ _ hr) ⟨ents, hd1, by omega, same_mut sm hD, _, plusR ks ws, upd_same, ?_, ?_, fun z => ?_⟩
    · have := length_putK ents (keyRow ws) (V.bl true)
      omega
    · have p := dd.put ws (y := V.bl true) (c := true) rfl
      have e : (fun x => if x = ws then true else (fun _ => true) x) = fun _ : List Str => true := by
        funext x
        by_cases c : x = ws
        · rw [if_pos c]
        · rw [if_neg c]
      rw [e] at p
      exact p
    · rw [mem_plusR, mem z, take_one hw, List.mem_append, List.mem_singleton]
  · rintro H ⟨sm, ents, ks, hd1, le, dd, mem⟩
    rw [el, List.take_length] at mem
    exact hd H ents ks sm hd1 dd.keys mem
theorem kit_lt_lst {K : PySem.W.Frag} : PySem.W.kitAny K (.type "list") [.type "list", .type "tuple"] = some true := kitAny_cons (b := true) (kit_ty (by decide +kernel)) (fun z => absurd z (by decide)) (fun _ => rfl)
theorem kit_lt_tup {K : PySem.W.Frag} : PySem.W.kitAny K (.type "tuple") [.type "list", .type "tuple"] = some true := kitAny_cons (b := false) (kit_ty (by decide +kernel)) (fun _ => kitAny_cons (b := true) (kit_ty (by decide +kernel)) (fun z => absurd z (by decide)) (fun _ => rfl)) (fun z => absurd z (by decide))
theorem rowB_of {r : List Str} (h : rwOk r) : rowB r 60 = true := by
  unfold rowB
  rw [decide_eq_true (show ((r.length : Nat) : Int) ≤ 60 by have := h.1; omega), Bool.true_and, List.all_eq_true]
  exact fun z hz => (h.2 z hz).1
end Nm
namespace Nm
open PySem PySem.Spec PyProof.Rows L2 NmD
theorem sl_from1 {K : PySem.W.Frag} {H : Hp} {a : Addr} {xs : List V} {Q : VK} (h : H a = some (.tup xs)) (q : ∀ r H', Same H H' → H' r = some (.tup (xs.drop 1)) → Q (.ref r) H') : rSlA K (.ref a) (some 1) none H Q := sl_drop (k := 1) h q
def rLenS (K : PySem.W.Frag) : List V → Hp → VK → Prop := fun xs H Q => ∃ p ys, xs = [V.ref p] ∧ (SqL K H p ys ∨ SqT K H p ys) ∧ Q (V.int ys.length) H
theorem call_lenS {X : Cx} : CallR X (.builtin "len") (rLenS X.K) := call_len_seq
theorem sl_takeE {K : PySem.W.Frag} {H : Hp} {a : Addr} {xs : List V} {n : Int} {k : Nat} {Q : VK} (e : n = (k : Int)) (h : H a = some (.tup xs)) (q : ∀ r H', Same H H' → H' r = some (.tup (xs.take k)) → Q (.ref r) H') : rSlA K (.ref a) none (some n) H Q := by
  subst e
  exact sl_take h q
theorem sl_dropE {K : PySem.W.Frag} {H : Hp} {a : Addr} {xs : List V} {n : Int} {k : Nat} {Q : VK} (e : n = (k : Int)) (h : H a = some (.tup xs)) (q : ∀ r H', Same H H' → H' r = some (.tup (xs.drop k)) → Q (.ref r) H') : rSlA K (.ref a) (some n) none H Q := by
  subst e
  exact sl_drop h q
theorem keys_put {ents : List (List Key × V)} {ks : List (List Str)} (h : ents.map (·.1) = ks.map keyRow) (nd : ks.Nodup) (k : List Str) (y : V) : (putK ents (keyRow k) y).map (·.1) = (plusR ks k).map keyRow :=
  (RDict.put (R := fun _ (_ : Unit) => True) (val := fun _ => ()) ⟨h, nd, fun _ _ _ _ => trivial⟩ k (y := y) (c := ()) trivial).keys
theorem two : 2 ≤ PySem.sizeLine := by decide
theorem nought : 0 ≤ PySem.sizeLine := Nat.zero_le _
end Nm
namespace Nm
open PySem PySem.Spec PyProof.Rows L2 HT
/-! ### t[::-1], t a tuple -/
theorem adjust_rev (n : Nat) : Builtin.Slice.sliceAdjust none none (-1) (n : Int) = ((n : Int) - 1, -1) := by
  unfold Builtin.Slice.sliceAdjust
  simp
theorem places_rev (n : Nat) (h : 1 ≤ n) : Builtin.Slice.slicePlaces ((n : Int) - 1) (-1) (-1) = n := by
  unfold Builtin.Slice.slicePlaces
  have h1 : ¬ ((-1 : Int) > 0) := by omega
  simp only [h1, if_false]
  split
  · rw [show (- -1 : Int) = 1 by decide, Int.ediv_one]
    omega
  · omega
theorem fmap_some {α β : Type} {f : α → Option β} {g : α → β} : ∀ {l : List α}, (∀ m ∈ l, f m = some (g m)) → l.filterMap f = l.map g
  | [], _ => rfl
  | m :: l, h => by
    rw [List.filterMap_cons, h m List.mem_cons_self, List.map_cons]
    show g m :: List.filterMap f l = _
    rw [fmap_some fun z hz => h z (List.mem_cons_of_mem _ hz)]
theorem pick_rev (xs : Array Value) : ((List.range xs.size).filterMap fun (m : Nat) => xs[(((xs.size : Nat) : Int) - 1 + (m : Int) * -1).toNat]?).toArray = xs.toList.reverse.toArray := by
  congr 1
  apply List.ext_getElem?
  have e : (List.range xs.size).filterMap (fun (m : Nat) => xs[(((xs.size : Nat) : Int) - 1 + (m : Int) * -1).toNat]?) = (List.range xs.size).map fun m => xs.toList.reverse.getD m default := by
    refine fmap_some fun m hm => ?_
    have hm := List.mem_range.mp hm
    rw [show (((xs.size : Nat) : Int) - 1 + (m : Int) * -1).toNat = xs.size - 1 - m by omega]
    rw [List.getD_eq_getElem?_getD, List.getElem?_reverse (by rw [Array.length_toList]; exact hm), Array.length_toList, Array.getElem?_toList, Array.getElem?_eq_getElem (by omega)]
    rfl
  intro i
  rw [e, List.getElem?_map]
  by_cases c : i < xs.size
  · rw [List.getElem?_range c, List.getElem?_eq_getElem (by rw [List.length_reverse, Array.length_toList]; exact c)]
    show some (xs.toList.reverse.getD i default) = _
    rw [List.getD_eq_getElem?_getD, List.getElem?_eq_getElem (by rw [List.length_reverse, Array.length_toList]; exact c)]
    rfl
  · rw [List.getElem?_eq_none (by rw [List.length_range]; omega), List.getElem?_eq_none (by rw [List.length_reverse, Array.length_toList]; omega)]
    rfl
section
variable {prog : Program} {w : World} {A : Around} {E : Value → Shared → Prop} {s : Shared}
theorem sliceApplied_rev {sl : Addr} {vs : Value} {n : Nat} {Q : Int × Int × Nat → Shared → Prop} (hs : s.heap.IsSliceOf sl .none .none vs) (ps : IsPart vs (some (-1))) (hn : 1 ≤ n)
    (h : Q ((n : Int) - 1, -1, n) s) : wpAny (model prog w) A (Builtin.Slice.sliceApplied (.ref sl) (pure (n : Int))) Q E s := by
  obtain ⟨os, hos, hcs, hds⟩ := id hs
  unfold Builtin.Slice.sliceApplied Builtin.Slice.sliceFields
  refine wpAny_bind (wpAny_bind (wpAny_field hos hds (x := .none) rfl (wpAny_bind (wpAny_field hos hds (x := .none) rfl (wpAny_bind (wpAny_field hos hds (x := vs) rfl (wpAny_pure ?_)))))))
  refine wpAny_bind (slicePart_ ps ?_)
  show wpAny _ _ (if ((-1 : Int) == 0) = true then _ else _) _ _ s
  rw [if_neg (by decide)]
  refine wpAny_bind (slicePart_ .none (wpAny_bind (slicePart_ .none (wpAny_bind (wpAny_pure ?_)))))
  show wpAny _ _ (match Builtin.Slice.sliceAdjust none none (-1) (n : Int) with | (lo, hi) => pure (lo, (-1 : Int), Builtin.Slice.slicePlaces lo hi (-1))) _ _ s
  rw [adjust_rev n]
  show wpAny _ _ (pure ((n : Int) - 1, (-1 : Int), Builtin.Slice.slicePlaces ((n : Int) - 1) (-1) (-1))) _ _ s
  rw [places_rev n hn]
  exact wpAny_pure h
theorem getItem_tuple_rev {t sl : Addr} {items : Array Value} {vs : Value} {Q : Value → Shared → Prop} (ht : IsTup s.heap t items) (hs : s.heap.IsSliceOf sl .none .none vs) (ps : IsPart vs (some (-1))) (h1 : 1 ≤ items.size)
    (h : Q (.ref s.heap.objs.size) { s with heap := s.heap.push { cls := .type "tuple", data := .seq items.toList.reverse.toArray } })
    (hsz : items.size ≤ sizeLine) : wpAny (model prog w) A (getItem (.ref t) (.ref sl)) Q E s := by
  have htake : sizeOk (.seq items.toList.reverse.toArray) := by
    show items.toList.reverse.toArray.size ≤ sizeLine
    rw [List.size_toArray, List.length_reverse, Array.length_toList]
    exact hsz
  obtain ⟨os, hos, hcs, hds⟩ := id hs
  have hTs : s.TypeIs (.ref sl) "slice" := ⟨os, hos, hcs⟩
  unfold getItem
  try with_reducible refine wpAny_holding ?_
  first | refine wpAny_bind (wpAny_pure ?_) | skip
  refine wpAny_bind (wpAny_sequenceKey ht.typeIs (by decide) ?_)
  refine wpAny_bind (wpAny_callSpecial?_slot (name := Str.ofString "__getitem__") ht.typeIs PyProof.Rows.slot_tuple_getitem
    (wpAny_call_entry PyProof.Rows.slot_tuple_getitem ht.typeIs entry_tuple_getitem ?_ (args_tuple_getitem _ _)))
  show wpAny _ _ (Builtin.Tuple.tupleItemsOf (.ref t) >>= _) _ _ s
  refine wpAny_bind (tupleItemsOf_ ht ?_)
  refine wpAny_bind (wpAny_typeOf hTs ?_)
  rw [if_pos (by decide)]
  refine wpAny_bind (sliceApplied_rev (n := items.size) hs ps h1 ?_)
  have hno : ¬ (((((items.size : Nat) : Int) - 1) == 0 && (-1 : Int) == 1 && items.size == items.size) = true) := by
    intro q
    rw [Bool.and_eq_true, Bool.and_eq_true] at q
    exact absurd q.1.2 (by decide)
  show wpAny _ _ (if ((((items.size : Nat) : Int) - 1) == 0 && (-1 : Int) == 1 && items.size == items.size) = true then _ else _) _ _ s
  rw [if_neg hno, pick_rev]
  first
    | exact wpAny_bind (m := Builtin.Tuple.tupleExact _) (wpAny_newObj_type (wpAny_pure ⟨_, rfl, wpAny_pure h⟩) htake)
    | exact wpAny_bind (m := Builtin.Tuple.tupleExact _) (wpAny_newObj_type (wpAny_bind (wpAny_pure (wpAny_pure ⟨_, rfl, wpAny_pure h⟩))) htake)
    | exact wpAny_bind (wpAny_bind (m := Builtin.Tuple.tupleExact _) (wpAny_newObj_type (wpAny_pure (wpAny_pure ⟨_, rfl, wpAny_pure h⟩)) htake))
    | exact wpAny_bind (wpAny_bind (m := Builtin.Tuple.tupleExact _) (wpAny_newObj_type (wpAny_pure ⟨_, rfl, wpAny_pure h⟩) htake))
end
variable {X : Cx}
def tRevT (K : PySem.W.Frag) (te : TE) : TE := fun σ H Q => te σ H fun x H1 => ∃ a xs, x = .ref a ∧ SqT K H1 a xs ∧ xs ≠ [] ∧ ∀ p, H1 p = none → Q (.ref p) (upd H1 p (.tup xs.reverse))
theorem pe_revT {e : Expr} {te : TE} {k : Nat} {p1 p2 p3 pos : Pos} (he : PE X e te) : PE X (.Subscript e (.Slice none none (some (.UnaryOp .USub (.Constant (.int 1) k p1) p2)) p3) pos) (tRevT X.K te) := by
  refine ⟨fun pins s σ H Q I h => ?_⟩
  refine Subscript_ (thn (he.run pins s σ H _ I h) fun v s1 ⟨x, H1, I1, r1, q1⟩ => ?_)
  obtain ⟨a, xs, ex, hx, hne, q⟩ := q1
  subst ex
  cases r1
  have hst : PO X (some (.UnaryOp .USub (.Constant (.int 1) k p1) p2)) (tPart (tUn (rU fun i => .int (-i)) (tC (.int 1)))) := po_some (pe_un un_neg pe_int)
  refine wpAny_Slice (thn (po_none.run pins s1 σ H1 (fun o H2 => o = none ∧ H2 = H1) I1 ⟨rfl, rfl⟩) fun vl s2 ⟨l, H2, I2, pl, el, e2⟩ => ?_)
  subst el e2
  refine thn (po_none.run pins s2 σ H2 (fun o H3 => o = none ∧ H3 = H2) I2 ⟨rfl, rfl⟩) fun vu s3 ⟨u, H3, I3, pu, eu, e3⟩ => ?_
  subst eu e3
  refine thn (hst.run pins s3 σ H3 (fun o H4 => o = some (-1) ∧ H4 = H3) I3 ⟨1, rfl, -1, rfl, rfl, rfl⟩) fun vs s4 ⟨o, H4, I4, ps, eo, e4⟩ => ?_
  subst eo e4
  cases pl
  cases pu
  have I5 : Inv X pins σ H4 { s4 with heap := s4.heap.push { cls := .type "slice", data := .fields #[.none, .none, vs] } } := I4.kept (t' := s4.toks) fun b ob q => Heap.get?_push_of_some _ q
  obtain ⟨its, r, ht, hz⟩ := I5.tuple hx
  have hlen := r.length
  show wpAny (model X.prog X.w) X.A (subscriptTail e (.Slice none none (some (.UnaryOp .USub (.Constant (.int 1) k p1) p2)) p3) (.ref a) (.ref s4.heap.objs.size)) (EP X pins σ Q) X.xe { s4 with heap := s4.heap.push { cls := .type "slice", data := .fields #[.none, .none, vs] } }
  refine tail_any (ops := [.ref a, .ref s4.heap.objs.size]) ht.typeIs (PyProof.Rows.slot_tuple_getitem.lookup) ?_ (by with_unfolding_all rfl)
  have l1 : 1 ≤ its.toArray.size := by
    rw [List.size_toArray, ← hlen]
    exact List.length_pos_iff.mpr hne
  refine getItem_tuple_rev ht (Heap.IsSliceOf.new _ .none .none vs) ps l1 ?_ (by rw [List.size_toArray]; omega)
  refine ⟨.ref _, _, I5.laid (t' := s4.toks) (o := .tup xs.reverse) (fun b ob q => Heap.get?_push_of_some _ q) (Nat.le_refl _) ?_, rfl, q _ (I5.hok.fresh (Nat.le_refl _))⟩
  exact ⟨by rw [List.length_reverse]; exact hz, _, r.reverse, IsTup.new _ _⟩
end Nm
namespace Nm
open PySem PySem.Spec PyProof.Rows L2 HT
/-! ### t[::-1], t a tuple -/
theorem adjust_rev0 (n : Nat) : Builtin.Slice.sliceAdjust none none (-1) (n : Int) = ((n : Int) - 1, -1) := by
  unfold Builtin.Slice.sliceAdjust
  simp
theorem places_rev0 (n : Nat) : Builtin.Slice.slicePlaces ((n : Int) - 1) (-1) (-1) = n := by
  unfold Builtin.Slice.slicePlaces
  have h1 : ¬ ((-1 : Int) > 0) := by omega
  simp only [h1, if_false]
  split
  · rw [show (- -1 : Int) = 1 by decide, Int.ediv_one]
    omega
  · omega
theorem fmap_some0 {α β : Type} {f : α → Option β} {g : α → β} : ∀ {l : List α}, (∀ m ∈ l, f m = some (g m)) → l.filterMap f = l.map g
  | [], _ => rfl
  | m :: l, h => by
    rw [List.filterMap_cons, h m List.mem_cons_self, List.map_cons]
    show g m :: List.filterMap f l = _
    rw [fmap_some0 fun z hz => h z (List.mem_cons_of_mem _ hz)]
theorem pick_rev0 (xs : Array Value) : ((List.range xs.size).filterMap fun (m : Nat) => xs[(((xs.size : Nat) : Int) - 1 + (m : Int) * -1).toNat]?).toArray = xs.toList.reverse.toArray := by
  congr 1
  apply List.ext_getElem?
  have e : (List.range xs.size).filterMap (fun (m : Nat) => xs[(((xs.size : Nat) : Int) - 1 + (m : Int) * -1).toNat]?) = (List.range xs.size).map fun m => xs.toList.reverse.getD m default := by
    refine fmap_some0 fun m hm => ?_
    have hm := List.mem_range.mp hm
    rw [show (((xs.size : Nat) : Int) - 1 + (m : Int) * -1).toNat = xs.size - 1 - m by omega]
    rw [List.getD_eq_getElem?_getD, List.getElem?_reverse (by rw [Array.length_toList]; exact hm), Array.length_toList, Array.getElem?_toList, Array.getElem?_eq_getElem (by omega)]
    rfl
  intro i
  rw [e, List.getElem?_map]
  by_cases c : i < xs.size
  · rw [List.getElem?_range c, List.getElem?_eq_getElem (by rw [List.length_reverse, Array.length_toList]; exact c)]
    show some (xs.toList.reverse.getD i default) = _
    rw [List.getD_eq_getElem?_getD, List.getElem?_eq_getElem (by rw [List.length_reverse, Array.length_toList]; exact c)]
    rfl
  · rw [List.getElem?_eq_none (by rw [List.length_range]; omega), List.getElem?_eq_none (by rw [List.length_reverse, Array.length_toList]; omega)]
    rfl
section
variable {prog : Program} {w : World} {A : Around} {E : Value → Shared → Prop} {s : Shared}
theorem sliceApplied_rev0 {sl : Addr} {vs : Value} {n : Nat} {Q : Int × Int × Nat → Shared → Prop} (hs : s.heap.IsSliceOf sl .none .none vs) (ps : IsPart vs (some (-1)))
    (h : Q ((n : Int) - 1, -1, n) s) : wpAny (model prog w) A (Builtin.Slice.sliceApplied (.ref sl) (pure (n : Int))) Q E s := by
  obtain ⟨os, hos, hcs, hds⟩ := id hs
  unfold Builtin.Slice.sliceApplied Builtin.Slice.sliceFields
  refine wpAny_bind (wpAny_bind (wpAny_field hos hds (x := .none) rfl (wpAny_bind (wpAny_field hos hds (x := .none) rfl (wpAny_bind (wpAny_field hos hds (x := vs) rfl (wpAny_pure ?_)))))))
  refine wpAny_bind (slicePart_ ps ?_)
  show wpAny _ _ (if ((-1 : Int) == 0) = true then _ else _) _ _ s
  rw [if_neg (by decide)]
  refine wpAny_bind (slicePart_ .none (wpAny_bind (slicePart_ .none (wpAny_bind (wpAny_pure ?_)))))
  show wpAny _ _ (match Builtin.Slice.sliceAdjust none none (-1) (n : Int) with | (lo, hi) => pure (lo, (-1 : Int), Builtin.Slice.slicePlaces lo hi (-1))) _ _ s
  rw [adjust_rev0 n]
  show wpAny _ _ (pure ((n : Int) - 1, (-1 : Int), Builtin.Slice.slicePlaces ((n : Int) - 1) (-1) (-1))) _ _ s
  rw [places_rev0 n]
  exact wpAny_pure h
theorem getItem_tuple_rev0 {t sl : Addr} {items : Array Value} {vs : Value} {Q : Value → Shared → Prop} (ht : IsTup s.heap t items) (hs : s.heap.IsSliceOf sl .none .none vs) (ps : IsPart vs (some (-1)))
    (h : Q (.ref s.heap.objs.size) { s with heap := s.heap.push { cls := .type "tuple", data := .seq items.toList.reverse.toArray } })
    (hsz : items.size ≤ sizeLine) : wpAny (model prog w) A (getItem (.ref t) (.ref sl)) Q E s := by
  have htake : sizeOk (.seq items.toList.reverse.toArray) := by
    show items.toList.reverse.toArray.size ≤ sizeLine
    rw [List.size_toArray, List.length_reverse, Array.length_toList]
    exact hsz
  obtain ⟨os, hos, hcs, hds⟩ := id hs
  have hTs : s.TypeIs (.ref sl) "slice" := ⟨os, hos, hcs⟩
  unfold getItem
  try with_reducible refine wpAny_holding ?_
  first | refine wpAny_bind (wpAny_pure ?_) | skip
  refine wpAny_bind (wpAny_sequenceKey ht.typeIs (by decide) ?_)
  refine wpAny_bind (wpAny_callSpecial?_slot (name := Str.ofString "__getitem__") ht.typeIs PyProof.Rows.slot_tuple_getitem
    (wpAny_call_entry PyProof.Rows.slot_tuple_getitem ht.typeIs entry_tuple_getitem ?_ (args_tuple_getitem _ _)))
  show wpAny _ _ (Builtin.Tuple.tupleItemsOf (.ref t) >>= _) _ _ s
  refine wpAny_bind (tupleItemsOf_ ht ?_)
  refine wpAny_bind (wpAny_typeOf hTs ?_)
  rw [if_pos (by decide)]
  refine wpAny_bind (sliceApplied_rev0 (n := items.size) hs ps ?_)
  have hno : ¬ (((((items.size : Nat) : Int) - 1) == 0 && (-1 : Int) == 1 && items.size == items.size) = true) := by
    intro q
    rw [Bool.and_eq_true, Bool.and_eq_true] at q
    exact absurd q.1.2 (by decide)
  show wpAny _ _ (if ((((items.size : Nat) : Int) - 1) == 0 && (-1 : Int) == 1 && items.size == items.size) = true then _ else _) _ _ s
  rw [if_neg hno, pick_rev0]
  first
    | exact wpAny_bind (m := Builtin.Tuple.tupleExact _) (wpAny_newObj_type (wpAny_pure ⟨_, rfl, wpAny_pure h⟩) htake)
    | exact wpAny_bind (m := Builtin.Tuple.tupleExact _) (wpAny_newObj_type (wpAny_bind (wpAny_pure (wpAny_pure ⟨_, rfl, wpAny_pure h⟩))) htake)
    | exact wpAny_bind (wpAny_bind (m := Builtin.Tuple.tupleExact _) (wpAny_newObj_type (wpAny_pure (wpAny_pure ⟨_, rfl, wpAny_pure h⟩)) htake))
    | exact wpAny_bind (wpAny_bind (m := Builtin.Tuple.tupleExact _) (wpAny_newObj_type (wpAny_pure ⟨_, rfl, wpAny_pure h⟩) htake))
end
variable {X : Cx}
def tRevT0 (K : PySem.W.Frag) (te : TE) : TE := fun σ H Q => te σ H fun x H1 => ∃ a xs, x = .ref a ∧ SqT K H1 a xs ∧ ∀ p, H1 p = none → Q (.ref p) (upd H1 p (.tup xs.reverse))
theorem pe_revT0 {e : Expr} {te : TE} {k : Nat} {p1 p2 p3 pos : Pos} (he : PE X e te) : PE X (.Subscript e (.Slice none none (some (.UnaryOp .USub (.Constant (.int 1) k p1) p2)) p3) pos) (tRevT0 X.K te) := by
  refine ⟨fun pins s σ H Q I h => ?_⟩
  refine Subscript_ (thn (he.run pins s σ H _ I h) fun v s1 ⟨x, H1, I1, r1, q1⟩ => ?_)
  obtain ⟨a, xs, ex, hx, q⟩ := q1
  subst ex
  cases r1
  have hst : PO X (some (.UnaryOp .USub (.Constant (.int 1) k p1) p2)) (tPart (tUn (rU fun i => .int (-i)) (tC (.int 1)))) := po_some (pe_un un_neg pe_int)
  refine wpAny_Slice (thn (po_none.run pins s1 σ H1 (fun o H2 => o = none ∧ H2 = H1) I1 ⟨rfl, rfl⟩) fun vl s2 ⟨l, H2, I2, pl, el, e2⟩ => ?_)
  subst el e2
  refine thn (po_none.run pins s2 σ H2 (fun o H3 => o = none ∧ H3 = H2) I2 ⟨rfl, rfl⟩) fun vu s3 ⟨u, H3, I3, pu, eu, e3⟩ => ?_
  subst eu e3
  refine thn (hst.run pins s3 σ H3 (fun o H4 => o = some (-1) ∧ H4 = H3) I3 ⟨1, rfl, -1, rfl, rfl, rfl⟩) fun vs s4 ⟨o, H4, I4, ps, eo, e4⟩ => ?_
  subst eo e4
  cases pl
  cases pu
  have I5 : Inv X pins σ H4 { s4 with heap := s4.heap.push { cls := .type "slice", data := .fields #[.none, .none, vs] } } := I4.kept (t' := s4.toks) fun b ob q => Heap.get?_push_of_some _ q
  obtain ⟨its, r, ht, hz⟩ := I5.tuple hx
  have hlen := r.length
  show wpAny (model X.prog X.w) X.A (subscriptTail e (.Slice none none (some (.UnaryOp .USub (.Constant (.int 1) k p1) p2)) p3) (.ref a) (.ref s4.heap.objs.size)) (EP X pins σ Q) X.xe { s4 with heap := s4.heap.push { cls := .type "slice", data := .fields #[.none, .none, vs] } }
  refine tail_any (ops := [.ref a, .ref s4.heap.objs.size]) ht.typeIs (PyProof.Rows.slot_tuple_getitem.lookup) ?_ (by with_unfolding_all rfl)
  refine getItem_tuple_rev0 ht (Heap.IsSliceOf.new _ .none .none vs) ps ?_ (by rw [List.size_toArray]; omega)
  refine ⟨.ref _, _, I5.laid (t' := s4.toks) (o := .tup xs.reverse) (fun b ob q => Heap.get?_push_of_some _ q) (Nat.le_refl _) ?_, rfl, q _ (I5.hok.fresh (Nat.le_refl _))⟩
  exact ⟨by rw [List.length_reverse]; exact hz, _, r.reverse, IsTup.new _ _⟩
end Nm
namespace Nm
open PySem PySem.Spec PyProof.Rows L2 NmD
/-! ### a thing of any kind: what stands at a value, whatever it is -/
mutual
inductive At (tp : Addr) (H : Hp) : V → PyData → Prop
  | non : At tp H .non .none
  | bl (b : Bool) : At tp H (.bl b) (.bool b)
  | int (i : Int) : At tp H (.int i) (.int i)
  | str (z : Str) (l : z.length ≤ 1000) : At tp H (.str z) (.str z)
  | tup {a : Addr} {xs : List V} {ds : List PyData} : H a = some (.tup xs) → AtAll tp H xs ds → At tp H (.ref a) (.tuple ds)
  | lst {a : Addr} {xs : List V} {ds : List PyData} : a ≠ tp → H a = some (.lst xs) → AtAll tp H xs ds → At tp H (.ref a) (.list ds)
  | dct {a : Addr} {kvs : List (Key × V)} : H a = some (.dK kvs) → At tp H (.ref a) (.dict [])
inductive AtAll (tp : Addr) (H : Hp) : List V → List PyData → Prop
  | nil : AtAll tp H [] []
  | cons {v : V} {vs : List V} {d : PyData} {ds : List PyData} : At tp H v d → AtAll tp H vs ds → AtAll tp H (v :: vs) (d :: ds)
end
mutual
theorem At.same {tp : Addr} {H H' : Hp} (g : Same H H') : ∀ (d : PyData) (v : V), At tp H v d → At tp H' v d
  | .none, _, h => by
    cases h
    exact .non
  | .bool b, _, h => by
    cases h
    exact .bl b
  | .int i, _, h => by
    cases h
    exact .int i
  | .str z, _, h => by
    cases h with
    | str _ l => exact .str z l
  | .tuple ds, _, h => by
    cases h with
    | tup h1 h2 => exact .tup (g _ _ h1) (AtAll.same g ds _ h2)
  | .list ds, _, h => by
    cases h with
    | lst n h1 h2 => exact .lst n (g _ _ h1) (AtAll.same g ds _ h2)
  | .dict ks, _, h => by
    cases h with
    | dct h1 => exact .dct (g _ _ h1)
theorem AtAll.same {tp : Addr} {H H' : Hp} (g : Same H H') : ∀ (ds : List PyData) (vs : List V), AtAll tp H vs ds → AtAll tp H' vs ds
  | [], _, h => by
    cases h
    exact .nil
  | d :: ds, _, h => by
    cases h with
    | cons h1 h2 => exact .cons (At.same g d _ h1) (AtAll.same g ds _ h2)
end
mutual
theorem At.mov {tp : Addr} {H H' : Hp} (g : Mov tp H H') (ok : ∀ xs, H tp ≠ some (.tup xs)) (ok2 : ∀ ks, H tp ≠ some (.dK ks)) : ∀ (d : PyData) (v : V), At tp H v d → At tp H' v d
  | .none, _, h => by
    cases h
    exact .non
  | .bool b, _, h => by
    cases h
    exact .bl b
  | .int i, _, h => by
    cases h
    exact .int i
  | .str z, _, h => by
    cases h with
    | str _ l => exact .str z l
  | .tuple ds, _, h => by
    cases h with
    | tup h1 h2 => exact .tup (g _ _ h1 fun e => ok _ (e ▸ h1)) (AtAll.mov g ok ok2 ds _ h2)
  | .list ds, _, h => by
    cases h with
    | lst n h1 h2 => exact .lst n (g _ _ h1 n) (AtAll.mov g ok ok2 ds _ h2)
  | .dict ks, _, h => by
    cases h with
    | dct h1 => exact .dct (g _ _ h1 fun e => ok2 _ (e ▸ h1))
theorem AtAll.mov {tp : Addr} {H H' : Hp} (g : Mov tp H H') (ok : ∀ xs, H tp ≠ some (.tup xs)) (ok2 : ∀ ks, H tp ≠ some (.dK ks)) : ∀ (ds : List PyData) (vs : List V), AtAll tp H vs ds → AtAll tp H' vs ds
  | [], _, h => by
    cases h
    exact .nil
  | d :: ds, _, h => by
    cases h with
    | cons h1 h2 => exact .cons (At.mov g ok ok2 d _ h1) (AtAll.mov g ok ok2 ds _ h2)
end
/-- a thing apart from the tape stays when the tape is turned on -/
theorem At.tape {tp l : Addr} {H H' : Hp} {d : PyData} {v : V} (h : At tp H v d) (t : TapeAt H tp l) (g : Mov tp H H') : At tp H' v d := by
  obtain ⟨ns, i, c, m, n, hT, _⟩ := t
  exact At.mov g (fun xs e => by rw [hT] at e; cases e) (fun ks e => by rw [hT] at e; cases e) d v h
theorem atAll_paired {tp : Addr} {H : Hp} : ∀ {vs : List V} {ds : List PyData}, AtAll tp H vs ds → Paired (At tp H) vs ds
  | [], _, h => by
    cases h
    exact .nil
  | v :: vs, _, h => by
    cases h with
    | cons h1 h2 => exact .cons h1 (atAll_paired h2)
theorem paired_atAll {tp : Addr} {H : Hp} : ∀ {vs : List V} {ds : List PyData}, Paired (At tp H) vs ds → AtAll tp H vs ds
  | _, _, .nil => .nil
  | _, _, .cons h t => .cons h (paired_atAll t)
theorem At.ty {K : PySem.W.Frag} {tp : Addr} {H : Hp} {v : V} {d : PyData} (h : At tp H v d) : TyX K H v (.type (tyD d)) := by
  cases h with
  | non => exact .base .non
  | bl b => exact .base (.bl b)
  | int i => exact .base (.int i)
  | str z _ => exact .base (.str z)
  | tup h _ => exact .base (.tup h)
  | lst _ h _ => exact .base (.lst h)
  | dct h => exact .base (.dK h)
/-- an int that is no flag -/
def intD : PyData → Bool
  | .int _ => true
  | _ => false
theorem At.tyi {K : PySem.W.Frag} {tp : Addr} {H : Hp} {v : V} {d : PyData} (h : At tp H v d) : TyI K H v := by
  cases h with
  | non => exact ⟨false, false, ⟨_, .base .non, kit_ty (by decide +kernel)⟩, ⟨_, .base .non, kit_ty (by decide +kernel)⟩, rfl⟩
  | bl b => exact ⟨true, true, ⟨_, .base (.bl b), kit_ty (by decide +kernel)⟩, ⟨_, .base (.bl b), kit_ty (by decide +kernel)⟩, rfl⟩
  | int i => exact tyi_int i
  | str z _ => exact tyi_str z
  | tup h _ => exact tyi_tup h
  | lst _ h _ => exact ⟨false, false, ⟨_, .base (.lst h), kit_ty (by decide +kernel)⟩, ⟨_, .base (.lst h), kit_ty (by decide +kernel)⟩, rfl⟩
  | dct h => exact ⟨false, false, ⟨_, .base (.dK h), kit_ty (by decide +kernel)⟩, ⟨_, .base (.dK h), kit_ty (by decide +kernel)⟩, rfl⟩
/-! ### the judgements -/
def letD (d : PyData) (most : Int) : Bool := match d with
  | .str z => letB z most
  | _ => false
def intIn (d : PyData) (lo hi : Int) : Bool := match d with
  | .int n => decide (lo ≤ n) && decide (n ≤ hi)
  | _ => false
def rowsD (d : PyData) (most : Int) : Bool := match d with
  | .tuple ds => decide ((ds.length : Int) ≤ most) && ds.all (fun e => letD e 20)
  | _ => false
def boardD (d : PyData) : Bool := match d with
  | .tuple [n, s, r] => letD n 8 && (intIn s 0 1 && rowsD r 20)
  | _ => false
theorem At.within {tp : Addr} {H : Hp} {v : V} {d : PyData} (h : At tp H v d) (lo hi : Int) : Nm.within v lo hi = intIn d lo hi := by
  cases h <;> rfl
theorem strOr {tp : Addr} {H : Hp} {v : V} {d : PyData} (h : At tp H v d) : (∃ z, v = .str z ∧ d = .str z ∧ z.length ≤ 1000) ∨ ((∀ K : PySem.W.Frag, PySem.W.kitOne K (.type (tyD d)) (.type "str") = some false) ∧ ∀ m, letD d m = false) := by
  cases h with
  | str z l => exact .inl ⟨z, rfl, rfl, l⟩
  | non => exact .inr ⟨fun K => kit_ty (a := "NoneType") (b := "str") (by decide +kernel), fun _ => rfl⟩
  | bl b => exact .inr ⟨fun K => kit_ty (a := "bool") (b := "str") (by decide +kernel), fun _ => rfl⟩
  | int i => exact .inr ⟨fun K => kit_ty (a := "int") (b := "str") (by decide +kernel), fun _ => rfl⟩
  | tup _ _ => exact .inr ⟨fun K => kit_ty (a := "tuple") (b := "str") (by decide +kernel), fun _ => rfl⟩
  | lst _ _ _ => exact .inr ⟨fun K => kit_ty (a := "list") (b := "str") (by decide +kernel), fun _ => rfl⟩
  | dct _ => exact .inr ⟨fun K => kit_ty (a := "dict") (b := "str") (by decide +kernel), fun _ => rfl⟩
theorem tupOr {tp : Addr} {H : Hp} {v : V} {d : PyData} (h : At tp H v d) : (∃ a xs ds, v = .ref a ∧ d = .tuple ds ∧ H a = some (.tup xs) ∧ Paired (At tp H) xs ds) ∨ ((∀ K : PySem.W.Frag, PySem.W.kitOne K (.type (tyD d)) (.type "tuple") = some false) ∧ ∀ ds, d ≠ .tuple ds) := by
  cases h with
  | tup h1 h2 => exact .inl ⟨_, _, _, rfl, rfl, h1, atAll_paired h2⟩
  | str z l => exact .inr ⟨fun K => kit_ty (a := "str") (b := "tuple") (by decide +kernel), fun _ e => nomatch e⟩
  | non => exact .inr ⟨fun K => kit_ty (a := "NoneType") (b := "tuple") (by decide +kernel), fun _ e => nomatch e⟩
  | bl b => exact .inr ⟨fun K => kit_ty (a := "bool") (b := "tuple") (by decide +kernel), fun _ e => nomatch e⟩
  | int i => exact .inr ⟨fun K => kit_ty (a := "int") (b := "tuple") (by decide +kernel), fun _ e => nomatch e⟩
  | lst _ _ _ => exact .inr ⟨fun K => kit_ty (a := "list") (b := "tuple") (by decide +kernel), fun _ e => nomatch e⟩
  | dct _ => exact .inr ⟨fun K => kit_ty (a := "dict") (b := "tuple") (by decide +kernel), fun _ e => nomatch e⟩
theorem rowsD_no {d : PyData} (h : ∀ ds, d ≠ .tuple ds) (m : Int) : rowsD d m = false := by
  cases d with
  | tuple ds => exact absurd rfl (h ds)
  | _ => rfl
theorem boardD_no {d : PyData} (h : ∀ ds, d ≠ .tuple ds) : boardD d = false := by
  cases d with
  | tuple ds => exact absurd rfl (h ds)
  | _ => rfl
theorem boardD_len {ds : List PyData} (h : ds.length ≠ 3) : boardD (.tuple ds) = false := by
  match ds, h with
  | [], _ => rfl
  | [_], _ => rfl
  | [_, _], _ => rfl
  | [_, _, _], h => exact absurd rfl h
  | _ :: _ :: _ :: _ :: _, _ => rfl
/-- how many things stand in it at most -/
def small (d : PyData) : Bool := match d with
  | .tuple ds => decide (ds.length ≤ 1000)
  | _ => true
/-! ### right boards, read off -/
def strOfT (d : PyData) : Str := match d with
  | .str z => z
  | _ => Str.empty
def intOf (d : PyData) : Int := match d with
  | .int i => i
  | _ => 0
def rowOfT (d : PyData) : List Str := match d with
  | .tuple ds => ds.map strOfT
  | _ => []
def bdOf (d : PyData) : Bd := match d with
  | .tuple [n, s, r] => (strOfT n, intOf s, rowOfT r)
  | _ => (Str.empty, 0, [])
def bdsOf (d : PyData) : List Bd := match d with
  | .tuple ds => ds.map bdOf
  | _ => []
theorem let_at {tp : Addr} {H : Hp} {v : V} {d : PyData} {m : Int} (h : At tp H v d) (l : letD d m = true) : v = .str (strOfT d) ∧ letB (strOfT d) m = true ∧ (strOfT d).length ≤ 1000 := by
  rcases strOr h with ⟨z, rfl, rfl, hz⟩ | ⟨_, no⟩
  · exact ⟨rfl, l, hz⟩
  · rw [no m] at l
    cases l
theorem row_at {tp : Addr} {H : Hp} : ∀ {xs : List V} {ds : List PyData}, Paired (At tp H) xs ds → ds.all (fun e => letD e 20) = true → xs = (ds.map strOfT).map V.str ∧ (ds.map strOfT).all (fun z => letB z 20) = true ∧ ∀ z ∈ ds.map strOfT, z.length ≤ 1000
  | _, _, .nil, _ => ⟨rfl, rfl, fun z hz => absurd hz (List.not_mem_nil)⟩
  | _, _, .cons (a := x) (b := d) h t, l => by
    rw [List.all_cons, Bool.and_eq_true] at l
    obtain ⟨e, l1, l2⟩ := let_at h l.1
    obtain ⟨e2, l3, l4⟩ := row_at t l.2
    refine ⟨by rw [List.map_cons, List.map_cons, ← e2, ← e], by rw [List.map_cons, List.all_cons, l1, l3]; rfl, fun z hz => ?_⟩
    rw [List.map_cons] at hz
    rcases List.mem_cons.mp hz with rfl | hz
    · exact l2
    · exact l4 z hz
theorem board_at {tp : Addr} {H : Hp} {v : V} {d : PyData} (h : At tp H v d) (b : boardD d = true) : BoardAt H v (bdOf d) ∧ okB (bdOf d) := by
  rcases tupOr h with ⟨a, xs, ds, rfl, rfl, ha, pr⟩ | ⟨_, no⟩
  rotate_left
  · rw [boardD_no no] at b
    cases b
  by_cases c : ds.length = 3
  rotate_left
  · rw [boardD_len c] at b
    cases b
  obtain ⟨d1, d2, d3, rfl⟩ : ∃ d1 d2 d3, ds = [d1, d2, d3] := by
    match ds, c with
    | [d1, d2, d3], _ => exact ⟨d1, d2, d3, rfl⟩
  cases pr with
  | @cons x1 _ _ _ h1 t1 =>
  cases t1 with
  | @cons x2 _ _ _ h2 t2 =>
  cases t2 with
  | @cons x3 _ _ _ h3 t3 =>
  cases t3 with
  | nil =>
    have b' : (letD d1 8 && (intIn d2 0 1 && rowsD d3 20)) = true := b
    rw [Bool.and_eq_true, Bool.and_eq_true] at b'
    obtain ⟨b1, b2, b3⟩ := b'
    obtain ⟨e1, n1, n2⟩ := let_at h1 b1
    have e2 : x2 = .int (intOf d2) := by
      cases h2 with
      | int i => rfl
      | _ => exact absurd b2 (by simp [intIn])
    rcases tupOr h3 with ⟨r, zs, ws, rfl, rfl, hr, pz⟩ | ⟨_, no⟩
    rotate_left
    · rw [rowsD_no no] at b3
      cases b3
    have b3' : (decide ((ws.length : Int) ≤ 20) && ws.all (fun e => letD e 20)) = true := b3
    rw [Bool.and_eq_true] at b3'
    have l20 := of_decide_eq_true b3'.1
    obtain ⟨e3, r1, r2⟩ := row_at pz b3'.2
    subst e1 e2 e3
    refine ⟨⟨a, r, rfl, ha, hr⟩, ?_, n2, by show (ws.map strOfT).length ≤ 1000; rw [List.length_map]; omega, r2⟩
    show (letB (strOfT d1) 8 && (Nm.within (.int (intOf d2)) 0 1 && rowB (ws.map strOfT) 20)) = true
    rw [n1, h2.within, b2]
    unfold rowB
    rw [r1, List.length_map, decide_eq_true (show ((ws.length : Nat) : Int) ≤ 20 by omega)]
    rfl
/-- the number of the first that is no board -/
def firstBad : List PyData → Nat → Option Int
  | [], _ => none
  | d :: ds, i => if boardD d = true then firstBad ds (i + 1) else some (i : Int)
def dueD (d : PyData) : Option Int := match d with
  | .tuple ds => if 1 ≤ ds.length ∧ ds.length ≤ 12 then firstBad ds 0 else some (-1)
  | _ => some (-1)
theorem dueD_no {d : PyData} (h : ∀ ds, d ≠ .tuple ds) : dueD d = some (-1) := by
  cases d with
  | tuple ds => exact absurd rfl (h ds)
  | _ => rfl
theorem firstBad_at : ∀ (ds : List PyData) (k i : Nat) (d : PyData), ds[i]? = some d → (∀ j e, j < i → ds[j]? = some e → boardD e = true) → boardD d = false → firstBad ds k = some (((k + i : Nat)) : Int)
  | [], _, _, _, h, _, _ => by simp at h
  | e :: ds, k, 0, d, h, _, b => by
    have e' : e = d := by simpa using h
    subst e'
    show (if boardD e = true then _ else some (k : Int)) = _
    rw [b, if_neg Bool.false_ne_true]
    rfl
  | e :: ds, k, i + 1, d, h, all, b => by
    show (if boardD e = true then firstBad ds (k + 1) else some (k : Int)) = _
    rw [all 0 e (Nat.succ_pos i) rfl, if_pos rfl, firstBad_at ds (k + 1) i d (by simpa using h) (fun j f hj hf => all (j + 1) f (Nat.succ_lt_succ hj) (by simpa using hf)) b]
    congr 1
    omega
theorem firstBad_none : ∀ (ds : List PyData) (k : Nat), (∀ e ∈ ds, boardD e = true) → firstBad ds k = none
  | [], _, _ => rfl
  | e :: ds, k, h => by
    show (if boardD e = true then firstBad ds (k + 1) else some (k : Int)) = _
    rw [h e List.mem_cons_self, if_pos rfl]
    exact firstBad_none ds (k + 1) fun f hf => h f (List.mem_cons_of_mem _ hf)
/-- right boards in a tuple -/
theorem boards_at {tp : Addr} {H : Hp} : ∀ {xs : List V} {ds : List PyData}, Paired (At tp H) xs ds → (∀ e ∈ ds, boardD e = true) → Paired (BoardAt H) xs (ds.map bdOf) ∧ ∀ b ∈ ds.map bdOf, okB b
  | _, _, .nil, _ => ⟨.nil, fun b hb => absurd hb (List.not_mem_nil)⟩
  | _, _, .cons h t, l => by
    obtain ⟨b1, b2⟩ := board_at h (l _ List.mem_cons_self)
    obtain ⟨r1, r2⟩ := boards_at t fun e he => l e (List.mem_cons_of_mem _ he)
    refine ⟨.cons b1 r1, fun b hb => ?_⟩
    rw [List.map_cons] at hb
    rcases List.mem_cons.mp hb with rfl | hb
    · exact b2
    · exact r2 b hb
/-- a hall whose boards stand at a -/
def HallIs (K : PySem.W.Frag) (H : Hp) (p a : Addr) (bs : List Bd) : Prop := ∃ C dx fs n ys, Cls K C ∧ NoAttr K C "boards" ∧ NoAttr K C "names" ∧ H p = some (.ins C dx fs) ∧ fs.lookup ("boards" : Str) = some (.ref a) ∧ fs.lookup ("names" : Str) = some (.ref n) ∧
  BoardsAt H a bs ∧ H n = some (.tup (ys.map V.str)) ∧ Names (bs.map (·.1)) ys
theorem HallIs.at {K : PySem.W.Frag} {H : Hp} {p a : Addr} {bs : List Bd} (h : HallIs K H p a bs) : HallAt K H p bs := by
  obtain ⟨C, dx, fs, n, ys, h1, h2, h3, h4, h5, h6, h7, h8, h9⟩ := h
  exact ⟨C, dx, fs, a, n, ys, h1, h2, h3, h4, h5, h6, h7, h8, h9⟩
end Nm
namespace Nm
open PySem PySem.Spec PyProof.Rows L2
/-- C(e, ..) where the making may raise, what is wished then told at the slots -/
def tMakeS (C : Addr) (sp : Sp) (E : L2.St → XK) (t : TA) : TE := fun σ H Q => t σ H fun vs H1 => ∀ x dx, H1 x = none → H1 dx = none → dx ≠ x → sp (.ref x :: vs) (upd (upd H1 dx (.own x)) x (.ins C dx [])) (fun v H2 => v = .non ∧ Q (.ref x) H2) (E σ)
section
variable {X : Cx} {CX : CXT} {k : Nat} {f C : Addr} {fd : FuncData} {ps : List Str} {sp : Sp} {E : L2.St → XK} {x : Str} {p pos : Pos} {e : Expr} {es : List Expr} {t : TA}
theorem made_out {pins : List (Addr × Obj)} {σ : L2.St} {H : Hp} {s : Shared} {Q : VK} {us : List Value} {vs : List V} (M : Mk X.K C f) (F : FnOk X.prog X.w X.K X.mg X.base CX k f fd ps sp) (hr : Room (k + 1) X.A) (hb : Binds X.K fd ps [])
    (hx : PassesAt CX X σ (E σ)) (I : Inv X pins σ H s) (r : Vals vs us) (h : ∀ y dx, H y = none → H dx = none → dx ≠ y → sp (.ref y :: vs) (upd (upd H dx (.own y)) y (.ins C dx [])) (fun v H2 => v = .non ∧ Q (.ref y) H2) (E σ)) :
    wpAny (model X.prog X.w) X.A (call (.ref C) us) (EP X pins σ Q) X.xe s := by
  have n0 := I.hok.fresh (Nat.le_refl s.heap.objs.size)
  have n1 := I.hok.fresh (Nat.le_succ s.heap.objs.size)
  have ask := h (s.heap.objs.size + 1) s.heap.objs.size n1 n0 (Nat.ne_of_lt (Nat.lt_succ_self _))
  have J := Inv.made (C := C) I
  have rr : Vals (V.ref (s.heap.objs.size + 1) :: vs) (Value.ref (s.heap.objs.size + 1) :: us) := .cons rfl r
  have ll : (Value.ref (s.heap.objs.size + 1) :: us).length = ps.length := (rr.length).symm.trans (F.len _ _ _ _ ask)
  have bb := hb _ (Value.ref (s.heap.objs.size + 1) :: us) J.kIn (by rw [List.append_nil]; exact ll)
  rw [List.append_nil] at bb
  have run := F.run _ X.stack _ _ ⟨Value.ref (s.heap.objs.size + 1) :: us, []⟩ (Value.ref (s.heap.objs.size + 1) :: us) _ _ (E σ) (hr.make C us []) (J.env0.make C us []) bb rr ask
  refine wpAny_call (make_map (f := f) I.kIn M.makes M.init (beq_iff_eq.mp M.fn) (codeAny_mono run fun res s' hq => ?_))
  match res, hq with
  | .error er, hq => exact hx pins _ _ er s' J hq
  | .ok (.ret u), hq =>
    obtain ⟨v, H', J', rv, ev, q3⟩ := J.after hq
    subst ev
    exact ⟨rv, V.ref (s.heap.objs.size + 1), H', J', rfl, q3⟩
theorem pe_makeS (M : Mk X.K C f) (F : FnOk X.prog X.w X.K X.mg X.base CX k f fd ps sp) (hr : Room (k + 1) X.A) (hg : Gl X x) (hm : X.mg x = some (.ref C)) (hb : Binds X.K fd ps []) (hx : ∀ σ, PassesAt CX X σ (E σ))
    (ha : PA X (e :: es) t) (hdb : (x == ("__debug__" : Str)) = false := by decide) (he : starEach (e :: es) X.env = (false, eval e X.env) :: starEach es X.env := by rfl) (hpl : (backTo pos (starEach es X.env)).any (·.1) = false := by rfl) :
    PE X (.Call (.Name x p) (e :: es) [] pos) (tMakeS C sp E t) :=
  ⟨fun pins s σ H Q I h => wpAny_Call_Name_kw (ld_glob I hg hm (PySem.W.callWith_K (h₀ := X.base) I.ok.mod.kin M.kp
    (thn (ha.run pos pins s σ H _ I h) fun us s1 ⟨vs, H1, I1, r, q⟩ => ⟨I1.kIn, made_out M F hr hb (hx σ) I1 r q⟩) he hpl) hdb)⟩
end
/-- the making of an error with one field -/
def sp_one (K : PySem.W.Frag) (C : Addr) (f : Str) : Sp := fun vs H Q _ => ∃ (a : Addr) (v : V), vs = [.ref a, v] ∧ H a = some (exo a C none) ∧ ∀ dx, H dx = none → dx ≠ a → Q .non (upd (upd H dx (exd dx [(f, v)])) a (exo a C (some dx)))
/-- what the top says of an error class with one field -/
structure One (K : PySem.W.Frag) (mg : Str → Option Value) (x q f : Str) (st : Stmt) (C fi : Addr) (fd : FuncData) : Prop where
  hm : mg x = some (.ref C)
  ox : OexC K C
  iC : PySem.W.findIn K (.ref C) "__init__" = some (some (.ref fi))
  tI : PySem.W.typeIn K (.ref fi) = some (.type "function")
  no : PySem.W.findIn K (.ref C) f = some none
  xf : XfC K C
  ex : PySem.W.exmOne K (.ref C) (.ref C) = some true
  fn : Fun K "__init__" q st fi fd
/-- behind the making and the letting go: all that stood stands, the field is there -/
theorem flown {H : Hp} {e dx C : Addr} {f : Str} {v : V} (he : H e = none) (hd : upd H e (exo e C none) dx = none) (ne : dx ≠ e) :
    Same H (upd (del (upd (upd (upd H e (exo e C none)) dx (exd dx [(f, v)])) e (exo e C (some dx))) e) dx (.xd [(f, v)])) := fun b o hb => by
  have be : b ≠ e := ne_of_none hb he
  have hd' : H dx = none := by
    rw [upd_ne ne] at hd
    exact hd
  have bd : b ≠ dx := ne_of_none hb hd'
  rw [upd_ne bd, del_ne be, upd_ne be, upd_ne bd, upd_ne be]
  exact hb
end Nm
namespace Nm
open PySem PySem.Spec PyProof.Rows L2
/-- t * 0 is () -/
theorem tuple_mul0 (l : Addr) (items : Array Value) (n : Nat) (dd : Option Addr) (sl : Array (Option Value)) (u : Tok) (hne : items.isEmpty = false) :
    Meets (Builtin.«tuple.__mul__» ⟨[.ref l, .int 0 u], []⟩) (fun _ R s => s.heap.get? l = some { cls := .type "tuple", dict := dd, data := .seq items n, slots := sl } ∧ ∀ tk, R (.ok (.ret (Value.ref s.heap.objs.size))) { s with heap := s.heap.push { cls := .type "tuple", data := .seq #[] }, toks := tk }) :=
  .of_wp fun prog w A R s h => by
    obtain ⟨hp, g, d, tk, os⟩ := s
    obtain ⟨hl, h⟩ := h
    have f1 := AutoSeq1.idx_int
    have c0 : (decide ((0 : Int) < -(2 ^ 63)) || decide ((0 : Int) ≥ 2 ^ 63)) = false := by decide
    have c1 : (items.isEmpty || (0 : Int) == 1) = false := by rw [hne]; rfl
    have c2 : (decide ((0 : Int) ≤ 0) || items.isEmpty) = true := by rw [hne]; rfl
    wp_walk using wpAny_loadPart' hl
    exact ⟨_, rfl, h _⟩
def rRep0 (K : PySem.W.Frag) : R2 := fun x y H Q => ∃ l xs, x = .ref l ∧ y = .int 0 ∧ SqT K H l xs ∧ xs ≠ [] ∧ ∀ p, H p = none → Q (.ref p) (upd H p (.tup []))
def rMulS : R2 := fun x y H Q => ∃ (z : Str) (k : Int), x = .str z ∧ y = .int k ∧ 2 ≤ k ∧ k ≤ 1000 ∧ 1 ≤ z.length ∧ z.length ≤ 1000 ∧ (⟨(List.replicate k.toNat z.cps).foldl (· ++ ·) #[]⟩ : Str).length ≤ 1000000 ∧ Q (.str ⟨(List.replicate k.toNat z.cps).foldl (· ++ ·) #[]⟩) H
section
variable {X : Cx}
theorem op_rep0 : OpR X (binaryOp .Mult) (rRep0 X.K) := by
  intro pins s σ H x y v u Q I rx ry h
  obtain ⟨l, xs, rfl, rfl, hT, hne, q⟩ := h
  cases rx
  obtain ⟨t, rfl⟩ := ry
  obtain ⟨its, r, ⟨⟨cls, dd, data, sl⟩, ho, hc, n, hd⟩, hs⟩ := I.tuple hT
  simp only at hc hd
  subst hc hd
  have ne : its.toArray.isEmpty = false := by
    cases its with
    | nil =>
      cases r
      exact absurd rfl hne
    | cons a b => rfl
  refine wpAny_binaryOp_repeat_ref (T := "tuple") (U := "int") (by decide) ⟨_, ho, rfl⟩ (fun s' => typeIs_int s' 0 t) noFill_tuple_mul F.fills_int_mul F.slot_int_rmul repeat_tuple F.slot_int_index.lookup
    (call_meets F.slot_int_rmul (typeIs_int s 0 t) F.entry_int_rmul (F.args_int_rmul_2 _ _) (int_rmul_tuple 0 t l its.toArray n dd sl)
      ⟨ho, rfl, ⟨_, ho, rfl⟩, call_meets F.slot_tuple_mul ⟨_, ho, rfl⟩ F.entry_tuple_mul (F.args_tuple_mul_2 _ _) (tuple_mul0 l its.toArray n dd sl t ne) ⟨ho, fun tk => ?_⟩⟩)
  refine ⟨.ref s.heap.objs.size, upd H s.heap.objs.size (.tup []), ?_, rfl, q _ (I.hok.fresh (Nat.le_refl _))⟩
  exact I.laid (t' := tk) (o := .tup []) (fun b ob q => Heap.get?_push_of_some _ q) (Nat.le_refl _) ⟨Nat.zero_le _, [], .nil, IsTup.new _ _⟩
theorem op_mulS : OpR X (binaryOp .Mult) rMulS := by
  intro pins s σ H x y v u Q I rx ry h
  obtain ⟨z, k, rfl, rfl, k1, k2, z1, z2, lz, q⟩ := h
  obtain ⟨t, rfl⟩ := rx
  obtain ⟨t2, rfl⟩ := ry
  have ne : ¬ k < 1 := by omega
  have c : (k == 1 || z.length == 0) = false := by
    rw [Bool.or_eq_false_iff]
    exact ⟨beq_eq_false_iff_ne.mpr (by omega), beq_eq_false_iff_ne.mpr (by omega)⟩
  refine P.mul_str ?_ (fun _ _ => ?_) (fun _ _ => ?_) ?_
  · rw [decide_eq_false (show ¬ (k < -(2 ^ 63 : Int)) by omega), decide_eq_false (show ¬ (k ≥ 2 ^ 63) by omega)]
    rfl
  · have h1 : (2 ^ 63 - 1 : Int) / k ≥ 1000 := (Int.le_ediv_iff_mul_le (by omega)).mpr (by omega)
    omega
  · have h1 : z.length * k.toNat ≤ 1000 * 1000 := Nat.mul_le_mul z2 (by omega)
    unfold Builtin.Str.tooLong
    first
      | exact decide_eq_false (by rw [sizeLine_eq]; omega)
      | (simp only [decide_eq_false_iff_not]; rw [sizeLine_eq]; omega)
      | (simp [sizeLine_eq]; omega)
  · rw [if_neg ne, c, if_neg Bool.false_ne_true]
    exact ⟨by rw [sizeLine_eq]; omega, .str _, H, I.tok _, ⟨_, rfl⟩, q⟩
end
end Nm
namespace Nm
open PySem PySem.Spec PyProof.Rows L2
/-! ### an error of its own class that keeps nothing: C(), by an __init__ that is a def -/
section
variable {X : Cx} {pins : List (Addr × Obj)} {σ : L2.St}
theorem bare_end {H1 H2 : Hp} {Q : XK} {hp hp2 h2 : Heap} {g1 g2 : Array GenState} {d1 d2 : Drawn} {t1 t2 : Nat} {os1 os2 : OsState} {a C : Addr} (T : Raises X (.ref C)) (I1 : Inv X pins σ H1 ⟨hp, g1, d1, t1, os1⟩)
    (new : hp.objs.size ≤ a) (kp : ∀ b o, hp.get? b = some o → hp2.get? b = some o) (un : Un (frs X.stack) [] (upd H1 a (exo a C none)) H2 hp2 h2) (hok : HOk X.prog X.w H2 h2) (ho : os2 = os1) (hb : AllBare g2)
    (ea : H2 a = some (exo a C none)) (q : Q (.ref C) none (del H2 a)) : MkP X pins σ Q (.ref a) ⟨h2, g2, d2, t2, os2⟩ := by
  obtain ⟨t0, hoe⟩ := exo_at hok ea
  have hn : H1 a = none := I1.hok.fresh new
  obtain ⟨G, in1, out1⟩ := restrict h2 fun b => decide (b ≠ a)
  have same : ∀ b, b ≠ a → G.get? b = h2.get? b := fun b z => in1 b (decide_eq_true z)
  have gone : G.get? a = none := out1 a (by simp)
  have old : ∀ {b : Addr} {o : Obj}, hp.get? b = some o → b ≠ a := fun {b o} z => Nat.ne_of_lt (Nat.lt_of_lt_of_le (Heap.lt_size z) new)
  have still : ∀ {b : Addr}, b ≠ a → H1 b = none → upd H1 a (exo a C none) b = none := fun {b} z n => (upd_ne z).trans n
  have U : Un (frs X.stack) [] H1 (del H2 a) hp G := {
    keep := fun b o z n hf hx => (same b (old z)).trans (un.keep b o (kp b o z) (still (old z) n) hf hx)
    slot := fun b o z n hf hx => by
      obtain w := un.slot b o (kp b o z) (still (old z) n) hf hx
      rw [same b (old z)]
      exact w
    free := fun b o z n hx => (del_ne (old z)).trans (un.free b o (kp b o z) (still (old z) n) hx)
    there := fun b o z hx => by
      have w := un.there b o (kp b o z) hx
      rw [same b (old z)]
      exact w
    tups := fun b xs z => (del_ne (ne_of_none z hn)).trans (un.tups b xs ((upd_ne (ne_of_none z hn)).trans z))
    frzs := fun b o v z => (del_ne (ne_of_none z hn)).trans (un.frzs b o v ((upd_ne (ne_of_none z hn)).trans z))
    tbls := fun b us z => by
      obtain ⟨more, w⟩ := un.tbls b us ((upd_ne (ne_of_none z hn)).trans z)
      exact ⟨more, (del_ne (ne_of_none z hn)).trans w⟩ }
  have hok3 : HOk X.prog X.w (del H2 a) G := fun b o z => by
    have hba : b ≠ a := fun e => by
      rw [e, del_same] at z
      cases z
    rw [del_ne hba] at z
    have apart : ∀ {c : Addr}, H2 c = some (.own b) → c ≠ a := fun {c} hc => at_ne ea hc exo_own
    exact (hok b o z).stay (fun c v hc y => (same c (hc.elim (fun e => e ▸ hba) apart)).trans y)
      (fun c hc => (del_ne (apart hc)).trans hc) (fun c xs hc => (del_ne (at_ne ea hc exo_tup)).trans hc)
  have J : Inv X pins σ (del H2 a) ⟨G, g2, d2, t2, os2⟩ := I1.call' (ch := []) ho U hok3 hb (fun b z => absurd z (by simp))
  refine ⟨a, _, _, ⟨G, g2, d2, t2, os2⟩, _, .ref C, none, rfl, J, fun b o z => ?_, gone, hoe, ⟨rfl, rfl⟩, rfl, rfl, del_same, rfl, hb, T, q⟩
  by_cases hba : b = a
  · rw [hba, gone] at z
    cases z
  · exact (same b hba).symm.trans z
/-- C(), C's own __init__ keeping sp -/
def tMkB (C : Addr) (sp : Sp) : L2.St → Hp → XK → Prop := fun _ H Q => ∀ a, H a = none → sp [.ref a] (upd H a (exo a C none)) (fun v H2 => v = .non ∧ H2 a = some (exo a C none) ∧ Q (.ref C) none (del H2 a)) (fun _ _ _ => False)
theorem pmk_bare {CX : CXT} {x : Str} {p pos : Pos} {C fI : Addr} {k : Nat} {fd : FuncData} {ps : List Str} {sp : Sp} (T : OexC X.K C) (iC : PySem.W.findIn X.K (.ref C) "__init__" = some (some (.ref fI))) (tI : PySem.W.typeIn X.K (.ref fI) = some (.type "function"))
    (F1 : FnOk X.prog X.w X.K X.mg X.base CX k fI fd ps sp) (hr : Room (k + 1) X.A) (hb : Binds X.K fd ps []) (hx : Passes CX X (fun _ _ _ => False)) (hg : Gl X x) (hm : X.mg x = some (.ref C)) (hdb : (x == ("__debug__" : Str)) = false := by decide) :
    PMk X (.Call (.Name x p) [] [] pos) (tMkB C sp) := by
  intro pins s σ H Q I h
  obtain ⟨nm, qn, N, bs, bm, sn, sub, ab, col, dd, k0, k1, k2, k3, k5, hC, hbm⟩ := T.cls
  refine wpAny_Call_Name_kw (ld_glob I hg hm ?_ hdb)
  refine PySem.W.callWith_K0 I.kIn T.kC ?_
  show wpAny _ _ (call (.ref C) []) _ _ _
  obtain ⟨hp, g, dr, tk, os⟩ := s
  have up1 : hp.objs.size ≤ hp.objs.size + 1 := Nat.le_succ _
  have hn : H (hp.objs.size + 1) = none := I.hok.fresh up1
  have hq := h (hp.objs.size + 1) hn
  have kk : ∀ b o, hp.get? b = some o → ((hp.push (PySem.W.kdv_tup [])).push (PySem.HandSPX.excO C hp.objs.size)).get? b = some o := fun b o z => Heap.get?_push_of_some _ (Heap.get?_push_of_some _ z)
  have made : ((hp.push (PySem.W.kdv_tup [])).push (PySem.HandSPX.excO C hp.objs.size)).get? (hp.objs.size + 1) = some (PySem.HandSPX.excO C hp.objs.size) := by heap_get
  have I2 : Inv X pins σ (upd H (hp.objs.size + 1) (exo (hp.objs.size + 1) C none)) ⟨(hp.push (PySem.W.kdv_tup [])).push (PySem.HandSPX.excO C hp.objs.size), g, dr, tk, os⟩ :=
    I.laid (t' := tk) (a := hp.objs.size + 1) (o := exo (hp.objs.size + 1) C none) kk up1 (exo_ok made)
  have r2 : Vals [V.ref (hp.objs.size + 1)] [Value.ref (hp.objs.size + 1)] := .cons rfl .nil
  have hl : ([Value.ref (hp.objs.size + 1)] : List Value).length = ps.length := by
    have z := r2.length
    rw [F1.len _ _ _ _ hq] at z
    exact z.symm
  refine wpAny_call (PySem.HandSPX.call_own F.excBase_ValueError (fun Y => PySem.HandSPX.refsVE_contains Y bm hbm) (I.kIn _ _ hC) (PySem.W.looks_findIn I.kIn iC) (fun self => PySem.W.bind_fn I.kIn self tI) (Nat.zero_le _)
    (codeAny_mono (F1.run _ X.stack _ _ ⟨[Value.ref (hp.objs.size + 1)], []⟩ [Value.ref (hp.objs.size + 1)] _ _ (fun _ _ _ => False) (hr.make C [] []) (I2.env0.make C [] []) (hb _ [Value.ref (hp.objs.size + 1)] I2.kIn hl) r2 hq) fun r s' hq' => ?_))
  match r, hq' with
  | .error er, hq' => exact hx pins σ _ _ er s' I2 hq'
  | .ok (.ret u), hq' =>
    obtain ⟨v, H2, os2, bare2, un2, hok2, rv, ev, ea, q2⟩ := hq'
    subst ev
    obtain ⟨h2, g2, d2, t2, os'⟩ := s'
    exact ⟨rv, bare_end (raises_own T.exC T.tyC) I up1 kk un2 hok2 os2 bare2 ea q2⟩
end
/-- the making of an error that keeps nothing -/
def sp_bare (K : PySem.W.Frag) : Sp := fun vs H Q _ => ∃ (a C : Addr), vs = [.ref a] ∧ OexC K C ∧ H a = some (exo a C none) ∧ Q .non H
/-- what the top says of such a class; fi the def that makes it -/
structure Bare (K : PySem.W.Frag) (mg : Str → Option Value) (x : Str) (C fi : Addr) : Prop where
  hm : mg x = some (.ref C)
  ox : OexC K C
  iC : PySem.W.findIn K (.ref C) "__init__" = some (some (.ref fi))
  tI : PySem.W.typeIn K (.ref fi) = some (.type "function")
theorem bare_sp {K : PySem.W.Frag} {H : Hp} {C a : Addr} {Q : XK} (ox : OexC K C) (q : ∀ H', Same H H' → Q (.ref C) none H') (hn : H a = none) :
    sp_bare K [.ref a] (upd H a (exo a C none)) (fun v H2 => v = .non ∧ H2 a = some (exo a C none) ∧ Q (.ref C) none (del H2 a)) (fun _ _ _ => False) :=
  ⟨a, C, rfl, ox, upd_same, rfl, upd_same, q _ fun b o hb => by
    have ne := ne_of_none hb hn
    rw [del_ne ne, upd_ne ne]
    exact hb⟩
end Nm
/-! == and != of an instance with the text's own __eq__, with either answer -/
namespace Nm
open PySem PySem.Spec PyProof.Rows L2 PySem.W
section
variable {prog : Program} {w : World} {A : Around} {E : Value → Shared → Prop} {s : Shared} {K : Frag} {x C L f : Addr} {h₀ : Heap} {m : Str → Option Value} {ox : Obj} {od : Option Obj} {b tb : Value}
theorem ifBound_B {M : Model} {name : Str} {id : String} {args : List Value} {Q : Option Value → Shared → Prop} (X : K.In s.heap) (I : InstAt s.heap x ox C od) (hs : findIn K (.ref C) name = some (some (.builtin id)))
    (hb : bindSpecial (.builtin id) (.ref x) = pure (.builtin id, [.ref x]))
    (h : wpAny M A (call (.builtin id) (.ref x :: args)) (fun v => Q (some v)) E s) : wpAny M A (callSpecialIfBound? (.ref x) name args) Q E s := by
  simp only [callSpecialIfBound?, bindSpecialIfBound?]
  refine wpAny_holding (wpAny_bind (wpAny_bind (wpAny_bind (I.type.here ((looks_findIn X hs).here ?_)))))
  refine wpAny_bind (wpAny_askSetting (wpAny_ite ?_))
  have fin : wpAny M A (call (.builtin id) ([.ref x] ++ args) >>= fun v => pure (some v)) Q E s := wpAny_bind (wpAny_mono h (fun v s' h' => wpAny_pure h') fun _ _ h' => h')
  split
  · rw [hb]
    exact wpAny_bind (wpAny_pure (wpAny_pure (by exact fin)))
  · rw [hb]
    exact wpAny_tryCatch (wpAny_bind (wpAny_pure (wpAny_pure (by exact fin))))
theorem ne_K {Q : Value → Shared → Prop} (hu : A.units + 1 < cLine) (Fm : Fr h₀ L s.heap m) (X₀ : K.In h₀) (I : InstAt s.heap x ox C od) (hb : Looks (model prog w) s.heap (typeOf b) tb) (hn : notFirst K C tb = true)
    (hs : findIn K (.ref C) "__eq__" = some (some (.ref f))) (hf : isFn K (.ref f) = true) (hne : findIn K (.ref C) "__ne__" = some (some (.builtin "object.__ne__"))) (hob : subIn K (.ref C) (.type "object") = some true)
    (h : wpAny (model prog w) A.in1 (call (.ref f) [.ref x, b]) (fun v s' => ∃ r, v = .bool r ∧ Q (.bool (!r)) s') E s) : wpAny (model prog w) A (richCompare .NotEq (.ref x) b) Q E s := by
  have X := X₀.keeps Fm.keep
  have one : wpAny (model prog w) A (tryCompare (.ref x) "__ne__" b) (fun r s' => ∃ v, r = some v ∧ Q v s') E s := by
    unfold tryCompare
    refine wpAny_bind (ifBound_B X I hne (PySem.F.cmp_object.ne.bind (.ref x)) ?_)
    refine wpAny_call (codeAny_call_builtin PySem.F.cmp_object.ne.plain PySem.F.cmpEntry_ne ?_)
    refine check_slot PySem.F.cmpKind_ne PySem.F.cmpSplit_ne (I.type.andThen (looks_subIn X hob)) (PySem.F.cmpArgs_ne _ _) ?_
    unfold Builtin.«object.__ne__»
    refine wpAny_bind (m := slotArgs "__ne__" 1 _) (wpAny_pure ?_)
    refine wpAny_bind (wpAny_cRoomFor (by first | exact hu | simpa using hu | (show A.units + 1 < cLine; exact hu)) ?_)
    refine wpAny_bind (ifBound_K X I hs hf (wpAny_mono h (fun v s' hv => ?_) fun _ _ e => e))
    obtain ⟨r, rfl, q⟩ := hv
    refine wpAny_bind (wpAny_truthy_bool ?_)
    exact wpAny_pure (wpAny_pure ⟨_, rfl, q⟩)
  unfold richCompare
  simp only [oneThing_ref]
  refine wpAny_holding (wpAny_bind (wpAny_cRoomFor (Nat.lt_of_succ_lt hu) ?_))
  refine wpAny_bind (I.type.here (wpAny_bind (hb.here ?_)))
  split
  · rename_i q
    have e : subIn K tb (.ref C) = some false := by
      rcases Bool.or_eq_true_iff.mp hn with e | e
      · rw [beq_iff_eq.mp e] at q; simp at q
      · exact beq_iff_eq.mp e
    refine wpAny_bind ((looks_subIn X e).here ?_)
    simp only [Bool.false_eq_true, if_false]
    refine wpAny_bind (wpAny_mono one (fun r s' z => ?_) fun _ _ e => e)
    obtain ⟨v, rfl, hq⟩ := z
    exact wpAny_pure hq
  · refine wpAny_bind (wpAny_pure ?_)
    simp only [Bool.false_eq_true, if_false]
    refine wpAny_bind (wpAny_mono one (fun r s' z => ?_) fun _ _ e => e)
    obtain ⟨v, rfl, hq⟩ := z
    exact wpAny_pure hq
end
/-- what an own == promises: of the instance and the other thing, a flag, and nothing changes but that there are new things -/
abbrev EqSp := V → V → Hp → Bool → Prop
def spOwn (R : EqSp) : Sp := fun vs H Q _ => ∃ a y b, vs = [.ref a, y] ∧ R (.ref a) y H b ∧ ∀ H', Same H H' → Q (.bl b) H'
/-- what the text says of the class -/
structure OwnC (K : Frag) (C f : Addr) (fd : FuncData) (ps : List Str) : Prop where
  eq : findIn K (.ref C) "__eq__" = some (some (.ref f))
  fn : isFn K (.ref f) = true
  ne : findIn K (.ref C) "__ne__" = some (some (.builtin "object.__ne__"))
  ob : subIn K (.ref C) (.type "object") = some true
  bd : Binds K fd ps []
section
variable {X : Cx} {n : Nat} {C f : Addr} {fd : FuncData} {ps : List Str} {R : EqSp}
def rOwn (K : Frag) (C : Addr) (R : EqSp) (ne : Bool) : R2 := fun x y H Q => ∃ a dx fs t b, x = .ref a ∧ H a = some (.ins C dx fs) ∧ TyX K H y t ∧ notFirst K C t = true ∧ R (.ref a) y H b ∧ ∀ H', Same H H' → Q (.bl (xor ne b)) H'
theorem own_call {pins : List (Addr × Obj)} {σ : L2.St} {H : Hp} {s : Shared} {A : Around} {a : Addr} {y : V} {v : Value} {b : Bool} (F : FnOk X.prog X.w X.K X.mg X.base CX0 n f fd ps (spOwn R)) (O : OwnC X.K C f fd ps) (hr : Room n A) (fr : A.frames = X.A.frames) (I : Inv X pins σ H s) (ry : RelV y v) (hR : R (.ref a) y H b) :
    wpAny (model X.prog X.w) A (call (.ref f) [.ref a, v]) (fun r s' => r = .bool b ∧ ∃ H', Inv X pins σ H' s' ∧ Same H H') X.xe s := by
  have hsp : spOwn R [.ref a, y] H (fun v H' => v = .bl b ∧ Same H H') (fun _ _ _ => False) := ⟨a, y, b, rfl, hR, fun H' e => ⟨rfl, e⟩⟩
  have e0 : Env0 X.prog X.w X.K X.mg X.base A X.stack s H := by
    have e := I.env0
    exact ⟨by rw [fr]; exact e.frames, e.mod, e.bs, e.bsz, e.funs, e.frf, e.hok, e.bare⟩
  have hl := F.len _ _ _ _ hsp
  have r2 : Vals [V.ref a, y] [Value.ref a, v] := .cons rfl (.cons ry .nil)
  refine wpAny_call (codeAny_mono (F.run A X.stack s H ⟨[.ref a, v], []⟩ [.ref a, v] [.ref a, y] _ _ hr e0 (by
    have := O.bd s [.ref a, v] I.kIn (by simpa using hl)
    simpa using this) r2 hsp) fun r s' hq => ?_)
  cases r with
  | error e => exact pass0 pins σ H s e s' I hq
  | ok fl =>
    cases fl with
    | ret w =>
      obtain ⟨z, H', I', rz, ez, ex⟩ := I.after hq
      subst ez
      cases rz
      exact ⟨rfl, H', I', ex⟩
    | next => exact False.elim hq
    | brk => exact False.elim hq
    | cont => exact False.elim hq
theorem op_own (F : FnOk X.prog X.w X.K X.mg X.base CX0 n f fd ps (spOwn R)) (O : OwnC X.K C f fd ps) (hr : Room n X.A) : OpR X (compareOp .Eq) (rOwn X.K C R false) := by
  intro pins s σ H x y v u Q I rx ry hq
  obtain ⟨a, dx, fs, t, b, rfl, ha, ty, nf, hR, q⟩ := hq
  cases rx
  obtain ⟨P, Z, p, _⟩ := kit_of I ry ty
  obtain ⟨mA, J, _⟩ := ins_get I.hok ha
  obtain ⟨od, J, _⟩ := J.look
  obtain ⟨m, hF⟩ := I.fr
  show wpAny (model X.prog X.w) X.A (richCompare .Eq (.ref a) u) (EP X pins σ Q) X.xe s
  refine cmp_K (op := .Eq) hr.units0 hF I.ok.mod.kin J (Z.ty _ _ I.kIn p) nf O.eq O.fn ?_
  refine wpAny_mono (own_call F O hr rfl I ry hR) (fun r s' z => ?_) fun _ _ x => x
  obtain ⟨rfl, H', I', g⟩ := z
  exact ⟨.bl b, H', I', rfl, by have := q H' g; rwa [Bool.false_xor] at this⟩
theorem op_ownNe (F : FnOk X.prog X.w X.K X.mg X.base CX0 n f fd ps (spOwn R)) (O : OwnC X.K C f fd ps) (hr : Room (n + 1) X.A) : OpR X (compareOp .NotEq) (rOwn X.K C R true) := by
  intro pins s σ H x y v u Q I rx ry hq
  obtain ⟨a, dx, fs, t, b, rfl, ha, ty, nf, hR, q⟩ := hq
  cases rx
  obtain ⟨P, Z, p, _⟩ := kit_of I ry ty
  obtain ⟨mA, J, _⟩ := ins_get I.hok ha
  obtain ⟨od, J, _⟩ := J.look
  obtain ⟨m, hF⟩ := I.fr
  show wpAny (model X.prog X.w) X.A (richCompare .NotEq (.ref a) u) (EP X pins σ Q) X.xe s
  refine ne_K (by have := hr.units0; have := hr.in1.units0; first | exact this | omega) hF I.ok.mod.kin J (Z.ty _ _ I.kIn p) nf O.eq O.fn O.ne O.ob ?_
  refine wpAny_mono (own_call (A := X.A.in1) F O hr.in1 rfl I ry hR) (fun r s' z => ?_) fun _ _ x => x
  obtain ⟨rfl, H', I', g⟩ := z
  exact ⟨b, rfl, .bl (!b), H', I', rfl, by have := q H' g; rwa [Bool.true_xor] at this⟩
end
end Nm
namespace Nm
open PySem PySem.Spec PyProof.Rows L2 NmD
/-- a field, read within a comprehension -/
theorem pe_fldK {X : Cx} {K : PySem.W.Frag} {e : Expr} {ta : TE} {f : Str} {pos : Pos} (hk : X.K = K) (he : PE X e ta) (hb : attributeBase e f X.env (eval e X.env) = eval e X.env) : PE X (.Attribute e f pos) (tFld K ta f) := hk ▸ pe_fld he hb
/-! ### boards as data; halls of the one class, and their own == -/
def bdD (b : Bd) : PyData := .tuple [.str b.1, .int b.2.1, rowD b.2.2]
def bdsD (bs : List Bd) : PyData := .tuple (bs.map bdD)
theorem dp_bd {K : PySem.W.Frag} {H : Hp} {v : V} {b : Bd} (h : BoardAt H v b) : Dp K H v (bdD b) := by
  obtain ⟨a, r, rfl, h1, h2⟩ := h
  exact .tup (SqT.of h1) (.cons (.str _) (.cons (.int _) (.cons (dp_row h2) .nil)))
theorem dpAll_bds {K : PySem.W.Frag} {H : Hp} : ∀ {xs : List V} {bs : List Bd}, Paired (BoardAt H) xs bs → DpAll K H xs (bs.map bdD)
  | _, _, .nil => .nil
  | _, _, .cons h t => .cons (dp_bd h) (dpAll_bds t)
theorem dp_bds {K : PySem.W.Frag} {H : Hp} {a : Addr} {bs : List Bd} (h : BoardsAt H a bs) : Dp K H (.ref a) (bdsD bs) := by
  obtain ⟨xs, h1, h2⟩ := h
  exact .tup (SqT.of h1) (dpAll_bds h2)
theorem eqv_bd (b c : Bd) : PyData.eqv (bdD b) (bdD c) = decide (b = c) := by
  obtain ⟨n, s, r⟩ := b
  obtain ⟨m, t, q⟩ := c
  unfold bdD
  rw [PyData.eqv, PyData.eqvAll, PyData.eqvAll, PyData.eqvAll, PyData.eqvAll, eqv_row, PyData.eqv, PyData.eqv]
  by_cases h1 : n = m <;> by_cases h2 : s = t <;> by_cases h3 : r = q <;> simp [h1, h2, h3]
theorem eqv_bdsL : ∀ bs cs : List Bd, PyData.eqvAll (bs.map bdD) (cs.map bdD) = decide (bs = cs)
  | [], [] => by simp [PyData.eqvAll]
  | [], _ :: _ => by simp [PyData.eqvAll]
  | _ :: _, [] => by simp [PyData.eqvAll]
  | b :: bs, c :: cs => by
    rw [List.map_cons, List.map_cons, PyData.eqvAll, eqv_bdsL bs cs, eqv_bd]
    by_cases h1 : b = c <;> by_cases h2 : bs = cs <;> simp [h1, h2]
theorem eqv_bds (bs cs : List Bd) : PyData.eqv (bdsD bs) (bdsD cs) = decide (bs = cs) := by
  unfold bdsD
  rw [PyData.eqv, eqv_bdsL]
theorem lay_bd {b : Bd} (h : okB b) : PyData.canLay0 (bdD b) = true ∧ PyData.depth (bdD b) = 2 := by
  obtain ⟨h1, h2⟩ := h
  unfold boardB at h1
  rw [Bool.and_eq_true, Bool.and_eq_true] at h1
  obtain ⟨a1, a2, a3⟩ := h1
  unfold rowB at a3
  rw [Bool.and_eq_true] at a3
  have l1 := lay_let a1
  have l3 : PyData.canLayAll0 (rowL b.2.2) = true := lay_rowL _ fun z hz => lay_let (List.all_eq_true.mp a3.2 z hz)
  unfold bdD
  refine ⟨?_, ?_⟩
  · rw [PyData.canLay0, PyData.canLayAll0, PyData.canLayAll0, PyData.canLayAll0, PyData.canLayAll0, l1, PyData.canLay0, PyData.canLay0, l3]
    rfl
  · rw [PyData.depth, PyData.depthAll, PyData.depthAll, PyData.depthAll, PyData.depthAll, PyData.depth, PyData.depth, PyData.depth, depth_rowL]
    rfl
theorem lay_bdsL : ∀ bs : List Bd, (∀ b ∈ bs, okB b) → PyData.canLayAll0 (bs.map bdD) = true ∧ PyData.depthAll (bs.map bdD) ≤ 2
  | [], _ => by simp [PyData.canLayAll0, PyData.depthAll]
  | b :: bs, h => by
    obtain ⟨h1, h2⟩ := lay_bdsL bs fun b hb => h b (List.mem_cons_of_mem _ hb)
    obtain ⟨h3, h4⟩ := lay_bd (h b List.mem_cons_self)
    rw [List.map_cons, PyData.canLayAll0, PyData.depthAll, h1, h3, h4]
    exact ⟨rfl, by omega⟩
theorem shaped_bds {bs : List Bd} (h : ∀ b ∈ bs, okB b) : SeqAt.shaped (bdsD bs) = true := by
  obtain ⟨h1, h2⟩ := lay_bdsL bs h
  unfold SeqAt.shaped bdsD
  rw [PyData.canLay0, h1, PyData.depth, Bool.true_and]
  exact decide_eq_true (by omega)
theorem atAll_row {tp : Addr} {H : Hp} : ∀ {ws : List Str}, (∀ z ∈ ws, z.length ≤ 1000) → AtAll tp H (ws.map V.str) (rowL ws)
  | [], _ => .nil
  | w :: ws, h => by
    rw [rowL_cons]
    exact .cons (.str w (h w List.mem_cons_self)) (atAll_row fun z hz => h z (List.mem_cons_of_mem _ hz))
theorem at_row {tp : Addr} {H : Hp} {a : Addr} {ws : List Str} (h : H a = some (.tup (ws.map V.str))) (ok : ∀ z ∈ ws, z.length ≤ 1000) : At tp H (.ref a) (rowD ws) := .tup h (atAll_row ok)
theorem at_bd {tp : Addr} {H : Hp} {v : V} {b : Bd} (h : BoardAt H v b) (s : smallBd b) : At tp H v (bdD b) := by
  obtain ⟨a, r, rfl, h1, h2⟩ := h
  exact .tup h1 (.cons (.str _ s.1) (.cons (.int _) (.cons (at_row h2 s.2.2) .nil)))
theorem atAll_bds {tp : Addr} {H : Hp} : ∀ {xs : List V} {bs : List Bd}, Paired (BoardAt H) xs bs → (∀ b ∈ bs, okB b) → AtAll tp H xs (bs.map bdD)
  | _, _, .nil, _ => .nil
  | _, _, .cons h t, ok => .cons (at_bd h (ok _ List.mem_cons_self).2) (atAll_bds t fun b hb => ok b (List.mem_cons_of_mem _ hb))
theorem at_bds {tp : Addr} {H : Hp} {a : Addr} {bs : List Bd} (h : BoardsAt H a bs) (ok : ∀ b ∈ bs, okB b) : At tp H (.ref a) (bdsD bs) := by
  obtain ⟨xs, h1, h2⟩ := h
  exact .tup h1 (atAll_bds h2 ok)
/-- the kinds of things that are no hall -/
def tyO : List String := ["NoneType", "int", "bool", "str", "tuple", "list", "dict"]
theorem tyD_in {tp : Addr} {H : Hp} {v : V} {d : PyData} (h : At tp H v d) : tyD d ∈ tyO := by
  cases h <;> simp [tyO, tyD]
structure HallT (K : PySem.W.Frag) (C : Addr) : Prop where
  ns : PySem.W.nsIn K mainGlobals "Hall" = some (some (.ref C))
  cl : Cls K C
  ha : PySem.W.findIn K (.ref C) "__class__" = some (some (.builtin "object.__class__"))
  hn : PySem.W.specialIn K (.builtin "object.__class__") "__get__" = some (some (.builtin "getset_descriptor.__get__"))
  htk : PySem.W.takesIn K (.builtin "object.__class__") = some true
  hm : PySem.W.mroIn K C (.type "object") = some true
  no : ∀ t ∈ tyO, PySem.W.kitOne K (.type t) (.ref C) = some false ∧ PySem.W.notFirst K C (.type t) = true
theorem HallT.one {K : PySem.W.Frag} {C D : Addr} (h : HallT K C) (g : PySem.W.nsIn K mainGlobals "Hall" = some (some (.ref D))) : D = C := by
  have e := g.symm.trans h.ns
  cases e
  rfl
theorem HallT.ty {K : PySem.W.Frag} {C a dx : Addr} {H : Hp} {fs : List (Str × V)} (h : HallT K C) (e : H a = some (.ins C dx fs)) : TyX K H (.ref a) (.ref C) := .base (.ins e h.cl h.ha h.hn h.htk h.hm)
theorem kit_self {K : PySem.W.Frag} {C : Addr} : PySem.W.kitOne K (.ref C) (.ref C) = some true := if_pos (beq_self_eq_true _)
theorem first_self {K : PySem.W.Frag} {C : Addr} : PySem.W.notFirst K C (.ref C) = true := by
  unfold PySem.W.notFirst
  rw [beq_self_eq_true]
  rfl
theorem kit_no {K : PySem.W.Frag} {C : Addr} {t : String} (isC : PySem.W.isClsIn K C = true) (tyC : PySem.W.typeIn K (.ref C) = some (.type "type")) (h : PySem.W.subIn K (.type t) (.ref C) = some false) : PySem.W.kitOne K (.type t) (.ref C) = some false ∧ PySem.W.notFirst K C (.type t) = true := by
  constructor
  · have e1 : (Value.type t == Value.ref C) = false := rfl
    have e2 : ((PySem.W.clsIn K C).isSome && PySem.W.typeIn K (.ref C) == some (.type "type")) = true := by
      rw [Bool.and_eq_true]
      exact ⟨isC, by rw [tyC]; exact beq_self_eq_true _⟩
    unfold PySem.W.kitOne
    rw [e1, if_neg Bool.false_ne_true]
    show (if ((PySem.W.clsIn K C).isSome && PySem.W.typeIn K (.ref C) == some (.type "type")) = true then PySem.W.subIn K (.type t) (.ref C) else none) = some false
    rw [if_pos e2, h]
  · unfold PySem.W.notFirst
    rw [h]
    exact Bool.or_true _
theorem no_all {K : PySem.W.Frag} {C : Addr} (isC : PySem.W.isClsIn K C = true) (tyC : PySem.W.typeIn K (.ref C) = some (.type "type")) (h1 : PySem.W.subIn K (.type "NoneType") (.ref C) = some false) (h2 : PySem.W.subIn K (.type "int") (.ref C) = some false) (h3 : PySem.W.subIn K (.type "bool") (.ref C) = some false) (h4 : PySem.W.subIn K (.type "str") (.ref C) = some false)
    (h5 : PySem.W.subIn K (.type "tuple") (.ref C) = some false) (h6 : PySem.W.subIn K (.type "list") (.ref C) = some false) (h7 : PySem.W.subIn K (.type "dict") (.ref C) = some false) : ∀ t ∈ tyO, PySem.W.kitOne K (.type t) (.ref C) = some false ∧ PySem.W.notFirst K C (.type t) = true := fun t ht => by
  simp only [tyO, List.mem_cons, List.not_mem_nil, or_false] at ht
  rcases ht with rfl | rfl | rfl | rfl | rfl | rfl | rfl
  · exact kit_no isC tyC h1
  · exact kit_no isC tyC h2
  · exact kit_no isC tyC h3
  · exact kit_no isC tyC h4
  · exact kit_no isC tyC h5
  · exact kit_no isC tyC h6
  · exact kit_no isC tyC h7
/-- a hall of the one class -/
def HallOf (K : PySem.W.Frag) (H : Hp) (p : Addr) (bs : List Bd) : Prop := HallAt K H p bs ∧ ∃ C dx fs, PySem.W.nsIn K mainGlobals "Hall" = some (some (.ref C)) ∧ H p = some (.ins C dx fs)
theorem HallOf.keep {K : PySem.W.Frag} {H H' : Hp} {p : Addr} {bs : List Bd} (h : HallOf K H p bs) (k : Keep H H') : HallOf K H' p bs := by
  obtain ⟨h1, C, dx, fs, h2, h3⟩ := h
  exact ⟨h1.mono k, C, dx, fs, h2, k _ _ h3 fun xs e => nomatch e⟩
theorem HallOf.same {K : PySem.W.Frag} {H H' : Hp} {p : Addr} {bs : List Bd} (h : HallOf K H p bs) (g : Same H H') : HallOf K H' p bs := h.keep (same_keep g)
/-- what == tells of a hall and another thing -/
def eqR (K : PySem.W.Frag) : EqSp := fun x y H b => ∃ a bs, x = .ref a ∧ HallOf K H a bs ∧ (∀ b ∈ bs, okB b) ∧ ((∃ p cs, y = .ref p ∧ HallOf K H p cs ∧ (∀ b ∈ cs, okB b) ∧ b = decide (bs = cs)) ∨ (b = false ∧ ∃ t, t ∈ tyO ∧ TyX K H y (.type t)))
end Nm
namespace K13
open PySem L2
def top (i : Nat) : Stmt := PySem.Challenge.pw_untoldgames_k13_whole_halls_turned_joine.main.body.getD i (.Pass ⟨0, 0, 0, 0⟩)
abbrev s_is_integer : Stmt := top 5
abbrev s_is_within : Stmt := top 6
abbrev s_is_side : Stmt := top 7
abbrev s_is_lettered : Stmt := top 8
abbrev s_is_name : Stmt := top 10
abbrev s_is_word : Stmt := top 9
abbrev s_is_words : Stmt := top 11
abbrev s_is_board : Stmt := top 17
abbrev s_names_of : Stmt := top 18
abbrev s_Hall___init__ : Stmt := inClass (top 19) 0
abbrev s__law_tape : Stmt := top 26
abbrev s__law_pick : Stmt := top 27
abbrev s_hall_of : Stmt := top 20
abbrev s_turned : Stmt := top 22
abbrev s_joined : Stmt := top 23
abbrev s__law_some : Stmt := top 29
abbrev s__law_word : Stmt := top 30
abbrev s__law_line : Stmt := top 33
abbrev s__law_boards : Stmt := top 34
abbrev s__law_is : Stmt := top 28
abbrev s_is_ascending : Stmt := top 12
abbrev s__law_flag : Stmt := top 37
abbrev s_HallError___init__ : Stmt := inClass (top 1) 0
abbrev s_Hall___eq__ : Stmt := inClass (top 19) 1
abbrev s_is_fresh : Stmt := top 21
abbrev s_is_lot : Stmt := top 13
abbrev s__law_int : Stmt := top 31
abbrev s__law_is_lot : Stmt := top 32
abbrev s_only : Stmt := top 24
abbrev s__law_only : Stmt := top 36
abbrev s__law_names : Stmt := top 35
abbrev s__law_changed : Stmt := top 38
abbrev s__law_compared : Stmt := top 39
abbrev s_law : Stmt := top 40
theorem sc_is_integer : FnScope ["thing"] ["thing"] (defScope s_is_integer) := ⟨rfl, rfl, rfl, by decide +kernel, rfl, by decide +kernel, by decide +kernel⟩
theorem sc_is_within : FnScope ["thing", "low", "high"] ["thing", "low", "high"] (defScope s_is_within) := ⟨rfl, rfl, rfl, by decide +kernel, rfl, by decide +kernel, by decide +kernel⟩
theorem sc_is_side : FnScope ["thing"] ["thing"] (defScope s_is_side) := ⟨rfl, rfl, rfl, by decide +kernel, rfl, by decide +kernel, by decide +kernel⟩
theorem sc_is_lettered : FnScope ["thing", "most", "sign"] ["thing", "most"] (defScope s_is_lettered) := ⟨rfl, rfl, rfl, by decide +kernel, rfl, by decide +kernel, by decide +kernel⟩
theorem sc_is_name : FnScope ["thing"] ["thing"] (defScope s_is_name) := ⟨rfl, rfl, rfl, by decide +kernel, rfl, by decide +kernel, by decide +kernel⟩
theorem sc_is_word : FnScope ["thing"] ["thing"] (defScope s_is_word) := ⟨rfl, rfl, rfl, by decide +kernel, rfl, by decide +kernel, by decide +kernel⟩
theorem sc_is_words : FnScope ["thing", "most", "word"] ["thing", "most"] (defScope s_is_words) := ⟨rfl, rfl, rfl, by decide +kernel, rfl, by decide +kernel, by decide +kernel⟩
theorem sc_is_board : FnScope ["thing", "name", "side", "begun"] ["thing"] (defScope s_is_board) := ⟨rfl, rfl, rfl, by decide +kernel, rfl, by decide +kernel, by decide +kernel⟩
theorem sc_names_of : FnScope ["boards", "board"] ["boards"] (defScope s_names_of) := ⟨rfl, rfl, rfl, by decide +kernel, rfl, by decide +kernel, by decide +kernel⟩
theorem sc_Hall___init__ : FnScope ["self", "boards", "at", "board"] ["self", "boards"] (defScope s_Hall___init__) := ⟨rfl, rfl, rfl, by decide +kernel, rfl, by decide +kernel, by decide +kernel⟩
theorem sc__law_tape : FnScope ["script"] ["script"] (defScope s__law_tape) := ⟨rfl, rfl, rfl, by decide +kernel, rfl, by decide +kernel, by decide +kernel⟩
theorem sc__law_pick : FnScope ["tape", "size", "digit", "cell", "mixed"] ["tape", "size"] (defScope s__law_pick) := ⟨rfl, rfl, rfl, by decide +kernel, rfl, by decide +kernel, by decide +kernel⟩
theorem sc_hall_of : FnScope ["boards", "hall"] ["boards"] (defScope s_hall_of) := ⟨rfl, rfl, rfl, by decide +kernel, rfl, by decide +kernel, by decide +kernel⟩
theorem sc_turned : FnScope ["hall", "name", "side", "begun"] ["hall"] (defScope s_turned) := ⟨rfl, rfl, rfl, by decide +kernel, rfl, by decide +kernel, by decide +kernel⟩
theorem sc_joined : FnScope ["one", "other"] ["one", "other"] (defScope s_joined) := ⟨rfl, rfl, rfl, by decide +kernel, rfl, by decide +kernel, by decide +kernel⟩
theorem sc__law_some : FnScope ["tape", "things"] ["tape", "things"] (defScope s__law_some) := ⟨rfl, rfl, rfl, by decide +kernel, rfl, by decide +kernel, by decide +kernel⟩
theorem sc__law_word : FnScope ["tape", "few"] ["tape"] (defScope s__law_word) := ⟨rfl, rfl, rfl, by decide +kernel, rfl, by decide +kernel, by decide +kernel⟩
theorem sc__law_line : FnScope ["tape", "many", "k"] ["tape", "many"] (defScope s__law_line) := ⟨rfl, rfl, rfl, by decide +kernel, rfl, by decide +kernel, by decide +kernel⟩
theorem sc__law_boards : FnScope ["tape", "most", "begun", "many", "names", "line", "other", "found", "k", "row"] ["tape", "most", "begun"] (defScope s__law_boards) := ⟨rfl, rfl, rfl, by decide +kernel, rfl, by decide +kernel, by decide +kernel⟩
theorem sc__law_is : FnScope ["told", "due", "one", "two"] ["told", "due"] (defScope s__law_is) := ⟨rfl, rfl, rfl, by decide +kernel, rfl, by decide +kernel, by decide +kernel⟩
theorem sc_is_ascending : FnScope ["things", "one", "other"] ["things"] (defScope s_is_ascending) := ⟨rfl, rfl, rfl, by decide +kernel, rfl, by decide +kernel, by decide +kernel⟩
theorem sc__law_flag : FnScope ["told", "due"] ["told", "due"] (defScope s__law_flag) := ⟨rfl, rfl, rfl, by decide +kernel, rfl, by decide +kernel, by decide +kernel⟩
theorem sc_HallError___init__ : FnScope ["self"] ["self"] (defScope s_HallError___init__) := ⟨rfl, rfl, rfl, by decide +kernel, rfl, by decide +kernel, by decide +kernel⟩
theorem sc_Hall___eq__ : FnScope ["self", "other"] ["self", "other"] (defScope s_Hall___eq__) := ⟨rfl, rfl, rfl, by decide +kernel, rfl, by decide +kernel, by decide +kernel⟩
theorem sc_is_fresh : FnScope ["thing", "_", "begun"] ["thing"] (defScope s_is_fresh) := ⟨rfl, rfl, rfl, by decide +kernel, rfl, by decide +kernel, by decide +kernel⟩
theorem sc_is_lot : FnScope ["thing", "many", "number"] ["thing", "many"] (defScope s_is_lot) := ⟨rfl, rfl, rfl, by decide +kernel, rfl, by decide +kernel, by decide +kernel⟩
theorem sc__law_int : FnScope ["thing", "least", "most"] ["thing", "least", "most"] (defScope s__law_int) := ⟨rfl, rfl, rfl, by decide +kernel, rfl, by decide +kernel, by decide +kernel⟩
theorem sc__law_is_lot : FnScope ["thing", "many", "item", "one", "other"] ["thing", "many"] (defScope s__law_is_lot) := ⟨rfl, rfl, rfl, by decide +kernel, rfl, by decide +kernel, by decide +kernel⟩
theorem sc_only : FnScope ["hall", "lot", "number"] ["hall", "lot"] (defScope s_only) := ⟨rfl, rfl, rfl, by decide +kernel, rfl, by decide +kernel, by decide +kernel⟩
theorem sc__law_only : FnScope ["hall", "lot", "told"] ["hall", "lot"] (defScope s__law_only) := ⟨rfl, rfl, rfl, by decide +kernel, rfl, by decide +kernel, by decide +kernel⟩
theorem sc__law_names : FnScope ["boards", "names", "board", "k"] ["boards"] (defScope s__law_names) := ⟨rfl, rfl, rfl, by decide +kernel, rfl, by decide +kernel, by decide +kernel⟩
theorem sc__law_changed : FnScope ["tape", "boards", "at", "name", "side", "begun", "odd"] ["tape", "boards"] (defScope s__law_changed) := ⟨rfl, rfl, rfl, by decide +kernel, rfl, by decide +kernel, by decide +kernel⟩
theorem sc__law_compared : FnScope ["tape", "turn", "boards", "other", "one", "two", "odd", "both", "hall", "board"] ["tape"] (defScope s__law_compared) := ⟨rfl, rfl, rfl, by decide +kernel, rfl, by decide +kernel, by decide +kernel⟩
theorem sc_law : FnScope ["script", "tape", "one", "other", "hall", "both", "due", "turn", "lot", "thing", "odd", "told", "cut", "name", "side", "begun", "k"] ["script"] (defScope s_law) := ⟨rfl, rfl, rfl, by decide +kernel, rfl, by decide +kernel, by decide +kernel⟩
structure Txt (K : PySem.W.Frag) (mg : Str → Option Value) : Prop where
  d_is_integer : Nm.Top K mg "is_integer" s_is_integer
  d_is_within : Nm.Top K mg "is_within" s_is_within
  d_is_side : Nm.Top K mg "is_side" s_is_side
  d_is_lettered : Nm.Top K mg "is_lettered" s_is_lettered
  d_is_name : Nm.Top K mg "is_name" s_is_name
  d_is_word : Nm.Top K mg "is_word" s_is_word
  d_is_words : Nm.Top K mg "is_words" s_is_words
  d_is_board : Nm.Top K mg "is_board" s_is_board
  d_names_of : Nm.Top K mg "names_of" s_names_of
  d__law_tape : Nm.Top K mg "_law_tape" s__law_tape
  d__law_pick : Nm.Top K mg "_law_pick" s__law_pick
  d_hall_of : Nm.Top K mg "hall_of" s_hall_of
  d_turned : Nm.Top K mg "turned" s_turned
  d_joined : Nm.Top K mg "joined" s_joined
  d__law_some : Nm.Top K mg "_law_some" s__law_some
  d__law_word : Nm.Top K mg "_law_word" s__law_word
  d__law_line : Nm.Top K mg "_law_line" s__law_line
  d__law_boards : Nm.Top K mg "_law_boards" s__law_boards
  d__law_is : Nm.Top K mg "_law_is" s__law_is
  d_is_ascending : Nm.Top K mg "is_ascending" s_is_ascending
  d__law_flag : Nm.Top K mg "_law_flag" s__law_flag
  d_is_fresh : Nm.Top K mg "is_fresh" s_is_fresh
  d_is_lot : Nm.Top K mg "is_lot" s_is_lot
  d__law_int : Nm.Top K mg "_law_int" s__law_int
  d__law_is_lot : Nm.Top K mg "_law_is_lot" s__law_is_lot
  d_only : Nm.Top K mg "only" s_only
  d__law_only : Nm.Top K mg "_law_only" s__law_only
  d__law_names : Nm.Top K mg "_law_names" s__law_names
  d__law_changed : Nm.Top K mg "_law_changed" s__law_changed
  d__law_compared : Nm.Top K mg "_law_compared" s__law_compared
  d_law : Nm.Top K mg "law" s_law
  m_ValueError : mg "ValueError" = none
  m_all : mg "all" = none
  m_bool : mg "bool" = none
  m_enumerate : mg "enumerate" = none
  m_int : mg "int" = none
  m_isinstance : mg "isinstance" = none
  m_len : mg "len" = none
  m_list : mg "list" = none
  m_max : mg "max" = none
  m_range : mg "range" = none
  m_sorted : mg "sorted" = none
  m_str : mg "str" = none
  m_tuple : mg "tuple" = none
  m_zip : mg "zip" = none
  g_MOST_BEGUN : ∃ u, mg "MOST_BEGUN" = some u ∧ RelV (.int 20) u
  g_MOST_BOARDS : ∃ u, mg "MOST_BOARDS" = some u ∧ RelV (.int 12) u
  cls_Hall : ∃ C f fd, Cls K C ∧ Mk K C f ∧ mg "Hall" = some (.ref C) ∧ Fun K "__init__" "Hall.__init__" s_Hall___init__ f fd ∧ NoAttr K C "boards" ∧ NoAttr K C "names"
  m_VE : mg "ValueError" = none
  vV : PySem.W.findCls K (.type "ValueError") (.type "type") "__init__" = some (.val (.builtin "ValueError.__init__"))
  err_NoLot : ∃ C fi fd, Nm.Bare K mg "NoLot" C fi ∧ PySem.W.exmOne K (.ref C) (.ref C) = some true ∧ Fun K "__init__" "HallError.__init__" s_HallError___init__ fi fd
  hallN : ∃ C f fd, Nm.HallT K C ∧ mg "Hall" = some (.ref C) ∧ PySem.W.findIn K (.ref C) "__eq__" = some (some (.ref f)) ∧ PySem.W.isFn K (.ref f) = true ∧ PySem.W.findIn K (.ref C) "__ne__" = some (some (.builtin "object.__ne__")) ∧ PySem.W.subIn K (.ref C) (.type "object") = some true ∧ Fun K "__eq__" "Hall.__eq__" s_Hall___eq__ f fd
end K13
namespace K13
open PySem L2 Nm
open C8 (Cal Mak pe_c pe_mk pe_gc)
open RZ (ItzT pi_zipA)
section
variable {P : Program} {w : World} {K : PySem.W.Frag} {mg : Str → Option Value} {base : Heap}
def sp_is_integer (K : PySem.W.Frag) : Sp := fun vs H Q _ => ∃ (x : V), vs = [x] ∧ TyI K H x ∧ Q (.bl (isInt x)) H
theorem c_is_integer (T : Txt K mg) : Cal P w K mg base 1 "is_integer" (sp_is_integer K) [] := by
  have sc := sc_is_integer
  refine cal_of T.d_is_integer sc (fun _ _ _ _ _ _ us hl => match us, hl with | [_], _ => rfl) (fun vs H Q E h => ?_) (fun f cdv A outer s H vs Q E hr h => ?_)
  · obtain ⟨x, rfl, _⟩ := h
    rfl
  · obtain ⟨x, rfl, h⟩ := h
    refine ⟨_, (pss_one (ps_ret (pe_and (pe_callB call_isi rfl T.m_isinstance (by decide +kernel) (pa_cons (pv 0) (pa_cons (pe_bltn (v := .ty "int") (u := .type "int") rfl T.m_int (by decide +kernel) rfl) pa_nil))) (pe_one (pe_not (pe_callB call_isi rfl T.m_isinstance (by decide +kernel) (pa_cons (pv 0) (pa_cons (pe_bltn (v := .ty "bool") (u := .type "bool") rfl T.m_bool (by decide +kernel) rfl) pa_nil)))))))), ?_⟩
    obtain ⟨⟨b, c, ⟨t, h1, h2⟩, ⟨u, h3, h4⟩, e⟩, q⟩ := h
    refine ⟨_, rfl, _, _, t, _, b, rfl, .ty _, h1, h2, b, rfl, ?_⟩
    cases b with
    | false =>
      refine iteF ?_
      rw [← e] at q
      exact q
    | true =>
      refine iteT ⟨_, rfl, _, _, u, _, c, rfl, .ty _, h3, h4, c, rfl, ?_⟩
      rw [← e] at q
      exact q
end
end K13
namespace K13
open PySem L2 Nm
open C8 (Cal Mak pe_c pe_mk pe_gc)
open RZ (ItzT pi_zipA)
section
variable {P : Program} {w : World} {K : PySem.W.Frag} {mg : Str → Option Value} {base : Heap}
def sp_is_within (K : PySem.W.Frag) : Sp := fun vs H Q _ => ∃ (x : V) (lo hi : Int), vs = [x, .int lo, .int hi] ∧ TyI K H x ∧ Q (.bl (within x lo hi)) H
theorem c_is_within (T : Txt K mg) : Cal P w K mg base 2 "is_within" (sp_is_within K) [] := by
  have C_is_integer := c_is_integer (P := P) (w := w) (base := base) T
  have sc := sc_is_within
  refine cal_of T.d_is_within sc (fun _ _ _ _ _ _ us hl => match us, hl with | [_, _, _], _ => rfl) (fun vs H Q E h => ?_) (fun f cdv A outer s H vs Q E hr h => ?_)
  · obtain ⟨x, lo, hi, rfl, _⟩ := h
    rfl
  · obtain ⟨x, lo, hi, rfl, h⟩ := h
    refine ⟨_, (pss_one (ps_ret (pe_and (pe_c C_is_integer hr (by omega) rfl (pa_cons (pv 0) pa_nil)) (pe_one (pe_chain op_le op_le (pv 1) (pv 0) (pv 2)))))), ?_⟩
    obtain ⟨ty, q⟩ := h
    refine ⟨_, rfl, x, rfl, ty, isInt x, rfl, ?_⟩
    cases x with
    | int n =>
      refine iteT ⟨_, rfl, _, rfl, lo, n, rfl, rfl, decide (lo ≤ n), rfl, ?_⟩
      by_cases c : lo ≤ n
      · rw [if_pos (decide_eq_true c)]
        refine ⟨_, rfl, n, hi, rfl, rfl, ?_⟩
        have e : within (.int n) lo hi = decide (n ≤ hi) := by
          show (decide (lo ≤ n) && decide (n ≤ hi)) = _
          rw [decide_eq_true c, Bool.true_and]
        rw [e] at q
        exact q
      · rw [if_neg (by rw [decide_eq_false c]; exact Bool.false_ne_true)]
        have e : within (.int n) lo hi = false := by
          show (decide (lo ≤ n) && decide (n ≤ hi)) = _
          rw [decide_eq_false c, Bool.false_and]
        rw [e] at q
        exact q
    | _ => exact iteF q
end
end K13
namespace K13
open PySem L2 Nm
open C8 (Cal Mak pe_c pe_mk pe_gc)
open RZ (ItzT pi_zipA)
section
variable {P : Program} {w : World} {K : PySem.W.Frag} {mg : Str → Option Value} {base : Heap}
def sp_is_side (K : PySem.W.Frag) : Sp := fun vs H Q _ => ∃ (x : V), vs = [x] ∧ TyI K H x ∧ Q (.bl (within x 0 1)) H
theorem c_is_side (T : Txt K mg) : Cal P w K mg base 3 "is_side" (sp_is_side K) [] := by
  have C_is_within := c_is_within (P := P) (w := w) (base := base) T
  have sc := sc_is_side
  refine cal_of T.d_is_side sc (fun _ _ _ _ _ _ us hl => match us, hl with | [_], _ => rfl) (fun vs H Q E h => ?_) (fun f cdv A outer s H vs Q E hr h => ?_)
  · obtain ⟨x, rfl, _⟩ := h
    rfl
  · obtain ⟨x, rfl, h⟩ := h
    refine ⟨_, (pss_one (ps_ret (pe_c C_is_within hr (by omega) rfl (pa_cons (pv 0) (pa_cons pe_int (pa_cons pe_int pa_nil)))))), ?_⟩
    obtain ⟨ty, q⟩ := h
    exact ⟨_, rfl, x, 0, 1, rfl, ty, q⟩
end
end K13
namespace K13
open PySem L2 Nm
open C8 (Cal Mak pe_c pe_mk pe_gc)
open RZ (ItzT pi_zipA)
section
variable {P : Program} {w : World} {K : PySem.W.Frag} {mg : Str → Option Value} {base : Heap}
def sp_is_lettered (K : PySem.W.Frag) : Sp := fun vs H Q _ => ∃ (z : Str) (most : Int), vs = [.str z, .int most] ∧ z.length ≤ 1000 ∧ ∀ H', Same H H' → Q (.bl (letB z most)) H'
theorem c_is_lettered (T : Txt K mg) : Cal P w K mg base 1 "is_lettered" (sp_is_lettered K) [] := by
  have sc := sc_is_lettered
  refine cal_of T.d_is_lettered sc (fun _ _ _ _ _ _ us hl => match us, hl with | [_, _], _ => rfl) (fun vs H Q E h => ?_) (fun f cdv A outer s H vs Q E hr h => ?_)
  · obtain ⟨z, most, rfl, _⟩ := h
    rfl
  · obtain ⟨z, most, rfl, h⟩ := h
    refine ⟨_, (pss_cons (ps_if (PW.pt (pw_or (pt_not (pt_val (pe_callB call_isi rfl T.m_isinstance (by decide +kernel) (pa_cons (pv 0) (pa_cons (pe_bltn (v := .ty "str") (u := .type "str") rfl T.m_str (by decide +kernel) rfl) pa_nil))))) (pw_or1 (pt_not (pt_chain op_le op_le pe_int (pe_callB call_len_str rfl T.m_len (by decide +kernel) (pa_cons (pv 0) pa_nil)) (pv 1)))))) (pss_one (ps_ret pe_bl)) pss_nil)
  (pss_one (ps_ret (pe_callB (cr_all rfl) rfl T.m_all (by decide +kernel) (pa_cons (pe_lc (own := [("sign", 2)]) (g := gName 2) rfl sc.nd (pi_str (pv 0)) (blkOk_by (own := [("sign", 2)]) (N := ["thing", "most", "sign"]) (sc := defScope s_is_lettered) (by decide +kernel)) (fun _ _ _ _ _ => (pg_name (i := 2) sc.nd rfl (Or.inl rfl))) (fun _ _ _ _ _ => pts_nil) (fun _ _ _ _ _ => (pe_chain op_le_str op_le_str pe_str (pv 2) pe_str))) pa_nil))))), ?_⟩
    obtain ⟨hz, q⟩ := h
    obtain ⟨t, h1, h2⟩ := tyc_str (K := K) (H := H) z
    have fit : z.length ≤ sizeLine := Nat.le_trans hz (by decide)
    refine ⟨_, rfl, _, _, t, _, true, rfl, .ty _, h1, h2, true, rfl, ?_⟩
    refine iteF ?_
    refine ⟨_, rfl, z, rfl, fit, 1, (z.length : Int), rfl, rfl, decide (1 ≤ (z.length : Int)), rfl, ?_⟩
    by_cases c1 : 1 ≤ (z.length : Int)
    · rw [if_pos (decide_eq_true c1)]
      refine ⟨_, rfl, (z.length : Int), most, rfl, rfl, decide ((z.length : Int) ≤ most), rfl, ?_⟩
      by_cases c2 : (z.length : Int) ≤ most
      · rw [decide_eq_true c2]
        refine iteF ?_
        refine ⟨_, rfl, z, rfl, fun D hD => ?_⟩
        refine lc_it walk_str (fun i H1 => H1 D = some (.lst ((z.cps.toList.take i).map fun c => V.bl (decide (97 ≤ c) && decide (c ≤ 122)))) ∧ Same H H1) ⟨upd_same, same_new hD⟩ (fun _ _ _ _ => trivial) ?_ ?_
        · rintro i x H0 H1 hi ⟨hl, g⟩ ⟨rfl, c, hc, rfl⟩
          refine ⟨rfl, ?_⟩
          have hc' : z.cps.toList[i]? = some c := by rw [Array.getElem?_toList]; exact hc
          have tk : (z.cps.toList.take (i + 1)).map (fun c => V.bl (decide (97 ≤ c) && decide (c ≤ 122))) = (z.cps.toList.take i).map (fun c => V.bl (decide (97 ≤ c) && decide (c ≤ 122))) ++ [V.bl (decide (97 ≤ c) && decide (c ≤ 122))] := by
            rw [List.take_add_one, hc', List.map_append]
            rfl
          have small : ((z.cps.toList.take i).map fun c => V.bl (decide (97 ≤ c) && decide (c ≤ 122))).length < sizeLine := by
            rw [List.length_map, List.length_take]
            have a : z.cps.toList.length = z.length := by rw [Array.length_toList]; rfl
            have b : (1000 : Nat) < sizeLine := by decide
            omega
          have fin : ∀ v : Bool, v = (decide (97 ≤ c) && decide (c ≤ 122)) → ∃ acc, H1 D = some (.lst acc) ∧ acc.length < sizeLine ∧
              (upd H1 D (.lst (acc ++ [V.bl v])) D = some (.lst ((z.cps.toList.take (i + 1)).map fun c => V.bl (decide (97 ≤ c) && decide (c ≤ 122)))) ∧ Same H (upd H1 D (.lst (acc ++ [V.bl v])))) := fun v e => by
            refine ⟨_, hl, small, ?_, same_mut g hD⟩
            rw [upd_same, tk, e]
          refine ⟨_, rfl, _, _, rfl, rfl, !decide (([c] : List Nat) < [97]), rfl, ?_⟩
          rw [sign_lt]
          by_cases d : 97 ≤ c
          · rw [if_pos (by rw [decide_eq_false (by omega)]; rfl)]
            refine ⟨_, _, rfl, rfl, ?_⟩
            refine fin (!decide (([122] : List Nat) < [c])) ?_
            rw [sign_lt, decide_eq_true d, Bool.true_and]
            by_cases d2 : c ≤ 122
            · rw [decide_eq_true d2, decide_eq_false (by omega)]
              rfl
            · rw [decide_eq_false d2, decide_eq_true (by omega)]
              rfl
          · rw [if_neg (by rw [decide_eq_true (by omega)]; exact Bool.false_ne_true)]
            refine fin false ?_
            rw [decide_eq_false d]
            rfl
        · rintro H1 ⟨hl, g⟩
          have hn : z.cps.toList.take z.cps.size = z.cps.toList := List.take_of_length_le (by rw [Array.length_toList]; exact Nat.le_refl _)
          rw [hn] at hl
          refine ⟨D, z.cps.toList.map (fun c => decide (97 ≤ c) && decide (c ≤ 122)), rfl, SqL.of (by rw [hl, List.map_map]; rfl), ?_⟩
          have e : letB z most = ((z.cps.toList.map (fun c => decide (97 ≤ c) && decide (c ≤ 122))).all id) := by
            unfold letB
            rw [decide_eq_true c1, decide_eq_true c2, List.all_map]
            rfl
          have q' := q H1 g
          rw [e] at q'
          exact q'
      · rw [decide_eq_false c2]
        refine iteT ?_
        have e : letB z most = false := by unfold letB; rw [decide_eq_false c2, Bool.and_false, Bool.false_and]
        have q' := q H (Same.refl H)
        rw [e] at q'
        exact q'
    · rw [if_neg (by rw [decide_eq_false c1]; exact Bool.false_ne_true)]
      refine ⟨false, rfl, iteT ?_⟩
      have e : letB z most = false := by unfold letB; rw [decide_eq_false c1, Bool.false_and, Bool.false_and]
      have q' := q H (Same.refl H)
      rw [e] at q'
      exact q'
end
end K13
namespace K13
open PySem L2 Nm
open C8 (Cal Mak pe_c pe_mk pe_gc)
open RZ (ItzT pi_zipA)
section
variable {P : Program} {w : World} {K : PySem.W.Frag} {mg : Str → Option Value} {base : Heap}
def sp_is_name (K : PySem.W.Frag) : Sp := fun vs H Q _ => ∃ (z : Str), vs = [.str z] ∧ z.length ≤ 1000 ∧ ∀ H', Same H H' → Q (.bl (letB z 8)) H'
theorem c_is_name (T : Txt K mg) : Cal P w K mg base 2 "is_name" (sp_is_name K) [] := by
  have C_is_lettered := c_is_lettered (P := P) (w := w) (base := base) T
  have sc := sc_is_name
  refine cal_of T.d_is_name sc (fun _ _ _ _ _ _ us hl => match us, hl with | [_], _ => rfl) (fun vs H Q E h => ?_) (fun f cdv A outer s H vs Q E hr h => ?_)
  · obtain ⟨z, rfl, _⟩ := h
    rfl
  · obtain ⟨z, rfl, h⟩ := h
    refine ⟨_, (pss_one (ps_ret (pe_c C_is_lettered hr (by omega) rfl (pa_cons (pv 0) (pa_cons pe_int pa_nil))))), ?_⟩
    exact ⟨_, rfl, z, 8, rfl, h.1, h.2⟩
end
end K13
namespace K13
open PySem L2 Nm
open C8 (Cal Mak pe_c pe_mk pe_gc)
open RZ (ItzT pi_zipA)
section
variable {P : Program} {w : World} {K : PySem.W.Frag} {mg : Str → Option Value} {base : Heap}
def sp_is_word (K : PySem.W.Frag) : Sp := fun vs H Q _ => ∃ (z : Str), vs = [.str z] ∧ z.length ≤ 1000 ∧ ∀ H', Same H H' → Q (.bl (letB z 20)) H'
theorem c_is_word (T : Txt K mg) : Cal P w K mg base 2 "is_word" (sp_is_word K) [] := by
  have C_is_lettered := c_is_lettered (P := P) (w := w) (base := base) T
  have sc := sc_is_word
  refine cal_of T.d_is_word sc (fun _ _ _ _ _ _ us hl => match us, hl with | [_], _ => rfl) (fun vs H Q E h => ?_) (fun f cdv A outer s H vs Q E hr h => ?_)
  · obtain ⟨z, rfl, _⟩ := h
    rfl
  · obtain ⟨z, rfl, h⟩ := h
    refine ⟨_, (pss_one (ps_ret (pe_c C_is_lettered hr (by omega) rfl (pa_cons (pv 0) (pa_cons pe_int pa_nil))))), ?_⟩
    exact ⟨_, rfl, z, 20, rfl, h.1, h.2⟩
end
end K13
namespace K13
open PySem L2 Nm
open C8 (Cal Mak pe_c pe_mk pe_gc)
open RZ (ItzT pi_zipA)
section
variable {P : Program} {w : World} {K : PySem.W.Frag} {mg : Str → Option Value} {base : Heap}
def sp_is_words (K : PySem.W.Frag) : Sp := fun vs H Q _ => ∃ (a : Addr) (zs : List Str) (most : Int), vs = [.ref a, .int most] ∧ H a = some (.tup (zs.map V.str)) ∧ zs.length ≤ 1000 ∧ (∀ z ∈ zs, z.length ≤ 1000) ∧ ∀ H', Same H H' → Q (.bl (rowB zs most)) H'
theorem c_is_words (T : Txt K mg) : Cal P w K mg base 3 "is_words" (sp_is_words K) [] := by
  have C_is_word := c_is_word (P := P) (w := w) (base := base) T
  have sc := sc_is_words
  refine cal_of T.d_is_words sc (fun _ _ _ _ _ _ us hl => match us, hl with | [_, _], _ => rfl) (fun vs H Q E h => ?_) (fun f cdv A outer s H vs Q E hr h => ?_)
  · obtain ⟨a, zs, most, rfl, _⟩ := h
    rfl
  · obtain ⟨a, zs, most, rfl, h⟩ := h
    refine ⟨_, (pss_one (ps_ret (pe_and (pe_callB call_isi rfl T.m_isinstance (by decide +kernel) (pa_cons (pv 0) (pa_cons (pe_bltn (v := .ty "tuple") (u := .type "tuple") rfl T.m_tuple (by decide +kernel) rfl) pa_nil))) (pe_and (pe_cmpR op_le (pe_callB call_len_seq rfl T.m_len (by decide +kernel) (pa_cons (pv 0) pa_nil)) (pv 1) (nomark _)) (pe_one (pe_callB (cr_all rfl) rfl T.m_all (by decide +kernel) (pa_cons (pe_lc (own := [("word", 2)]) (g := gName 2) rfl sc.nd (pi_tup (pv 0)) (blkOk_by (own := [("word", 2)]) (N := ["thing", "most", "word"]) (sc := defScope s_is_words) (by decide +kernel)) (fun _ _ _ _ _ => (pg_name (i := 2) sc.nd rfl (Or.inl rfl))) (fun _ _ _ _ _ => pts_nil) (fun _ _ _ _ _ => (pe_c C_is_word hr (by omega) rfl (pa_cons (pv 2) pa_nil)))) pa_nil))))))), ?_⟩
    obtain ⟨ha, hl, hz, q⟩ := h
    obtain ⟨t, h1, h2⟩ := tyc_tup (K := K) ha
    refine ⟨_, rfl, _, _, t, _, true, rfl, .ty _, h1, h2, true, rfl, ?_⟩
    refine iteT ⟨_, rfl, a, _, rfl, .inr (SqT.of ha), _, rfl, _, _, rfl, rfl, decide (((zs.map V.str).length : Int) ≤ most), rfl, ?_⟩
    rw [List.length_map]
    by_cases c : (zs.length : Int) ≤ most
    · rw [decide_eq_true c]
      refine iteT ⟨_, rfl, a, rfl, ⟨_, SqT.of ha⟩, fun D hD => ?_⟩
      refine lc_tup (K := K) (a := a) (xs := zs.map V.str) (fun i H1 => H1 D = some (.lst ((zs.take i).map fun z => V.bl (letB z 20))) ∧ Same H H1) ⟨upd_same, same_new hD⟩ (fun i H1 _ p => SqT.of (p.2 _ _ ha)) ?_ ?_
      · rintro i x H1 hx ⟨hl1, g⟩
        obtain ⟨z, hz1, rfl⟩ : ∃ z, zs[i]? = some z ∧ x = V.str z := by
          rw [List.getElem?_map] at hx
          cases e : zs[i]? with
          | none =>
            rw [e] at hx
            cases hx
          | some z =>
            rw [e] at hx
            exact ⟨z, rfl, (Option.some.inj hx).symm⟩
        refine ⟨rfl, ?_⟩
        refine ⟨_, rfl, z, rfl, hz z (List.mem_of_getElem? hz1), fun H2 g2 => ?_⟩
        refine ⟨_, g2 _ _ hl1, ?_, ?_, ?_⟩
        · rw [List.length_map, List.length_take]
          have b : (1000 : Nat) < sizeLine := by decide
          omega
        · rw [upd_same, take_one hz1, List.map_append]
          rfl
        · exact same_mut (g.trans g2) hD
      · rintro H1 ⟨hl1, g⟩
        rw [List.length_map, List.take_length] at hl1
        refine ⟨D, zs.map (fun z => letB z 20), rfl, SqL.of (by rw [hl1, List.map_map]; rfl), ?_⟩
        have e : rowB zs most = (zs.map (fun z => letB z 20)).all id := by
          unfold rowB
          rw [decide_eq_true c, Bool.true_and, List.all_map]
          rfl
        have q' := q H1 g
        rw [e] at q'
        exact q'
    · rw [decide_eq_false c]
      refine iteF ?_
      have e : rowB zs most = false := by unfold rowB; rw [decide_eq_false c, Bool.false_and]
      have q' := q H (Same.refl H)
      rw [e] at q'
      exact q'
end
end K13
namespace K13
open PySem L2 Nm
open C8 (Cal Mak pe_c pe_mk pe_gc)
open RZ (ItzT pi_zipA)
section
variable {P : Program} {w : World} {K : PySem.W.Frag} {mg : Str → Option Value} {base : Heap}
def sp_is_board (K : PySem.W.Frag) : Sp := fun vs H Q _ => ∃ (v : V) (b : Bd), vs = [v] ∧ BoardAt H v b ∧ smallBd b ∧ ∀ H', Same H H' → Q (.bl (boardB b)) H'
theorem c_is_board (T : Txt K mg) : Cal P w K mg base 4 "is_board" (sp_is_board K) [] := by
  have C_is_name := c_is_name (P := P) (w := w) (base := base) T
  have C_is_side := c_is_side (P := P) (w := w) (base := base) T
  have C_is_words := c_is_words (P := P) (w := w) (base := base) T
  have sc := sc_is_board
  refine cal_of T.d_is_board sc (fun _ _ _ _ _ _ us hl => match us, hl with | [_], _ => rfl) (fun vs H Q E h => ?_) (fun f cdv A outer s H vs Q E hr h => ?_)
  · obtain ⟨v, b, rfl, _⟩ := h
    rfl
  · obtain ⟨v, b, rfl, h⟩ := h
    refine ⟨_, (pss_cons (ps_if (PW.pt (pw_or (pt_not (pt_val (pe_callB call_isi rfl T.m_isinstance (by decide +kernel) (pa_cons (pv 0) (pa_cons (pe_bltn (v := .ty "tuple") (u := .type "tuple") rfl T.m_tuple (by decide +kernel) rfl) pa_nil))))) (pw_or1 (pt_cmpR op_ne (pe_callB call_len_seq rfl T.m_len (by decide +kernel) (pa_cons (pv 0) pa_nil)) pe_int (nomark _))))) (pss_one (ps_ret pe_bl)) pss_nil)
  (pss_cons (ps_asg (pv 0) (pg_tup rfl (pgs_cons (pg_name (i := 1) sc.nd rfl (Or.inl rfl)) (pgs_cons (pg_name (i := 2) sc.nd rfl (Or.inl rfl)) (pgs_cons (pg_name (i := 3) sc.nd rfl (Or.inl rfl)) pgs_nil)))))
  (pss_one (ps_ret (pe_and (pe_c C_is_name hr (by omega) rfl (pa_cons (pv 1) pa_nil)) (pe_and (pe_c C_is_side hr (by omega) rfl (pa_cons (pv 2) pa_nil)) (pe_one (pe_c C_is_words hr (by omega) rfl (pa_cons (pv 3) (pa_cons (pe_gc rfl T.g_MOST_BEGUN) pa_nil)))))))))), ?_⟩
    obtain ⟨⟨a, r, rfl, h1, h2⟩, ⟨z1, z2, z3⟩, q⟩ := h
    obtain ⟨t, t1, t2⟩ := tyc_tup (K := K) h1
    refine ⟨_, rfl, _, _, t, _, true, rfl, .ty _, t1, t2, true, rfl, ?_⟩
    refine iteF ⟨_, rfl, a, _, rfl, .inr (SqT.of h1), rfl, _, rfl, ?_⟩
    refine iteF ⟨_, rfl, a, _, rfl, SqT.of h1, rfl, _, _, rfl, _, _, rfl, _, _, rfl, rfl, ?_⟩
    refine ⟨_, rfl, b.1, rfl, z1, fun H1 g1 => ⟨letB b.1 8, rfl, ?_⟩⟩
    have e : boardB b = (letB b.1 8 && (within (.int b.2.1) 0 1 && rowB b.2.2 20)) := rfl
    cases e1 : letB b.1 8 with
    | false =>
      refine iteF ?_
      rw [e1, Bool.false_and] at e
      have q' := q H1 g1
      rw [e] at q'
      exact q'
    | true =>
      rw [e1, Bool.true_and] at e
      refine iteT ⟨_, rfl, _, rfl, tyi_int _, within (.int b.2.1) 0 1, rfl, ?_⟩
      cases e2 : within (.int b.2.1) 0 1 with
      | false =>
        refine iteF ?_
        rw [e2, Bool.false_and] at e
        have q' := q H1 g1
        rw [e] at q'
        exact q'
      | true =>
        rw [e2, Bool.true_and] at e
        refine iteT ⟨_, rfl, r, b.2.2, 20, rfl, g1 _ _ h2, z2, z3, fun H2 g2 => ?_⟩
        have q' := q H2 (g1.trans g2)
        rw [e] at q'
        exact q'
end
end K13
namespace K13
open PySem L2 Nm
open C8 (Cal Mak pe_c pe_mk pe_gc)
open RZ (ItzT pi_zipA)
section
variable {P : Program} {w : World} {K : PySem.W.Frag} {mg : Str → Option Value} {base : Heap}
def sp_names_of (K : PySem.W.Frag) : Sp := fun vs H Q _ => ∃ (a : Addr) (bs : List Bd), vs = [.ref a] ∧ BoardsAt H a bs ∧ bs.length < 64 ∧ ∀ H' p ys, Same H H' → H p = none → H' p = some (.tup (ys.map V.str)) → Names (bs.map (·.1)) ys → Q (.ref p) H'
theorem c_names_of (T : Txt K mg) : Cal P w K mg base 1 "names_of" (sp_names_of K) [] := by
  have sc := sc_names_of
  refine cal_of T.d_names_of sc (fun _ _ _ _ _ _ us hl => match us, hl with | [_], _ => rfl) (fun vs H Q E h => ?_) (fun f cdv A outer s H vs Q E hr h => ?_)
  · obtain ⟨a, bs, rfl, _⟩ := h
    rfl
  · obtain ⟨a, bs, rfl, h⟩ := h
    refine ⟨_, (pss_one (ps_ret (pe_callTy call_tuple_of rfl T.m_tuple (by decide +kernel) (pa_cons (pe_callB (Nm.cr_sortTx rfl) rfl T.m_sorted (by decide +kernel) (pa_cons (Nm.pe_nm (own := [("board", 1)]) (g := gName 1) rfl sc.nd (pi_tup (pv 0)) (blkOk_by (own := [("board", 1)]) (N := ["boards", "board"]) (sc := defScope s_names_of) (by decide +kernel)) (fun _ _ _ _ _ => (pg_name (i := 1) sc.nd rfl (Or.inl rfl))) (fun _ _ _ _ _ => (pe_ix (r := rIxT K) ix_tup (pv 1) pe_int (fun _ _ => rfl)))) pa_nil)) pa_nil)))), ?_⟩
    obtain ⟨⟨xs, ha, pr⟩, hl, q⟩ := h
    refine ⟨_, rfl, a, rfl, ⟨_, SqT.of ha⟩, fun D hD => ?_⟩
    refine nm_tup (K := K) (a := a) (xs := xs) (fun i H1 => H1 D = some (TxO w D (gathered ((bs.take i).map (·.1)))) ∧ Same H H1) ⟨upd_same, same_new hD⟩ (fun i H1 _ p => SqT.of (p.2 _ _ ha)) ?_ ?_
    · rintro i x H1 hx ⟨hl1, g⟩
      obtain ⟨b, hb, c, r, rfl, h1, h2⟩ := paired_at pr i x hx
      refine ⟨rfl, ?_⟩
      refine ⟨_, rfl, c, _, 0, .str b.1, rfl, rfl, SqT.of (g _ _ h1), rfl, b.1, _, rfl, hl1, ?_, ?_, ?_⟩
      · have z := (gathered_facts ((bs.take i).map (·.1))).2.2
        rw [List.length_map, List.length_take] at z
        have : (64 : Nat) + 1 < scanBound := by decide
        omega
      · rw [upd_same, take_one hb, List.map_append]
        show some (TxO w D (plus (gathered ((bs.take i).map (·.1))) b.1)) = some (TxO w D (gathered ((bs.take i).map (·.1) ++ [b.1])))
        rw [gathered_snoc]
      · exact same_mut g hD
    · rintro H1 ⟨hl1, g⟩
      have el : xs.length = bs.length := paired_len pr
      rw [el, List.take_length] at hl1
      obtain ⟨f1, f2, f3⟩ := gathered_facts (bs.map (·.1))
      rw [List.length_map] at f3
      refine ⟨D, _, rfl, hl1, by omega, fun ys p pm up hp => ?_⟩
      have g2 : Same H (upd H1 p (.lst (ys.map V.str))) := g.trans (same_new hp)
      refine ⟨p, _, rfl, .inl ⟨SqL.of upd_same, fun l hl => ?_⟩⟩
      refine q _ l ys (g2.trans (same_new hl)) (g2.free hl) upd_same ⟨up, pm.nodup_iff.mpr f1, fun x => ?_⟩
      rw [pm.mem_iff]
      exact f2 x
end
end K13
namespace K13
open PySem L2 Nm
open C8 (Cal Mak pe_c pe_mk pe_gc)
open RZ (ItzT pi_zipA)
section
variable {P : Program} {w : World} {K : PySem.W.Frag} {mg : Str → Option Value} {base : Heap}
def sp_Hall (K : PySem.W.Frag) (C : Addr) : Sp := fun vs H Q _ => ∃ (p dx a : Addr) (bs : List Bd), vs = [.ref p, .ref a] ∧ H p = some (.ins C dx []) ∧ BoardsAt H a bs ∧ (∀ b ∈ bs, boardB b = true ∧ smallBd b) ∧ 1 ≤ bs.length ∧ bs.length ≤ 12 ∧
  ∀ H' fs, H' p = some (.ins C dx fs) → fs.length ≤ 2 → HallAt K H' p bs → (∀ b o, H b = some o → b ≠ p → H' b = some o) → Q .non H'
theorem hall_ns {C : Addr} (T : Txt K mg) (h : mg "Hall" = some (.ref C)) : PySem.W.nsIn K mainGlobals "Hall" = some (some (.ref C)) := by
  obtain ⟨D, f, fd, HT, hm, _⟩ := T.hallN
  have e := h.symm.trans hm
  cases e
  exact HT.ns
theorem c_Hall (T : Txt K mg) : ∃ C, mg "Hall" = some (.ref C) ∧ Mak P w K mg base 5 "Hall" C (sp_Hall K C) [] := by
  obtain ⟨C, fi, fd, cl, mk, hm, F, nB, nN⟩ := T.cls_Hall
  have C_is_board := c_is_board (P := P) (w := w) (base := base) T
  have C_names_of := c_names_of (P := P) (w := w) (base := base) T
  have sc := sc_Hall___init__
  refine ⟨C, hm, ⟨fi, fd, ["self", "boards"], [], mk, F.ok (k := 4) sc (fun vs H Q E h => ?_) (fun cdv A outer s H vs Q E hr h => ?_), hm, F.binds fun _ _ _ _ _ _ us hl => match us, hl with | [_, _], _ => rfl, .nil⟩⟩
  · obtain ⟨p, dx, a, bs, rfl, _⟩ := h
    rfl
  · obtain ⟨p, dx, a, bs, rfl, hp, hb, ok, l1, l12, q⟩ := h
    obtain ⟨xs, ha, pr⟩ := id hb
    have el : xs.length = bs.length := paired_len pr
    obtain ⟨t, t1, t2⟩ := tyc_tup (K := K) ha
    refine ⟨_, (pss_cons (ps_if (PW.pt (pw_or (pt_not (pt_val (pe_callB call_isi rfl T.m_isinstance (by decide +kernel) (pa_cons (pv 1) (pa_cons (pe_bltn (v := .ty "tuple") (u := .type "tuple") rfl T.m_tuple (by decide +kernel) rfl) pa_nil))))) (pw_or1 (pt_not (pt_chain op_le op_le pe_int (pe_callB call_len_seq rfl T.m_len (by decide +kernel) (pa_cons (pv 1) pa_nil)) (pe_gc rfl T.g_MOST_BOARDS)))))) (pss_one ps_never) pss_nil)
  (pss_cons (ps_for PassesOwn.never rfl (Nm.pi_enuT rfl T.m_enumerate (pa_cons (pv 1) pa_nil)) (pg_tup rfl (pgs_cons (pg_name (i := 2) sc.nd rfl (Or.inl rfl)) (pgs_cons (pg_name (i := 3) sc.nd rfl (Or.inl rfl)) pgs_nil))) (pss_one (ps_if (pt_not (pt_val (pe_c C_is_board hr (by omega) rfl (pa_cons (pv 3) pa_nil)))) (pss_one ps_never) pss_nil)))
  (pss_cons (ps_fld (pv 0) (pv 1) rfl)
  (pss_one (ps_fld (pv 0) (pe_c C_names_of hr (by omega) rfl (pa_cons (pv 1) pa_nil)) rfl))))), ?_⟩
    refine ⟨_, rfl, _, _, t, _, true, rfl, .ty _, t1, t2, true, rfl, ?_⟩
    refine iteF ⟨_, rfl, a, _, rfl, .inr (SqT.of ha), _, _, rfl, rfl, decide (1 ≤ (xs.length : Int)), rfl, ?_⟩
    rw [decide_eq_true (show 1 ≤ (xs.length : Int) by omega)]
    refine iteT ⟨_, _, rfl, rfl, decide ((xs.length : Int) ≤ 12), rfl, ?_⟩
    rw [decide_eq_true (show (xs.length : Int) ≤ 12 by omega)]
    refine iteF ?_
    refine ⟨_, rfl, a, xs, rfl, SqT.of ha, ?_⟩
    refine for_it walk_itu (fun i σ H1 => ∃ v2 v3, σ = [some (.ref p), some (.ref a), v2, v3] ∧ Same H H1) ⟨none, none, rfl, Same.refl H⟩ (fun i σ H1 _ ⟨_, _, _, g⟩ => SqT.of (g _ _ ha)) ?_ ?_
    · rintro i x σ H1 H2 hi ⟨v2, v3, rfl, g⟩ ⟨tp, x1, y, rfl, hn, rfl, e1, e2⟩
      obtain ⟨b, hb1, hb2⟩ := paired_at pr i y e2
      have g1 : Same H (upd H1 tp (.tup [x1, y])) := g.trans (same_new hn)
      refine ⟨tp, [x1, y], rfl, SqT.of upd_same, rfl, _, _, rfl, _, _, rfl, rfl, ?_⟩
      obtain ⟨o1, o2⟩ := ok b (List.mem_of_getElem? hb1)
      refine ⟨_, rfl, y, b, rfl, hb2.mono (same_tups g1), o2, fun H3 g3 => ⟨boardB b, rfl, ?_⟩⟩
      rw [o1]
      exact iteF ⟨_, _, rfl, g1.trans g3⟩
    · rintro σ H1 ⟨v2, v3, rfl, g⟩
      refine ⟨_, rfl, _, rfl, p, C, dx, [], rfl, g _ _ hp, cl, nB, (by show 0 < 1000; decide), ?_⟩
      have pa : a ≠ p := fun e => by
        rw [e, hp] at ha
        cases ha
      have other : ∀ {H5 : Hp} {o : HO}, Same H H5 → ∀ b u, H b = some u → b ≠ p → upd H5 p o b = some u := fun g5 b u hu hne => by
        rw [upd_ne hne]
        exact g5 b u hu
      have tups : ∀ b ys, H b = some (.tup ys) → b ≠ p := fun b ys hy e => by
        rw [e, hp] at hy
        cases hy
      refine ⟨_, rfl, a, bs, rfl, hb.mono (fun b ys hy => other g b _ hy (tups b ys hy)), by omega, fun H2 n ys g2 hn h2 nm => ?_⟩
      have hp2 : H2 p = some (.ins C dx (putF "boards" (.ref a) [])) := g2 _ _ upd_same
      refine ⟨_, rfl, p, C, dx, _, rfl, hp2, cl, nN, (by show 1 < 1000; decide), ?_⟩
      have pn : n ≠ p := fun e => by
        rw [e, hp2] at h2
        cases h2
      refine q _ _ upd_same (Nat.le_trans (putF_len _ _ _) (Nat.succ_le_succ (putF_len _ _ _))) ⟨C, dx, _, a, n, ys, cl, nB, nN, upd_same, ?_, ?_, ?_, ?_, nm⟩ ?_
      · rw [lookup_putF, if_neg nb_ne, lookup_putF, if_pos rfl]
      · rw [lookup_putF, if_pos rfl]
      · refine hb.mono fun b zs hz => ?_
        rw [upd_ne (tups b zs hz)]
        exact g2 _ _ (other g b _ hz (tups b zs hz))
      · rw [upd_ne pn]
        exact h2
      · intro b o ho hne
        rw [upd_ne hne]
        exact g2 _ _ (other g b o ho hne)
end
end K13
namespace K13
open PySem L2 Nm
open C8 (Cal Mak pe_c pe_mk pe_gc)
open RZ (ItzT pi_zipA)
section
variable {P : Program} {w : World} {K : PySem.W.Frag} {mg : Str → Option Value} {base : Heap}
def sp__law_tape (K : PySem.W.Frag) : Sp := fun vs H Q _ => ∃ (a : Addr), vs = [.ref a] ∧ ∃ ns : List Int, SqL K H a (ns.map V.int) ∧ ∀ tp l H', Same H H' → H tp = none → TapeAt H' tp l → Q (.ref tp) H'
theorem c__law_tape (T : Txt K mg) : Cal P w K mg base 1 "_law_tape" (sp__law_tape K) [] := by
  have sc := sc__law_tape
  refine cal_of T.d__law_tape sc (fun _ _ _ _ _ _ us hl => match us, hl with | [_], _ => rfl) (fun vs H Q E h => ?_) (fun f cdv A outer s H vs Q E hr h => ?_)
  · obtain ⟨a, rfl, _⟩ := h
    rfl
  · obtain ⟨a, rfl, h⟩ := h
    refine ⟨_, (pss_one (ps_ret (pe_lst (pa_cons (pe_callTy call_list_of rfl T.m_list (by decide +kernel) (pa_cons (pv 0) pa_nil)) (pa_cons pe_int (pa_cons pe_int (pa_cons pe_int (pa_cons pe_int pa_nil)))))))), ?_⟩
    obtain ⟨ns, hs, q⟩ := h
    refine ⟨_, rfl, a, _, rfl, .inl hs, fun l hl => ⟨(by show 5 ≤ PySem.sizeLine; decide), fun tp ht => ?_⟩⟩
    have g1 : Same H (upd H l (.lst (ns.map V.int))) := same_new hl
    exact q tp l _ (g1.trans (same_new ht)) (g1.free ht) ⟨ns, 0, 0, 1, 0, upd_same, same_new ht _ _ upd_same, Int.le_refl 0⟩
end
end K13
namespace K13
open PySem L2 Nm
open C8 (Cal Mak pe_c pe_mk pe_gc)
open RZ (ItzT pi_zipA)
section
variable {P : Program} {w : World} {K : PySem.W.Frag} {mg : Str → Option Value} {base : Heap}
def sp__law_pick (K : PySem.W.Frag) : Sp := fun vs H Q _ => ∃ (tp : Addr) (size : Int), vs = [.ref tp, .int size] ∧ ∃ l, TapeAt H tp l ∧ 1 ≤ size ∧ size ≤ 1000 ∧ ∀ r H', 0 ≤ r → r < size → TapeAt H' tp l → Mov tp H H' → Q (.int r) H'
theorem c__law_pick (T : Txt K mg) : Cal P w K mg base 1 "_law_pick" (sp__law_pick K) [] := by
  have sc := sc__law_pick
  refine cal_of T.d__law_pick sc (fun _ _ _ _ _ _ us hl => match us, hl with | [_, _], _ => rfl) (fun vs H Q E h => ?_) (fun f cdv A outer s H vs Q E hr h => ?_)
  · obtain ⟨tp, size, rfl, _⟩ := h
    rfl
  · obtain ⟨tp, size, rfl, h⟩ := h
    refine ⟨_, (pss_cons (ps_if (pt_cmpR op_gt (pe_ix ix_list (pv 0) pe_int (fun _ _ => rfl)) pe_int (nomark _)) (pss_cons (ps_set (i := 2) sc.nd rfl (Or.inl rfl) (pe_op op_mod (pe_callTy call_int1 rfl T.m_int (by decide +kernel) (pa_cons (pe_ix ix_list (pv 0) pe_int (fun _ _ => rfl)) pa_nil)) (pv 1)))
  (pss_cons (ps_asg (pe_op op_fdiv (pe_ix ix_list (pv 0) pe_int (fun _ _ => rfl)) (pv 1)) (pg_sub (pv 0) pe_int set_list))
  (pss_one (ps_ret (pv 2))))) pss_nil)
  (pss_cons (ps_asg (pe_op op_add (pe_ix ix_list (pv 0) pe_int (fun _ _ => rfl)) pe_int) (pg_sub (pv 0) pe_int set_list))
  (pss_cons (ps_set (i := 3) sc.nd rfl (Or.inl rfl) pe_int)
  (C8.pss_cut (ps_if (pt_cmpR op_lt (pe_ix ix_list (pv 0) pe_int (fun _ _ => rfl)) (pe_callB call_len_seq rfl T.m_len (by decide +kernel) (pa_cons (pe_ix ix_list (pv 0) pe_int (fun _ _ => rfl)) pa_nil)) (nomark _)) (pss_cons (ps_set (i := 3) sc.nd rfl (Or.inl rfl) (pe_ix ix_list (pe_ix ix_list (pv 0) pe_int (fun _ _ => rfl)) (pe_ix ix_list (pv 0) pe_int (fun _ _ => rfl)) (fun _ _ => rfl)))
  (pss_one (ps_asg (pe_op op_add (pe_ix ix_list (pv 0) pe_int (fun _ _ => rfl)) pe_int) (pg_sub (pv 0) pe_int set_list)))) pss_nil)
  (pss_cons (ps_if (pt_cmpR op_ge (pv 3) (pe_op op_pow pe_int pe_int) (nomark _)) (pss_cons (ps_asg (pe_op op_fdiv (pv 3) (pv 1)) (pg_sub (pv 0) pe_int set_list))
  (pss_one (ps_ret (pe_op op_mod (pe_callTy call_int1 rfl T.m_int (by decide +kernel) (pa_cons (pv 3) pa_nil)) (pv 1))))) pss_nil)
  (pss_cons (ps_set (i := 4) sc.nd rfl (Or.inl rfl) (pe_op op_mod (pe_callTy call_int1 rfl T.m_int (by decide +kernel) (pa_cons (pe_op op_add (pe_op op_add (pe_op op_mul (pe_ix ix_list (pv 0) pe_int (fun _ _ => rfl)) pe_int) (pe_op op_mod (pe_callTy call_int1 rfl T.m_int (by decide +kernel) (pa_cons (pv 3) pa_nil)) pe_int)) (pe_op op_mul (pe_ix ix_list (pv 0) pe_int (fun _ _ => rfl)) pe_int)) pa_nil)) pe_int))
  (pss_cons (ps_set (i := 4) sc.nd rfl (Or.inl rfl) (pe_op op_mod (pe_callTy call_int1 rfl T.m_int (by decide +kernel) (pa_cons (pe_op op_mul (pv 4) (pe_op op_add (pe_op op_fdiv (pv 4) pe_int) pe_int)) pa_nil)) pe_int))
  (pss_cons (ps_asg (pv 4) (pg_sub (pv 0) pe_int set_list))
  (pss_one (ps_ret (pe_op op_mod (pe_callTy call_int1 rfl T.m_int (by decide +kernel) (pa_cons (pe_op op_fdiv (pv 4) pe_int) pa_nil)) (pv 1)))))))))))), ?_⟩
    obtain ⟨l, ⟨ns, i, c, m, n, ht, hl, h0⟩, s1, s2, q⟩ := h
    have nl : l ≠ tp := tape_ne ht hl
    have pos : (0 : Int) < size := by omega
    refine ⟨_, rfl, tp, _, 2, .int c, rfl, rfl, SqL.of ht, rfl, _, _, rfl, rfl, _, rfl, ?_⟩
    refine ite2 (fun _ => ?_) (fun _ => ?_)
    · refine ⟨_, rfl, tp, _, 2, .int c, rfl, rfl, SqL.of ht, rfl, .inl ⟨c, rfl, _, rfl, c, size, rfl, rfl, pos, ?_⟩⟩
      refine ⟨_, rfl, tp, _, 2, .int c, rfl, rfl, SqL.of ht, rfl, _, rfl, c, size, rfl, rfl, ⟨pos, by omega⟩, ?_⟩
      refine ⟨_, rfl, tp, _, 2, 2, rfl, rfl, ht, rfl, _, rfl, ?_⟩
      exact q _ _ (Int.emod_nonneg _ (by omega)) (Int.emod_lt_of_pos _ pos) ⟨ns, i, c / size, m, n, upd_same, by rw [upd_ne nl]; exact hl, h0⟩ mov_upd
    · refine ⟨_, rfl, tp, _, 4, .int n, rfl, rfl, SqL.of ht, rfl, n, 1, rfl, rfl, _, rfl, tp, _, 4, 4, rfl, rfl, ht, rfl, ?_⟩
      have ht1 : upd H tp (.lst [.ref l, .int i, .int c, .int m, .int (n + 1)]) tp = some (.lst [.ref l, .int i, .int c, .int m, .int (n + 1)]) := upd_same
      have hl1 : upd H tp (.lst [.ref l, .int i, .int c, .int m, .int (n + 1)]) l = some (.lst (ns.map V.int)) := by
        rw [upd_ne nl]
        exact hl
      refine ⟨fun σ H1 => ∃ cell j, σ = [some (.ref tp), some (.int size), none, some (.int cell), none] ∧ 0 ≤ j ∧ H1 tp = some (.lst [.ref l, .int j, .int c, .int m, .int (n + 1)]) ∧ H1 l = some (.lst (ns.map V.int)) ∧ Mov tp H H1, ?_, ?_⟩
      · refine ⟨_, rfl, tp, _, 1, .int i, rfl, rfl, SqL.of ht1, rfl, _, rfl, tp, _, 0, .ref l, rfl, rfl, SqL.of ht1, rfl, l, _, rfl, .inl (SqL.of hl1), _, _, rfl, rfl, _, rfl, ?_⟩
        rw [List.length_map]
        refine ite2 (fun z => ?_) (fun _ => ?_)
        · have z' : i < (ns.length : Int) := of_decide_eq_true z
          have at1 : atI (ns.map V.int) i = some (V.int (ns.getD i.toNat 0)) := by
            have e : i = ((i.toNat : Nat) : Int) := by omega
            rw [e, Int.toNat_natCast]
            exact at_getD (by omega)
          refine ⟨_, rfl, tp, _, 0, .ref l, rfl, rfl, SqL.of ht1, rfl, _, rfl, tp, _, 1, .int i, rfl, rfl, SqL.of ht1, rfl, l, _, i, _, rfl, rfl, SqL.of hl1, at1, ?_⟩
          refine ⟨_, rfl, tp, _, 1, .int i, rfl, rfl, SqL.of ht1, rfl, i, 1, rfl, rfl, _, rfl, tp, _, 1, 1, rfl, rfl, ht1, rfl, ?_⟩
          exact ⟨_, i + 1, rfl, by omega, upd_same, by rw [upd_ne nl]; exact hl1, mov_upd.trans mov_upd⟩
        · exact ⟨0, i, rfl, h0, ht1, hl1, mov_upd⟩
      · rintro σ H1 ⟨cell, j, rfl, j0, ht2, hl2, mv⟩
        refine ⟨_, rfl, _, _, rfl, rfl, ⟨by decide, by decide, by decide⟩, _, _, rfl, rfl, _, rfl, ?_⟩
        refine ite2 (fun _ => ?_) (fun _ => ?_)
        · refine ⟨_, rfl, _, rfl, cell, size, rfl, rfl, ⟨pos, by omega⟩, _, rfl, tp, _, 2, 2, rfl, rfl, ht2, rfl, ?_⟩
          refine ⟨_, rfl, .inl ⟨cell, rfl, _, rfl, cell, size, rfl, rfl, pos, ?_⟩⟩
          exact q _ _ (Int.emod_nonneg _ (by omega)) (Int.emod_lt_of_pos _ pos) ⟨ns, j, cell / size, m, n + 1, upd_same, by rw [upd_ne nl]; exact hl2, j0⟩ (mv.trans mov_upd)
        · refine ⟨_, rfl, tp, _, 3, .int m, rfl, rfl, SqL.of ht2, rfl, _, _, rfl, rfl, .inr ⟨by decide, by decide⟩, _, rfl, .inl ⟨cell, rfl, cell, _, rfl, rfl, (by show (0 : Int) < _; decide), ?_⟩⟩
          refine ⟨_, _, rfl, rfl, _, rfl, tp, _, 4, .int (n + 1), rfl, rfl, SqL.of ht2, rfl, _, _, rfl, rfl, .inr ⟨by decide, by decide⟩, ?_⟩
          refine ⟨_, _, rfl, rfl, .inl ⟨_, rfl, _, _, rfl, rfl, (by show (0 : Int) < _; decide), ?_⟩⟩
          have x0 : 0 ≤ (m * 48271 + cell % 2147483629 + (n + 1) * 69621) % 2147483647 := Int.emod_nonneg _ (by decide)
          have x1 : (m * 48271 + cell % 2147483629 + (n + 1) * 69621) % 2147483647 < 2147483647 := Int.emod_lt_of_pos _ (by decide)
          refine ⟨_, rfl, _, rfl, _, _, rfl, rfl, ⟨by decide, by decide⟩, _, _, rfl, rfl, _, _, rfl, rfl, .inl ⟨by omega, by omega⟩, .inl ⟨_, rfl, _, _, rfl, rfl, (by show (0 : Int) < _; decide), ?_⟩⟩
          refine ⟨_, rfl, _, rfl, tp, _, 3, 3, rfl, rfl, ht2, rfl, ?_⟩
          refine ⟨_, rfl, _, _, rfl, rfl, ⟨by decide, by decide⟩, .inl ⟨_, rfl, _, rfl, _, size, rfl, rfl, pos, ?_⟩⟩
          exact q _ _ (Int.emod_nonneg _ (by omega)) (Int.emod_lt_of_pos _ pos) ⟨ns, j, c, _, n + 1, upd_same, by rw [upd_ne nl]; exact hl2, j0⟩ (mv.trans mov_upd)
end
end K13
namespace K13
open PySem L2 Nm
open C8 (Cal Mak pe_c pe_mk pe_gc)
open RZ (ItzT pi_zipA)
section
variable {P : Program} {w : World} {K : PySem.W.Frag} {mg : Str → Option Value} {base : Heap}
def sp_hall_of (K : PySem.W.Frag) : Sp := fun vs H Q _ => ∃ (a : Addr), vs = [.ref a] ∧ ∃ bs, BoardsAt H a bs ∧ (∀ b ∈ bs, okB b) ∧ 1 ≤ bs.length ∧ bs.length ≤ 60 ∧ ∀ p H', HallOf K H' p bs → Same H H' → Q (.ref p) H'
theorem c_hall_of (T : Txt K mg) : Cal P w K mg base 7 "hall_of" (sp_hall_of K) [] := by
  obtain ⟨C, hmC, C_Hall⟩ := c_Hall (P := P) (w := w) (base := base) T
  have C_names_of := c_names_of (P := P) (w := w) (base := base) T
  have sc := sc_hall_of
  refine cal_of (k := 6) T.d_hall_of sc (fun _ _ _ _ _ _ us hl => match us, hl with | [_], _ => rfl) (fun vs H Q E h => ?_) (fun f cdv A outer s H vs Q E hr h => ?_)
  · obtain ⟨a, rfl, _⟩ := h
    rfl
  · obtain ⟨a, rfl, bs, hb, ok, l1, l60, q⟩ := h
    obtain ⟨xs, ha, pr⟩ := id hb
    refine ⟨_, (pss_cons (ps_set (i := 1) sc.nd rfl (Or.inl rfl) (pe_mk C_Hall hr (by omega) rfl (pa_cons (pe_slice sl_tupA (pv 0) po_none (po_some pe_int)) pa_nil)))
  (pss_cons (ps_fld (pv 1) (pv 0) rfl)
  (pss_cons (ps_fld (pv 1) (pe_c C_names_of hr (by omega) rfl (pa_cons (pv 0) pa_nil)) rfl)
  (pss_one (ps_ret (pv 1)))))), ?_⟩
    refine ⟨_, rfl, _, rfl, sl_take (k := 1) ha fun r H1 g1 hr1 => ?_⟩
    intro x dx hx hdx ne
    have g2 : Same H1 (upd (upd H1 dx (.own x)) x (.ins C dx [])) := fun c o ho => by
      rw [upd_ne (ne_of_none ho hx), upd_ne (ne_of_none ho hdx)]
      exact ho
    have g02 := g1.trans g2
    refine ⟨x, dx, r, bs.take 1, rfl, upd_same, ⟨xs.take 1, g2 _ _ hr1, paired_take (paired_mono (fun _ _ z => z.mono (same_tups g02)) pr) 1⟩, fun b hm => ok b (List.mem_of_mem_take hm), by rw [List.length_take]; omega, by rw [List.length_take]; omega, fun H4 fs h4 lf hh kp => ⟨rfl, ?_⟩⟩
    obtain ⟨C', dx', fs', a', n', ys', cl, nB, nN, h4', _⟩ := hh
    rw [h4] at h4'
    cases h4'
    have keep : ∀ b o, H b = some o → b ≠ x := fun b o ho => ne_of_none (g1 _ _ ho) hx
    have g4 : Same H H4 := fun b o ho => kp b o (g02 _ _ ho) (keep b o ho)
    refine ⟨_, rfl, _, rfl, x, C, dx, fs, rfl, h4, cl, nB, by omega, ?_⟩
    have g5 : Same H (upd H4 x (.ins C dx (putF "boards" (.ref a) fs))) := fun b o ho => by
      rw [upd_ne (keep b o ho)]
      exact g4 b o ho
    refine ⟨_, rfl, a, bs, rfl, hb.mono (same_tups g5), by omega, fun H6 n ys g6 hn h6 nm => ?_⟩
    have hx6 : H6 x = some (.ins C dx (putF "boards" (.ref a) fs)) := g6 _ _ upd_same
    have l5 := putF_len "boards" (.ref a) fs
    refine ⟨_, rfl, x, C, dx, _, rfl, hx6, cl, nN, by omega, _, rfl, ?_⟩
    have g7 : Same H (upd H6 x (.ins C dx (putF "names" (.ref n) (putF "boards" (.ref a) fs)))) := fun b o ho => by
      rw [upd_ne (keep b o ho)]
      exact g6 _ _ (g5 b o ho)
    have nx : n ≠ x := fun e => by
      rw [e, hx6] at h6
      cases h6
    refine q x _ ⟨⟨C, dx, _, a, n, ys, cl, nB, nN, upd_same, ?_, ?_, hb.mono (same_tups g7), ?_, nm⟩, C, dx, _, hall_ns T hmC, upd_same⟩ g7
    · rw [lookup_putF, if_neg nb_ne, lookup_putF, if_pos rfl]
    · rw [lookup_putF, if_pos rfl]
    · rw [upd_ne nx]
      exact h6
end
end K13
namespace K13
open PySem L2 Nm
open C8 (Cal Mak pe_c pe_mk pe_gc)
open RZ (ItzT pi_zipA)
section
variable {P : Program} {w : World} {K : PySem.W.Frag} {mg : Str → Option Value} {base : Heap}
def sp_turned (K : PySem.W.Frag) : Sp := fun vs H Q _ => ∃ (h0 : Addr), vs = [.ref h0] ∧ ∃ bs, HallAt K H h0 bs ∧ (∀ b ∈ bs, okB b) ∧ 1 ≤ bs.length ∧ bs.length ≤ 60 ∧ ∀ p H', HallOf K H' p (bs.map turnB) → Same H H' → Q (.ref p) H'
theorem c_turned (T : Txt K mg) : Cal P w K mg base 8 "turned" (sp_turned K) [] := by
  have C_hall_of := c_hall_of (P := P) (w := w) (base := base) T
  have sc := sc_turned
  refine cal_of T.d_turned sc (fun _ _ _ _ _ _ us hl => match us, hl with | [_], _ => rfl) (fun vs H Q E h => ?_) (fun f cdv A outer s H vs Q E hr h => ?_)
  · obtain ⟨h0, rfl, _⟩ := h
    rfl
  · obtain ⟨h0, rfl, h⟩ := h
    obtain ⟨bs, hH, ok, l1, l60, q⟩ := h
    obtain ⟨C, dx, fs, a, n, ys, cl, nB, nN, hp, fb, fn, ⟨xs, ha, pr⟩, hn', nm⟩ := id hH
    have el : xs.length = bs.length := paired_len pr
    refine ⟨_, (pss_one (ps_ret (pe_c C_hall_of hr (by omega) rfl (pa_cons (pe_callTy call_tuple_of rfl T.m_tuple (by decide +kernel) (pa_cons (pe_lc (own := [("name", 1), ("side", 2), ("begun", 3)]) (g := gTup K 3 (gCons (gName 1) (gCons (gName 2) (gCons (gName 3) gNil)))) rfl sc.nd (pi_tup (pe_fld (pv 0) rfl)) (blkOk_by (own := [("name", 1), ("side", 2), ("begun", 3)]) (N := ["hall", "name", "side", "begun"]) (sc := defScope s_turned) (by decide +kernel)) (fun _ _ _ _ _ => (pg_tup rfl (pgs_cons (pg_name (i := 1) sc.nd rfl (Or.inl rfl)) (pgs_cons (pg_name (i := 2) sc.nd rfl (Or.inl rfl)) (pgs_cons (pg_name (i := 3) sc.nd rfl (Or.inl rfl)) pgs_nil))))) (fun _ _ _ _ _ => pts_nil) (fun _ _ _ _ _ => (pe_tup (pa_cons (pv 1) (pa_cons (pe_op op_sub pe_int (pv 2)) (pa_cons (pv 3) pa_nil)))))) pa_nil)) pa_nil)))), ?_⟩
    refine ⟨_, rfl, h0, C, dx, fs, _, rfl, hp, cl, nB, fb, a, rfl, ⟨_, SqT.of ha⟩, fun D hD => ?_⟩
    refine lc_tup (K := K) (a := a) (xs := xs) (fun i H1 => ∃ zs, H1 D = some (.lst zs) ∧ Paired (BoardAt H1) zs ((bs.take i).map turnB) ∧ zs.length ≤ i ∧ Same H H1) ⟨[], upd_same, .nil, Nat.zero_le _, same_new hD⟩ (fun i H1 _ ⟨_, _, _, _, g⟩ => SqT.of (g _ _ ha)) ?_ ?_
    · rintro i x H1 hx ⟨zs, h1, pz, lz, g⟩
      obtain ⟨b, hb, c, r, rfl, hc, hr1⟩ := paired_at pr i x hx
      have hi : i < xs.length := (List.getElem?_eq_some_iff.mp hx).1
      refine ⟨c, _, rfl, SqT.of (g _ _ hc), rfl, _, _, rfl, _, _, rfl, _, _, rfl, rfl, rfl, ?_⟩
      refine ⟨_, rfl, _, rfl, _, _, rfl, rfl, _, rfl, (by show 3 ≤ PySem.sizeLine; decide), fun t ht => ?_⟩
      have g2 := same_new (o := .tup [V.str b.1, V.int (1 - b.2.1), V.ref r]) ht
      refine ⟨zs, g2 _ _ h1, ?_, zs ++ [.ref t], upd_same, ?_, by rw [List.length_append]; exact Nat.succ_le_succ lz, same_mut (g.trans g2) hD⟩
      · have b1 : (1000 : Nat) < PySem.sizeLine := by decide
        omega
      · rw [take_one hb, List.map_append]
        have kd : ∀ e us, upd H1 t (.tup [V.str b.1, V.int (1 - b.2.1), V.ref r]) e = some (.tup us) → upd (upd H1 t (.tup [V.str b.1, V.int (1 - b.2.1), V.ref r])) D (.lst (zs ++ [.ref t])) e = some (.tup us) := fun e us he => by
          rw [upd_ne (fun z => by rw [z, g2 _ _ h1] at he; cases he)]
          exact he
        refine paired_snoc (paired_mono (fun _ _ z => (z.mono (same_tups g2)).mono kd) pz) ⟨t, r, rfl, kd _ _ upd_same, kd _ _ (g2 _ _ (g _ _ hr1))⟩
    · rintro H1 ⟨zs, h1, pz, lz, g⟩
      rw [el, List.take_length] at pz
      refine ⟨D, zs, rfl, .inl ⟨SqL.of h1, fun p hp1 => ?_⟩⟩
      have g2 := same_new (o := .tup zs) hp1
      refine ⟨p, rfl, bs.map turnB, ⟨zs, upd_same, paired_mono (fun _ _ z => z.mono (same_tups g2)) pz⟩, fun b hb => ?_, by rw [List.length_map]; exact l1, by rw [List.length_map]; exact l60, fun p' H' hh g3 => q p' H' hh ((g.trans g2).trans g3)⟩
      obtain ⟨b', hb', rfl⟩ := List.mem_map.mp hb
      exact (ok b' hb').turn
end
end K13
namespace K13
open PySem L2 Nm
open C8 (Cal Mak pe_c pe_mk pe_gc)
open RZ (ItzT pi_zipA)
section
variable {P : Program} {w : World} {K : PySem.W.Frag} {mg : Str → Option Value} {base : Heap}
def sp_joined (K : PySem.W.Frag) : Sp := fun vs H Q _ => ∃ (h0 h1 : Addr), vs = [.ref h0, .ref h1] ∧ ∃ bs cs, HallAt K H h0 bs ∧ HallAt K H h1 cs ∧ (∀ b ∈ bs, okB b) ∧ (∀ b ∈ cs, okB b) ∧ 1 ≤ bs.length ∧ bs.length + cs.length ≤ 60 ∧ ∀ p H', HallOf K H' p (bs ++ cs) → Same H H' → Q (.ref p) H'
theorem c_joined (T : Txt K mg) : Cal P w K mg base 8 "joined" (sp_joined K) [] := by
  have C_hall_of := c_hall_of (P := P) (w := w) (base := base) T
  have sc := sc_joined
  refine cal_of T.d_joined sc (fun _ _ _ _ _ _ us hl => match us, hl with | [_, _], _ => rfl) (fun vs H Q E h => ?_) (fun f cdv A outer s H vs Q E hr h => ?_)
  · obtain ⟨h0, h1, rfl, _⟩ := h
    rfl
  · obtain ⟨h0, h1, rfl, h⟩ := h
    obtain ⟨bs, cs, hH, hH2, ok, ok2, l1, l60, q⟩ := h
    obtain ⟨C, dx, fs, a, n, ys, cl, nB, nN, hp, fb, fn, ⟨xs, ha, pr⟩, hn', nm⟩ := id hH
    obtain ⟨C2, dx2, fs2, a2, n2, ys2, cl2, nB2, nN2, hp2, fb2, fn2, ⟨xs2, ha2, pr2⟩, hn2', nm2⟩ := id hH2
    have el : xs.length = bs.length := paired_len pr
    have el2 : xs2.length = cs.length := paired_len pr2
    refine ⟨_, (pss_one (ps_ret (pe_c C_hall_of hr (by omega) rfl (pa_cons (pe_op op_catA (pe_fld (pv 0) rfl) (pe_fld (pv 1) rfl)) pa_nil)))), ?_⟩
    refine ⟨_, rfl, h0, C, dx, fs, _, rfl, hp, cl, nB, fb, _, rfl, h1, C2, dx2, fs2, _, rfl, hp2, cl2, nB2, fb2, cat_tups ha ha2 (by omega) fun r H1 g hr1 => ?_⟩
    refine ⟨r, rfl, bs ++ cs, ⟨xs ++ xs2, hr1, paired_mono (fun _ _ z => z.mono (same_tups g)) (paired_app pr pr2)⟩, fun b hb => ?_, by rw [List.length_append]; omega, by rw [List.length_append]; omega, fun p' H' hh g3 => q p' H' hh (g.trans g3)⟩
    rcases List.mem_append.mp hb with z | z
    · exact ok b z
    · exact ok2 b z
end
end K13
namespace K13
open PySem L2 Nm
open C8 (Cal Mak pe_c pe_mk pe_gc)
open RZ (ItzT pi_zipA)
theorem at_ok {xs : List V} {r : Int} (h0 : 0 ≤ r) (h1 : r < (xs.length : Int)) : ∃ x, atI xs r = some x ∧ x ∈ xs := by
  obtain ⟨k, rfl⟩ : ∃ k : Nat, r = (k : Int) := ⟨r.toNat, by omega⟩
  have e : xs[k]? = some (xs[k]'(by omega)) := List.getElem?_eq_getElem (by omega)
  exact ⟨_, atI_nat e, List.mem_of_getElem? e⟩
section
variable {P : Program} {w : World} {K : PySem.W.Frag} {mg : Str → Option Value} {base : Heap}
def sp__law_some (K : PySem.W.Frag) : Sp := fun vs H Q _ => ∃ (tp p : Addr), vs = [.ref tp, .ref p] ∧ ∃ l xs, TapeAt H tp l ∧ H p = some (.lst xs) ∧ p ≠ tp ∧ 1 ≤ xs.length ∧ xs.length ≤ 1000 ∧ ∀ (x : V) (H' : Hp), x ∈ xs → TapeAt H' tp l → Mov tp H H' → Q x H'
theorem c__law_some (T : Txt K mg) : Cal P w K mg base 2 "_law_some" (sp__law_some K) [] := by
  have C__law_pick := c__law_pick (P := P) (w := w) (base := base) T
  have sc := sc__law_some
  refine cal_of T.d__law_some sc (fun _ _ _ _ _ _ us hl => match us, hl with | [_, _], _ => rfl) (fun vs H Q E h => ?_) (fun f cdv A outer s H vs Q E hr h => ?_)
  · obtain ⟨tp, p, rfl, _⟩ := h
    rfl
  · obtain ⟨tp, p, rfl, h⟩ := h
    refine ⟨_, (pss_one (ps_ret (pe_ix ix_list (pv 1) (pe_c C__law_pick hr (by omega) rfl (pa_cons (pv 0) (pa_cons (pe_callB call_len_seq rfl T.m_len (by decide +kernel) (pa_cons (pv 1) pa_nil)) pa_nil))) (fun _ _ => rfl)))), ?_⟩
    obtain ⟨l, xs, t, hp, np, l1, l2', q⟩ := h
    refine ⟨_, rfl, _, rfl, _, rfl, p, _, rfl, .inl (SqL.of hp), tp, _, rfl, l, t, by omega, by omega, fun r H1 r0 r1 t1 mv => ?_⟩
    obtain ⟨x, hx, mx⟩ := at_ok r0 r1
    exact ⟨p, _, r, x, rfl, rfl, SqL.of (mv _ _ hp np), hx, q x H1 mx t1 mv⟩
end
end K13
namespace K13
open PySem L2 Nm
open C8 (Cal Mak pe_c pe_mk pe_gc)
open RZ (ItzT pi_zipA)
def wordOk (z : Str) : Prop := letB z 20 = true ∧ z.length ≤ 1000
theorem few_ok : ∀ x ∈ [V.str "a", V.str "b", V.str "c", V.str "a", V.str "b", V.str "ab", V.str "zz", V.str "c", V.str "aa", V.str "qwertyuiopasdfghjklz"], ∃ z, x = .str z ∧ wordOk z := by
  intro x hx
  simp only [List.mem_cons, List.not_mem_nil, or_false] at hx
  rcases hx with rfl | rfl | rfl | rfl | rfl | rfl | rfl | rfl | rfl | rfl <;> exact ⟨_, rfl, by decide +kernel, by decide +kernel⟩
section
variable {P : Program} {w : World} {K : PySem.W.Frag} {mg : Str → Option Value} {base : Heap}
def sp__law_word (K : PySem.W.Frag) : Sp := fun vs H Q _ => ∃ (tp : Addr), vs = [.ref tp] ∧ ∃ l, TapeAt H tp l ∧ ∀ z H', wordOk z → TapeAt H' tp l → Mov tp H H' → Q (.str z) H'
theorem c__law_word (T : Txt K mg) : Cal P w K mg base 2 "_law_word" (sp__law_word K) [] := by
  have C__law_pick := c__law_pick (P := P) (w := w) (base := base) T
  have sc := sc__law_word
  refine cal_of T.d__law_word sc (fun _ _ _ _ _ _ us hl => match us, hl with | [_], _ => rfl) (fun vs H Q E h => ?_) (fun f cdv A outer s H vs Q E hr h => ?_)
  · obtain ⟨tp, rfl, _⟩ := h
    rfl
  · obtain ⟨tp, rfl, h⟩ := h
    refine ⟨_, (pss_cons (ps_set (i := 1) sc.nd rfl (Or.inl rfl) (pe_lst (pa_cons pe_str (pa_cons pe_str (pa_cons pe_str (pa_cons pe_str (pa_cons pe_str (pa_cons pe_str (pa_cons pe_str (pa_cons pe_str (pa_cons pe_str (pa_cons pe_str pa_nil))))))))))))
  (pss_one (ps_ret (pe_ix ix_list (pv 1) (pe_c C__law_pick hr (by omega) rfl (pa_cons (pv 0) (pa_cons pe_int pa_nil))) (fun _ _ => rfl))))), ?_⟩
    obtain ⟨l, t, q⟩ := h
    refine ⟨(by show 10 ≤ PySem.sizeLine; decide), fun p hp => ?_⟩
    have np := t.new hp
    have g := same_new (o := .lst [V.str "a", V.str "b", V.str "c", V.str "a", V.str "b", V.str "ab", V.str "zz", V.str "c", V.str "aa", V.str "qwertyuiopasdfghjklz"]) hp
    refine ⟨_, rfl, _, rfl, tp, 10, rfl, l, t.same g, by decide, by decide, fun r H1 r0 r1 t1 mv => ?_⟩
    obtain ⟨x, hx, mx⟩ := at_ok (xs := [V.str "a", V.str "b", V.str "c", V.str "a", V.str "b", V.str "ab", V.str "zz", V.str "c", V.str "aa", V.str "qwertyuiopasdfghjklz"]) r0 r1
    obtain ⟨z, rfl, hz⟩ := few_ok x mx
    exact ⟨p, _, r, _, rfl, rfl, SqL.of (mv _ _ upd_same np.1), hx, q z H1 hz t1 ((mov_same g).trans mv)⟩
end
end K13
namespace K13
open PySem L2 Nm
open C8 (Cal Mak pe_c pe_mk pe_gc)
open RZ (ItzT pi_zipA)
section
variable {P : Program} {w : World} {K : PySem.W.Frag} {mg : Str → Option Value} {base : Heap}
def sp__law_line (K : PySem.W.Frag) : Sp := fun vs H Q _ => ∃ (tp : Addr) (many : Int), vs = [.ref tp, .int many] ∧ ∃ l, TapeAt H tp l ∧ 0 ≤ many ∧ many ≤ 100 ∧ ∀ (r : Addr) (ws : List Str) (H' : Hp), H' r = some (.tup (ws.map V.str)) → (∀ z ∈ ws, wordOk z) → (ws.length : Int) = many → TapeAt H' tp l → Mov tp H H' → Q (.ref r) H'
theorem c__law_line (T : Txt K mg) : Cal P w K mg base 3 "_law_line" (sp__law_line K) [] := by
  have C__law_word := c__law_word (P := P) (w := w) (base := base) T
  have sc := sc__law_line
  refine cal_of T.d__law_line sc (fun _ _ _ _ _ _ us hl => match us, hl with | [_, _], _ => rfl) (fun vs H Q E h => ?_) (fun f cdv A outer s H vs Q E hr h => ?_)
  · obtain ⟨tp, many, rfl, _⟩ := h
    rfl
  · obtain ⟨tp, many, rfl, h⟩ := h
    refine ⟨_, (pss_one (ps_ret (pe_callTy call_tuple_of rfl T.m_tuple (by decide +kernel) (pa_cons (pe_lc (own := [("k", 2)]) (g := gName 2) rfl sc.nd (pi_range1 rfl T.m_range (pa_cons (pv 1) pa_nil)) (blkOk_by (own := [("k", 2)]) (N := ["tape", "many", "k"]) (sc := defScope s__law_line) (by decide +kernel)) (fun _ _ _ _ _ => (pg_name (i := 2) sc.nd rfl (Or.inl rfl))) (fun _ _ _ _ _ => pts_nil) (fun _ _ _ _ _ => (pe_c C__law_word hr (by omega) rfl (pa_cons (pv 0) pa_nil)))) pa_nil)))), ?_⟩
    obtain ⟨l, t0, m0, m1, q⟩ := h
    refine ⟨_, rfl, many, rfl, by omega, by omega, fun D hD => ?_⟩
    have nD := t0.new hD
    refine lc_range (lo := 0) (n := many.toNat) (fun i H1 => ∃ ws : List Str, H1 D = some (.lst (ws.map V.str)) ∧ (∀ z ∈ ws, wordOk z) ∧ ws.length = i ∧ TapeAt H1 tp l ∧ Mov tp H H1) ⟨[], upd_same, fun z hz => absurd hz (List.not_mem_nil), rfl, t0.upd nD, mov_mut (Mov.refl tp H) hD⟩ ?_ ?_
    · rintro i H1 hi ⟨ws, h1, ok, lw, t1, mv⟩
      refine ⟨rfl, ?_⟩
      refine ⟨_, rfl, tp, rfl, l, t1, fun z H2 hz t2 mv2 => ?_⟩
      have h2 : H2 D = some (.lst (ws.map V.str)) := mv2 _ _ h1 nD.1
      refine ⟨_, h2, ?_, ws ++ [z], ?_, ?_, by rw [List.length_append, lw]; rfl, t2.upd nD, mov_mut (mv.trans mv2) hD⟩
      · rw [List.length_map]
        have b : (1000 : Nat) < PySem.sizeLine := by decide
        omega
      · rw [upd_same, List.map_append]
        rfl
      · intro y hy
        rcases List.mem_append.mp hy with c | c
        · exact ok y c
        · rw [List.mem_singleton.mp c]
          exact hz
    · rintro H1 ⟨ws, h1, ok, lw, t1, mv⟩
      refine ⟨D, _, rfl, .inl ⟨SqL.of h1, fun p hp => ?_⟩⟩
      have g := same_new (o := .tup (ws.map V.str)) hp
      exact q p ws _ upd_same ok (by omega) (t1.same g) (mv.trans (mov_same g))
end
end K13
namespace K13
open PySem L2 Nm
open C8 (Cal Mak pe_c pe_mk pe_gc)
open RZ (ItzT pi_zipA)
/-- a drawn board -/
def drawn (b : Bd) : Prop := okB b ∧ b.2.2.length ≤ 3
theorem word_row {ws : List Str} (h : ∀ z ∈ ws, wordOk z) (l : ws.length ≤ 20) : rowB ws 20 = true := by
  unfold rowB
  rw [decide_eq_true (show ((ws.length : Nat) : Int) ≤ 20 by omega), Bool.true_and, List.all_eq_true]
  exact fun z hz => (h z hz).1
theorem drawn_ok {n : Str} {s : Int} {ws : List Str} (hn : letB n 8 = true) (ln : n.length ≤ 1000) (h0 : 0 ≤ s) (h1 : s < 2) (h : ∀ z ∈ ws, wordOk z) (l : ws.length ≤ 20) : okB (n, s, ws) := by
  refine ⟨?_, ln, by show ws.length ≤ 1000; omega, fun z hz => (h z hz).2⟩
  show (letB n 8 && ((decide (0 ≤ s) && decide (s ≤ 1)) && rowB ws 20)) = true
  rw [hn, word_row h l, decide_eq_true h0, decide_eq_true (show s ≤ 1 by omega)]
  rfl
theorem names_ok : ∀ x ∈ [V.str "p", V.str "q", V.str "pq"], ∃ z, x = .str z ∧ letB z 8 = true ∧ z.length ≤ 1000 := by
  intro x hx
  simp only [List.mem_cons, List.not_mem_nil, or_false] at hx
  rcases hx with rfl | rfl | rfl <;> exact ⟨_, rfl, by decide +kernel, by decide +kernel⟩
/-- a row stands there -/
def RowAt (H : Hp) (r : Addr) (ws : List Str) : Prop := H r = some (.tup (ws.map V.str)) ∧ ∀ z ∈ ws, wordOk z
theorem RowAt.mov {tp l : Addr} {H H' : Hp} {r : Addr} {ws : List Str} (h : RowAt H r ws) (t : TapeAt H tp l) (m : Mov tp H H') : RowAt H' r ws := ⟨(t.keep m).tups _ _ h.1, h.2⟩
section
variable {P : Program} {w : World} {K : PySem.W.Frag} {mg : Str → Option Value} {base : Heap}
def sp__law_boards (K : PySem.W.Frag) : Sp := fun vs H Q _ => ∃ (tp : Addr) (most : Int) (bg : Bool), vs = [.ref tp, .int most, .bl bg] ∧ ∃ l, TapeAt H tp l ∧ 1 ≤ most ∧ most ≤ 12 ∧
  ∀ (r : Addr) (bs : List Bd) (H' : Hp), BoardsAt H' r bs → (∀ b ∈ bs, drawn b) → 1 ≤ bs.length → (bs.length : Int) ≤ most → TapeAt H' tp l → Mov tp H H' → Q (.ref r) H'
theorem c__law_boards (T : Txt K mg) : Cal P w K mg base 4 "_law_boards" (sp__law_boards K) [] := by
  have C__law_line := c__law_line (P := P) (w := w) (base := base) T
  have C__law_pick := c__law_pick (P := P) (w := w) (base := base) T
  have C__law_some := c__law_some (P := P) (w := w) (base := base) T
  have sc := sc__law_boards
  refine cal_of T.d__law_boards sc (fun _ _ _ _ _ _ us hl => match us, hl with | [_, _, _], _ => rfl) (fun vs H Q E h => ?_) (fun f cdv A outer s H vs Q E hr h => ?_)
  · obtain ⟨tp, most, bg, rfl, _⟩ := h
    rfl
  · obtain ⟨tp, most, bg, rfl, h⟩ := h
    refine ⟨_, (pss_cons (ps_set (i := 3) sc.nd rfl (Or.inl rfl) (pe_op op_add pe_int (pe_callB (call_max2 rfl) rfl T.m_max (by decide +kernel) (pa_cons (pe_c C__law_pick hr (by omega) rfl (pa_cons (pv 0) (pa_cons (pv 1) pa_nil))) (pa_cons (pe_c C__law_pick hr (by omega) rfl (pa_cons (pv 0) (pa_cons (pv 1) pa_nil))) pa_nil)))))
  (pss_cons (ps_set (i := 4) sc.nd rfl (Or.inl rfl) (pe_slice sl_list (pe_lst (pa_cons pe_str (pa_cons pe_str (pa_cons pe_str pa_nil)))) po_none (po_some (pe_op op_add pe_int (pe_c C__law_pick hr (by omega) rfl (pa_cons (pv 0) (pa_cons pe_int pa_nil)))))))
  (pss_cons (ps_set (i := 5) sc.nd rfl (Or.inl rfl) (pe_c C__law_line hr (by omega) rfl (pa_cons (pv 0) (pa_cons pe_int pa_nil))))
  (pss_cons (ps_set (i := 6) sc.nd rfl (Or.inl rfl) (pe_op op_catA (pe_slice sl_tupA (pv 5) po_none (po_some (pe_op op_add pe_int (pe_c C__law_pick hr (by omega) rfl (pa_cons (pv 0) (pa_cons pe_int pa_nil)))))) (pe_c C__law_line hr (by omega) rfl (pa_cons (pv 0) (pa_cons pe_int pa_nil)))))
  (pss_cons (ps_set (i := 7) sc.nd rfl (Or.inl rfl) (pe_lst pa_nil))
  (pss_cons (ps_for PassesOwn.never rfl (pi_range1 rfl T.m_range (pa_cons (pv 3) pa_nil)) (pg_name (i := 8) sc.nd rfl (Or.inl rfl)) (pss_cons (ps_set (i := 9) sc.nd rfl (Or.inl rfl) (pe_tup pa_nil))
  (C8.pss_cut (ps_if (PW.pt (pw_and (pt_val (pv 2)) (pw_and1 (pt_cmpR op_gt (pe_c C__law_pick hr (by omega) rfl (pa_cons (pv 0) (pa_cons pe_int pa_nil))) pe_int (nomark _))))) (pss_one (ps_set (i := 9) sc.nd rfl (Or.inl rfl) (pe_slice sl_tupA (pe_c C__law_some hr (by omega) rfl (pa_cons (pv 0) (pa_cons (pe_lst (pa_cons (pv 5) (pa_cons (pv 5) (pa_cons (pv 6) pa_nil)))) pa_nil))) po_none (po_some (pe_c C__law_pick hr (by omega) rfl (pa_cons (pv 0) (pa_cons pe_int pa_nil))))))) pss_nil)
  (pss_one (ps_expr (pe_bm PySem.F.plainAttrs_list PySem.F.slot_list_append PySem.F.type_list_append mt_append (pv 7) (pa_cons (pe_tup (pa_cons (pe_c C__law_some hr (by omega) rfl (pa_cons (pv 0) (pa_cons (pv 4) pa_nil))) (pa_cons (pe_c C__law_pick hr (by omega) rfl (pa_cons (pv 0) (pa_cons pe_int pa_nil))) (pa_cons (pv 9) pa_nil)))) pa_nil)))))))
  (pss_one (ps_ret (pe_callTy call_tuple_of rfl T.m_tuple (by decide +kernel) (pa_cons (pv 7) pa_nil)))))))))), ?_⟩
    obtain ⟨l, t0, m0, m1, q⟩ := h
    refine ⟨_, rfl, _, rfl, tp, most, rfl, l, t0, by omega, by omega, fun r1 H1 r10 r11 t1 mv1 => ?_⟩
    refine ⟨_, rfl, _, rfl, tp, most, rfl, l, t1, by omega, by omega, fun r2 H2 r20 r21 t2 mv2 => ⟨r1, r2, rfl, 1, _, rfl, rfl, ?_⟩⟩
    obtain ⟨mm, emm, mm1, mm2⟩ : ∃ mm : Nat, 1 + (if r2 > r1 then r2 else r1) = (mm : Int) ∧ 1 ≤ mm ∧ (mm : Int) ≤ most := by
      by_cases c : r2 > r1
      · rw [if_pos c]
        exact ⟨(1 + r2).toNat, by omega, by omega, by omega⟩
      · rw [if_neg c]
        exact ⟨(1 + r1).toNat, by omega, by omega, by omega⟩
    show gName 3 (V.int (1 + (if r2 > r1 then r2 else r1))) _ _ _
    rw [emm]
    -- names
    refine ⟨(by show 3 ≤ PySem.sizeLine; decide), fun n0 hn0 => ?_⟩
    have nn0 := t2.new hn0
    have g0 := same_new (o := .lst [V.str "p", V.str "q", V.str "pq"]) hn0
    refine ⟨_, rfl, tp, 3, rfl, l, t2.same g0, by decide, by decide, fun r3 H3 r30 r31 t3 mv3 => ⟨_, _, rfl, rfl, _, rfl, n0, _, rfl, SqL.of (mv3 _ _ upd_same nn0.1), fun n1 hn1 => ?_⟩⟩
    obtain ⟨k3, ek3, k31⟩ : ∃ k : Nat, 1 + r3 = (k : Int) ∧ 1 ≤ k := ⟨(1 + r3).toNat, by omega, by omega⟩
    rw [ek3, cutV_take]
    generalize hnl : [V.str "p", V.str "q", V.str "pq"].take k3 = nl at hn1 ⊢
    have nlok : ∀ x ∈ nl, ∃ z, x = .str z ∧ letB z 8 = true ∧ z.length ≤ 1000 := fun x hx => names_ok x (List.mem_of_mem_take (by rw [hnl]; exact hx))
    have nl1 : 1 ≤ nl.length := by
      rw [← hnl, List.length_take]
      show 1 ≤ min k3 3
      omega
    have nl3 : nl.length ≤ 3 := by
      rw [← hnl, List.length_take]
      show min k3 3 ≤ 3
      omega
    have nn1 := t3.new hn1
    have g1 := same_new (o := .lst nl) hn1
    have t4 := t3.same g1
    have m04 : Mov tp H (upd H3 n1 (.lst nl)) := (((mv1.trans mv2).trans (mov_same g0)).trans mv3).trans (mov_same g1)
    have h4 : upd H3 n1 (.lst nl) n1 = some (.lst nl) := upd_same
    generalize upd H3 n1 (.lst nl) = H4 at t4 m04 h4
    clear g1 g0
    -- line
    refine ⟨_, rfl, tp, 4, rfl, l, t4, by decide, by decide, fun lr lw H5 hl5 okl lenl t5 mv5 => ?_⟩
    have R5 : RowAt H5 lr lw := ⟨hl5, okl⟩
    have h5 := mv5 _ _ h4 nn1.1
    have m05 := m04.trans mv5
    -- other
    refine ⟨_, rfl, _, rfl, tp, 3, rfl, l, t5, by decide, by decide, fun r6 H6 r60 r61 t6 mv6 => ⟨_, _, rfl, rfl, _, rfl, ?_⟩⟩
    obtain ⟨k6, ek6⟩ : ∃ k : Nat, 1 + r6 = (k : Int) := ⟨(1 + r6).toNat, by omega⟩
    rw [ek6]
    have R6 := R5.mov t5 mv6
    have h6 := mv6 _ _ h5 nn1.1
    refine sl_take (k := k6) R6.1 fun pr7 H7 g7 h7 => ?_
    have t7 := t6.same g7
    refine ⟨_, rfl, tp, 2, rfl, l, t7, by decide, by decide, fun or8 ow8 H8 ho8 oko lno t8 mv8 => ?_⟩
    have R8 := (R6.mov t6 (mov_same g7)).mov t7 mv8
    have h78 := (t7.keep mv8).tups _ _ h7
    have h8 := mv8 _ _ (g7 _ _ h6) nn1.1
    rw [← List.map_take] at h78
    refine cat_tups h78 ho8 (by rw [List.length_map, List.length_map, List.length_take]; omega) fun orr H9 g9 h9 => ?_
    rw [← List.map_append] at h9
    have O9 : RowAt H9 orr (lw.take k6 ++ ow8) := ⟨h9, fun z hz => by
      rcases List.mem_append.mp hz with c | c
      · exact okl z (List.mem_of_mem_take c)
      · exact oko z c⟩
    have t9 := t8.same g9
    have R9 := R8.mov t8 (mov_same g9)
    have h9n := g9 _ _ h8
    have m09 := (((m05.trans mv6).trans (mov_same g7)).trans mv8).trans (mov_same g9)
    generalize lw.take k6 ++ ow8 = ow at O9
    clear h9 ho8 h78 h8 R8 h7 R6 R5 hl5 h5 h4
    -- found
    refine ⟨(by show 0 ≤ PySem.sizeLine; decide), fun D hD => ?_⟩
    have nD := t9.new hD
    have gD := same_new (o := .lst []) hD
    have nDn : n1 ≠ D := ne_of_none h9n hD
    refine ⟨_, rfl, (mm : Int), rfl, by omega, by omega, ?_⟩
    refine for_range (lo := 0) (n := ((mm : Nat) : Int).toNat) (fun i σ H' => ∃ zs bs v8 v9, σ = [some (.ref tp), some (.int most), some (.bl bg), some (.int (mm : Int)), some (.ref n1), some (.ref lr), some (.ref orr), some (.ref D), v8, v9] ∧ H' D = some (.lst zs) ∧ Paired (BoardAt H') zs bs ∧ (∀ b ∈ bs, drawn b) ∧ bs.length = i ∧ TapeAt H' tp l ∧ Mov tp H H' ∧ H' n1 = some (.lst nl) ∧ RowAt H' lr lw ∧ RowAt H' orr ow)
      ⟨[], [], _, _, rfl, upd_same, .nil, fun b hb => absurd hb (List.not_mem_nil), rfl, t9.same gD, m09.trans (mov_same gD), gD _ _ h9n, R9.mov t9 (mov_same gD), O9.mov t9 (mov_same gD)⟩ ?_ ?_
    · rintro i σ H' hi ⟨zs, bs, v8, v9, rfl, hz, pz, okz, lz, t', m', hn', R', O'⟩
      refine ⟨(by show 0 ≤ PySem.sizeLine; decide), fun e0 he0 => ?_⟩
      have ge := same_new (o := .tup []) he0
      refine ⟨fun σ H2 => ∃ r rw0, σ = [some (.ref tp), some (.int most), some (.bl bg), some (.int (mm : Int)), some (.ref n1), some (.ref lr), some (.ref orr), some (.ref D), some (.int (0 + (i : Int))), some (.ref r)] ∧ RowAt H2 r rw0 ∧ rw0.length ≤ 3 ∧ TapeAt H2 tp l ∧ Mov tp H' H2, ?_, ?_⟩
      · have E0' : RowAt (upd H' e0 (.tup [])) e0 [] := ⟨upd_same, fun z hz => absurd hz (List.not_mem_nil)⟩
        have te := t'.same ge
        refine ⟨_, rfl, _, rfl, ?_⟩
        refine ite2 (fun _ => ?_) (fun _ => ?_)
        · refine ⟨_, rfl, tp, 4, rfl, l, te, by decide, by decide, fun r1 H1 _ _ t1 mv1 => ⟨_, _, rfl, rfl, _, rfl, ?_⟩⟩
          refine ite2 (fun _ => ?_) (fun _ => ?_)
          · refine ⟨_, rfl, _, rfl, _, rfl, _, rfl, (by show 3 ≤ PySem.sizeLine; decide), fun ll hll => ?_⟩
            have nll := t1.new hll
            have gl := same_new (o := .lst [V.ref lr, V.ref lr, V.ref orr]) hll
            have ml := ((mov_same ge).trans mv1).trans (mov_same gl)
            have t2' := t1.same gl
            refine ⟨tp, ll, rfl, l, _, t2', upd_same, nll.1, by show 1 ≤ 3; decide, by show 3 ≤ 1000; decide, fun x H2 hx t2 mv2 => ?_⟩
            obtain ⟨xr, xw, rfl, X2⟩ : ∃ xr xw, x = .ref xr ∧ RowAt H2 xr xw := by
              simp only [List.mem_cons, List.not_mem_nil, or_false] at hx
              rcases hx with rfl | rfl | rfl
              · exact ⟨lr, lw, rfl, R'.mov t' (ml.trans mv2)⟩
              · exact ⟨lr, lw, rfl, R'.mov t' (ml.trans mv2)⟩
              · exact ⟨orr, ow, rfl, O'.mov t' (ml.trans mv2)⟩
            refine ⟨_, rfl, tp, 4, rfl, l, t2, by decide, by decide, fun r4 H4 r40 r41 t4 mv4 => ?_⟩
            obtain ⟨k4, rfl⟩ : ∃ k : Nat, r4 = (k : Int) := ⟨r4.toNat, by omega⟩
            have X4 := X2.mov t2 mv4
            refine ⟨_, rfl, sl_take (k := k4) X4.1 fun rr H5 g5 h5 => ?_⟩
            rw [← List.map_take] at h5
            exact ⟨rr, xw.take k4, rfl, ⟨h5, fun z hz => X4.2 z (List.mem_of_mem_take hz)⟩, by rw [List.length_take]; omega, t4.same g5, ((ml.trans mv2).trans mv4).trans (mov_same g5)⟩
          · exact ⟨e0, [], rfl, E0'.mov te mv1, Nat.zero_le _, t1, (mov_same ge).trans mv1⟩
        · exact iteF ⟨e0, [], rfl, E0', Nat.zero_le _, te, mov_same ge⟩
      · rintro σ H2 ⟨r, rw0, rfl, Rr, l3, t2, m2⟩
        have hz2 := m2 _ _ hz nD.1
        have hn2 := m2 _ _ hn' nn1.1
        refine ⟨_, rfl, .inl ⟨rfl, _, SqL.of hz2⟩, ?_⟩
        refine ⟨_, rfl, _, rfl, tp, n1, rfl, l, nl, t2, hn2, nn1.1, nl1, by omega, fun x H3 hx t3 mv3 => ?_⟩
        obtain ⟨z, rfl, z8, zl⟩ := nlok x hx
        refine ⟨_, rfl, tp, 2, rfl, l, t3, by decide, by decide, fun s H4 s0 s1 t4 mv4 => ?_⟩
        refine ⟨_, rfl, (by show 3 ≤ PySem.sizeLine; decide), fun t5 h5 => ?_⟩
        have g5 := same_new (o := .tup [V.str z, V.int s, V.ref r]) h5
        have m45 := (mv3.trans mv4).trans (mov_same g5)
        have m25 := m2.trans m45
        have hz5 := m45 _ _ hz2 nD.1
        have Rr5 := Rr.mov t2 m45
        have kd : ∀ e us, upd H4 t5 (.tup [V.str z, V.int s, V.ref r]) e = some (.tup us) → upd (upd H4 t5 (.tup [V.str z, V.int s, V.ref r])) D (.lst (zs ++ [.ref t5])) e = some (.tup us) := fun e us he => by
          rw [upd_ne (fun w => by rw [w, hz5] at he; cases he)]
          exact he
        have mm5 : Mov tp H (upd (upd H4 t5 (.tup [V.str z, V.int s, V.ref r])) D (.lst (zs ++ [.ref t5]))) := mov_mut (m'.trans m25) (by
          cases e : H D with
          | none => rfl
          | some o => rw [m09 _ _ e nD.1] at hD; cases hD)
        have t5' := (t4.same g5).upd (p := D) (o := .lst (zs ++ [.ref t5])) nD
        have lzz : zs.length = bs.length := paired_len pz
        refine ⟨D, zs, .ref t5, rfl, rfl, hz5, ?_, ?_⟩
        · have b1 : (1000 : Nat) < PySem.sizeLine := by decide
          omega
        · refine ⟨zs ++ [.ref t5], bs ++ [(z, s, rw0)], _, _, rfl, upd_same, paired_snoc (paired_mono (fun _ _ w => (w.mono (t'.keep m25).tups).mono kd) pz) ⟨t5, r, rfl, kd _ _ upd_same, kd _ _ Rr5.1⟩, ?_, by rw [List.length_append, lz]; rfl, t5', mm5, by rw [upd_ne nDn]; exact m45 _ _ hn2 nn1.1, ?_, ?_⟩
          · intro b hb
            rcases List.mem_append.mp hb with c | c
            · exact okz b c
            · rw [List.mem_singleton.mp c]
              exact ⟨drawn_ok z8 zl s0 s1 Rr.2 (by omega), l3⟩
          · exact ⟨kd _ _ (R'.mov t' m25).1, R'.2⟩
          · exact ⟨kd _ _ (O'.mov t' m25).1, O'.2⟩
    · rintro σ H' ⟨zs, bs, v8, v9, rfl, hz, pz, okz, lz, t', m', _⟩
      refine ⟨_, rfl, D, zs, rfl, .inl ⟨SqL.of hz, fun p hp => ?_⟩⟩
      have g := same_new (o := .tup zs) hp
      exact q p bs _ ⟨zs, upd_same, paired_mono (fun _ _ w => w.mono (same_tups g)) pz⟩ okz (by omega) (by omega) (t'.same g) (m'.trans (mov_same g))
end
end K13
namespace K13
open PySem L2 Nm
open C8 (Cal Mak pe_c pe_mk pe_gc)
open RZ (ItzT pi_zipA)
theorem kit_tl_tup {K : PySem.W.Frag} : PySem.W.kitAny K (.type "tuple") [.type "tuple", .type "list"] = some true := kitAny_cons (b := true) (kit_ty (by decide +kernel)) (fun z => absurd z (by decide)) (fun _ => rfl)
theorem kit_tl_int {K : PySem.W.Frag} : PySem.W.kitAny K (.type "int") [.type "tuple", .type "list"] = some false := kitAny_cons (b := false) (kit_ty (by decide +kernel)) (fun _ => kitAny_cons (b := false) (kit_ty (by decide +kernel)) (fun _ => kitAny_nil) (fun z => absurd z (by decide))) (fun z => absurd z (by decide))
theorem kit_tl_str {K : PySem.W.Frag} : PySem.W.kitAny K (.type "str") [.type "tuple", .type "list"] = some false := kitAny_cons (b := false) (kit_ty (by decide +kernel)) (fun _ => kitAny_cons (b := false) (kit_ty (by decide +kernel)) (fun _ => kitAny_nil) (fun z => absurd z (by decide))) (fun z => absurd z (by decide))
/-- ints and texts, and tuples of them, so deep -/
def plainD : Nat → PyData → Prop
  | 0, d => (∃ i, d = .int i) ∨ ∃ z, d = .str z
  | n + 1, d => ((∃ i, d = .int i) ∨ ∃ z, d = .str z) ∨ ∃ ds, d = .tuple ds ∧ ds.length ≤ 1000 ∧ ∀ e ∈ ds, plainD n e
section
variable {P : Program} {w : World} {K : PySem.W.Frag} {mg : Str → Option Value} {base : Heap}
/-- the same thing told twice -/
def sp_same (n : Nat) : Sp := fun vs H Q _ => ∃ (x y : V), vs = [x, y] ∧ ∃ tp d, At tp H x d ∧ At tp H y d ∧ plainD n d ∧ ∀ H', Same H H' → Q (.bl true) H'
theorem c_same (T : Txt K mg) : ∀ n : Nat, Cal P w K mg base (n + 1) "_law_is" (sp_same n) []
  | 0 => by
    have C__law_is : Cal P w K mg base 0 "_law_is" (fun _ _ _ _ => False) [] := cal_void T.d__law_is (ps := ["told", "due"]) (fun _ _ _ _ _ _ us hl => match us, hl with | [_, _], _ => rfl) fun vs H Q E h => h
    have sc := sc__law_is
    refine cal_of (k := 0) T.d__law_is sc (fun _ _ _ _ _ _ us hl => match us, hl with | [_, _], _ => rfl) (fun vs H Q E h => ?_) (fun f cdv A outer s H vs Q E hr h => ?_)
    · obtain ⟨x, y, rfl, _⟩ := h
      rfl
    obtain ⟨x, y, rfl, tp, d, hA, hB, okd, q⟩ := h
    refine ⟨_, (pss_cons (ps_if (pt_val (pe_callB call_isiT rfl T.m_isinstance (by decide +kernel) (pa_cons (pv 1) (pa_cons (pe_tup (pa_cons (pe_bltn (v := .ty "tuple") (u := .type "tuple") rfl T.m_tuple (by decide +kernel) rfl) (pa_cons (pe_bltn (v := .ty "list") (u := .type "list") rfl T.m_list (by decide +kernel) rfl) pa_nil))) pa_nil)))) (pss_cons (ps_if (PW.pt (pw_or (pt_cmpR op_ne (pe_callB call_isi rfl T.m_isinstance (by decide +kernel) (pa_cons (pv 0) (pa_cons (pe_bltn (v := .ty "tuple") (u := .type "tuple") rfl T.m_tuple (by decide +kernel) rfl) pa_nil))) (pe_callB call_isi rfl T.m_isinstance (by decide +kernel) (pa_cons (pv 1) (pa_cons (pe_bltn (v := .ty "tuple") (u := .type "tuple") rfl T.m_tuple (by decide +kernel) rfl) pa_nil))) (nomark _)) (pw_or1 (pt_not (pt_val (pe_callB call_isiT rfl T.m_isinstance (by decide +kernel) (pa_cons (pv 0) (pa_cons (pe_tup (pa_cons (pe_bltn (v := .ty "tuple") (u := .type "tuple") rfl T.m_tuple (by decide +kernel) rfl) (pa_cons (pe_bltn (v := .ty "list") (u := .type "list") rfl T.m_list (by decide +kernel) rfl) pa_nil))) pa_nil)))))))) (pss_one (ps_ret pe_bl)) pss_nil)
  (pss_one (ps_ret (pe_and (pe_cmpR op_eq (pe_callB call_len_seq rfl T.m_len (by decide +kernel) (pa_cons (pv 0) pa_nil)) (pe_callB call_len_seq rfl T.m_len (by decide +kernel) (pa_cons (pv 1) pa_nil)) (nomark _)) (pe_one (pe_callB (cr_all rfl) rfl T.m_all (by decide +kernel) (pa_cons (pe_lc (own := [("one", 2), ("two", 3)]) (g := gTup K 2 (gCons (gName 2) (gCons (gName 3) gNil))) rfl sc.nd (pi_zipA rfl T.m_zip (pa_cons (pv 0) (pa_cons (pv 1) pa_nil))) (blkOk_by (own := [("one", 2), ("two", 3)]) (N := ["told", "due", "one", "two"]) (sc := defScope s__law_is) (by decide +kernel)) (fun _ _ _ _ _ => (pg_tup rfl (pgs_cons (pg_name (i := 2) sc.nd rfl (Or.inl rfl)) (pgs_cons (pg_name (i := 3) sc.nd rfl (Or.inl rfl)) pgs_nil)))) (fun _ _ _ _ _ => pts_nil) (fun _ _ _ _ _ => (pe_c C__law_is hr (by omega) rfl (pa_cons (pv 2) (pa_cons (pv 3) pa_nil))))) pa_nil))))))) pss_nil)
  (pss_one (ps_ret (pe_and (pe_cmpR op_eq (pe_callB call_isi rfl T.m_isinstance (by decide +kernel) (pa_cons (pv 0) (pa_cons (pe_bltn (v := .ty "bool") (u := .type "bool") rfl T.m_bool (by decide +kernel) rfl) pa_nil))) (pe_callB call_isi rfl T.m_isinstance (by decide +kernel) (pa_cons (pv 1) (pa_cons (pe_bltn (v := .ty "bool") (u := .type "bool") rfl T.m_bool (by decide +kernel) rfl) pa_nil))) (nomark _)) (pe_one (pe_cmpR op_eq (pv 0) (pv 1) (nomark _))))))), ?_⟩
    rcases okd with ⟨i, rfl⟩ | ⟨z, rfl⟩
    · cases hA
      cases hB
      refine ⟨_, rfl, l2, fun tq htq => ?_⟩
      have g0 := same_new (o := .tup [V.ty "tuple", V.ty "list"]) htq
      refine ⟨_, tq, _, _, _, false, rfl, upd_same, .cons (.ty _) (.cons (.ty _) .nil), .base (.int i), kit_tl_int, false, rfl, ?_⟩
      refine iteF ?_
      refine ⟨_, rfl, _, _, _, _, false, rfl, .ty _, .base (.int i), kit_ty (a := "int") (b := "bool") (by decide +kernel), _, rfl, _, _, _, _, false, rfl, .ty _, .base (.int i), kit_ty (a := "int") (b := "bool") (by decide +kernel), rfl, _, rfl, ?_⟩
      refine iteP rfl ⟨_, rfl, _, rfl, rfl, ?_⟩
      have e := q _ g0
      rw [← decide_eq_true (show V.int i = V.int i from rfl)] at e
      exact e
    · cases hA
      cases hB
      refine ⟨_, rfl, l2, fun tq htq => ?_⟩
      have g0 := same_new (o := .tup [V.ty "tuple", V.ty "list"]) htq
      refine ⟨_, tq, _, _, _, false, rfl, upd_same, .cons (.ty _) (.cons (.ty _) .nil), .base (.str z), kit_tl_str, false, rfl, ?_⟩
      refine iteF ?_
      refine ⟨_, rfl, _, _, _, _, false, rfl, .ty _, .base (.str z), kit_ty (a := "str") (b := "bool") (by decide +kernel), _, rfl, _, _, _, _, false, rfl, .ty _, .base (.str z), kit_ty (a := "str") (b := "bool") (by decide +kernel), rfl, _, rfl, ?_⟩
      refine iteP rfl ⟨_, rfl, _, rfl, rfl, ?_⟩
      have e := q _ g0
      rw [← decide_eq_true (show V.str z = V.str z from rfl)] at e
      exact e
  | n + 1 => by
    have C__law_is := c_same T n
    have sc := sc__law_is
    refine cal_of (k := n + 1) T.d__law_is sc (fun _ _ _ _ _ _ us hl => match us, hl with | [_, _], _ => rfl) (fun vs H Q E h => ?_) (fun f cdv A outer s H vs Q E hr h => ?_)
    · obtain ⟨x, y, rfl, _⟩ := h
      rfl
    obtain ⟨x, y, rfl, tp, d, hA, hB, okd, q⟩ := h
    refine ⟨_, (pss_cons (ps_if (pt_val (pe_callB call_isiT rfl T.m_isinstance (by decide +kernel) (pa_cons (pv 1) (pa_cons (pe_tup (pa_cons (pe_bltn (v := .ty "tuple") (u := .type "tuple") rfl T.m_tuple (by decide +kernel) rfl) (pa_cons (pe_bltn (v := .ty "list") (u := .type "list") rfl T.m_list (by decide +kernel) rfl) pa_nil))) pa_nil)))) (pss_cons (ps_if (PW.pt (pw_or (pt_cmpR op_ne (pe_callB call_isi rfl T.m_isinstance (by decide +kernel) (pa_cons (pv 0) (pa_cons (pe_bltn (v := .ty "tuple") (u := .type "tuple") rfl T.m_tuple (by decide +kernel) rfl) pa_nil))) (pe_callB call_isi rfl T.m_isinstance (by decide +kernel) (pa_cons (pv 1) (pa_cons (pe_bltn (v := .ty "tuple") (u := .type "tuple") rfl T.m_tuple (by decide +kernel) rfl) pa_nil))) (nomark _)) (pw_or1 (pt_not (pt_val (pe_callB call_isiT rfl T.m_isinstance (by decide +kernel) (pa_cons (pv 0) (pa_cons (pe_tup (pa_cons (pe_bltn (v := .ty "tuple") (u := .type "tuple") rfl T.m_tuple (by decide +kernel) rfl) (pa_cons (pe_bltn (v := .ty "list") (u := .type "list") rfl T.m_list (by decide +kernel) rfl) pa_nil))) pa_nil)))))))) (pss_one (ps_ret pe_bl)) pss_nil)
  (pss_one (ps_ret (pe_and (pe_cmpR op_eq (pe_callB call_len_seq rfl T.m_len (by decide +kernel) (pa_cons (pv 0) pa_nil)) (pe_callB call_len_seq rfl T.m_len (by decide +kernel) (pa_cons (pv 1) pa_nil)) (nomark _)) (pe_one (pe_callB (cr_all rfl) rfl T.m_all (by decide +kernel) (pa_cons (pe_lc (own := [("one", 2), ("two", 3)]) (g := gTup K 2 (gCons (gName 2) (gCons (gName 3) gNil))) rfl sc.nd (pi_zipA rfl T.m_zip (pa_cons (pv 0) (pa_cons (pv 1) pa_nil))) (blkOk_by (own := [("one", 2), ("two", 3)]) (N := ["told", "due", "one", "two"]) (sc := defScope s__law_is) (by decide +kernel)) (fun _ _ _ _ _ => (pg_tup rfl (pgs_cons (pg_name (i := 2) sc.nd rfl (Or.inl rfl)) (pgs_cons (pg_name (i := 3) sc.nd rfl (Or.inl rfl)) pgs_nil)))) (fun _ _ _ _ _ => pts_nil) (fun _ _ _ _ _ => (pe_c C__law_is hr (by omega) rfl (pa_cons (pv 2) (pa_cons (pv 3) pa_nil))))) pa_nil))))))) pss_nil)
  (pss_one (ps_ret (pe_and (pe_cmpR op_eq (pe_callB call_isi rfl T.m_isinstance (by decide +kernel) (pa_cons (pv 0) (pa_cons (pe_bltn (v := .ty "bool") (u := .type "bool") rfl T.m_bool (by decide +kernel) rfl) pa_nil))) (pe_callB call_isi rfl T.m_isinstance (by decide +kernel) (pa_cons (pv 1) (pa_cons (pe_bltn (v := .ty "bool") (u := .type "bool") rfl T.m_bool (by decide +kernel) rfl) pa_nil))) (nomark _)) (pe_one (pe_cmpR op_eq (pv 0) (pv 1) (nomark _))))))), ?_⟩
    rcases okd with okd | ⟨ds, rfl, l1000, each⟩
    · rcases okd with ⟨i, rfl⟩ | ⟨z, rfl⟩
      · cases hA
        cases hB
        refine ⟨_, rfl, l2, fun tq htq => ?_⟩
        have g0 := same_new (o := .tup [V.ty "tuple", V.ty "list"]) htq
        refine ⟨_, tq, _, _, _, false, rfl, upd_same, .cons (.ty _) (.cons (.ty _) .nil), .base (.int i), kit_tl_int, false, rfl, ?_⟩
        refine iteF ?_
        refine ⟨_, rfl, _, _, _, _, false, rfl, .ty _, .base (.int i), kit_ty (a := "int") (b := "bool") (by decide +kernel), _, rfl, _, _, _, _, false, rfl, .ty _, .base (.int i), kit_ty (a := "int") (b := "bool") (by decide +kernel), rfl, _, rfl, ?_⟩
        refine iteP rfl ⟨_, rfl, _, rfl, rfl, ?_⟩
        have e := q _ g0
        rw [← decide_eq_true (show V.int i = V.int i from rfl)] at e
        exact e
      · cases hA
        cases hB
        refine ⟨_, rfl, l2, fun tq htq => ?_⟩
        have g0 := same_new (o := .tup [V.ty "tuple", V.ty "list"]) htq
        refine ⟨_, tq, _, _, _, false, rfl, upd_same, .cons (.ty _) (.cons (.ty _) .nil), .base (.str z), kit_tl_str, false, rfl, ?_⟩
        refine iteF ?_
        refine ⟨_, rfl, _, _, _, _, false, rfl, .ty _, .base (.str z), kit_ty (a := "str") (b := "bool") (by decide +kernel), _, rfl, _, _, _, _, false, rfl, .ty _, .base (.str z), kit_ty (a := "str") (b := "bool") (by decide +kernel), rfl, _, rfl, ?_⟩
        refine iteP rfl ⟨_, rfl, _, rfl, rfl, ?_⟩
        have e := q _ g0
        rw [← decide_eq_true (show V.str z = V.str z from rfl)] at e
        exact e
    rcases tupOr hA with ⟨a, xs, es, rfl, ee, ha, pa⟩ | ⟨_, no⟩
    rotate_left
    · exact absurd rfl (no ds)
    cases ee
    rcases tupOr hB with ⟨b, ys, es, rfl, ee, hb, pb⟩ | ⟨_, no⟩
    rotate_left
    · exact absurd rfl (no ds)
    cases ee
    have ex : xs.length = ds.length := paired_len pa
    have ey : ys.length = ds.length := paired_len pb
    refine ⟨_, rfl, l2, fun tq htq => ?_⟩
    have g0 := same_new (o := .tup [V.ty "tuple", V.ty "list"]) htq
    refine ⟨_, tq, _, _, _, true, rfl, upd_same, .cons (.ty _) (.cons (.ty _) .nil), .base (.tup (g0 _ _ hb)), kit_tl_tup, true, rfl, ?_⟩
    refine iteT ?_
    refine ⟨_, rfl, _, _, _, _, true, rfl, .ty _, .base (.tup (g0 _ _ ha)), kit_ty (by decide +kernel), _, rfl, _, _, _, _, true, rfl, .ty _, .base (.tup (g0 _ _ hb)), kit_ty (by decide +kernel), rfl, _, rfl, ?_⟩
    refine iteN (nt rfl) ?_
    refine ⟨_, rfl, l2, fun tr htr => ?_⟩
    have g1 := g0.trans (same_new (o := .tup [V.ty "tuple", V.ty "list"]) htr)
    refine ⟨_, tr, _, _, _, true, rfl, upd_same, .cons (.ty _) (.cons (.ty _) .nil), .base (.tup (g1 _ _ ha)), kit_tl_tup, true, rfl, ?_⟩
    refine iteF ?_
    refine ⟨_, rfl, a, _, rfl, .inr (SqT.of (g1 _ _ ha)), _, rfl, b, _, rfl, .inr (SqT.of (g1 _ _ hb)), rfl, _, rfl, ?_⟩
    rw [decI, decide_eq_true (show (xs.length : Int) = (ys.length : Int) by omega)]
    refine iteT ⟨_, rfl, _, rfl, a, b, xs, ys, rfl, .inr ⟨SqT.of (g1 _ _ ha), SqT.of (g1 _ _ hb), fun D hD => ?_⟩⟩
    have lz : ds.length = min xs.length ys.length := by omega
    refine lc_it (walk_zipT (K := K) (a := a) (b := b) (xs := xs) (ys := ys) lz) (fun i H1 => H1 D = some (.lst (List.replicate i (V.bl true))) ∧ Same H H1) ⟨upd_same, g1.trans (same_new hD)⟩ (fun i H1 _ z => ⟨SqT.of (z.2 _ _ ha), SqT.of (z.2 _ _ hb)⟩) ?_ ?_
    · rintro i x H1 H2 hi ⟨h1, g⟩ ⟨t3, x1, y1, rfl, hn, rfl, e1, e2⟩
      obtain ⟨p, hp, rp⟩ := paired_at pa i _ e1
      obtain ⟨q1, hq1, rq⟩ := paired_at pb i _ e2
      rw [hp] at hq1
      cases hq1
      have g3 := same_new (o := .tup [x1, y1]) hn
      refine ⟨t3, [x1, y1], rfl, SqT.of upd_same, rfl, _, _, rfl, _, _, rfl, rfl, rfl, ?_⟩
      refine ⟨_, rfl, _, rfl, x1, y1, rfl, tp, p, At.same (g.trans g3) _ _ rp, At.same (g.trans g3) _ _ rq, each p (List.mem_of_getElem? hp), fun H4 g4 => ⟨_, g4 _ _ (g3 _ _ h1), ?_, ?_, same_mut ((g.trans g3).trans g4) (g1.free hD)⟩⟩
      · rw [List.length_replicate]
        have b1 : (4000 : Nat) < PySem.sizeLine := by decide
        omega
      · rw [upd_same, List.replicate_succ']
    · rintro H1 ⟨h1, g⟩
      refine ⟨D, List.replicate ds.length true, rfl, SqL.of (by rw [h1, List.map_replicate]), ?_⟩
      have an : (List.replicate ds.length true).all id = true := List.all_eq_true.mpr fun z hz => by rw [List.eq_of_mem_replicate hz]; rfl
      have q1 := q H1 g
      rw [← an] at q1
      exact q1
end
end K13
namespace K13
open PySem L2 Nm
open C8 (Cal Mak pe_c pe_mk pe_gc)
open RZ (ItzT pi_zipA)
/-- the comparisons of neighbours, as far as the walk has come -/
abbrev ascL (ns : List Int) (i : Nat) : List V := ((ns.zip (ns.drop 1)).take i).map fun p => V.bl (decide (p.1 < p.2))
section
variable {P : Program} {w : World} {K : PySem.W.Frag} {mg : Str → Option Value} {base : Heap}
def sp_is_ascending (K : PySem.W.Frag) : Sp := fun vs H Q _ => ∃ (a : Addr) (ns : List Int), vs = [.ref a] ∧ H a = some (.tup (ns.map V.int)) ∧ ns.length ≤ 1000 ∧ ∀ H', Same H H' → Q (.bl (ascB ns)) H'
theorem c_is_ascending (T : Txt K mg) : Cal P w K mg base 1 "is_ascending" (sp_is_ascending K) [] := by
  have sc := sc_is_ascending
  refine cal_of T.d_is_ascending sc (fun _ _ _ _ _ _ us hl => match us, hl with | [_], _ => rfl) (fun vs H Q E h => ?_) (fun f cdv A outer s H vs Q E hr h => ?_)
  · obtain ⟨a, ns, rfl, _⟩ := h
    rfl
  · obtain ⟨a, ns, rfl, h⟩ := h
    refine ⟨_, (pss_one (ps_ret (pe_callB (cr_all rfl) rfl T.m_all (by decide +kernel) (pa_cons (pe_lc (own := [("one", 1), ("other", 2)]) (g := gTup K 2 (gCons (gName 1) (gCons (gName 2) gNil))) rfl sc.nd (pi_zipA rfl T.m_zip (pa_cons (pv 0) (pa_cons (pe_slice sl_tupA (pv 0) (po_some pe_int) po_none) pa_nil))) (blkOk_by (own := [("one", 1), ("other", 2)]) (N := ["things", "one", "other"]) (sc := defScope s_is_ascending) (by decide +kernel)) (fun _ _ _ _ _ => (pg_tup rfl (pgs_cons (pg_name (i := 1) sc.nd rfl (Or.inl rfl)) (pgs_cons (pg_name (i := 2) sc.nd rfl (Or.inl rfl)) pgs_nil)))) (fun _ _ _ _ _ => pts_nil) (fun _ _ _ _ _ => (pe_cmpR op_lt (pv 1) (pv 2) (nomark _)))) pa_nil)))), ?_⟩
    obtain ⟨ha, hl, q⟩ := h
    have cut : cutV (ns.map V.int) (some 1) none = (ns.drop 1).map V.int := by
      unfold cutV
      have e1 : HT.sIx (ns.map V.int).length 0 (some 1) = min 1 ns.length := by
        rw [List.length_map]
        exact HT.sIx_nat ns.length 0 1
      have e2 : HT.sIx (ns.map V.int).length (ns.map V.int).length none = ns.length := by
        rw [HT.sIx_none, List.length_map]
      rw [e1, e2, ← List.map_drop, ← List.map_take]
      congr 1
      rcases Nat.lt_or_ge 0 ns.length with h | h
      · rw [Nat.min_eq_left h, List.take_of_length_le (by rw [List.length_drop]; exact Nat.le_refl _)]
      · have : ns = [] := List.eq_nil_of_length_eq_zero (by omega)
        subst this
        rfl
    refine ⟨_, rfl, _, rfl, 1, rfl, a, _, rfl, SqT.of ha, fun e => ?_, fun e p hp => ?_⟩
    · have e0 : ns = [] := by
        have e1 := e.1
        rw [List.length_map, show (1 : Int) = ((1 : Nat) : Int) from rfl, HT.sIx_nat] at e1
        exact List.eq_nil_of_length_eq_zero (by omega)
      subst e0
      refine ⟨a, a, [], [], rfl, .inr ⟨SqT.of ha, SqT.of ha, fun D hD => ?_⟩⟩
      refine lc_it (walk_zipT (K := K) (a := a) (b := a) (xs := []) (ys := []) (n := 0) rfl) (fun i H1 => H1 D = some (.lst []) ∧ Same H H1) ⟨upd_same, same_new hD⟩ (fun i H1 _ p => ⟨SqT.of (p.2 _ _ ha), SqT.of (p.2 _ _ ha)⟩) (fun i x H1 H2 hi => absurd hi (Nat.not_lt_zero i)) ?_
      rintro H1 ⟨h1, g⟩
      exact ⟨D, [], rfl, SqL.of h1, q H1 g⟩
    · rw [cut]
      have g0 : Same H (upd H p (.tup ((ns.drop 1).map V.int))) := same_new hp
      have lz : (ns.zip (ns.drop 1)).length = min (ns.map V.int).length ((ns.drop 1).map V.int).length := by
        rw [List.length_zip, List.length_map, List.length_map]
      refine ⟨a, p, _, _, rfl, .inr ⟨SqT.of (g0 _ _ ha), SqT.of upd_same, fun D hD => ?_⟩⟩
      refine lc_it (walk_zipT (K := K) (a := a) (b := p) (xs := ns.map V.int) (ys := (ns.drop 1).map V.int) lz) (fun i H1 => H1 D = some (.lst (ascL ns i)) ∧ Same (upd H p (.tup ((ns.drop 1).map V.int))) H1)
        ⟨upd_same, same_new hD⟩ (fun i H1 _ z => ⟨SqT.of (z.2 _ _ (g0 _ _ ha)), SqT.of (z.2 _ _ upd_same)⟩) ?_ ?_
      · rintro i x H1 H2 hi ⟨h1, g⟩ ⟨tp, x1, y1, rfl, hn, rfl, e1, e2⟩
        obtain ⟨m, hm, rfl⟩ := map_at e1
        obtain ⟨k, hk, rfl⟩ := map_at e2
        have hz : (ns.zip (ns.drop 1))[i]? = some (m, k) := by
          rw [List.getElem?_zip_eq_some]
          exact ⟨hm, hk⟩
        refine ⟨tp, [.int m, .int k], rfl, SqT.of upd_same, rfl, _, _, rfl, _, _, rfl, rfl, rfl, ?_⟩
        refine ⟨_, rfl, _, rfl, m, k, rfl, rfl, _, (same_new hn) _ _ h1, ?_, ?_, ?_⟩
        · rw [List.length_map, List.length_take, List.length_zip]
          have b : (1000 : Nat) < sizeLine := by decide
          omega
        · rw [upd_same]
          show some (HO.lst (ascL ns i ++ [V.bl (decide (m < k))])) = some (HO.lst (ascL ns (i + 1)))
          unfold ascL
          rw [take_one hz, List.map_append]
          rfl
        · exact same_mut (g.trans (same_new hn)) hD
      · rintro H1 ⟨h1, g⟩
        refine ⟨D, (ns.zip (ns.drop 1)).map (fun p => decide (p.1 < p.2)), rfl, SqL.of ?_, ?_⟩
        · rw [h1]
          unfold ascL
          rw [List.take_length, List.map_map]
          rfl
        · have e : ascB ns = ((ns.zip (ns.drop 1)).map (fun p => decide (p.1 < p.2))).all id := by
            unfold ascB
            rw [List.all_map]
            rfl
          have q' := q H1 (g0.trans g)
          rw [e] at q'
          exact q'
end
end K13
namespace K13
open PySem L2 Nm
open C8 (Cal Mak pe_c pe_mk pe_gc)
open RZ (ItzT pi_zipA)
section
variable {P : Program} {w : World} {K : PySem.W.Frag} {mg : Str → Option Value} {base : Heap}
def sp__law_flag (K : PySem.W.Frag) : Sp := fun vs H Q _ => ∃ (b c : Bool), vs = [.bl b, .bl c] ∧ Q (.bl (decide (b = c))) H
theorem c__law_flag (T : Txt K mg) : Cal P w K mg base 1 "_law_flag" (sp__law_flag K) [] := by
  have sc := sc__law_flag
  refine cal_of T.d__law_flag sc (fun _ _ _ _ _ _ us hl => match us, hl with | [_, _], _ => rfl) (fun vs H Q E h => ?_) (fun f cdv A outer s H vs Q E hr h => ?_)
  · obtain ⟨b, c, rfl, _⟩ := h
    rfl
  · obtain ⟨b, c, rfl, h⟩ := h
    refine ⟨_, (pss_one (ps_ret (pe_and (pe_callB call_isi rfl T.m_isinstance (by decide +kernel) (pa_cons (pv 0) (pa_cons (pe_bltn (v := .ty "bool") (u := .type "bool") rfl T.m_bool (by decide +kernel) rfl) pa_nil))) (pe_one (pe_cmpR op_eq (pv 0) (pv 1) (nomark _)))))), ?_⟩
    obtain ⟨t, t1, t2⟩ := tyc_bl (K := K) (H := H) b
    refine ⟨_, rfl, _, _, t, _, true, rfl, .ty _, t1, t2, true, rfl, ?_⟩
    refine iteT ⟨_, rfl, _, rfl, rfl, ?_⟩
    have e : decide (V.bl b = V.bl c) = decide (b = c) := by cases b <;> cases c <;> rfl
    show Q (V.bl (decide (V.bl b = V.bl c))) H
    rw [e]
    exact h
end
end K13
namespace K13
open PySem L2 Nm
open C8 (Cal Mak pe_c pe_mk pe_gc)
open RZ (ItzT pi_zipA)
section
variable {P : Program} {w : World} {K : PySem.W.Frag} {mg : Str → Option Value} {base : Heap}
theorem c_bare {fi : Addr} {fd : FuncData} (T : Txt K mg) (F : Fun K "__init__" "HallError.__init__" s_HallError___init__ fi fd) : FnOk P w K mg base CX0 1 fi fd ["self"] (sp_bare K) := by
  have sc := sc_HallError___init__
  refine F.ok (k := 0) sc (fun vs H Q E h => ?_) (fun cdv A outer s H vs Q E hr h => ?_)
  · obtain ⟨a, C, rfl, _⟩ := h
    rfl
  · obtain ⟨a, C, rfl, ox, ha, q⟩ := h
    refine ⟨_, pss_one (ps_expr (pe_veinit rfl T.m_VE T.vV (pa_cons (pv 0) pa_nil))), ?_⟩
    exact ⟨_, rfl, a, C, [], rfl, by decide, ox, ha, q⟩
end
end K13
namespace K13
open PySem L2 Nm
open C8 (Cal Mak pe_c pe_mk pe_gc)
open RZ (ItzT pi_zipA)
section
variable {P : Program} {w : World} {K : PySem.W.Frag} {mg : Str → Option Value} {base : Heap}
theorem c_eqH (T : Txt K mg) : ∃ C f fd, HallT K C ∧ mg "Hall" = some (.ref C) ∧ OwnC K C f fd ["self", "other"] ∧ FnOk P w K mg base CX0 3 f fd ["self", "other"] (spOwn (eqR K)) := by
  obtain ⟨C, f, fd, HT, hm, h1, h2, h3, h4, F⟩ := T.hallN
  have kH : ∃ u, mg "Hall" = some u ∧ RelV (.ref C) u := ⟨_, hm, rfl⟩
  have sc := sc_Hall___eq__
  refine ⟨C, f, fd, HT, hm, ⟨h1, h2, h3, h4, F.binds fun _ _ _ _ _ _ us hl => match us, hl with | [_, _], _ => rfl⟩, F.ok (k := 2) sc (fun vs H Q E h => ?_) (fun cdv A outer s H vs Q E hr h => ?_)⟩
  · obtain ⟨a, y, b, rfl, _⟩ := h
    rfl
  · obtain ⟨a0, y, b, rfl, ⟨a, bs, e, hH, ok, hy⟩, q⟩ := h
    cases e
    refine ⟨_, (pss_one (ps_ret (pe_and (pe_callB call_isi rfl T.m_isinstance (by decide +kernel) (pa_cons (pv 1) (pa_cons (pe_gc rfl kH) pa_nil))) (pe_one (pe_cmpR (op_eqD hr.units) (pe_fld (pv 0) rfl) (pe_fld (pv 1) rfl) (nomark _)))))), ?_⟩
    obtain ⟨C1, dx1, fs1, a1, n1, ys1, cl1, nB1, nN1, hp1, fb1, fn1, hb1, hn1, nm1⟩ := hH.1
    rcases hy with ⟨p, cs, rfl, hH2, ok2, rfl⟩ | ⟨rfl, t, ht, ty⟩
    · obtain ⟨⟨C2, dx2, fs2, a2, n2, ys2, cl2, nB2, nN2, hp2, fb2, fn2, hb2, hn2, nm2⟩, D, dx3, fs3, ns3, hp3⟩ := id hH2
      cases HT.one ns3
      refine ⟨_, rfl, _, _, _, _, true, rfl, .own _, HT.ty hp3, kit_self, true, rfl, ?_⟩
      refine iteT ⟨_, rfl, a0, C1, dx1, fs1, _, rfl, hp1, cl1, nB1, fb1, _, rfl, p, C2, dx2, fs2, _, rfl, hp2, cl2, nB2, fb2, bdsD bs, bdsD cs, dp_bds hb1, dp_bds hb2, shaped_bds ok, shaped_bds ok2, ?_⟩
      rw [eqv_bds]
      exact q H (Same.refl H)
    · refine ⟨_, rfl, _, _, _, _, false, rfl, .own _, ty, (HT.no _ ht).1, false, rfl, ?_⟩
      exact iteF (q H (Same.refl H))
end
end K13
namespace K13
open PySem L2 Nm
open C8 (Cal Mak pe_c pe_mk pe_gc)
open RZ (ItzT pi_zipA)
theorem shaped_nil : SeqAt.shaped (rowD []) = true := by decide +kernel
theorem shaped_bdr {b : Bd} (h : boardB b = true) : SeqAt.shaped (rowD b.2.2) = true := by
  unfold boardB at h
  rw [Bool.and_eq_true, Bool.and_eq_true] at h
  have a3 := h.2.2
  unfold rowB at a3
  rw [Bool.and_eq_true] at a3
  exact shaped_row fun z hz => lay_let (List.all_eq_true.mp a3.2 z hz)
theorem nought : 0 ≤ PySem.sizeLine := Nat.zero_le _
section
variable {P : Program} {w : World} {K : PySem.W.Frag} {mg : Str → Option Value} {base : Heap}
def sp_is_fresh (K : PySem.W.Frag) : Sp := fun vs H Q _ => ∃ (y : V), vs = [y] ∧ ((∃ p bs, y = .ref p ∧ HallOf K H p bs ∧ bs.length ≤ 60 ∧ (∀ b ∈ bs, okB b) ∧ ∀ H', Same H H' → Q (.bl (bs.all fun b => decide (b.2.2 = []))) H') ∨ (∃ t, t ∈ tyO ∧ TyX K H y (.type t) ∧ ∀ H', Same H H' → Q (.bl false) H'))
theorem c_is_fresh (T : Txt K mg) : Cal P w K mg base 1 "is_fresh" (sp_is_fresh K) [] := by
  have sc := sc_is_fresh
  refine cal_of T.d_is_fresh sc (fun _ _ _ _ _ _ us hl => match us, hl with | [_], _ => rfl) (fun vs H Q E h => ?_) (fun f cdv A outer s H vs Q E hr h => ?_)
  · obtain ⟨y, rfl, _⟩ := h
    rfl
  · obtain ⟨y, rfl, h⟩ := h
    obtain ⟨C, f0, fd0, HT, hm, _⟩ := T.hallN
    have kH : ∃ u, mg "Hall" = some u ∧ RelV (.ref C) u := ⟨_, hm, rfl⟩
    refine ⟨_, (pss_one (ps_ret (pe_and (pe_callB call_isi rfl T.m_isinstance (by decide +kernel) (pa_cons (pv 0) (pa_cons (pe_gc rfl kH) pa_nil))) (pe_one (pe_callB (cr_all rfl) rfl T.m_all (by decide +kernel) (pa_cons (pe_lc (own := [("_", 1), ("_", 1), ("begun", 2)]) (g := gTup K 3 (gCons (gName 1) (gCons (gName 1) (gCons (gName 2) gNil)))) rfl sc.nd (pi_tup (pe_fld (pv 0) rfl)) (blkOk_by (own := [("_", 1), ("_", 1), ("begun", 2)]) (N := ["thing", "_", "begun"]) (sc := defScope s_is_fresh) (by decide +kernel)) (fun _ _ _ _ _ => (pg_tup rfl (pgs_cons (pg_name (i := 1) sc.nd rfl (Or.inl rfl)) (pgs_cons (pg_name (i := 1) sc.nd rfl (Or.inl rfl)) (pgs_cons (pg_name (i := 2) sc.nd rfl (Or.inl rfl)) pgs_nil))))) (fun _ _ _ _ _ => pts_nil) (fun _ _ _ _ _ => (pe_cmpR (r := rEqD K) (op_eqD hr.units) (pv 2) (pe_tup pa_nil) (nomark _)))) pa_nil)))))), ?_⟩
    rcases h with ⟨p, bs, rfl, hH, l60, ok, q⟩ | ⟨t, ht, ty, q⟩
    · obtain ⟨⟨C1, dx1, fs1, a1, n1, ys1, cl1, nB1, nN1, hp1, fb1, fn1, ⟨xs, ha, pr⟩, hn1, nm1⟩, D, dx3, fs3, ns3, hp3⟩ := id hH
      cases HT.one ns3
      refine ⟨_, rfl, _, _, _, _, true, rfl, .own _, HT.ty hp3, kit_self, true, rfl, ?_⟩
      have el : xs.length = bs.length := paired_len pr
      refine iteT ⟨_, rfl, p, C1, dx1, fs1, _, rfl, hp1, cl1, nB1, fb1, a1, rfl, ⟨_, SqT.of ha⟩, fun D hD => ?_⟩
      refine lcS (walk_tup (K := K) (a := a1) (xs := xs)) stays_bl bs (fun _ => true) (fun b => decide (b.2.2 = [])) el (by omega) (fun H1 g => SqT.of (g _ _ ha)) hD ?_ ?_
      · rintro i x b H1 H2 Nx hb ⟨rfl, hx⟩ sm _ yes
        obtain ⟨b', hb', c, r, rfl, hc, hr1⟩ := paired_at pr i _ hx
        have ee : b' = b := Option.some.inj (hb'.symm.trans hb)
        subst ee
        refine ⟨c, _, rfl, SqT.of (sm _ _ hc), rfl, _, _, rfl, _, _, rfl, _, _, rfl, rfl, rfl, ?_⟩
        refine ⟨_, rfl, nought, fun e0 he0 => ?_⟩
        have g0 := same_new (o := .tup []) he0
        have okr := (ok b' (List.mem_of_getElem? hb')).1
        refine ⟨rowD b'.2.2, rowD [], dp_row (g0 _ _ (sm _ _ hr1)), dp_row upd_same, shaped_bdr okr, shaped_nil, ?_⟩
        rw [eqv_row]
        exact yes rfl _ _ g0 rfl
      · intro H1 g1 l1
        refine ⟨D, _, rfl, sql_bl l1, ?_⟩
        rw [filter_all, List.all_map]
        exact q H1 g1
    · refine ⟨_, rfl, _, _, _, _, false, rfl, .own _, ty, (HT.no _ ht).1, false, rfl, ?_⟩
      exact iteF (q H (Same.refl H))
end
end K13
namespace K13
open PySem L2 Nm
open C8 (Cal Mak pe_c pe_mk pe_gc)
open RZ (ItzT pi_zipA)
def intV : PyData → Int
  | .int n => n
  | _ => 0
def lenD : PyData → Nat
  | .tuple ds => ds.length
  | _ => 0
/-- a lot of so many boards -/
def lotD (d : PyData) (many : Int) : Bool := match d with
  | .tuple ds => ds.all (fun e => intIn e 0 (many - 1)) && ascB (ds.map intV)
  | _ => false
theorem lotD_no {d : PyData} {many : Int} (h : ∀ ds, d ≠ .tuple ds) : lotD d many = false := by
  cases d with
  | tuple ds => exact absurd rfl (h ds)
  | _ => rfl
theorem ints_of {tp : Addr} {H : Hp} {lo hi : Int} : ∀ {xs : List V} {ds : List PyData}, Paired (At tp H) xs ds → ds.all (fun e => intIn e lo hi) = true → xs = (ds.map intV).map V.int ∧ ds = (ds.map intV).map PyData.int
  | _, _, .nil, _ => ⟨rfl, rfl⟩
  | _, _, .cons h t, ok => by
    rw [List.all_cons, Bool.and_eq_true] at ok
    obtain ⟨e1, e2⟩ := ints_of t ok.2
    cases h with
    | int i =>
      refine ⟨?_, ?_⟩
      · rw [List.map_cons, List.map_cons, ← e1]
        rfl
      · rw [List.map_cons, List.map_cons, ← e2]
        rfl
    | _ => cases ok.1
section
variable {P : Program} {w : World} {K : PySem.W.Frag} {mg : Str → Option Value} {base : Heap}
def sp_is_lot (K : PySem.W.Frag) : Sp := fun vs H Q _ => ∃ (v : V) (many : Int), vs = [v, .int many] ∧ ∃ tp d, At tp H v d ∧ lenD d ≤ 1000 ∧ ∀ H', Same H H' → Q (.bl (lotD d many)) H'
theorem c_is_lot (T : Txt K mg) : Cal P w K mg base 3 "is_lot" (sp_is_lot K) [] := by
  have C_is_ascending := c_is_ascending (P := P) (w := w) (base := base) T
  have C_is_within := c_is_within (P := P) (w := w) (base := base) T
  have sc := sc_is_lot
  refine cal_of T.d_is_lot sc (fun _ _ _ _ _ _ us hl => match us, hl with | [_, _], _ => rfl) (fun vs H Q E h => ?_) (fun f cdv A outer s H vs Q E hr h => ?_)
  · obtain ⟨v, many, rfl, _⟩ := h
    rfl
  · obtain ⟨v, many, rfl, h⟩ := h
    refine ⟨_, (pss_cons (ps_if (PW.pt (pw_or (pt_not (pt_val (pe_callB call_isi rfl T.m_isinstance (by decide +kernel) (pa_cons (pv 0) (pa_cons (pe_bltn (v := .ty "tuple") (u := .type "tuple") rfl T.m_tuple (by decide +kernel) rfl) pa_nil))))) (pw_or1 (pt_not (pt_val (pe_callB (cr_all rfl) rfl T.m_all (by decide +kernel) (pa_cons (pe_lc (own := [("number", 2)]) (g := gName 2) rfl sc.nd (pi_tup (pv 0)) (blkOk_by (own := [("number", 2)]) (N := ["thing", "many", "number"]) (sc := defScope s_is_lot) (by decide +kernel)) (fun _ _ _ _ _ => (pg_name (i := 2) sc.nd rfl (Or.inl rfl))) (fun _ _ _ _ _ => pts_nil) (fun _ _ _ _ _ => (pe_c C_is_within hr (by omega) rfl (pa_cons (pv 2) (pa_cons pe_int (pa_cons (pe_op op_sub (pv 1) pe_int) pa_nil)))))) pa_nil))))))) (pss_one (ps_ret pe_bl)) pss_nil)
  (pss_one (ps_ret (pe_c C_is_ascending hr (by omega) rfl (pa_cons (pv 0) pa_nil))))), ?_⟩
    obtain ⟨tp, d, hA, ld, q⟩ := h
    rcases tupOr hA with ⟨a, xs, ds, rfl, rfl, ha, pr⟩ | ⟨kt, no⟩
    rotate_left
    · have q' := q H (Same.refl H)
      rw [lotD_no no] at q'
      refine ⟨_, rfl, _, _, _, _, false, rfl, .ty _, hA.ty, kt K, false, rfl, ?_⟩
      exact iteT q'
    have el : xs.length = ds.length := paired_len pr
    have ld' : ds.length ≤ 1000 := ld
    obtain ⟨t, t1, t2⟩ := tyc_tup (K := K) ha
    refine ⟨_, rfl, _, _, t, _, true, rfl, .ty _, t1, t2, true, rfl, ?_⟩
    refine iteF ⟨_, rfl, a, rfl, ⟨_, SqT.of ha⟩, fun D hD => ?_⟩
    refine lcS (walk_tup (K := K) (a := a) (xs := xs)) stays_bl ds (fun _ => true) (fun e => intIn e 0 (many - 1)) el (by omega) (fun H1 g => SqT.of (g _ _ ha)) hD ?_ ?_
    · rintro i x e H1 H2 Nx he ⟨rfl, hx⟩ sm _ yes
      obtain ⟨e', he', hA1⟩ := paired_at pr i _ hx
      have ee : e' = e := Option.some.inj (he'.symm.trans he)
      subst ee
      have hA2 := At.same sm _ _ hA1
      refine ⟨rfl, ?_⟩
      refine ⟨_, rfl, _, rfl, many, 1, rfl, rfl, x, 0, many - 1, rfl, hA2.tyi, ?_⟩
      rw [hA2.within 0 (many - 1)]
      exact yes rfl _ _ (Same.refl _) rfl
    · intro H1 g1 l1
      rw [filter_all] at l1
      refine ⟨D, _, rfl, sql_bl l1, ?_⟩
      have e : (ds.map fun e => intIn e 0 (many - 1)).all id = ds.all fun e => intIn e 0 (many - 1) := by
        rw [List.all_map]
        rfl
      rw [e]
      have q0 : ∀ H', Same H H' → Q (.bl (ds.all (fun e => intIn e 0 (many - 1)) && ascB (ds.map intV))) H' := q
      refine ⟨_, rfl, ?_⟩
      cases c : ds.all (fun e => intIn e 0 (many - 1)) with
      | false =>
        refine iteT ?_
        have q' := q0 H1 g1
        rw [c, Bool.false_and] at q'
        exact q'
      | true =>
        refine iteF ?_
        have hx := (ints_of pr c).1
        rw [hx] at ha
        refine ⟨_, rfl, a, ds.map intV, rfl, g1 _ _ ha, by rw [List.length_map]; exact ld', fun H2 g2 => ?_⟩
        have q' := q0 H2 (g1.trans g2)
        rw [c, Bool.true_and] at q'
        exact q'
end
end K13
namespace K13
open PySem L2 Nm
open C8 (Cal Mak pe_c pe_mk pe_gc)
open RZ (ItzT pi_zipA)
section
variable {P : Program} {w : World} {K : PySem.W.Frag} {mg : Str → Option Value} {base : Heap}
def sp__law_int (K : PySem.W.Frag) : Sp := fun vs H Q _ => ∃ (x : V) (lo hi : Int), vs = [x, .int lo, .int hi] ∧ ∃ tp d, At tp H x d ∧ Q (.bl (intIn d lo hi)) H
theorem c__law_int (T : Txt K mg) : Cal P w K mg base 1 "_law_int" (sp__law_int K) [] := by
  have sc := sc__law_int
  refine cal_of T.d__law_int sc (fun _ _ _ _ _ _ us hl => match us, hl with | [_, _, _], _ => rfl) (fun vs H Q E h => ?_) (fun f cdv A outer s H vs Q E hr h => ?_)
  · obtain ⟨x, lo, hi, rfl, _⟩ := h
    rfl
  · obtain ⟨x, lo, hi, rfl, h⟩ := h
    refine ⟨_, (pss_one (ps_ret (pe_and (pe_callB call_isi rfl T.m_isinstance (by decide +kernel) (pa_cons (pv 0) (pa_cons (pe_bltn (v := .ty "int") (u := .type "int") rfl T.m_int (by decide +kernel) rfl) pa_nil))) (pe_and (pe_not (pe_callB call_isi rfl T.m_isinstance (by decide +kernel) (pa_cons (pv 0) (pa_cons (pe_bltn (v := .ty "bool") (u := .type "bool") rfl T.m_bool (by decide +kernel) rfl) pa_nil)))) (pe_and (pe_cmpR op_le (pv 1) (pv 0) (nomark _)) (pe_one (pe_cmpR op_le (pv 0) (pv 2) (nomark _)))))))), ?_⟩
    obtain ⟨tp0, d, hA, q⟩ := h
    obtain ⟨b, c, ⟨t, h1, h2⟩, ⟨u, h3, h4⟩, e⟩ := hA.tyi (K := K)
    have w := hA.within lo hi
    rw [← w] at q
    refine ⟨_, rfl, _, _, t, _, b, rfl, .ty _, h1, h2, b, rfl, ?_⟩
    cases b with
    | false =>
      refine iteF ?_
      have e' : isInt x = false := e.symm
      have z : Nm.within x lo hi = false := by
        cases x with
        | int n => cases e'
        | _ => rfl
      rw [z] at q
      exact q
    | true =>
      refine iteT ⟨_, rfl, _, _, u, _, c, rfl, .ty _, h3, h4, c, rfl, _, rfl, ?_⟩
      cases c with
      | true =>
        refine iteF ?_
        have e' : isInt x = false := e.symm
        have z : Nm.within x lo hi = false := by
          cases x with
          | int n => cases e'
          | _ => rfl
        rw [z] at q
        exact q
      | false =>
        have e' : isInt x = true := e.symm
        cases x with
        | int n =>
          have q : Q (.bl (decide (lo ≤ n) && decide (n ≤ hi))) H := q
          refine iteT ⟨_, rfl, _, rfl, lo, n, rfl, rfl, decide (lo ≤ n), rfl, ?_⟩
          refine ite2 (fun z => ?_) (fun z => ?_)
          · rw [z, Bool.true_and] at q
            exact ⟨_, rfl, _, rfl, n, hi, rfl, rfl, q⟩
          · rw [Bool.eq_false_iff.mpr z, Bool.false_and] at q
            exact q
        | _ => cases e'
end
end K13
namespace K13
open PySem L2 Nm
open C8 (Cal Mak pe_c pe_mk pe_gc)
open RZ (ItzT pi_zipA)
section
variable {P : Program} {w : World} {K : PySem.W.Frag} {mg : Str → Option Value} {base : Heap}
def sp__law_is_lot (K : PySem.W.Frag) : Sp := fun vs H Q _ => ∃ (v : V) (many : Int), vs = [v, .int many] ∧ ∃ tp d, At tp H v d ∧ lenD d ≤ 1000 ∧ ∀ H', Same H H' → Q (.bl (lotD d many)) H'
theorem c__law_is_lot (T : Txt K mg) : Cal P w K mg base 2 "_law_is_lot" (sp__law_is_lot K) [] := by
  have C__law_int := c__law_int (P := P) (w := w) (base := base) T
  have sc := sc__law_is_lot
  refine cal_of T.d__law_is_lot sc (fun _ _ _ _ _ _ us hl => match us, hl with | [_, _], _ => rfl) (fun vs H Q E h => ?_) (fun f cdv A outer s H vs Q E hr h => ?_)
  · obtain ⟨v, many, rfl, _⟩ := h
    rfl
  · obtain ⟨v, many, rfl, h⟩ := h
    refine ⟨_, (pss_cons (ps_if (PW.pt (pw_or (pt_not (pt_val (pe_callB call_isi rfl T.m_isinstance (by decide +kernel) (pa_cons (pv 0) (pa_cons (pe_bltn (v := .ty "tuple") (u := .type "tuple") rfl T.m_tuple (by decide +kernel) rfl) pa_nil))))) (pw_or1 (pt_not (pt_val (pe_callB (cr_all rfl) rfl T.m_all (by decide +kernel) (pa_cons (pe_lc (own := [("item", 2)]) (g := gName 2) rfl sc.nd (pi_tup (pv 0)) (blkOk_by (own := [("item", 2)]) (N := ["thing", "many", "item", "one", "other"]) (sc := defScope s__law_is_lot) (by decide +kernel)) (fun _ _ _ _ _ => (pg_name (i := 2) sc.nd rfl (Or.inl rfl))) (fun _ _ _ _ _ => pts_nil) (fun _ _ _ _ _ => (pe_c C__law_int hr (by omega) rfl (pa_cons (pv 2) (pa_cons pe_int (pa_cons (pe_op op_sub (pv 1) pe_int) pa_nil)))))) pa_nil))))))) (pss_one (ps_ret pe_bl)) pss_nil)
  (pss_one (ps_ret (pe_callB (cr_all rfl) rfl T.m_all (by decide +kernel) (pa_cons (pe_lc (own := [("one", 3), ("other", 4)]) (g := gTup K 2 (gCons (gName 3) (gCons (gName 4) gNil))) rfl sc.nd (pi_zipA rfl T.m_zip (pa_cons (pv 0) (pa_cons (pe_slice sl_tupA (pv 0) (po_some pe_int) po_none) pa_nil))) (blkOk_by (own := [("one", 3), ("other", 4)]) (N := ["thing", "many", "item", "one", "other"]) (sc := defScope s__law_is_lot) (by decide +kernel)) (fun _ _ _ _ _ => (pg_tup rfl (pgs_cons (pg_name (i := 3) sc.nd rfl (Or.inl rfl)) (pgs_cons (pg_name (i := 4) sc.nd rfl (Or.inl rfl)) pgs_nil)))) (fun _ _ _ _ _ => pts_nil) (fun _ _ _ _ _ => (pe_cmpR op_lt (pv 3) (pv 4) (nomark _)))) pa_nil))))), ?_⟩
    obtain ⟨tp, d, hA, ld, q⟩ := h
    rcases tupOr hA with ⟨a, xs, ds, rfl, rfl, ha, pr⟩ | ⟨kt, no⟩
    rotate_left
    · have q' := q H (Same.refl H)
      rw [lotD_no no] at q'
      refine ⟨_, rfl, _, _, _, _, false, rfl, .ty _, hA.ty, kt K, false, rfl, ?_⟩
      exact iteT q'
    have el : xs.length = ds.length := paired_len pr
    have ld' : ds.length ≤ 1000 := ld
    obtain ⟨t, t1, t2⟩ := tyc_tup (K := K) ha
    refine ⟨_, rfl, _, _, t, _, true, rfl, .ty _, t1, t2, true, rfl, ?_⟩
    refine iteF ⟨_, rfl, a, rfl, ⟨_, SqT.of ha⟩, fun D hD => ?_⟩
    refine lcS (walk_tup (K := K) (a := a) (xs := xs)) stays_bl ds (fun _ => true) (fun e => intIn e 0 (many - 1)) el (by omega) (fun H1 g => SqT.of (g _ _ ha)) hD ?_ ?_
    · rintro i x e H1 H2 Nx he ⟨rfl, hx⟩ sm _ yes
      obtain ⟨e', he', hA1⟩ := paired_at pr i _ hx
      have ee : e' = e := Option.some.inj (he'.symm.trans he)
      subst ee
      have hA2 := At.same sm _ _ hA1
      refine ⟨rfl, ?_⟩
      refine ⟨_, rfl, _, rfl, many, 1, rfl, rfl, x, 0, many - 1, rfl, tp, _, hA2, ?_⟩
      exact yes rfl _ _ (Same.refl _) rfl
    · intro H1 g1 l1
      rw [filter_all] at l1
      refine ⟨D, _, rfl, sql_bl l1, ?_⟩
      have e : (ds.map fun e => intIn e 0 (many - 1)).all id = ds.all fun e => intIn e 0 (many - 1) := by
        rw [List.all_map]
        rfl
      rw [e]
      have q0 : ∀ H', Same H H' → Q (.bl (ds.all (fun e => intIn e 0 (many - 1)) && ascB (ds.map intV))) H' := q
      refine ⟨_, rfl, ?_⟩
      cases c : ds.all (fun e => intIn e 0 (many - 1)) with
      | false =>
        refine iteT ?_
        have q' := q0 H1 g1
        rw [c, Bool.false_and] at q'
        exact q'
      | true =>
        refine iteF ?_
        have hx := (ints_of pr c).1
        rw [hx] at ha
        have ha := g1 _ _ ha
        have hl : (ds.map intV).length ≤ 1000 := by rw [List.length_map]; exact ld'
        have q : ∀ H', Same H1 H' → Q (.bl (ascB (ds.map intV))) H' := fun H2 g2 => by
          have q' := q0 H2 (g1.trans g2)
          rw [c, Bool.true_and] at q'
          exact q'
        clear q0 c e hx l1 el pr ld' hA t1 t2
        generalize ds.map intV = ns at ha hl q
        clear g1 hD
        generalize H1 = H at ha q ⊢
        have cut : cutV (ns.map V.int) (some 1) none = (ns.drop 1).map V.int := by
          unfold cutV
          have e1 : HT.sIx (ns.map V.int).length 0 (some 1) = min 1 ns.length := by
            rw [List.length_map]
            exact HT.sIx_nat ns.length 0 1
          have e2 : HT.sIx (ns.map V.int).length (ns.map V.int).length none = ns.length := by
            rw [HT.sIx_none, List.length_map]
          rw [e1, e2, ← List.map_drop, ← List.map_take]
          congr 1
          rcases Nat.lt_or_ge 0 ns.length with h | h
          · rw [Nat.min_eq_left h, List.take_of_length_le (by rw [List.length_drop]; exact Nat.le_refl _)]
          · have : ns = [] := List.eq_nil_of_length_eq_zero (by omega)
            subst this
            rfl
        refine ⟨_, rfl, _, rfl, 1, rfl, a, _, rfl, SqT.of ha, fun e => ?_, fun e p hp => ?_⟩
        · have e0 : ns = [] := by
            have e1 := e.1
            rw [List.length_map, show (1 : Int) = ((1 : Nat) : Int) from rfl, HT.sIx_nat] at e1
            exact List.eq_nil_of_length_eq_zero (by omega)
          subst e0
          refine ⟨a, a, [], [], rfl, .inr ⟨SqT.of ha, SqT.of ha, fun D hD => ?_⟩⟩
          refine lc_it (walk_zipT (K := K) (a := a) (b := a) (xs := []) (ys := []) (n := 0) rfl) (fun i H1 => H1 D = some (.lst []) ∧ Same H H1) ⟨upd_same, same_new hD⟩ (fun i H1 _ p => ⟨SqT.of (p.2 _ _ ha), SqT.of (p.2 _ _ ha)⟩) (fun i x H1 H2 hi => absurd hi (Nat.not_lt_zero i)) ?_
          rintro H1 ⟨h1, g⟩
          exact ⟨D, [], rfl, SqL.of h1, q H1 g⟩
        · rw [cut]
          have g0 : Same H (upd H p (.tup ((ns.drop 1).map V.int))) := same_new hp
          have lz : (ns.zip (ns.drop 1)).length = min (ns.map V.int).length ((ns.drop 1).map V.int).length := by
            rw [List.length_zip, List.length_map, List.length_map]
          refine ⟨a, p, _, _, rfl, .inr ⟨SqT.of (g0 _ _ ha), SqT.of upd_same, fun D hD => ?_⟩⟩
          refine lc_it (walk_zipT (K := K) (a := a) (b := p) (xs := ns.map V.int) (ys := (ns.drop 1).map V.int) lz) (fun i H1 => H1 D = some (.lst (ascL ns i)) ∧ Same (upd H p (.tup ((ns.drop 1).map V.int))) H1)
            ⟨upd_same, same_new hD⟩ (fun i H1 _ z => ⟨SqT.of (z.2 _ _ (g0 _ _ ha)), SqT.of (z.2 _ _ upd_same)⟩) ?_ ?_
          · rintro i x H1 H2 hi ⟨h1, g⟩ ⟨tp, x1, y1, rfl, hn, rfl, e1, e2⟩
            obtain ⟨m, hm, rfl⟩ := map_at e1
            obtain ⟨k, hk, rfl⟩ := map_at e2
            have hz : (ns.zip (ns.drop 1))[i]? = some (m, k) := by
              rw [List.getElem?_zip_eq_some]
              exact ⟨hm, hk⟩
            refine ⟨tp, [.int m, .int k], rfl, SqT.of upd_same, rfl, _, _, rfl, _, _, rfl, rfl, rfl, ?_⟩
            refine ⟨_, rfl, _, rfl, m, k, rfl, rfl, _, (same_new hn) _ _ h1, ?_, ?_, ?_⟩
            · rw [List.length_map, List.length_take, List.length_zip]
              have b : (1000 : Nat) < sizeLine := by decide
              omega
            · rw [upd_same]
              show some (HO.lst (ascL ns i ++ [V.bl (decide (m < k))])) = some (HO.lst (ascL ns (i + 1)))
              unfold ascL
              rw [take_one hz, List.map_append]
              rfl
            · exact same_mut (g.trans (same_new hn)) hD
          · rintro H1 ⟨h1, g⟩
            refine ⟨D, (ns.zip (ns.drop 1)).map (fun p => decide (p.1 < p.2)), rfl, SqL.of ?_, ?_⟩
            · rw [h1]
              unfold ascL
              rw [List.take_length, List.map_map]
              rfl
            · have e : ascB ns = ((ns.zip (ns.drop 1)).map (fun p => decide (p.1 < p.2))).all id := by
                unfold ascB
                rw [List.all_map]
                rfl
              have q' := q H1 (g0.trans g)
              rw [e] at q'
              exact q'
end
end K13
namespace K13
open PySem L2 Nm
open C8 (Cal Mak pe_c pe_mk pe_gc)
open RZ (ItzT pi_zipA)
section
variable {P : Program} {w : World} {K : PySem.W.Frag} {mg : Str → Option Value} {base : Heap}
def dfB : Bd := (Str.empty, 0, [])
/-- the boards of a lot -/
def cutB (bs : List Bd) (ns : List Int) : List Bd := ns.map fun n => bs.getD n.toNat dfB
theorem dpAll_ints {K : PySem.W.Frag} {H : Hp} : ∀ ns : List Int, DpAll K H (ns.map V.int) (ns.map PyData.int)
  | [] => .nil
  | n :: ns => .cons (.int n) (dpAll_ints ns)
theorem shaped_ints (ns : List Int) : SeqAt.shaped (.tuple (ns.map PyData.int)) = true := by
  have all : PyData.canLayAll0 (ns.map PyData.int) = true ∧ PyData.depthAll (ns.map PyData.int) = 0 := by
    induction ns with
    | nil => simp [PyData.canLayAll0, PyData.depthAll]
    | cons n ns ih => rw [List.map_cons, PyData.canLayAll0, PyData.depthAll, ih.1, ih.2, PyData.canLay0, PyData.depth]; exact ⟨rfl, rfl⟩
  unfold SeqAt.shaped
  rw [PyData.canLay0, all.1, PyData.depth, all.2]
  decide
theorem eqv_ints (ns : List Int) : PyData.eqv (.tuple (ns.map PyData.int)) (rowD []) = decide (ns = []) := by
  cases ns with
  | nil => decide +kernel
  | cons n ns =>
    show PyData.eqv (.tuple (.int n :: ns.map PyData.int)) (.tuple []) = _
    rw [PyData.eqv, PyData.eqvAll, decide_eq_false (fun e => nomatch e)] <;> (try intro e; try nomatch e)
theorem stays_bd : Stays BoardAt := fun _ _ _ _ t h => h.mono t
/-- of a lot: the hall of its boards, else the error -/
def sp_only (K : PySem.W.Frag) (CE : Addr) : Sp := fun vs H Q E => ∃ (h : Addr) (v : V) (bs : List Bd) (tp : Addr) (d : PyData), vs = [.ref h, v] ∧ HallAt K H h bs ∧ (∀ b ∈ bs, okB b) ∧ bs.length ≤ 60 ∧ At tp H v d ∧ lenD d ≤ 60 ∧
  (∀ ns : List Int, d = .tuple (ns.map PyData.int) → lotD d (bs.length : Int) = true → ns ≠ [] → ∀ p H', HallOf K H' p (cutB bs ns) → Same H H' → Q (.ref p) H') ∧ ((lotD d (bs.length : Int) = false ∨ d = .tuple []) → ∀ H', Same H H' → E (.ref CE) none H')
/-- of what is surely a lot of some boards -/
def sp_onlyV (K : PySem.W.Frag) : Sp := fun vs H Q _ => ∃ (h a : Addr) (bs : List Bd) (ns : List Int), vs = [.ref h, .ref a] ∧ HallAt K H h bs ∧ (∀ b ∈ bs, okB b) ∧ bs.length ≤ 60 ∧ H a = some (.tup (ns.map V.int)) ∧ ns.length ≤ 60 ∧ (∀ n ∈ ns, 0 ≤ n ∧ n < (bs.length : Int)) ∧ ns.Pairwise (· < ·) ∧ ns ≠ [] ∧ ∀ p H', HallOf K H' p (cutB bs ns) → Same H H' → Q (.ref p) H'
theorem at_ints {tp : Addr} {H : Hp} : ∀ ns : List Int, AtAll tp H (ns.map V.int) (ns.map PyData.int)
  | [] => .nil
  | n :: ns => .cons (.int n) (at_ints ns)
theorem map_intV (ns : List Int) : (ns.map PyData.int).map intV = ns := by
  rw [List.map_map]
  exact List.map_id ns
theorem lot_ok {ns : List Int} {many : Int} (h : ∀ n ∈ ns, 0 ≤ n ∧ n < many) (up : ns.Pairwise (· < ·)) : lotD (.tuple (ns.map PyData.int)) many = true := by
  show ((ns.map PyData.int).all (fun e => intIn e 0 (many - 1)) && ascB ((ns.map PyData.int).map intV)) = true
  rw [map_intV, ascB_of up, Bool.and_true, List.all_map, List.all_eq_true]
  intro n hn
  obtain ⟨h1, h2⟩ := h n hn
  show (decide (0 ≤ n) && decide (n ≤ many - 1)) = true
  rw [decide_eq_true h1, decide_eq_true (show n ≤ many - 1 by omega)]
  rfl
theorem lot_in {ns : List Int} {many : Int} (h : lotD (.tuple (ns.map PyData.int)) many = true) : ∀ n ∈ ns, 0 ≤ n ∧ n < many := by
  have h' : ((ns.map PyData.int).all (fun e => intIn e 0 (many - 1)) && ascB ((ns.map PyData.int).map intV)) = true := h
  rw [Bool.and_eq_true, List.all_map, List.all_eq_true] at h'
  intro n hn
  have z : (decide (0 ≤ n) && decide (n ≤ many - 1)) = true := h'.1 n hn
  rw [Bool.and_eq_true] at z
  have := of_decide_eq_true z.1
  have := of_decide_eq_true z.2
  omega
theorem c_only {CE fi : Addr} {fdi : FuncData} (T : Txt K mg) (B_NoLot : Bare K mg "NoLot" CE fi) (FI : Fun K "__init__" "HallError.__init__" s_HallError___init__ fi fdi) :
    ∃ f fd, mg "only" = some (.ref f) ∧ PySem.W.keepIn K (.ref f) = true ∧ Binds K fd ["hall", "lot"] [] ∧ FnOk P w K mg base (L2.CX P w) 9 f fd ["hall", "lot"] (sp_only K CE) := by
  obtain ⟨f, fd, F, hmg⟩ := T.d_only
  have C_is_lot := c_is_lot (P := P) (w := w) (base := base) T
  have C_hall_of := c_hall_of (P := P) (w := w) (base := base) T
  have G_NoLot := c_bare (P := P) (w := w) (base := base) T FI
  have b_NoLot := FI.binds (ps := ["self"]) fun _ _ _ _ _ _ us hl => match us, hl with | [_], _ => rfl
  have sc := sc_only
  refine ⟨f, fd, hmg, F.kp, F.binds fun _ _ _ _ _ _ us hl => match us, hl with | [_, _], _ => rfl, F.okX (k := 8) sc (fun vs H Q E h => ?_) (fun cdv A outer s H vs Q E hr h => ?_)⟩
  · obtain ⟨h, v, bs, tp, d, rfl, _⟩ := h
    rfl
  · obtain ⟨h0, v, bs, tp, d, rfl, hH, ok, l60, hA, ld, q, qe⟩ := h
    refine ⟨_, (pss_cons (ps_if (PW.pt (pw_or (pt_not (pt_val (pe_c C_is_lot hr (by omega) rfl (pa_cons (pv 1) (pa_cons (pe_callB call_len_seq rfl T.m_len (by decide +kernel) (pa_cons (pe_fld (pv 0) rfl) pa_nil)) pa_nil))))) (pw_or1 (pt_cmpR (op_eqD hr.units) (pv 1) (pe_tup pa_nil) (nomark _))))) (pss_one (ps_raise rfl (takes_of rfl rfl rfl rfl) (pmk_bare B_NoLot.ox B_NoLot.iC B_NoLot.tI G_NoLot (hr.mono (by omega)) b_NoLot pass0 rfl B_NoLot.hm))) pss_nil)
  (pss_one (ps_ret (pe_c C_hall_of hr (by omega) rfl (pa_cons (pe_callTy call_tuple_of rfl T.m_tuple (by decide +kernel) (pa_cons (pe_lc (own := [("number", 2)]) (g := gName 2) rfl sc.nd (pi_tup (pv 1)) (blkOk_by (own := [("number", 2)]) (N := ["hall", "lot", "number"]) (sc := defScope s_only) (by decide +kernel)) (fun _ _ _ _ _ => (pg_name (i := 2) sc.nd rfl (Or.inl rfl))) (fun _ _ _ _ _ => pts_nil) (fun _ _ _ _ _ => (pe_ix (r := rIxT K) ix_tup (pe_fldK (K := K) rfl (pv 0) rfl) (pv 2) (fun _ _ => rfl)))) pa_nil)) pa_nil))))), ?_⟩
    obtain ⟨C, dx, fs, a, n, ys, cl, nB, nN, hp, fb, fn, ⟨xs, ha, pr⟩, hn', nm⟩ := id hH
    have el : xs.length = bs.length := paired_len pr
    refine ⟨_, rfl, _, rfl, h0, C, dx, fs, _, rfl, hp, cl, nB, fb, a, _, rfl, .inr (SqT.of ha), v, _, rfl, tp, d, hA, by omega, fun H1 g1 => ⟨_, rfl, ?_⟩⟩
    rw [el]
    cases e : lotD d (bs.length : Int) with
    | false =>
      refine ite2 (fun _ => ?_) (fun z => absurd rfl z)
      exact fun a ha => bare_sp B_NoLot.ox (fun H' g => qe (.inl e) H' (g1.trans g)) ha
    | true =>
      refine iteF ?_
      rcases tupOr hA with ⟨b, zs, ds, rfl, rfl, hb, pz⟩ | ⟨_, no⟩
      rotate_left
      · rw [lotD_no no] at e
        cases e
      have e' : (ds.all (fun e => intIn e 0 ((bs.length : Int) - 1)) && ascB (ds.map intV)) = true := e
      rw [Bool.and_eq_true] at e'
      obtain ⟨ex, ed⟩ := ints_of pz e'.1
      have ld' : ds.length ≤ 60 := ld
      generalize hns : ds.map intV = ns at ex ed
      have ln : ns.length ≤ 60 := by rw [← hns, List.length_map]; exact ld'
      subst ex
      subst ed
      clear pz hns e'
      refine ⟨_, rfl, nought, fun e0 he0 => ?_⟩
      have g2 := same_new (o := .tup []) he0
      have g12 := g1.trans g2
      refine ⟨.tuple (ns.map PyData.int), rowD [], .tup (SqT.of (g12 _ _ hb)) (dpAll_ints ns), dp_row upd_same, shaped_ints ns, shaped_nil, ?_⟩
      rw [eqv_ints]
      refine ⟨_, rfl, ?_⟩
      refine ite2 (fun z => ?_) (fun z => ?_)
      · have z0 := of_decide_eq_true z
        subst z0
        exact fun a ha => bare_sp B_NoLot.ox (fun H' g => qe (.inr rfl) H' (g12.trans g)) ha
      · have ne : ns ≠ [] := fun e => z (decide_eq_true e)
        have inn := lot_in e
        generalize upd H1 e0 (.tup []) = H2 at g12
        refine ⟨_, rfl, b, rfl, ⟨_, SqT.of (g12 _ _ hb)⟩, fun D hD => ?_⟩
        refine lcS (walk_tup (K := K) (a := b) (xs := ns.map V.int)) stays_bd ns (fun _ => true) (fun n => bs.getD n.toNat dfB) (List.length_map ..) (by omega) (fun H3 g => SqT.of (g _ _ (g12 _ _ hb))) hD ?_ ?_
        · rintro i x k H3 H4 Nx hk ⟨rfl, hx⟩ sm _ yes
          rw [List.getElem?_map, hk] at hx
          cases hx
          obtain ⟨k0, k1⟩ := inn k (List.mem_of_getElem? hk)
          have hy : xs[k.toNat]? = some (xs[k.toNat]'(by omega)) := List.getElem?_eq_getElem (by omega)
          obtain ⟨bb, hbb, hB⟩ := paired_at pr k.toNat _ hy
          have s3 := g12.trans sm
          have ek : k = ((k.toNat : Nat) : Int) := by omega
          refine ⟨rfl, ?_⟩
          refine ⟨_, rfl, h0, C, dx, fs, _, rfl, s3 _ _ hp, cl, nB, fb, _, rfl, a, _, k, _, rfl, rfl, SqT.of (s3 _ _ ha), by rw [ek]; exact atI_nat hy, ?_⟩
          refine yes rfl _ _ (Same.refl _) ?_
          have eg : bs.getD k.toNat dfB = bb := by rw [List.getD_eq_getElem?_getD, hbb]; rfl
          rw [eg]
          exact hB.mono (same_tups s3)
        · intro H3 g3 l3
          rw [filter_all] at l3
          obtain ⟨us, hu, pu⟩ := l3
          refine ⟨D, us, rfl, .inl ⟨SqL.of hu, fun p hp2 => ?_⟩⟩
          have g4 := same_new (o := .tup us) hp2
          refine ⟨p, rfl, cutB bs ns, ⟨us, upd_same, paired_mono (fun _ _ z => z.mono (same_tups g4)) pu⟩, fun b hb => ?_, by rw [cutB, List.length_map]; exact List.length_pos_iff.mpr ne, by rw [cutB, List.length_map]; exact ln, fun p' H' hh g5 => q ns rfl e ne p' H' hh (((g12.trans g3).trans g4).trans g5)⟩
          obtain ⟨k, hk, rfl⟩ := List.mem_map.mp hb
          obtain ⟨k0, k1⟩ := inn k hk
          have hy : bs[k.toNat]? = some (bs[k.toNat]'(by omega)) := List.getElem?_eq_getElem (by omega)
          rw [List.getD_eq_getElem?_getD, hy]
          exact ok _ (List.mem_of_getElem? hy)
theorem c_onlyV (T : Txt K mg) : Cal P w K mg base 9 "only" (sp_onlyV K) [] := by
  have C_is_lot := c_is_lot (P := P) (w := w) (base := base) T
  have C_hall_of := c_hall_of (P := P) (w := w) (base := base) T
  have sc := sc_only
  refine cal_of (k := 8) T.d_only sc (fun _ _ _ _ _ _ us hl => match us, hl with | [_, _], _ => rfl) (fun vs H Q E h => ?_) (fun f cdv A outer s H vs Q E hr h => ?_)
  · obtain ⟨h, a, bs, ns, rfl, _⟩ := h
    rfl
  · obtain ⟨h0, b, bs, ns, rfl, hH, ok, l60, hb, ln, inn, up, ne, q⟩ := h
    refine ⟨_, (pss_cons (ps_if (PW.pt (pw_or (pt_not (pt_val (pe_c C_is_lot hr (by omega) rfl (pa_cons (pv 1) (pa_cons (pe_callB call_len_seq rfl T.m_len (by decide +kernel) (pa_cons (pe_fld (pv 0) rfl) pa_nil)) pa_nil))))) (pw_or1 (pt_cmpR (op_eqD hr.units) (pv 1) (pe_tup pa_nil) (nomark _))))) (pss_one ps_never) pss_nil)
  (pss_one (ps_ret (pe_c C_hall_of hr (by omega) rfl (pa_cons (pe_callTy call_tuple_of rfl T.m_tuple (by decide +kernel) (pa_cons (pe_lc (own := [("number", 2)]) (g := gName 2) rfl sc.nd (pi_tup (pv 1)) (blkOk_by (own := [("number", 2)]) (N := ["hall", "lot", "number"]) (sc := defScope s_only) (by decide +kernel)) (fun _ _ _ _ _ => (pg_name (i := 2) sc.nd rfl (Or.inl rfl))) (fun _ _ _ _ _ => pts_nil) (fun _ _ _ _ _ => (pe_ix (r := rIxT K) ix_tup (pe_fldK (K := K) rfl (pv 0) rfl) (pv 2) (fun _ _ => rfl)))) pa_nil)) pa_nil))))), ?_⟩
    obtain ⟨C, dx, fs, a, n, ys, cl, nB, nN, hp, fb, fn, ⟨xs, ha, pr⟩, hn', nm⟩ := id hH
    have el : xs.length = bs.length := paired_len pr
    have hA : At h0 H (.ref b) (.tuple (ns.map PyData.int)) := .tup hb (at_ints ns)
    refine ⟨_, rfl, _, rfl, h0, C, dx, fs, _, rfl, hp, cl, nB, fb, a, _, rfl, .inr (SqT.of ha), _, _, rfl, h0, _, hA, by show (ns.map PyData.int).length ≤ 1000; rw [List.length_map]; omega, fun H1 g1 => ⟨_, rfl, ?_⟩⟩
    rw [el, lot_ok inn up]
    refine iteF ?_
    refine ⟨_, rfl, nought, fun e0 he0 => ?_⟩
    have g2 := same_new (o := .tup []) he0
    have g12 := g1.trans g2
    refine ⟨.tuple (ns.map PyData.int), rowD [], .tup (SqT.of (g12 _ _ hb)) (dpAll_ints ns), dp_row upd_same, shaped_ints ns, shaped_nil, ?_⟩
    rw [eqv_ints, decide_eq_false ne]
    refine ⟨_, rfl, iteF ?_⟩
    generalize upd H1 e0 (.tup []) = H2 at g12
    refine ⟨_, rfl, b, rfl, ⟨_, SqT.of (g12 _ _ hb)⟩, fun D hD => ?_⟩
    refine lcS (walk_tup (K := K) (a := b) (xs := ns.map V.int)) stays_bd ns (fun _ => true) (fun n => bs.getD n.toNat dfB) (List.length_map ..) (by omega) (fun H3 g => SqT.of (g _ _ (g12 _ _ hb))) hD ?_ ?_
    · rintro i x k H3 H4 Nx hk ⟨rfl, hx⟩ sm _ yes
      rw [List.getElem?_map, hk] at hx
      cases hx
      obtain ⟨k0, k1⟩ := inn k (List.mem_of_getElem? hk)
      have hy : xs[k.toNat]? = some (xs[k.toNat]'(by omega)) := List.getElem?_eq_getElem (by omega)
      obtain ⟨bb, hbb, hB⟩ := paired_at pr k.toNat _ hy
      have s3 := g12.trans sm
      have ek : k = ((k.toNat : Nat) : Int) := by omega
      refine ⟨rfl, ?_⟩
      refine ⟨_, rfl, h0, C, dx, fs, _, rfl, s3 _ _ hp, cl, nB, fb, _, rfl, a, _, k, _, rfl, rfl, SqT.of (s3 _ _ ha), by rw [ek]; exact atI_nat hy, ?_⟩
      refine yes rfl _ _ (Same.refl _) ?_
      have eg : bs.getD k.toNat dfB = bb := by rw [List.getD_eq_getElem?_getD, hbb]; rfl
      rw [eg]
      exact hB.mono (same_tups s3)
    · intro H3 g3 l3
      rw [filter_all] at l3
      obtain ⟨us, hu, pu⟩ := l3
      refine ⟨D, us, rfl, .inl ⟨SqL.of hu, fun p hp2 => ?_⟩⟩
      have g4 := same_new (o := .tup us) hp2
      refine ⟨p, rfl, cutB bs ns, ⟨us, upd_same, paired_mono (fun _ _ z => z.mono (same_tups g4)) pu⟩, fun b hb => ?_, by rw [cutB, List.length_map]; exact List.length_pos_iff.mpr ne, by rw [cutB, List.length_map]; exact ln, fun p' H' hh g5 => q p' H' hh (((g12.trans g3).trans g4).trans g5)⟩
      obtain ⟨k, hk, rfl⟩ := List.mem_map.mp hb
      obtain ⟨k0, k1⟩ := inn k hk
      have hy : bs[k.toNat]? = some (bs[k.toNat]'(by omega)) := List.getElem?_eq_getElem (by omega)
      rw [List.getD_eq_getElem?_getD, hy]
      exact ok _ (List.mem_of_getElem? hy)
end
end K13
namespace K13
open PySem L2 Nm
open C8 (Cal Mak pe_c pe_mk pe_gc)
open RZ (ItzT pi_zipA)
section
variable {P : Program} {w : World} {K : PySem.W.Frag} {mg : Str → Option Value} {base : Heap}
def sp__law_only (K : PySem.W.Frag) : Sp := fun vs H Q _ => ∃ (h : Addr) (v : V), vs = [.ref h, v] ∧ ∃ (bs : List Bd) (tp : Addr) (d : PyData), HallAt K H h bs ∧ (∀ b ∈ bs, okB b) ∧ bs.length ≤ 60 ∧ At tp H v d ∧ lenD d ≤ 60 ∧
  (∀ ns : List Int, d = .tuple (ns.map PyData.int) → lotD d (bs.length : Int) = true → ns ≠ [] → ∀ p H', HallOf K H' p (cutB bs ns) → Same H H' → Q (.ref p) H') ∧ ((lotD d (bs.length : Int) = false ∨ d = .tuple []) → ∀ H', Same H H' → Q (.str "none") H')
theorem c__law_only (T : Txt K mg) : Cal P w K mg base 11 "_law_only" (sp__law_only K) [] := by
  obtain ⟨CE, fi, fdi, B_NoLot, ex, FI⟩ := T.err_NoLot
  obtain ⟨fm, fdm, hmM, kM, bM, FM⟩ := c_only (P := P) (w := w) (base := base) T B_NoLot FI
  have sc := sc__law_only
  refine cal_of (k := 10) T.d__law_only sc (fun _ _ _ _ _ _ us hl => match us, hl with | [_, _], _ => rfl) (fun vs H Q E h => ?_) (fun f cdv A outer s H vs Q E hr h => ?_)
  · obtain ⟨h, v, rfl, _⟩ := h
    rfl
  · obtain ⟨h, v, rfl, bs, tp, d, hH, ok, l60, hA, ld, q, qe⟩ := h
    refine ⟨_, (pss_cons (ps_set (i := 2) sc.nd rfl (Or.inl rfl) pe_str)
  (pss_cons (ps_try_only (tb := fun W => tAsg (tCallS (sp_only K CE) (WE W) (tCons (tVar 0) (tCons (tVar 1) tNil))) (gName 2)) (ts := fun _ _ _ => tAsg (tC (.str "none")) (gName 2)) (Wout := fun _ _ _ _ => False) rfl rfl ⟨rfl, by decide, .inl B_NoLot.hm⟩ takes0 (fun W pn xe tk _ => pss_one (ps_set (i := 2) sc.nd rfl (Or.inl rfl) (pe_callS FM (hr.mono (by omega)) rfl hmM kM bM (fun σ => passAt tk σ) (pa_cons (pv 0) (pa_cons (pv 1) pa_nil))))) (fun _ _ _ _ _ _ _ => pss_one (ps_set (i := 2) sc.nd rfl (Or.inl rfl) pe_str)))
  (pss_one (ps_ret (pv 2))))), ?_⟩
    refine ⟨_, rfl, _, rfl, h, v, bs, tp, d, rfl, hH, ok, l60, hA, ld, fun ns e lt ne p H1 hh g1 => ?_, fun no H1 g1 => ?_⟩
    · exact ⟨_, rfl, q ns e lt ne p H1 hh g1⟩
    · exact ⟨true, ex, fun _ a0 ha0 => ⟨_, rfl, qe no H1 g1⟩, fun z => Bool.noConfusion z⟩
end
end K13
namespace K13
open PySem L2 Nm
open C8 (Cal Mak pe_c pe_mk pe_gc)
open RZ (ItzT pi_zipA)
theorem once_len (zs : List Str) : ∀ i, (onceUp zs i).length ≤ i
  | 0 => Nat.le_refl 0
  | i + 1 => by
    have ih := once_len zs i
    unfold onceUp
    split
    · rw [List.length_append]
      exact Nat.succ_le_succ ih
    · rw [List.append_nil]
      omega
section
variable {P : Program} {w : World} {K : PySem.W.Frag} {mg : Str → Option Value} {base : Heap}
def sp__law_names (K : PySem.W.Frag) : Sp := fun vs H Q _ => ∃ (a : Addr), vs = [.ref a] ∧ ∃ (bs : List Bd) (ys : List Str), BoardsAt H a bs ∧ bs.length < 64 ∧ Names (bs.map (·.1)) ys ∧ ∀ p H', H' p = some (.tup (ys.map V.str)) → Same H H' → Q (.ref p) H'
theorem c__law_names (T : Txt K mg) : Cal P w K mg base 1 "_law_names" (sp__law_names K) [] := by
  have sc := sc__law_names
  refine cal_of T.d__law_names sc (fun _ _ _ _ _ _ us hl => match us, hl with | [_], _ => rfl) (fun vs H Q E h => ?_) (fun f cdv A outer s H vs Q E hr h => ?_)
  · obtain ⟨a, rfl, _⟩ := h
    rfl
  · obtain ⟨a, rfl, h⟩ := h
    refine ⟨_, (pss_cons (ps_set (i := 1) sc.nd rfl (Or.inr rfl) (pe_callB cr_sortedS rfl T.m_sorted (by decide +kernel) (pa_cons (pe_lc (own := [("board", 2)]) (g := gName 2) rfl sc.nd (pi_tup (pv 0)) (blkOk_by (own := [("board", 2)]) (N := ["boards", "names", "board", "k"]) (sc := defScope s__law_names) (by decide +kernel)) (fun _ _ _ _ _ => (pg_name (i := 2) sc.nd rfl (Or.inl rfl))) (fun _ _ _ _ _ => pts_nil) (fun _ _ _ _ _ => (pe_ix (r := rIxT K) ix_tup (pv 2) pe_int (fun _ _ => rfl)))) pa_nil)))
  (pss_one (ps_ret (pe_callTy call_tuple_of rfl T.m_tuple (by decide +kernel) (pa_cons (pe_lc (own := [("k", 3)]) (g := gName 3) rfl sc.nd (pi_range1 rfl T.m_range (pa_cons (pe_callB call_len_seq rfl T.m_len (by decide +kernel) (pa_cons (pv 1) pa_nil)) pa_nil)) (blkOk_by (own := [("k", 3)]) (N := ["boards", "names", "board", "k"]) (sc := defScope s__law_names) (by decide +kernel)) (fun _ _ _ _ _ => (pg_name (i := 3) sc.nd rfl (Or.inl rfl))) (fun _ _ _ _ _ => (pts_one (PW.pt (pw_or (pt_cmpR op_eq (pv 3) pe_int (nomark _)) (pw_or1 (pt_cmpR op_ne (pe_ix (r := rIxL K) ix_list (pv 1) (pv 3) (fun _ _ => rfl)) (pe_ix (r := rIxL K) ix_list (pv 1) (pe_op op_sub (pv 3) pe_int) (fun _ _ => rfl)) (nomark _))))))) (fun _ _ _ _ _ => (pe_ix (r := rIxL K) ix_list (pv 1) (pv 3) (fun _ _ => rfl)))) pa_nil))))), ?_⟩
    obtain ⟨bs, ys, ⟨xs, ha, pr⟩, lb, nm, q⟩ := h
    have el : xs.length = bs.length := paired_len pr
    refine ⟨_, rfl, a, rfl, ⟨_, SqT.of ha⟩, fun D hD => ?_⟩
    refine lc_tup (K := K) (a := a) (xs := xs) (fun i H9 => H9 D = some (.lst (((bs.take i).map (·.1)).map V.str)) ∧ Same H H9) ⟨upd_same, same_new hD⟩ (fun i H9 _ z => SqT.of (z.2 _ _ ha)) ?_ ?_
    · rintro i2 x2 H9 hx2 ⟨h9, g9⟩
      obtain ⟨b, hb2, c, r2, rfl, hc, _⟩ := paired_at pr i2 x2 hx2
      have hi2 := (List.getElem?_eq_some_iff.mp hx2).1
      refine ⟨rfl, ?_⟩
      refine ⟨_, rfl, c, _, 0, .str b.1, rfl, rfl, SqT.of (g9 _ _ hc), rfl, _, h9, ?_, ?_, same_mut g9 hD⟩
      · rw [List.length_map, List.length_map, List.length_take]
        have b1 : (1000 : Nat) < PySem.sizeLine := by decide
        omega
      · rw [upd_same, take_one hb2, List.map_append, List.map_append]
        rfl
    · rintro H9 ⟨h9, g9⟩
      rw [el, List.take_length] at h9
      refine ⟨D, bs.map (·.1), rfl, SqL.of h9, by rw [List.length_map]; omega, fun zs p pm up hp => ?_⟩
      have g10 := g9.trans (same_new (o := .lst (zs.map V.str)) hp)
      have hz : upd H9 p (.lst (zs.map V.str)) p = some (.lst (zs.map V.str)) := upd_same
      have lz : zs.length = bs.length := by rw [pm.length_eq, List.length_map]
      generalize upd H9 p (.lst (zs.map V.str)) = H10 at g10 hz
      refine ⟨_, rfl, p, _, rfl, .inl (SqL.of hz), _, rfl, by rw [List.length_map]; omega, by rw [List.length_map]; omega, fun D2 hD2 => ?_⟩
      refine lc_range (lo := 0) (fun i H11 => H11 D2 = some (.lst ((onceUp zs i).map V.str)) ∧ Same H10 H11) ⟨upd_same, same_new hD2⟩ ?_ ?_
      · rintro i2 H11 hi2 ⟨h11, g11⟩
        rw [List.length_map] at hi2
        have at_ : atI (zs.map V.str) (0 + (i2 : Int)) = some (V.str (zs.getD i2 Str.empty)) := by
          rw [Int.zero_add]
          refine atI_nat ?_
          rw [List.getElem?_map, List.getD_eq_getElem?_getD, List.getElem?_eq_getElem (by omega)]
          rfl
        have put : (i2 = 0 ∨ zs.getD i2 Str.empty ≠ zs.getD (i2 - 1) Str.empty) → ∃ acc, H11 D2 = some (.lst acc) ∧ acc.length < PySem.sizeLine ∧ upd H11 D2 (.lst (acc ++ [V.str (zs.getD i2 Str.empty)])) D2 = some (.lst ((onceUp zs (i2 + 1)).map V.str)) ∧ Same H10 (upd H11 D2 (.lst (acc ++ [V.str (zs.getD i2 Str.empty)]))) := fun c => by
          refine ⟨_, h11, ?_, ?_, same_mut g11 hD2⟩
          · rw [List.length_map]
            have b1 : (1000 : Nat) < PySem.sizeLine := by decide
            have := once_len zs i2
            omega
          · rw [upd_same]
            show _ = some (HO.lst ((onceUp zs i2 ++ (if i2 = 0 ∨ zs.getD i2 Str.empty ≠ zs.getD (i2 - 1) Str.empty then [zs.getD i2 Str.empty] else [])).map V.str))
            rw [if_pos c, List.map_append]
            rfl
        refine ⟨rfl, ?_⟩
        refine ⟨_, rfl, rfl, _, rfl, ?_⟩
        rw [decI]
        refine ite2 (fun z => ?_) (fun z => ?_)
        · have z0 : i2 = 0 := by
            have := of_decide_eq_true z
            omega
          refine iteT ⟨_, rfl, _, rfl, p, _, _, _, rfl, rfl, SqL.of (g11 _ _ hz), at_, put (.inl z0)⟩
        · have z0 : i2 ≠ 0 := by
            have := of_decide_eq_false (Bool.eq_false_iff.mpr z)
            omega
          have at2 : atI (zs.map V.str) (0 + (i2 : Int) - 1) = some (V.str (zs.getD (i2 - 1) Str.empty)) := by
            rw [show (0 + (i2 : Int) - 1) = ((i2 - 1 : Nat) : Int) by omega]
            refine atI_nat ?_
            rw [List.getElem?_map, List.getD_eq_getElem?_getD, List.getElem?_eq_getElem (by omega)]
            rfl
          refine ⟨_, rfl, _, rfl, p, _, _, _, rfl, rfl, SqL.of (g11 _ _ hz), at_, _, rfl, _, rfl, _, _, rfl, rfl, p, _, _, _, rfl, rfl, SqL.of (g11 _ _ hz), at2, rfl, _, rfl, ?_⟩
          rw [decS]
          refine ite2 (fun z2 => ?_) (fun z2 => ?_)
          · refine ⟨_, rfl, _, rfl, p, _, _, _, rfl, rfl, SqL.of (g11 _ _ hz), at_, put (.inr fun e => ?_)⟩
            rw [decide_eq_true e] at z2
            cases z2
          · refine ⟨?_, g11⟩
            have e : zs.getD i2 Str.empty = zs.getD (i2 - 1) Str.empty := by
              cases c : decide (zs.getD i2 Str.empty = zs.getD (i2 - 1) Str.empty) with
              | true => exact of_decide_eq_true c
              | false =>
                rw [c] at z2
                exact absurd rfl z2
            rw [h11]
            show _ = some (HO.lst ((onceUp zs i2 ++ (if i2 = 0 ∨ zs.getD i2 Str.empty ≠ zs.getD (i2 - 1) Str.empty then [zs.getD i2 Str.empty] else [])).map V.str))
            rw [if_neg (fun w => w.elim z0 (fun w => w e)), List.append_nil]
      · rintro H11 ⟨h11, g11⟩
        rw [List.length_map, Int.toNat_natCast] at h11
        rw [once_names up pm nm] at h11
        refine ⟨D2, _, rfl, .inl ⟨SqL.of h11, fun pn hpn => ?_⟩⟩
        exact q pn _ upd_same ((g10.trans g11).trans (same_new (o := .tup (ys.map V.str)) hpn))
end
end K13
namespace K13
open PySem L2 Nm
open C8 (Cal Mak pe_c pe_mk pe_gc)
open RZ (ItzT pi_zipA)
theorem paired_drop {α β : Type} {R : α → β → Prop} : ∀ {xs : List α} {ys : List β}, Paired R xs ys → ∀ n, Paired R (xs.drop n) (ys.drop n)
  | _, _, h, 0 => h
  | _, _, .nil, _ + 1 => .nil
  | _, _, .cons _ t, n + 1 => paired_drop t n
theorem paired_rev {α β : Type} {R : α → β → Prop} : ∀ {xs : List α} {ys : List β}, Paired R xs ys → Paired R xs.reverse ys.reverse
  | _, _, .nil => .nil
  | _, _, .cons r t => by
    rw [List.reverse_cons, List.reverse_cons]
    exact paired_snoc (paired_rev t) r
theorem three : 3 ≤ PySem.sizeLine := by decide
theorem ok_side {b : Bd} (h : okB b) : okB (b.1, 1 - b.2.1, b.2.2) := h.turn
theorem ok_parts {b : Bd} (h : okB b) : letB b.1 8 = true ∧ (0 ≤ b.2.1 ∧ b.2.1 ≤ 1) ∧ rowB b.2.2 20 = true := by
  have h1 := h.1
  unfold boardB at h1
  rw [Bool.and_eq_true, Bool.and_eq_true] at h1
  obtain ⟨a1, a2, a3⟩ := h1
  have z : (decide (0 ≤ b.2.1) && decide (b.2.1 ≤ 1)) = true := a2
  rw [Bool.and_eq_true] at z
  exact ⟨a1, ⟨of_decide_eq_true z.1, of_decide_eq_true z.2⟩, a3⟩
theorem ok_of {n : Str} {s : Int} {r : List Str} (h1 : letB n 8 = true) (l1 : n.length ≤ 1000) (h2 : 0 ≤ s ∧ s ≤ 1) (h3 : rowB r 20 = true) (l2 : r.length ≤ 1000) (l3 : ∀ z ∈ r, z.length ≤ 1000) : okB (n, s, r) := by
  refine ⟨?_, l1, l2, l3⟩
  show (letB n 8 && ((decide (0 ≤ s) && decide (s ≤ 1)) && rowB r 20)) = true
  rw [h1, h3, decide_eq_true h2.1, decide_eq_true h2.2]
  rfl
theorem ok_drop {b : Bd} (h : okB b) : okB (b.1, b.2.1, b.2.2.drop 1) := by
  obtain ⟨p1, p2, p3⟩ := ok_parts h
  have l := h.2
  unfold rowB at p3
  rw [Bool.and_eq_true] at p3
  refine ok_of p1 l.1 p2 ?_ (Nat.le_trans (by rw [List.length_drop]; omega) l.2.1) fun z hz => l.2.2 z (List.mem_of_mem_drop hz)
  unfold rowB
  rw [Bool.and_eq_true]
  refine ⟨decide_eq_true ?_, List.all_eq_true.mpr fun z hz => List.all_eq_true.mp p3.2 z (List.mem_of_mem_drop hz)⟩
  have := of_decide_eq_true p3.1
  rw [List.length_drop]
  omega
theorem ok_r {b : Bd} (h : okB b) : okB (Str.ofString "r", b.2.1, b.2.2) := by
  obtain ⟨p1, p2, p3⟩ := ok_parts h
  exact ok_of (by decide +kernel) (by decide) p2 p3 h.2.2.1 h.2.2.2
theorem ok_x {b : Bd} (h : okB b) : okB (b.1, b.2.1, [Str.ofString "x"]) := by
  obtain ⟨p1, p2, p3⟩ := ok_parts h
  exact ok_of p1 h.2.1 p2 (by decide +kernel) (by decide) fun z hz => by rw [List.mem_singleton.mp hz]; decide
section
variable {P : Program} {w : World} {K : PySem.W.Frag} {mg : Str → Option Value} {base : Heap}
def sp__law_changed (K : PySem.W.Frag) : Sp := fun vs H Q _ => ∃ (tp a : Addr), vs = [.ref tp, .ref a] ∧ ∃ l bs, TapeAt H tp l ∧ BoardsAt H a bs ∧ (∀ b ∈ bs, okB b) ∧ 1 ≤ bs.length ∧ bs.length ≤ 12 ∧
  ∀ (p : Addr) (cs : List Bd) (H' : Hp), BoardsAt H' p cs → (∀ b ∈ cs, okB b) → 1 ≤ cs.length → cs.length ≤ 12 → TapeAt H' tp l → Mov tp H H' → Q (.ref p) H'
theorem c__law_changed (T : Txt K mg) : Cal P w K mg base 4 "_law_changed" (sp__law_changed K) [] := by
  have C__law_pick := c__law_pick (P := P) (w := w) (base := base) T
  have C__law_some := c__law_some (P := P) (w := w) (base := base) T
  have sc := sc__law_changed
  refine cal_of T.d__law_changed sc (fun _ _ _ _ _ _ us hl => match us, hl with | [_, _], _ => rfl) (fun vs H Q E h => ?_) (fun f cdv A outer s H vs Q E hr h => ?_)
  · obtain ⟨tp, a, rfl, _⟩ := h
    rfl
  · obtain ⟨tp, a, rfl, h⟩ := h
    refine ⟨_, (pss_cons (ps_set (i := 2) sc.nd rfl (Or.inl rfl) (pe_c C__law_pick hr (by omega) rfl (pa_cons (pv 0) (pa_cons (pe_callB (r := Nm.rLenS K) (id := "len") Nm.call_lenS rfl T.m_len (by decide +kernel) (pa_cons (pv 1) pa_nil)) pa_nil))))
  (pss_cons (ps_asg (pe_ix ix_tup (pv 1) (pv 2) (fun _ _ => rfl)) (pg_tup rfl (pgs_cons (pg_name (i := 3) sc.nd rfl (Or.inl rfl)) (pgs_cons (pg_name (i := 4) sc.nd rfl (Or.inl rfl)) (pgs_cons (pg_name (i := 5) sc.nd rfl (Or.inl rfl)) pgs_nil)))))
  (pss_cons (ps_set (i := 6) sc.nd rfl (Or.inl rfl) (pe_lst (pa_cons (pe_tup (pa_cons pe_str (pa_cons (pv 4) (pa_cons (pv 5) pa_nil)))) (pa_cons (pe_tup (pa_cons (pv 3) (pa_cons (pe_op op_sub pe_int (pv 4)) (pa_cons (pv 5) pa_nil)))) (pa_cons (pe_tup (pa_cons (pv 3) (pa_cons (pv 4) (pa_cons (pe_slice sl_tupA (pv 5) (po_some pe_int) po_none) pa_nil)))) (pa_cons (pe_tup (pa_cons (pv 3) (pa_cons (pv 4) (pa_cons (pe_tup (pa_cons pe_str pa_nil)) pa_nil)))) (pa_cons (pe_tup (pa_cons (pv 3) (pa_cons (pv 4) (pa_cons (pv 5) pa_nil)))) pa_nil)))))))
  (pss_cons (ps_if (PW.pt (pw_and (pt_cmpR op_eq (pe_c C__law_pick hr (by omega) rfl (pa_cons (pv 0) (pa_cons pe_int pa_nil))) pe_int (nomark _)) (pw_and1 (pt_cmpR op_gt (pe_callB (r := Nm.rLenS K) (id := "len") Nm.call_lenS rfl T.m_len (by decide +kernel) (pa_cons (pv 1) pa_nil)) pe_int (nomark _))))) (pss_one (ps_ret (pe_ix ix_list (pe_lst (pa_cons (pe_slice sl_tupA (pv 1) (po_some pe_int) po_none) (pa_cons (Nm.pe_revT (pv 1)) pa_nil))) (pe_c C__law_pick hr (by omega) rfl (pa_cons (pv 0) (pa_cons pe_int pa_nil))) (fun _ _ => rfl)))) pss_nil)
  (pss_one (ps_ret (pe_op op_catA (pe_op op_catA (pe_slice sl_tupA (pv 1) po_none (po_some (pv 2))) (pe_tup (pa_cons (pe_c C__law_some hr (by omega) rfl (pa_cons (pv 0) (pa_cons (pv 6) pa_nil))) pa_nil))) (pe_slice sl_tupA (pv 1) (po_some (pe_op op_add (pv 2) pe_int)) po_none)))))))), ?_⟩
    obtain ⟨l, bs, t0, ⟨xs, ha, pr⟩, ok, l1, l12, q⟩ := h
    have el : xs.length = bs.length := paired_len pr
    refine ⟨_, rfl, _, rfl, a, _, rfl, .inr (SqT.of ha), tp, _, rfl, l, t0, by omega, by omega, fun r1 H1 r10 r11 t1 mv1 => ?_⟩
    obtain ⟨k, rfl⟩ : ∃ k : Nat, r1 = (k : Int) := ⟨r1.toNat, by omega⟩
    have tk1 := (t0.keep mv1).tups
    have ha1 := tk1 _ _ ha
    have pr1 := paired_mono (fun _ _ h => stays_bd _ _ _ _ tk1 h) pr
    have hx : xs[k]? = some (xs[k]'(by omega)) := List.getElem?_eq_getElem (by omega)
    obtain ⟨b, hb, c, r, ex, hc, hr1⟩ := paired_at pr1 k _ hx
    rw [ex] at hx
    have okb := ok b (List.mem_of_getElem? hb)
    refine ⟨_, rfl, _, rfl, a, xs, (k : Int), _, rfl, rfl, SqT.of ha1, atI_nat hx, ?_⟩
    refine ⟨c, _, rfl, SqT.of hc, rfl, _, _, rfl, _, _, rfl, _, _, rfl, rfl, ?_⟩
    -- what it may become
    refine ⟨_, rfl, _, rfl, three, fun o1 h1 => ?_⟩
    have k1 := same_new (o := .tup [V.str (Str.ofString "r"), V.int b.2.1, V.ref r]) h1
    refine ⟨_, rfl, _, rfl, _, _, rfl, rfl, _, rfl, three, fun o2 h2 => ?_⟩
    have k2 := same_new (o := .tup [V.str b.1, V.int (1 - b.2.1), V.ref r]) h2
    refine ⟨_, rfl, _, rfl, _, rfl, 1, rfl, ?_⟩
    dsimp only [tNoPart]
    refine sl_from1 (k2 _ _ (k1 _ _ hr1)) fun r2 H2 k3 hr2 => ⟨three, fun o3 h3 => ?_⟩
    rw [← List.map_drop] at hr2
    have k4 := same_new (o := .tup [V.str b.1, V.int b.2.1, V.ref r2]) h3
    refine ⟨_, rfl, _, rfl, (by show 1 ≤ PySem.sizeLine; decide), fun r3 hr3 => ⟨three, fun o4 h4 => ?_⟩⟩
    have k5 := same_new (o := .tup [V.str (Str.ofString "x")]) hr3
    have k6 := same_new (o := .tup [V.str b.1, V.int b.2.1, V.ref r3]) h4
    refine ⟨_, rfl, _, rfl, _, rfl, three, fun o5 h5 => ⟨(by show 5 ≤ PySem.sizeLine; decide), fun od hod => ?_⟩⟩
    have k7 := same_new (o := .tup [V.str b.1, V.int b.2.1, V.ref r]) h5
    have k8 := same_new (o := .lst [V.ref o1, V.ref o2, V.ref o3, V.ref o4, V.ref o5]) hod
    have k78 := k7.trans k8
    have k68 := k6.trans k78
    have k58 := k5.trans k68
    have k48 := k4.trans k58
    have k38 := k3.trans k48
    have k28 := k2.trans k38
    have k18 := k1.trans k28
    have pod : Paired (BoardAt _) [V.ref o1, V.ref o2, V.ref o3, V.ref o4, V.ref o5] [(Str.ofString "r", b.2.1, b.2.2), (b.1, 1 - b.2.1, b.2.2), (b.1, b.2.1, b.2.2.drop 1), (b.1, b.2.1, [Str.ofString "x"]), (b.1, b.2.1, b.2.2)] :=
      .cons ⟨o1, r, rfl, k28 _ _ upd_same, k18 _ _ hr1⟩ (.cons ⟨o2, r, rfl, k38 _ _ upd_same, k18 _ _ hr1⟩ (.cons ⟨o3, r2, rfl, k58 _ _ upd_same, k48 _ _ hr2⟩ (.cons ⟨o4, r3, rfl, k78 _ _ upd_same, k68 _ _ upd_same⟩ (.cons ⟨o5, r, rfl, k8 _ _ upd_same, k18 _ _ hr1⟩ .nil))))
    have okod : ∀ z ∈ [(Str.ofString "r", b.2.1, b.2.2), (b.1, 1 - b.2.1, b.2.2), (b.1, b.2.1, b.2.2.drop 1), (b.1, b.2.1, [Str.ofString "x"]), (b.1, b.2.1, b.2.2)], okB z := fun z hz => by
      simp only [List.mem_cons, List.not_mem_nil, or_false] at hz
      rcases hz with rfl | rfl | rfl | rfl | rfl
      · exact ok_r okb
      · exact ok_side okb
      · exact ok_drop okb
      · exact ok_x okb
      · exact okb
    have hod' := upd_same (H := upd (upd (upd (upd H2 o3 (.tup [V.str b.1, V.int b.2.1, V.ref r2])) r3 (.tup [V.str (Str.ofString "x")])) o4 (.tup [V.str b.1, V.int b.2.1, V.ref r3])) o5 (.tup [V.str b.1, V.int b.2.1, V.ref r])) (a := od) (o := .lst [V.ref o1, V.ref o2, V.ref o3, V.ref o4, V.ref o5])
    have t2 := t1.same k18
    have nod := (t1.same (k1.trans (k2.trans (k3.trans (k4.trans (k5.trans (k6.trans k7))))))).new hod
    generalize upd (upd (upd (upd (upd H2 o3 (.tup [V.str b.1, V.int b.2.1, V.ref r2])) r3 (.tup [V.str (Str.ofString "x")])) o4 (.tup [V.str b.1, V.int b.2.1, V.ref r3])) o5 (.tup [V.str b.1, V.int b.2.1, V.ref r])) od (.lst [V.ref o1, V.ref o2, V.ref o3, V.ref o4, V.ref o5]) = H3 at k18 pod hod' t2
    generalize [(Str.ofString "r", b.2.1, b.2.2), (b.1, 1 - b.2.1, b.2.2), (b.1, b.2.1, b.2.2.drop 1), (b.1, b.2.1, [Str.ofString "x"]), (b.1, b.2.1, b.2.2)] = odd at pod okod
    have ha3 := k18 _ _ ha1
    have pr3 := paired_mono (fun _ _ h => stays_bd _ _ _ _ (tups_same k18) h) pr1
    have m3 := mv1.trans (mov_same k18)
    clear k1 k2 k3 k4 k5 k6 k7 k8 k78 k68 k58 k48 k38 k28 k18 h1 h2 h3 h4 h5 hr3 hr2 hod t1
    have big : (4000 : Nat) < PySem.sizeLine := by decide
    refine ⟨_, rfl, tp, 6, rfl, l, t2, by decide, by decide, fun r6 H4 r60 r61 t4 mv4 => ⟨rfl, _, rfl, ?_⟩⟩
    have tk4 := (t2.keep mv4).tups
    have ha4 := tk4 _ _ ha3
    have pr4 := paired_mono (fun _ _ h => stays_bd _ _ _ _ tk4 h) pr3
    have pod4 := paired_mono (fun _ _ h => stays_bd _ _ _ _ tk4 h) pod
    have hod4 := mv4 _ _ hod' nod.1
    have m4 := m3.trans mv4
    have kl : k < xs.length := by omega
    refine ite2 (fun _ => ?_) (fun _ => ?_)
    · refine ⟨_, rfl, a, _, rfl, .inr (SqT.of ha4), _, _, rfl, rfl, _, rfl, ?_⟩
      refine ite2 (fun z => ?_) (fun _ => ?_)
      · have two' : 2 ≤ xs.length := by have := of_decide_eq_true z; omega
        refine ⟨_, rfl, 1, rfl, ?_⟩
        dsimp only [tNoPart]
        refine sl_from1 ha4 fun p1 H5 g5 hp1 => ⟨_, rfl, a, xs, rfl, SqT.of (g5 _ _ ha4), (fun e => by rw [e] at two'; cases two'), fun p2 hp2 => ⟨(by show 2 ≤ PySem.sizeLine; decide), fun lp hlp => ?_⟩⟩
        have k6 := same_new (o := .tup xs.reverse) hp2
        have k7 := same_new (o := .lst [V.ref p1, V.ref p2]) hlp
        have k57 := g5.trans (k6.trans k7)
        have nlp := (t4.same (g5.trans k6)).new hlp
        refine ⟨_, rfl, tp, 2, rfl, l, t4.same k57, by decide, by decide, fun r7 H8 r70 r71 t8 mv8 => ?_⟩
        have mvL := (mov_same k57).trans mv8
        have tkL := (t4.keep mvL).tups
        have tk8 := ((t4.same k57).keep mv8).tups
        have prL := paired_mono (fun _ _ h => stays_bd _ _ _ _ tkL h) pr4
        have hl8 := mv8 _ _ (upd_same (H := upd H5 p2 (.tup xs.reverse)) (a := lp) (o := .lst [V.ref p1, V.ref p2])) nlp.1
        have r01 : r7 = 0 ∨ r7 = 1 := by omega
        rcases r01 with rfl | rfl
        · refine ⟨lp, _, 0, .ref p1, rfl, rfl, SqL.of hl8, rfl, ?_⟩
          refine q p1 (bs.drop 1) H8 ⟨_, tk8 _ _ (k7 _ _ (k6 _ _ hp1)), paired_drop prL 1⟩ (fun z hz => ok z (List.mem_of_mem_drop hz)) (by rw [List.length_drop]; omega) (by rw [List.length_drop]; omega) t8 (m4.trans mvL)
        · refine ⟨lp, _, 1, .ref p2, rfl, rfl, SqL.of hl8, rfl, ?_⟩
          refine q p2 bs.reverse H8 ⟨_, tk8 _ _ (k7 _ _ upd_same), paired_rev prL⟩ (fun z hz => ok z (List.mem_reverse.mp hz)) (by rw [List.length_reverse]; omega) (by rw [List.length_reverse]; omega) t8 (m4.trans mvL)
      · refine ⟨_, rfl, _, rfl, _, rfl, sl_takeE (k := k) rfl ha4 fun p1 H5 g5 hp1 => ?_⟩
        have t5 := t4.same g5
        refine ⟨_, rfl, _, rfl, tp, od, rfl, l, _, t5, g5 _ _ hod4, nod.1, (by show 1 ≤ 5; decide), (by show 5 ≤ 1000; decide), fun x H6 mx t6 mv6 => ⟨(by show 1 ≤ PySem.sizeLine; decide), fun p2 hp2 => ?_⟩⟩
        obtain ⟨j, hj⟩ := List.mem_iff_getElem?.mp mx
        obtain ⟨b', hb', hB⟩ := paired_at pod4 j x hj
        have okb' := okod b' (List.mem_of_getElem? hb')
        have tk6 := (t5.keep mv6).tups
        have k7 := same_new (o := .tup [x]) hp2
        refine cat_tups (k7 _ _ (tk6 _ _ hp1)) upd_same (by rw [List.length_take]; show min k xs.length + 1 ≤ 4000; omega) fun p3 H8 k8 hp3 => ?_
        have ha8 := k8 _ _ (k7 _ _ (tk6 _ _ (g5 _ _ ha4)))
        refine ⟨_, rfl, _, rfl, _, _, rfl, rfl, _, rfl, ?_⟩
        dsimp only [tNoPart]
        refine sl_dropE (k := k + 1) (by omega) ha8 fun p4 H9 k9 hp4 => ?_
        refine cat_tups (k9 _ _ hp3) hp4 (by rw [List.length_append, List.length_take, List.length_drop]; show min k xs.length + 1 + (xs.length - (k + 1)) ≤ 4000; omega) fun p5 H10 k10 hp5 => ?_
        have k710 := k7.trans (k8.trans (k9.trans k10))
        have mvL := ((mov_same g5).trans mv6).trans (mov_same k710)
        have tkL := (t4.keep mvL).tups
        have prL := paired_mono (fun _ _ h => stays_bd _ _ _ _ tkL h) pr4
        have hBL := stays_bd _ _ _ _ tkL hB
        refine q p5 (bs.take k ++ [b'] ++ bs.drop (k + 1)) H10 ⟨_, hp5, paired_app (paired_app (paired_take prL k) (.cons hBL .nil)) (paired_drop prL (k + 1))⟩ (fun z hz => ?_) ?_ ?_ (t6.same k710) (m4.trans mvL)
        · rcases List.mem_append.mp hz with hz | hz
          · rcases List.mem_append.mp hz with hz | hz
            · exact ok z (List.mem_of_mem_take hz)
            · rw [List.mem_singleton.mp hz]
              exact okb'
          · exact ok z (List.mem_of_mem_drop hz)
        · rw [List.length_append, List.length_append]
          show 1 ≤ (bs.take k).length + 1 + _
          omega
        · rw [List.length_append, List.length_append, List.length_take, List.length_drop]
          show min k bs.length + 1 + (bs.length - (k + 1)) ≤ 12
          omega
    · refine ⟨_, rfl, _, rfl, _, rfl, sl_takeE (k := k) rfl ha4 fun p1 H5 g5 hp1 => ?_⟩
      have t5 := t4.same g5
      refine ⟨_, rfl, _, rfl, tp, od, rfl, l, _, t5, g5 _ _ hod4, nod.1, (by show 1 ≤ 5; decide), (by show 5 ≤ 1000; decide), fun x H6 mx t6 mv6 => ⟨(by show 1 ≤ PySem.sizeLine; decide), fun p2 hp2 => ?_⟩⟩
      obtain ⟨j, hj⟩ := List.mem_iff_getElem?.mp mx
      obtain ⟨b', hb', hB⟩ := paired_at pod4 j x hj
      have okb' := okod b' (List.mem_of_getElem? hb')
      have tk6 := (t5.keep mv6).tups
      have k7 := same_new (o := .tup [x]) hp2
      refine cat_tups (k7 _ _ (tk6 _ _ hp1)) upd_same (by rw [List.length_take]; show min k xs.length + 1 ≤ 4000; omega) fun p3 H8 k8 hp3 => ?_
      have ha8 := k8 _ _ (k7 _ _ (tk6 _ _ (g5 _ _ ha4)))
      refine ⟨_, rfl, _, rfl, _, _, rfl, rfl, _, rfl, ?_⟩
      dsimp only [tNoPart]
      refine sl_dropE (k := k + 1) (by omega) ha8 fun p4 H9 k9 hp4 => ?_
      refine cat_tups (k9 _ _ hp3) hp4 (by rw [List.length_append, List.length_take, List.length_drop]; show min k xs.length + 1 + (xs.length - (k + 1)) ≤ 4000; omega) fun p5 H10 k10 hp5 => ?_
      have k710 := k7.trans (k8.trans (k9.trans k10))
      have mvL := ((mov_same g5).trans mv6).trans (mov_same k710)
      have tkL := (t4.keep mvL).tups
      have prL := paired_mono (fun _ _ h => stays_bd _ _ _ _ tkL h) pr4
      have hBL := stays_bd _ _ _ _ tkL hB
      refine q p5 (bs.take k ++ [b'] ++ bs.drop (k + 1)) H10 ⟨_, hp5, paired_app (paired_app (paired_take prL k) (.cons hBL .nil)) (paired_drop prL (k + 1))⟩ (fun z hz => ?_) ?_ ?_ (t6.same k710) (m4.trans mvL)
      · rcases List.mem_append.mp hz with hz | hz
        · rcases List.mem_append.mp hz with hz | hz
          · exact ok z (List.mem_of_mem_take hz)
          · rw [List.mem_singleton.mp hz]
            exact okb'
        · exact ok z (List.mem_of_mem_drop hz)
      · rw [List.length_append, List.length_append]
        show 1 ≤ (bs.take k).length + 1 + _
        omega
      · rw [List.length_append, List.length_append, List.length_take, List.length_drop]
        show min k bs.length + 1 + (bs.length - (k + 1)) ≤ 12
        omega
end
end K13
namespace K13
open PySem L2 Nm
open C8 (Cal Mak pe_c pe_mk pe_gc)
open RZ (ItzT pi_zipA)
/-- what is new, and then what a new thing keeps -/
theorem made_same {H H4 : Hp} {x dx C : Addr} (hx : H x = none) (hdx : H dx = none) (kp : ∀ b o, upd (upd H dx (.own x)) x (.ins C dx []) b = some o → b ≠ x → H4 b = some o) : Same H H4 := fun b o ho => kp b o (by rw [upd_ne (ne_of_none ho hx), upd_ne (ne_of_none ho hdx)]; exact ho) (ne_of_none ho hx)
theorem own_hall {K : PySem.W.Frag} {C a p : Addr} {bs cs : List Bd} {ne : Bool} {H : Hp} {Q : VK} (HT : HallT K C) (h : HallOf K H a bs) (ok : ∀ b ∈ bs, okB b) (h2 : HallOf K H p cs) (ok2 : ∀ b ∈ cs, okB b) (q : ∀ H', Same H H' → Q (.bl (xor ne (decide (bs = cs)))) H') : rOwn K C (eqR K) ne (.ref a) (.ref p) H Q := by
  obtain ⟨_, D, dx, fs, n1, e1⟩ := id h
  obtain ⟨_, D2, dx2, fs2, n2, e2⟩ := id h2
  cases HT.one n1
  cases HT.one n2
  exact ⟨a, dx, fs, _, _, rfl, e1, HT.ty e2, first_self, ⟨a, bs, rfl, h, ok, .inl ⟨p, cs, rfl, h2, ok2, rfl⟩⟩, q⟩
theorem own_odd {K : PySem.W.Frag} {C a : Addr} {bs : List Bd} {ne : Bool} {H : Hp} {y : V} {t : String} {Q : VK} (HT : HallT K C) (h : HallOf K H a bs) (ok : ∀ b ∈ bs, okB b) (ht : t ∈ tyO) (ty : TyX K H y (.type t)) (q : ∀ H', Same H H' → Q (.bl (xor ne false)) H') : rOwn K C (eqR K) ne (.ref a) y H Q := by
  obtain ⟨_, D, dx, fs, n1, e1⟩ := id h
  cases HT.one n1
  exact ⟨a, dx, fs, _, _, rfl, e1, ty, (HT.no t ht).2, ⟨a, bs, rfl, h, ok, .inr ⟨rfl, t, ht, ty⟩⟩, q⟩
theorem turn_turn (b : Bd) : turnB (turnB b) = b := by
  obtain ⟨n, s, r⟩ := b
  show (n, 1 - (1 - s), r) = _
  rw [show 1 - (1 - s) = s by omega]
theorem turn_turns (bs : List Bd) : (bs.map turnB).map turnB = bs := by
  rw [List.map_map]
  exact (List.map_congr_left fun b _ => turn_turn b).trans (List.map_id bs)
theorem ok_turns {bs : List Bd} (h : ∀ b ∈ bs, okB b) : ∀ b ∈ bs.map turnB, okB b := fun b hb => by
  obtain ⟨c, hc, rfl⟩ := List.mem_map.mp hb
  exact (h c hc).turn
theorem ok_app {bs cs : List Bd} (h : ∀ b ∈ bs, okB b) (h2 : ∀ b ∈ cs, okB b) : ∀ b ∈ bs ++ cs, okB b := fun b hb => (List.mem_append.mp hb).elim (h b) (h2 b)
/-- all boards -/
def allN (m : Nat) : List Int := (List.range m).map fun i => ((i : Nat) : Int)
theorem rg_all (m : Nat) : rgV 0 (m : Int) = (allN m).map V.int := by
  unfold rgV allN
  rw [List.map_map, show ((m : Int) - 0).toNat = m by omega]
  refine List.map_congr_left fun i _ => ?_
  show V.int (0 + (i : Int)) = V.int (i : Int)
  rw [Int.zero_add]
theorem all_in {m k : Nat} (h : m ≤ k) : ∀ n ∈ allN m, 0 ≤ n ∧ n < (k : Int) := fun n hn => by
  obtain ⟨i, hi, rfl⟩ := List.mem_map.mp hn
  have := List.mem_range.mp hi
  omega
theorem all_up (m : Nat) : (allN m).Pairwise (· < ·) := by
  unfold allN
  rw [List.pairwise_map]
  exact (List.pairwise_lt_range (n := m)).imp fun z => by omega
theorem all_len (m : Nat) : (allN m).length = m := by
  unfold allN
  rw [List.length_map, List.length_range]
theorem all_ne {m : Nat} (h : 1 ≤ m) : allN m ≠ [] := fun e => by
  have l := all_len m
  rw [e] at l
  have : (0 : Nat) = m := l
  omega
theorem cut_all (bs cs : List Bd) : cutB (bs ++ cs) (allN bs.length) = bs := by
  unfold cutB allN
  rw [List.map_map]
  refine List.ext_getElem (by rw [List.length_map, List.length_range]) fun i h1 h2 => ?_
  rw [List.getElem_map, List.getElem_range]
  show (bs ++ cs).getD ((i : Nat) : Int).toNat dfB = bs[i]
  rw [Int.toNat_natCast, List.getD_eq_getElem?_getD, List.getElem?_append_left h2, List.getElem?_eq_getElem h2]
  rfl
theorem cut_self (bs : List Bd) : cutB bs (allN bs.length) = bs := by
  have h := cut_all bs []
  rw [List.append_nil] at h
  exact h
section
variable {P : Program} {w : World} {K : PySem.W.Frag} {mg : Str → Option Value} {base : Heap}
def sp__law_compared (K : PySem.W.Frag) : Sp := fun vs H Q _ => ∃ (tp : Addr), vs = [.ref tp] ∧ ∃ l, TapeAt H tp l ∧ ∀ H', TapeAt H' tp l → Mov tp H H' → Q (.bl true) H'
theorem c__law_compared (T : Txt K mg) : Cal P w K mg base 12 "_law_compared" (sp__law_compared K) [] := by
  have C__law_boards := c__law_boards (P := P) (w := w) (base := base) T
  have C__law_changed := c__law_changed (P := P) (w := w) (base := base) T
  have C__law_flag := c__law_flag (P := P) (w := w) (base := base) T
  have C__law_pick := c__law_pick (P := P) (w := w) (base := base) T
  have C_is_fresh := c_is_fresh (P := P) (w := w) (base := base) T
  have C_joined := c_joined (P := P) (w := w) (base := base) T
  have C_turned := c_turned (P := P) (w := w) (base := base) T
  have sc := sc__law_compared
  refine cal_of T.d__law_compared sc (fun _ _ _ _ _ _ us hl => match us, hl with | [_], _ => rfl) (fun vs H Q E h => ?_) (fun f cdv A outer s H vs Q E hr h => ?_)
  · obtain ⟨tp, rfl, _⟩ := h
    rfl
  · obtain ⟨tp, rfl, h⟩ := h
    obtain ⟨l, t0, q⟩ := h
    have C_Hall := True.intro
    obtain ⟨CH, hmC, C_Hall⟩ := c_Hall (P := P) (w := w) (base := base) T
    obtain ⟨CE, fe, fde, HT, hmE, OE, FE⟩ := c_eqH (P := P) (w := w) (base := base) T
    have eC : CE = CH := by
      have e := hmE.symm.trans hmC
      cases e
      rfl
    subst eC
    have C_only := c_onlyV (P := P) (w := w) (base := base) T
    refine ⟨_, (pss_cons (ps_for PassesOwn.never rfl (pi_range1 rfl T.m_range (pa_cons pe_int pa_nil)) (pg_name (i := 1) sc.nd rfl (Or.inl rfl)) (pss_cons (ps_set (i := 2) sc.nd rfl (Or.inl rfl) (pe_c C__law_boards hr (by omega) rfl (pa_cons (pv 0) (pa_cons pe_int (pa_cons (pe_cmpR op_eq (pe_c C__law_pick hr (by omega) rfl (pa_cons (pv 0) (pa_cons pe_int pa_nil))) pe_int (nomark _)) pa_nil)))))
  (pss_cons (ps_set (i := 3) sc.nd rfl (Or.inl rfl) (pe_c C__law_changed hr (by omega) rfl (pa_cons (pv 0) (pa_cons (pv 2) pa_nil))))
  (pss_cons (ps_set (i := 4) sc.nd rfl (Or.inl rfl) (pe_mk C_Hall hr (by omega) rfl (pa_cons (pv 2) pa_nil)))
  (pss_cons (ps_set (i := 5) sc.nd rfl (Or.inl rfl) (pe_mk C_Hall hr (by omega) rfl (pa_cons (pv 3) pa_nil)))
  (pss_cons (ps_if (PW.pt (pw_or (pt_not (pt_cmpR (op_own FE OE (hr.mono (by omega))) (pv 4) (pe_mk C_Hall hr (by omega) rfl (pa_cons (pv 2) pa_nil)) (nomark _))) (pw_or (pt_cmpR (op_ownNe FE OE (hr.mono (by omega))) (pv 4) (pe_mk C_Hall hr (by omega) rfl (pa_cons (pv 2) pa_nil)) (nomark _)) (pw_or (pt_cmpR op_ne (pe_cmpR (op_own FE OE (hr.mono (by omega))) (pv 4) (pv 5) (nomark _)) (pe_cmpR (op_eqD hr.units) (pv 2) (pv 3) (nomark _)) (nomark _)) (pw_or1 (pt_cmpR op_ne (pe_cmpR (op_ownNe FE OE (hr.mono (by omega))) (pv 4) (pv 5) (nomark _)) (pe_cmpR (op_neD hr.units) (pv 2) (pv 3) (nomark _)) (nomark _))))))) (pss_one (ps_ret pe_bl)) pss_nil)
  (pss_cons (ps_for PassesOwn.never rfl (pi_list (pe_lst (pa_cons pe_non (pa_cons (pv 2) (pa_cons (pe_callTy call_list_of rfl T.m_list (by decide +kernel) (pa_cons (pv 2) pa_nil)) (pa_cons pe_int (pa_cons pe_str (pa_cons (pe_fld (pv 4) rfl) (pa_cons pe_dnewK pa_nil))))))))) (pg_name (i := 6) sc.nd rfl (Or.inl rfl)) (pss_one (ps_if (PW.pt (pw_or (pt_cmpR (op_own FE OE (hr.mono (by omega))) (pv 4) (pv 6) (nomark _)) (pw_or1 (pt_not (pt_cmpR (op_ownNe FE OE (hr.mono (by omega))) (pv 4) (pv 6) (nomark _)))))) (pss_one (ps_ret pe_bl)) pss_nil)))
  (pss_cons (ps_if (PW.pt (pw_or (pt_not (pt_cmpR (op_own FE OE (hr.mono (by omega))) (pe_c C_turned hr (by omega) rfl (pa_cons (pe_c C_turned hr (by omega) rfl (pa_cons (pv 4) pa_nil)) pa_nil)) (pv 4) (nomark _))) (pw_or1 (pt_not (pt_cmpR (op_own FE OE (hr.mono (by omega))) (pe_c C_only hr (by omega) rfl (pa_cons (pv 4) (pa_cons (pe_tupRg rfl rfl T.m_tuple (prg_1 rfl T.m_range (pe_callB call_len_seq rfl T.m_len (by decide +kernel) (pa_cons (pv 2) pa_nil)))) pa_nil))) (pv 4) (nomark _)))))) (pss_one (ps_ret pe_bl)) pss_nil)
  (pss_cons (ps_set (i := 7) sc.nd rfl (Or.inl rfl) (pe_c C_joined hr (by omega) rfl (pa_cons (pv 4) (pa_cons (pv 5) pa_nil))))
  (pss_cons (ps_if (PW.pt (pw_or (pt_not (pt_cmpR (op_own FE OE (hr.mono (by omega))) (pv 7) (pe_c C_joined hr (by omega) rfl (pa_cons (pe_mk C_Hall hr (by omega) rfl (pa_cons (pv 2) pa_nil)) (pa_cons (pe_mk C_Hall hr (by omega) rfl (pa_cons (pv 3) pa_nil)) pa_nil))) (nomark _))) (pw_or1 (pt_cmpR op_ne (pe_cmpR (op_own FE OE (hr.mono (by omega))) (pv 7) (pe_c C_joined hr (by omega) rfl (pa_cons (pv 5) (pa_cons (pv 4) pa_nil))) (nomark _)) (pe_cmpR (op_eqD hr.units) (pe_op op_catA (pv 2) (pv 3)) (pe_op op_catA (pv 3) (pv 2)) (nomark _)) (nomark _))))) (pss_one (ps_ret pe_bl)) pss_nil)
  (pss_cons (ps_for PassesOwn.never rfl (pi_list (pe_lst (pa_cons (pv 4) (pa_cons (pv 5) (pa_cons (pv 7) (pa_cons (pe_c C_turned hr (by omega) rfl (pa_cons (pv 7) pa_nil)) pa_nil)))))) (pg_name (i := 8) sc.nd rfl (Or.inl rfl)) (pss_one (ps_if (pt_not (pt_val (pe_c C__law_flag hr (by omega) rfl (pa_cons (pe_c C_is_fresh hr (by omega) rfl (pa_cons (pv 8) pa_nil)) (pa_cons (pe_callB (cr_all rfl) rfl T.m_all (by decide +kernel) (pa_cons (pe_lc (own := [("board", 9)]) (g := gName 9) rfl sc.nd (pi_tup (pe_fld (pv 8) rfl)) (blkOk_by (own := [("board", 9)]) (N := ["tape", "turn", "boards", "other", "one", "two", "odd", "both", "hall", "board"]) (sc := defScope s__law_compared) (by decide +kernel)) (fun _ _ _ _ _ => (pg_name (i := 9) sc.nd rfl (Or.inl rfl))) (fun _ _ _ _ _ => pts_nil) (fun _ _ _ _ _ => (pe_cmpR (r := rEqD K) (op_eqD hr.units) (pe_ix (r := rIxT K) ix_tup (pv 9) pe_int (fun _ _ => rfl)) (pe_tup pa_nil) (nomark _)))) pa_nil)) pa_nil))))) (pss_one (ps_ret pe_bl)) pss_nil)))
  (pss_cons (ps_set (i := 6) sc.nd rfl (Or.inl rfl) (pe_ix ix_list (pe_lst (pa_cons pe_non (pa_cons (pv 2) (pa_cons (pe_tup pa_nil) (pa_cons pe_int (pa_cons pe_bl (pa_cons (pe_lst (pa_cons (pv 4) pa_nil)) (pa_cons pe_dnewK (pa_cons pe_str pa_nil))))))))) (pe_c C__law_pick hr (by omega) rfl (pa_cons (pv 0) (pa_cons pe_int pa_nil))) (fun _ _ => rfl)))
  (pss_one (ps_if (PW.pt (pw_or (pt_not (pt_val (pe_c C__law_flag hr (by omega) rfl (pa_cons (pe_c C_is_fresh hr (by omega) rfl (pa_cons (pv 6) pa_nil)) (pa_cons pe_bl pa_nil))))) (pw_or1 (pt_cmpR (op_neD hr.units) (pe_fld (pv 4) rfl) (pv 2) (nomark _))))) (pss_one (ps_ret pe_bl)) pss_nil))))))))))))))
  (pss_one (ps_ret pe_bl))), ?_⟩
    refine ⟨4, rfl, by decide, by decide, ?_⟩
    refine for_range (lo := 0) (n := (4 : Int).toNat) (fun i σ H' => ∃ v1 v2 v3 v4 v5 v6 v7 v8 v9, σ = [some (.ref tp), v1, v2, v3, v4, v5, v6, v7, v8, v9] ∧ TapeAt H' tp l ∧ Mov tp H H')
      ⟨_, _, _, _, _, _, _, _, _, rfl, t0, Mov.refl _ _⟩ ?_ ?_
    rotate_left
    · rintro σ H' ⟨v1, v2, v3, v4, v5, v6, v7, v8, v9, rfl, t, m⟩
      exact q H' t m
    rintro i σ H1 hi ⟨v1, v2, v3, v4, v5, v6, v7, v8, v9, rfl, t1, m1⟩
    refine ⟨_, rfl, _, rfl, tp, 2, rfl, l, t1, by decide, by decide, fun r1 H2 r10 r11 t2 mv2 => ⟨rfl, tp, 8, _, rfl, l, t2, by decide, by decide, fun r0 bs H3 hb0 dr l01 l08 t3 mv3 => ?_⟩⟩
    have ok : ∀ b ∈ bs, okB b := fun b hb => (dr b hb).1
    have l12 : bs.length ≤ 12 := by omega
    refine ⟨_, rfl, _, rfl, tp, r0, rfl, l, bs, t3, hb0, ok, l01, l12, fun r2 cs H4 hc ok2 l21 l212 t4 mv4 => ?_⟩
    have hb := hb0.mono (t3.keep mv4).tups
    have m4 := ((m1.trans mv2).trans mv3).trans mv4
    clear hb0 dr mv2 mv3 mv4 t1 t2 t3 m1 l08 r10 r11
    refine ⟨_, rfl, fun x1 dx1 hx1 hdx1 _ => ?_⟩
    have gx1 : Same H4 (upd (upd H4 dx1 (.own x1)) x1 (.ins CE dx1 [])) := fun c o ho => by
      rw [upd_ne (ne_of_none ho hx1), upd_ne (ne_of_none ho hdx1)]
      exact ho
    refine ⟨x1, dx1, r0, bs, rfl, upd_same, (hb).mono (same_tups gx1), ok, l01, l12, fun H5 fs1 hi1 _ hh1 kp1 => ⟨rfl, ?_⟩⟩
    have s1 : Same H4 H5 := made_same hx1 hdx1 kp1
    have ho1 : HallOf K H5 x1 bs := ⟨hh1, CE, dx1, fs1, hall_ns T hmC, hi1⟩
    clear kp1 hh1 hi1 gx1 hx1 hdx1
    have hc5 := hc.mono (same_tups s1)
    have hb5 := hb.mono (same_tups s1)
    refine ⟨_, rfl, fun x2 dx2 hx2 hdx2 _ => ?_⟩
    have gx2 : Same H5 (upd (upd H5 dx2 (.own x2)) x2 (.ins CE dx2 [])) := fun c o ho => by
      rw [upd_ne (ne_of_none ho hx2), upd_ne (ne_of_none ho hdx2)]
      exact ho
    refine ⟨x2, dx2, r2, cs, rfl, upd_same, (hc5).mono (same_tups gx2), ok2, l21, l212, fun H6 fs2 hi2 _ hh2 kp2 => ⟨rfl, ?_⟩⟩
    have s2 : Same H5 H6 := made_same hx2 hdx2 kp2
    have ho2 : HallOf K H6 x2 cs := ⟨hh2, CE, dx2, fs2, hall_ns T hmC, hi2⟩
    clear kp2 hh2 hi2 gx2 hx2 hdx2
    have hb6 := hb5.mono (same_tups s2)
    have hc6 := hc5.mono (same_tups s2)
    have h1 := ho1.same s2
    have t6 := (t4.same s1).same s2
    have m6 := (m4.trans (mov_same s1)).trans (mov_same s2)
    clear ho1 hb hb5 hc hc5 t4 m4 s1 s2
    have h2 := ho2
    clear ho2
    refine ⟨_, rfl, ?_⟩
    refine ⟨_, rfl, fun x3 dx3 hx3 hdx3 _ => ?_⟩
    have gx3 : Same H6 (upd (upd H6 dx3 (.own x3)) x3 (.ins CE dx3 [])) := fun c o ho => by
      rw [upd_ne (ne_of_none ho hx3), upd_ne (ne_of_none ho hdx3)]
      exact ho
    refine ⟨x3, dx3, r0, bs, rfl, upd_same, (hb6).mono (same_tups gx3), ok, l01, l12, fun H7 fs3 hi3 _ hh3 kp3 => ⟨rfl, ?_⟩⟩
    have s3 : Same H6 H7 := made_same hx3 hdx3 kp3
    have ho3 : HallOf K H7 x3 bs := ⟨hh3, CE, dx3, fs3, hall_ns T hmC, hi3⟩
    clear kp3 hh3 hi3 gx3 hx3 hdx3
    refine own_hall HT (h1.same s3) ok ho3 ok fun H8 g8 => ⟨_, rfl, ?_⟩
    rw [Bool.false_xor, decide_eq_true rfl]
    refine iteF ?_
    have k8 := s3.trans g8
    have hb8 := hb6.mono (same_tups k8)
    clear ho3 s3 g8
    refine ⟨_, rfl, ?_⟩
    refine ⟨_, rfl, fun x4 dx4 hx4 hdx4 _ => ?_⟩
    have gx4 : Same H8 (upd (upd H8 dx4 (.own x4)) x4 (.ins CE dx4 [])) := fun c o ho => by
      rw [upd_ne (ne_of_none ho hx4), upd_ne (ne_of_none ho hdx4)]
      exact ho
    refine ⟨x4, dx4, r0, bs, rfl, upd_same, (hb8).mono (same_tups gx4), ok, l01, l12, fun H9 fs4 hi4 _ hh4 kp4 => ⟨rfl, ?_⟩⟩
    have s4 : Same H8 H9 := made_same hx4 hdx4 kp4
    have ho4 : HallOf K H9 x4 bs := ⟨hh4, CE, dx4, fs4, hall_ns T hmC, hi4⟩
    clear kp4 hh4 hi4 gx4 hx4 hdx4
    have k9 := k8.trans s4
    refine own_hall HT (h1.same k9) ok ho4 ok fun H10 g10 => ⟨_, rfl, ?_⟩
    rw [Bool.true_xor, decide_eq_true rfl]
    refine iteF ?_
    have k10 := k9.trans g10
    clear ho4 s4 g10 k9 k8 hb8
    refine ⟨_, rfl, _, rfl, ?_⟩
    refine own_hall HT (h1.same k10) ok (h2.same k10) ok2 fun H11 g11 => ?_
    have k11 := k10.trans g11
    refine ⟨_, rfl, _, rfl, bdsD bs, bdsD cs, dp_bds (hb6.mono (same_tups k11)), dp_bds (hc6.mono (same_tups k11)), shaped_bds ok, shaped_bds ok2, rfl, _, rfl, ?_⟩
    rw [Bool.false_xor, eqv_bds]
    refine ite2 (fun z => ?_) (fun _ => ?_)
    · have z' : (!decide (V.bl (decide (bs = cs)) = V.bl (decide (bs = cs)))) = true := z
      rw [decide_eq_true rfl] at z'
      cases z'
    refine ⟨_, rfl, _, rfl, ?_⟩
    refine own_hall HT (h1.same k11) ok (h2.same k11) ok2 fun H12 g12 => ?_
    have k12 := k11.trans g12
    refine ⟨_, rfl, _, rfl, bdsD bs, bdsD cs, dp_bds (hb6.mono (same_tups k12)), dp_bds (hc6.mono (same_tups k12)), shaped_bds ok, shaped_bds ok2, rfl, _, rfl, ?_⟩
    rw [Bool.true_xor, eqv_bds]
    refine ite2 (fun z => ?_) (fun _ => ?_)
    · have z' : (!decide (V.bl (!decide (bs = cs)) = V.bl (!decide (bs = cs)))) = true := z
      rw [decide_eq_true rfl] at z'
      cases z'
    have h1 := h1.same k12
    have h2 := h2.same k12
    have hb := hb6.mono (same_tups k12)
    have hc := hc6.mono (same_tups k12)
    have t12 := t6.same k12
    have m12 := m6.trans (mov_same k12)
    clear k10 k11 k12 g11 g12 hb6 hc6 t6 m6
    -- other things
    obtain ⟨xs, ha, pr⟩ := id hb
    obtain ⟨C1, dx1', fs1', a1, n1, ys1, cl1, nB1, nN1, hp1, fb1, fn1, hb1, hn1, nm1⟩ := id h1.1
    refine ⟨_, rfl, _, rfl, r0, _, rfl, .inr (SqT.of ha), fun p1 hp1' => ?_⟩
    have k1 := same_new (o := .lst xs) hp1'
    refine ⟨_, rfl, x1, C1, dx1', fs1', _, rfl, k1 _ _ hp1, cl1, nN1, fn1, fun p2 hp2 => ?_⟩
    have k2 := same_new (o := .dK []) hp2
    refine ⟨(by show 7 ≤ PySem.sizeLine; decide), fun lp hlp => ?_⟩
    have k3 := same_new (o := .lst [V.non, V.ref r0, V.ref p1, V.int 0, V.str (Str.ofString "hall"), V.ref n1, V.ref p2]) hlp
    have k13 := k1.trans (k2.trans k3)
    have e1 := k3 _ _ (k2 _ _ (upd_same (H := H12) (a := p1) (o := .lst xs)))
    have e2 := k3 _ _ (upd_same (H := upd H12 p1 (.lst xs)) (a := p2) (o := .dK []))
    have e3 := upd_same (H := upd (upd H12 p1 (.lst xs)) p2 (.dK [])) (a := lp) (o := .lst [V.non, V.ref r0, V.ref p1, V.int 0, V.str (Str.ofString "hall"), V.ref n1, V.ref p2])
    have e4 := k13 _ _ ha
    have e5 := k13 _ _ hn1
    generalize upd (upd (upd H12 p1 (.lst xs)) p2 (.dK [])) lp (.lst [V.non, V.ref r0, V.ref p1, V.int 0, V.str (Str.ofString "hall"), V.ref n1, V.ref p2]) = H13 at k13 e1 e2 e3 e4 e5
    clear k1 k2 k3 hp1' hp2 hlp
    have each : ∀ y ∈ [V.non, V.ref r0, V.ref p1, V.int 0, V.str (Str.ofString "hall"), V.ref n1, V.ref p2], ∃ t, t ∈ tyO ∧ ∀ H', Same H13 H' → TyX K H' y (.type t) := fun y hy => by
      simp only [List.mem_cons, List.not_mem_nil, or_false] at hy
      rcases hy with rfl | rfl | rfl | rfl | rfl | rfl | rfl
      · exact ⟨"NoneType", by decide, fun H' g => .base .non⟩
      · exact ⟨"tuple", by decide, fun H' g => .base (.tup (g _ _ e4))⟩
      · exact ⟨"list", by decide, fun H' g => .base (.lst (g _ _ e1))⟩
      · exact ⟨"int", by decide, fun H' g => .base (.int 0)⟩
      · exact ⟨"str", by decide, fun H' g => .base (.str _)⟩
      · exact ⟨"tuple", by decide, fun H' g => .base (.tup (g _ _ e5))⟩
      · exact ⟨"dict", by decide, fun H' g => .base (.dK (g _ _ e2))⟩
    refine ⟨lp, rfl, ⟨_, SqL.of e3⟩, ?_⟩
    refine for_it (walk_list (K := K) (a := lp) (xs := [V.non, V.ref r0, V.ref p1, V.int 0, V.str (Str.ofString "hall"), V.ref n1, V.ref p2])) (fun j σ H' => ∃ v6, σ = [some (.ref tp), some (.int (0 + (i : Int))), some (.ref r0), some (.ref r2), some (.ref x1), some (.ref x2), v6, v7, v8, v9] ∧ Same H13 H') ⟨_, rfl, Same.refl _⟩ (fun j σ H' _ ⟨_, _, g⟩ => SqL.of (g _ _ e3)) ?_ ?_
    · rintro j y σ H14 H15 hj ⟨v6, rfl, g14⟩ ⟨rfl, hy⟩
      obtain ⟨ty, hty, tyx⟩ := each y (List.mem_of_getElem? hy)
      have k14 := k13.trans g14
      refine ⟨_, rfl, _, rfl, ?_⟩
      refine own_odd HT (h1.same k14) ok hty (tyx _ g14) fun H16 g16 => ⟨_, rfl, ?_⟩
      rw [Bool.false_xor]
      refine iteF ?_
      have g1416 := g14.trans g16
      refine ⟨_, rfl, _, rfl, ?_⟩
      refine own_odd HT (h1.same (k13.trans g1416)) ok hty (tyx _ g1416) fun H17 g17 => ⟨_, rfl, ?_⟩
      rw [Bool.true_xor]
      exact iteF ⟨_, rfl, g1416.trans g17⟩
    rintro σ H14 ⟨v6', rfl, g14⟩
    have k14 := k13.trans g14
    have h1 := h1.same k14
    have h2 := h2.same k14
    have hb := hb.mono (same_tups k14)
    have hc := hc.mono (same_tups k14)
    have t14 := t12.same k14
    have m14 := m12.trans (mov_same k14)
    clear k14 k13 g14 each e1 e2 e3 e4 e5 t12 m12 hn1 hp1 fb1 fn1 hb1 nm1 cl1 nB1 nN1 ha pr
    refine ⟨_, rfl, x1, rfl, bs, h1.1, ok, l01, by omega, fun y1 H15 hy1 k1 => ?_⟩
    refine ⟨y1, rfl, bs.map turnB, hy1.1, ok_turns ok, by rw [List.length_map]; exact l01, by rw [List.length_map]; omega, fun y2 H16 hy2 k2 => ?_⟩
    rw [turn_turns] at hy2
    have k12 := k1.trans k2
    refine ⟨_, rfl, ?_⟩
    refine own_hall HT hy2 ok (h1.same k12) ok fun H17 g17 => ⟨_, rfl, ?_⟩
    rw [Bool.false_xor, decide_eq_true rfl]
    refine iteF ?_
    have k17 := k12.trans g17
    clear k1 k2 k12 hy1 hy2 g17
    obtain ⟨xs, ha, pr⟩ := id (hb.mono (same_tups k17))
    have el : xs.length = bs.length := paired_len pr
    refine ⟨_, rfl, _, rfl, r0, _, rfl, .inr (SqT.of ha), _, rfl, RgOk.of_le (by omega) (by omega) (by omega) (by omega), fun q1 hq1 => ?_⟩
    have k18 := k17.trans (same_new (o := .tup (rgV 0 (xs.length : Int))) hq1)
    refine ⟨x1, q1, bs, allN bs.length, rfl, (h1.same k18).1, ok, by omega, by rw [upd_same, rg_all, el], by rw [all_len]; omega, all_in (Nat.le_refl _), all_up _, all_ne l01, fun y1 H18 hy1 g18 => ?_⟩
    rw [cut_self] at hy1
    have k19 := k18.trans g18
    refine ⟨_, rfl, ?_⟩
    refine own_hall HT hy1 ok (h1.same k19) ok fun H20 g20 => ⟨_, rfl, ?_⟩
    rw [Bool.false_xor, decide_eq_true rfl]
    refine iteF ?_
    have k20 := k19.trans g20
    have h1 := h1.same k20
    have h2 := h2.same k20
    have hb := hb.mono (same_tups k20)
    have hc := hc.mono (same_tups k20)
    have t20 := t14.same k20
    have m20 := m14.trans (mov_same k20)
    clear k17 k18 k19 k20 g18 g20 hq1 hy1 t14 m14 ha pr
    -- both
    refine ⟨_, rfl, _, rfl, x1, x2, rfl, bs, cs, h1.1, h2.1, ok, ok2, l01, by omega, fun x7 H21 h7 g21 => ?_⟩
    have ok7 := ok_app ok ok2
    have h1 := h1.same g21
    have h2 := h2.same g21
    have hb21 := hb.mono (same_tups g21)
    have hc21 := hc.mono (same_tups g21)
    have t21 := t20.same g21
    have m21 := m20.trans (mov_same g21)
    clear t20 m20 hb hc g21
    refine ⟨_, rfl, ?_⟩
    refine ⟨_, rfl, fun x5 dx5 hx5 hdx5 _ => ?_⟩
    have gx5 : Same H21 (upd (upd H21 dx5 (.own x5)) x5 (.ins CE dx5 [])) := fun c o ho => by
      rw [upd_ne (ne_of_none ho hx5), upd_ne (ne_of_none ho hdx5)]
      exact ho
    refine ⟨x5, dx5, r0, bs, rfl, upd_same, (hb21).mono (same_tups gx5), ok, l01, l12, fun H22 fs5 hi5 _ hh5 kp5 => ⟨rfl, ?_⟩⟩
    have s5 : Same H21 H22 := made_same hx5 hdx5 kp5
    have ho5 : HallOf K H22 x5 bs := ⟨hh5, CE, dx5, fs5, hall_ns T hmC, hi5⟩
    clear kp5 hh5 hi5 gx5 hx5 hdx5
    have hc22 := hc21.mono (same_tups s5)
    refine ⟨_, rfl, fun x6 dx6 hx6 hdx6 _ => ?_⟩
    have gx6 : Same H22 (upd (upd H22 dx6 (.own x6)) x6 (.ins CE dx6 [])) := fun c o ho => by
      rw [upd_ne (ne_of_none ho hx6), upd_ne (ne_of_none ho hdx6)]
      exact ho
    refine ⟨x6, dx6, r2, cs, rfl, upd_same, (hc22).mono (same_tups gx6), ok2, l21, l212, fun H23 fs6 hi6 _ hh6 kp6 => ⟨rfl, ?_⟩⟩
    have s6 : Same H22 H23 := made_same hx6 hdx6 kp6
    have ho6 : HallOf K H23 x6 cs := ⟨hh6, CE, dx6, fs6, hall_ns T hmC, hi6⟩
    clear kp6 hh6 hi6 gx6 hx6 hdx6
    refine ⟨x5, x6, rfl, bs, cs, (ho5.same s6).1, ho6.1, ok, ok2, l01, by omega, fun y1 H24 hy1 g24 => ?_⟩
    have k24 := s5.trans (s6.trans g24)
    refine own_hall HT (h7.same k24) ok7 hy1 ok7 fun H25 g25 => ⟨_, rfl, ?_⟩
    rw [Bool.false_xor, decide_eq_true rfl]
    refine iteF ?_
    have k25 := k24.trans g25
    have h1 := h1.same k25
    have h2 := h2.same k25
    have h7 := h7.same k25
    have hb := hb21.mono (same_tups k25)
    have hc := hc21.mono (same_tups k25)
    have t25 := t21.same k25
    have m25 := m21.trans (mov_same k25)
    clear k24 k25 s5 s6 g24 g25 hy1 ho5 ho6 hb21 hc21 hc22 t21 m21
    refine ⟨_, rfl, _, rfl, _, rfl, x2, x1, rfl, cs, bs, h2.1, h1.1, ok2, ok, l21, by omega, fun y1 H26 hy1 g26 => ?_⟩
    refine own_hall HT (h7.same g26) ok7 hy1 (ok_app ok2 ok) fun H27 g27 => ?_
    have k27 := g26.trans g27
    obtain ⟨xs, ha, pr⟩ := id (hb.mono (same_tups k27))
    obtain ⟨zs, ha2, pr2⟩ := id (hc.mono (same_tups k27))
    have el : xs.length = bs.length := paired_len pr
    have el2 : zs.length = cs.length := paired_len pr2
    refine ⟨_, rfl, _, rfl, cat_tups ha ha2 (by omega) fun q1 H28 g28 hq1 => ?_⟩
    refine ⟨_, rfl, _, rfl, cat_tups (g28 _ _ ha2) (g28 _ _ ha) (by omega) fun q2 H29 g29 hq2 => ?_⟩
    have k829 := g28.trans g29
    have b1 : BoardsAt H29 q1 (bs ++ cs) := ⟨_, g29 _ _ hq1, paired_mono (fun _ _ h => stays_bd _ _ _ _ (tups_same k829) h) (paired_app pr pr2)⟩
    have b2 : BoardsAt H29 q2 (cs ++ bs) := ⟨_, hq2, paired_mono (fun _ _ h => stays_bd _ _ _ _ (tups_same k829) h) (paired_app pr2 pr)⟩
    refine ⟨bdsD (bs ++ cs), bdsD (cs ++ bs), dp_bds b1, dp_bds b2, shaped_bds ok7, shaped_bds (ok_app ok2 ok), rfl, _, rfl, ?_⟩
    rw [Bool.false_xor, eqv_bds]
    refine ite2 (fun z => ?_) (fun _ => ?_)
    · have z' : (!decide (V.bl (decide (bs ++ cs = cs ++ bs)) = V.bl (decide (bs ++ cs = cs ++ bs)))) = true := z
      rw [decide_eq_true rfl] at z'
      cases z'
    have k29 := k27.trans k829
    have h1 := h1.same k29
    have h2 := h2.same k29
    have h7 := h7.same k29
    have hb := hb.mono (same_tups k29)
    have t29 := t25.same k29
    have m29 := m25.trans (mov_same k29)
    clear k27 k29 k829 g26 g27 g28 g29 hy1 b1 b2 hq1 hq2 ha ha2 pr pr2 hc t25 m25 el el2
    -- fresh ones
    refine ⟨_, rfl, _, rfl, _, rfl, _, rfl, x7, rfl, bs ++ cs, h7.1, ok7, by rw [List.length_append]; omega, by rw [List.length_append]; omega, fun x8 H30 h8 g30 => ⟨(by show 4 ≤ PySem.sizeLine; decide), fun lp hlp => ?_⟩⟩
    have k1 := same_new (o := .lst [V.ref x1, V.ref x2, V.ref x7, V.ref x8]) hlp
    have k31 := g30.trans k1
    have e1 := upd_same (H := H30) (a := lp) (o := .lst [V.ref x1, V.ref x2, V.ref x7, V.ref x8])
    have ph : Paired (fun (y : V) (bs : List Bd) => (∃ p, y = .ref p ∧ HallOf K (upd H30 lp (.lst [V.ref x1, V.ref x2, V.ref x7, V.ref x8])) p bs) ∧ (∀ b ∈ bs, okB b) ∧ bs.length ≤ 60) [V.ref x1, V.ref x2, V.ref x7, V.ref x8] [bs, cs, bs ++ cs, (bs ++ cs).map turnB] :=
      .cons ⟨⟨x1, rfl, h1.same k31⟩, ok, by omega⟩ (.cons ⟨⟨x2, rfl, h2.same k31⟩, ok2, by omega⟩ (.cons ⟨⟨x7, rfl, h7.same k31⟩, ok7, by rw [List.length_append]; omega⟩ (.cons ⟨⟨x8, rfl, h8.same k1⟩, ok_turns ok7, by rw [List.length_map, List.length_append]; omega⟩ .nil)))
    generalize upd H30 lp (.lst [V.ref x1, V.ref x2, V.ref x7, V.ref x8]) = H31 at k1 k31 e1 ph
    refine ⟨lp, rfl, ⟨_, SqL.of e1⟩, ?_⟩
    refine for_it (walk_list (K := K) (a := lp) (xs := [V.ref x1, V.ref x2, V.ref x7, V.ref x8])) (fun j σ H' => ∃ v8 v9, σ = [some (.ref tp), some (.int (0 + (i : Int))), some (.ref r0), some (.ref r2), some (.ref x1), some (.ref x2), v6', some (.ref x7), v8, v9] ∧ Same H31 H') ⟨_, _, rfl, Same.refl _⟩ (fun j σ H' _ ⟨_, _, _, g⟩ => SqL.of (g _ _ e1)) ?_ ?_
    · rintro j y σ H32 H33 hj ⟨v8, v9, rfl, g32⟩ ⟨rfl, hy⟩
      obtain ⟨ds, hds, ⟨p, rfl, hp⟩, okd, ld⟩ := paired_at ph j y hy
      have hp32 := hp.same g32
      refine ⟨_, rfl, _, rfl, .inl ⟨p, ds, rfl, hp32, ld, okd, fun H34 g34 => ?_⟩⟩
      obtain ⟨C1, dx1', fs1', a1, n1, ys1, cl1, nB1, nN1, hp1, fb1, fn1, ⟨xs, ha, pr⟩, hn1, nm1⟩ := (hp32.same g34).1
      have el : xs.length = ds.length := paired_len pr
      refine ⟨_, rfl, p, C1, dx1', fs1', _, rfl, hp1, cl1, nB1, fb1, a1, rfl, ⟨_, SqT.of ha⟩, fun D hD => ?_⟩
      refine lcS (walk_tup (K := K) (a := a1) (xs := xs)) stays_bl ds (fun _ => true) (fun b => decide (b.2.2 = [])) el (by omega) (fun H1 g => SqT.of (g _ _ ha)) hD ?_ ?_
      · rintro i2 x b H1 H2 Nx hb ⟨rfl, hx⟩ sm _ yes
        obtain ⟨b', hb', c, r, rfl, hc, hr1⟩ := paired_at pr i2 _ hx
        have ee : b' = b := Option.some.inj (hb'.symm.trans hb)
        subst ee
        refine ⟨rfl, ?_⟩
        refine ⟨_, rfl, c, _, 2, .ref r, rfl, rfl, SqT.of (sm _ _ hc), rfl, nought, fun e0 he0 => ?_⟩
        have g0 := same_new (o := .tup []) he0
        have okr := (okd b' (List.mem_of_getElem? hb')).1
        refine ⟨rowD b'.2.2, rowD [], dp_row (g0 _ _ (sm _ _ hr1)), dp_row upd_same, shaped_bdr okr, shaped_nil, ?_⟩
        rw [eqv_row]
        exact yes rfl _ _ g0 rfl
      · intro H35 g35 l35
        refine ⟨D, _, rfl, sql_bl l35, ?_⟩
        rw [filter_all, List.all_map]
        refine ⟨_, _, rfl, _, rfl, ?_⟩
        have ee : (ds.all fun b => decide (b.2.2 = [])) = (ds.all (id ∘ fun b => decide (b.2.2 = []))) := rfl
        rw [decide_eq_true ee]
        exact iteF ⟨_, _, rfl, g32.trans (g34.trans g35)⟩
    rintro σ H32 ⟨v8', v9', rfl, g32⟩
    have k32 := k31.trans g32
    have h1 := h1.same k32
    have hb := hb.mono (same_tups k32)
    have t32 := t29.same k32
    have m32 := m29.trans (mov_same k32)
    clear k32 k31 k1 g32 g30 ph e1 h8 h7 h2 t29 m29 ok7
    obtain ⟨xs, ha, pr⟩ := id hb
    refine ⟨_, rfl, nought, fun e0 he0 => ⟨_, rfl, (by show 1 ≤ PySem.sizeLine; decide), fun o1 ho1 => fun d1 hd1 => ⟨(by show 8 ≤ PySem.sizeLine; decide), fun lp2 hlp2 => ?_⟩⟩⟩
    have k1 := same_new (o := .tup []) he0
    have k2 := same_new (o := .lst [V.ref x1]) ho1
    have k3 := same_new (o := .dK []) hd1
    have k4 := same_new (o := .lst [V.non, V.ref r0, V.ref e0, V.int 0, V.bl true, V.ref o1, V.ref d1, V.str (Str.ofString "p")]) hlp2
    have n1 := (t32.same k1).new ho1
    have n2 := (t32.same (k1.trans k2)).new hd1
    have n3 := (t32.same (k1.trans (k2.trans k3))).new hlp2
    have k14 := k1.trans (k2.trans (k3.trans k4))
    have f1 := k4 _ _ (k3 _ _ (k2 _ _ (upd_same (H := H32) (a := e0) (o := .tup []))))
    have f2 := k4 _ _ (k3 _ _ (upd_same (H := upd H32 e0 (.tup [])) (a := o1) (o := .lst [V.ref x1])))
    have f3 := k4 _ _ (upd_same (H := upd (upd H32 e0 (.tup [])) o1 (.lst [V.ref x1])) (a := d1) (o := .dK []))
    have f4 := upd_same (H := upd (upd (upd H32 e0 (.tup [])) o1 (.lst [V.ref x1])) d1 (.dK [])) (a := lp2) (o := .lst [V.non, V.ref r0, V.ref e0, V.int 0, V.bl true, V.ref o1, V.ref d1, V.str (Str.ofString "p")])
    have f5 := k14 _ _ ha
    generalize upd (upd (upd (upd H32 e0 (.tup [])) o1 (.lst [V.ref x1])) d1 (.dK [])) lp2 (.lst [V.non, V.ref r0, V.ref e0, V.int 0, V.bl true, V.ref o1, V.ref d1, V.str (Str.ofString "p")]) = H33 at k14 f1 f2 f3 f4 f5
    have t33 := t32.same k14
    refine ⟨_, rfl, tp, 8, rfl, l, t33, by decide, by decide, fun r8 H34 r80 r81 t34 mv34 => ?_⟩
    have tk := (t33.keep mv34).tups
    have each : ∀ y ∈ [V.non, V.ref r0, V.ref e0, V.int 0, V.bl true, V.ref o1, V.ref d1, V.str (Str.ofString "p")], ∃ t, t ∈ tyO ∧ TyX K H34 y (.type t) := fun y hy => by
      simp only [List.mem_cons, List.not_mem_nil, or_false] at hy
      rcases hy with rfl | rfl | rfl | rfl | rfl | rfl | rfl | rfl
      · exact ⟨"NoneType", by decide, .base .non⟩
      · exact ⟨"tuple", by decide, .base (.tup (tk _ _ f5))⟩
      · exact ⟨"tuple", by decide, .base (.tup (tk _ _ f1))⟩
      · exact ⟨"int", by decide, .base (.int 0)⟩
      · exact ⟨"bool", by decide, .base (.bl true)⟩
      · exact ⟨"list", by decide, .base (.lst (mv34 _ _ f2 n1.1))⟩
      · exact ⟨"dict", by decide, .base (.dK (mv34 _ _ f3 n2.1))⟩
      · exact ⟨"str", by decide, .base (.str _)⟩
    obtain ⟨y, hy, my⟩ := at_ok (xs := [V.non, V.ref r0, V.ref e0, V.int 0, V.bl true, V.ref o1, V.ref d1, V.str (Str.ofString "p")]) r80 r81
    obtain ⟨ty, hty, tyx⟩ := each y my
    have mvL := (mov_same k14).trans mv34
    have h1 := h1.keep ((t32.keep mvL))
    have hb := hb.mono (t32.keep mvL).tups
    have m34 := m32.trans mvL
    clear each k1 k2 k3 k4 k14 f1 f2 f3 f5 he0 ho1 hd1 hlp2 ha pr t32 t33 m32
    refine ⟨lp2, _, r8, y, rfl, rfl, SqL.of (mv34 _ _ f4 n3.1), hy, ?_⟩
    refine ⟨_, rfl, y, rfl, .inr ⟨ty, hty, tyx, fun H35 g35 => ⟨false, false, rfl, _, rfl, ?_⟩⟩⟩
    rw [decide_eq_true rfl]
    refine iteF ?_
    obtain ⟨C1, dx1', fs1', a1, nn1, ys1, cl1, nB1, nN1, hp1, fb1, fn1, hb1, hn1, nm1⟩ := (h1.same g35).1
    refine ⟨_, rfl, x1, C1, dx1', fs1', _, rfl, hp1, cl1, nB1, fb1, _, rfl, bdsD bs, bdsD bs, dp_bds hb1, dp_bds (hb.mono (same_tups g35)), shaped_bds ok, shaped_bds ok, ?_⟩
    rw [eqv_bds, decide_eq_true rfl]
    exact ⟨_, rfl, iteF ⟨_, _, _, _, _, _, _, _, _, rfl, t34.same g35, m34.trans (mov_same g35)⟩⟩
end
end K13
namespace K13
open PySem L2 Nm
open C8 (Cal Mak pe_c pe_mk pe_gc)
open RZ (ItzT pi_zipA)
theorem plain_row {ws : List Str} (l : ws.length ≤ 1000) : plainD 3 (rowD ws) := by
  refine .inr ⟨rowL ws, rfl, by unfold rowL; rw [List.length_map]; exact l, fun e he => ?_⟩
  obtain ⟨w, _, rfl⟩ := List.mem_map.mp he
  exact .inl (.inr ⟨w, rfl⟩)
theorem plain_bd {b : Bd} (l : b.2.2.length ≤ 1000) : plainD 2 (bdD b) := by
  refine .inr ⟨_, rfl, by show 3 ≤ 1000; decide, fun e he => ?_⟩
  simp only [List.mem_cons, List.not_mem_nil, or_false] at he
  rcases he with rfl | rfl | rfl
  · exact .inl (.inr ⟨_, rfl⟩)
  · exact .inl (.inl ⟨_, rfl⟩)
  · refine .inr ⟨rowL b.2.2, rfl, by unfold rowL; rw [List.length_map]; exact l, fun e he => ?_⟩
    obtain ⟨w, _, rfl⟩ := List.mem_map.mp he
    exact .inr ⟨w, rfl⟩
theorem plain_bds {bs : List Bd} (l : bs.length ≤ 1000) (ok : ∀ b ∈ bs, okB b) : plainD 3 (bdsD bs) := by
  refine .inr ⟨bs.map bdD, rfl, by rw [List.length_map]; exact l, fun e he => ?_⟩
  obtain ⟨b, hb, rfl⟩ := List.mem_map.mp he
  exact plain_bd (ok b hb).2.2.1
theorem namesOk3 {bs : List Bd} {ys : List Str} (nm : Names (bs.map (·.1)) ys) (ok : ∀ b ∈ bs, okB b) : ys.length ≤ bs.length ∧ ∀ z ∈ ys, letB z 8 = true ∧ z.length ≤ 1000 := by
  refine ⟨?_, fun z hz => ?_⟩
  · have h := List.Nodup.length_le_of_subset nm.nd fun z hz => (nm.mem z).mp hz
    rw [List.length_map] at h
    exact h
  · obtain ⟨b, hb, rfl⟩ := List.mem_map.mp ((nm.mem z).mp hz)
    exact ⟨(ok_parts (ok b hb)).1, (ok b hb).2.1⟩
theorem names_one {ns ys zs : List Str} (a : Names ns ys) (b : Names ns zs) : ys = zs := rise_one a.rise b.rise fun z => by rw [a.mem, b.mem]
theorem names_turn (bs : List Bd) : (bs.map turnB).map (·.1) = bs.map (·.1) := by
  rw [List.map_map]
  exact List.map_congr_left fun b _ => rfl
theorem ints_inv {tp : Addr} {H : Hp} : ∀ {xs : List V} {ns : List Int}, AtAll tp H xs (ns.map PyData.int) → xs = ns.map V.int
  | [], [], _ => rfl
  | [], _ :: _, h => by cases h
  | _ :: _, [], h => by cases h
  | x :: xs, n :: ns, h => by
    cases h with
    | cons h1 h2 =>
      cases h1
      rw [ints_inv h2]
      rfl
section
variable {P : Program} {w : World} {K : PySem.W.Frag} {mg : Str → Option Value} {base : Heap}
def sp_law (K : PySem.W.Frag) : Sp := fun vs H Q _ => ∃ (a : Addr) (ns : List Int), vs = [.ref a] ∧ SqL K H a (ns.map V.int) ∧ ∀ H', Q (.bl true) H'
theorem ok_law {f : Addr} {fd : FuncData} (F : Fun K "law" "law" s_law f fd) (T : Txt K mg) : FnOk P w K mg base CX0 14 f fd ["script"] (sp_law K) := by
  have C__law_boards := c__law_boards (P := P) (w := w) (base := base) T
  have C__law_compared := c__law_compared (P := P) (w := w) (base := base) T
  have C__law_is_lot := c__law_is_lot (P := P) (w := w) (base := base) T
  have C__law_names := c__law_names (P := P) (w := w) (base := base) T
  have C__law_only := c__law_only (P := P) (w := w) (base := base) T
  have C__law_pick := c__law_pick (P := P) (w := w) (base := base) T
  have C__law_some := c__law_some (P := P) (w := w) (base := base) T
  have C__law_tape := c__law_tape (P := P) (w := w) (base := base) T
  have C_joined := c_joined (P := P) (w := w) (base := base) T
  have C_turned := c_turned (P := P) (w := w) (base := base) T
  have sc := sc_law
  refine F.ok (k := 13) sc (fun vs H Q E h => ?_) (fun cdv A outer s H vs Q E hr h => ?_)
  · obtain ⟨s0, ns, rfl, _⟩ := h
    rfl
  · obtain ⟨s0, ns, rfl, h⟩ := h
    obtain ⟨hs, q⟩ := h
    have C_Hall := True.intro
    obtain ⟨CH, hmC, C_Hall⟩ := c_Hall (P := P) (w := w) (base := base) T
    obtain ⟨CE, fe, fde, HT, hmE, OE, FE⟩ := c_eqH (P := P) (w := w) (base := base) T
    have eC : CE = CH := by
      have e := hmE.symm.trans hmC
      cases e
      rfl
    subst eC
    have kH : ∃ u, mg "Hall" = some u ∧ RelV (.ref CE) u := ⟨_, hmC, rfl⟩
    have C_only := c_onlyV (P := P) (w := w) (base := base) T
    have C__law_is := c_same (P := P) (w := w) (K := K) (base := base) T 3
    refine ⟨_, (pss_cons (ps_set (i := 1) sc.nd rfl (Or.inr rfl) (pe_c C__law_tape hr (by omega) rfl (pa_cons (pv 0) pa_nil)))
  (pss_cons (ps_if (pt_not (pt_val (pe_c C__law_compared hr (by omega) rfl (pa_cons (pv 1) pa_nil)))) (pss_one (ps_ret pe_bl)) pss_nil)
  (pss_cons (ps_set (i := 2) sc.nd rfl (Or.inr rfl) (pe_c C__law_boards hr (by omega) rfl (pa_cons (pv 1) (pa_cons pe_int (pa_cons (pe_cmpR op_eq (pe_c C__law_pick hr (by omega) rfl (pa_cons (pv 1) (pa_cons pe_int pa_nil))) pe_int (nomark _)) pa_nil)))))
  (pss_cons (ps_set (i := 3) sc.nd rfl (Or.inr rfl) (pe_c C__law_boards hr (by omega) rfl (pa_cons (pv 1) (pa_cons pe_int (pa_cons (pe_cmpR op_eq (pe_c C__law_pick hr (by omega) rfl (pa_cons (pv 1) (pa_cons pe_int pa_nil))) pe_int (nomark _)) pa_nil)))))
  (pss_cons (ps_set (i := 4) sc.nd rfl (Or.inl rfl) (pe_mk C_Hall hr (by omega) rfl (pa_cons (pv 2) pa_nil)))
  (pss_cons (ps_set (i := 5) sc.nd rfl (Or.inl rfl) (pe_c C_joined hr (by omega) rfl (pa_cons (pv 4) (pa_cons (pe_mk C_Hall hr (by omega) rfl (pa_cons (pv 3) pa_nil)) pa_nil))))
  (pss_cons (ps_if (PW.pt (pw_or (pt_not (pt_val (pe_c C__law_is hr (by omega) rfl (pa_cons (pe_fld (pv 5) rfl) (pa_cons (pe_op op_catA (pv 2) (pv 3)) pa_nil))))) (pw_or1 (pt_not (pt_val (pe_c C__law_is hr (by omega) rfl (pa_cons (pe_fld (pv 5) rfl) (pa_cons (pe_c C__law_names hr (by omega) rfl (pa_cons (pe_op op_catA (pv 2) (pv 3)) pa_nil)) pa_nil)))))))) (pss_one (ps_ret pe_bl)) pss_nil)
  (pss_cons (ps_set (i := 6) sc.nd rfl (Or.inl rfl) (pe_callTy call_tuple_of rfl T.m_tuple (by decide +kernel) (pa_cons (pe_lc (own := [("name", 13), ("side", 14), ("begun", 15)]) (g := gTup K 3 (gCons (gName 13) (gCons (gName 14) (gCons (gName 15) gNil)))) rfl sc.nd (pi_tup (pe_op op_catA (pv 2) (pv 3))) (blkOk_by (own := [("name", 13), ("side", 14), ("begun", 15)]) (N := ["script", "tape", "one", "other", "hall", "both", "due", "turn", "lot", "thing", "odd", "told", "cut", "name", "side", "begun", "k"]) (sc := defScope s_law) (by decide +kernel)) (fun _ _ _ _ _ => (pg_tup rfl (pgs_cons (pg_name (i := 13) sc.nd rfl (Or.inl rfl)) (pgs_cons (pg_name (i := 14) sc.nd rfl (Or.inl rfl)) (pgs_cons (pg_name (i := 15) sc.nd rfl (Or.inl rfl)) pgs_nil))))) (fun _ _ _ _ _ => pts_nil) (fun _ _ _ _ _ => (pe_tup (pa_cons (pv 13) (pa_cons (pe_op op_sub pe_int (pv 14)) (pa_cons (pv 15) pa_nil)))))) pa_nil)))
  (pss_cons (ps_if (PW.pt (pw_or (pt_not (pt_val (pe_c C__law_is hr (by omega) rfl (pa_cons (pe_fld (pe_c C_turned hr (by omega) rfl (pa_cons (pv 5) pa_nil)) rfl) (pa_cons (pv 6) pa_nil))))) (pw_or1 (pt_not (pt_cmpR (op_own FE OE (hr.mono (by omega))) (pe_c C_turned hr (by omega) rfl (pa_cons (pv 5) pa_nil)) (pe_c C_joined hr (by omega) rfl (pa_cons (pe_c C_turned hr (by omega) rfl (pa_cons (pv 4) pa_nil)) (pa_cons (pe_c C_turned hr (by omega) rfl (pa_cons (pe_mk C_Hall hr (by omega) rfl (pa_cons (pv 3) pa_nil)) pa_nil)) pa_nil))) (nomark _)))))) (pss_one (ps_ret pe_bl)) pss_nil)
  (pss_cons (ps_if (PW.pt (pw_or (pt_cmpR (op_neD hr.units) (pe_fld (pe_c C_turned hr (by omega) rfl (pa_cons (pv 4) pa_nil)) rfl) (pe_fld (pv 4) rfl) (nomark _)) (pw_or1 (pt_not (pt_cmpR (op_own FE OE (hr.mono (by omega))) (pe_c C_only hr (by omega) rfl (pa_cons (pv 5) (pa_cons (pe_tupRg rfl rfl T.m_tuple (prg_1 rfl T.m_range (pe_callB call_len_seq rfl T.m_len (by decide +kernel) (pa_cons (pv 2) pa_nil)))) pa_nil))) (pv 4) (nomark _)))))) (pss_one (ps_ret pe_bl)) pss_nil)
  (pss_cons (ps_for PassesOwn.never rfl (pi_range1 rfl T.m_range (pa_cons pe_int pa_nil)) (pg_name (i := 7) sc.nd rfl (Or.inl rfl)) (pss_cons (ps_set (i := 8) sc.nd rfl (Or.inl rfl) (pe_callTy call_tuple_of rfl T.m_tuple (by decide +kernel) (pa_cons (pe_lc (own := [("k", 16)]) (g := gName 16) rfl sc.nd (pi_range1 rfl T.m_range (pa_cons (pe_callB call_len_seq rfl T.m_len (by decide +kernel) (pa_cons (pe_op op_catA (pv 2) (pv 3)) pa_nil)) pa_nil)) (blkOk_by (own := [("k", 16)]) (N := ["script", "tape", "one", "other", "hall", "both", "due", "turn", "lot", "thing", "odd", "told", "cut", "name", "side", "begun", "k"]) (sc := defScope s_law) (by decide +kernel)) (fun _ _ _ _ _ => (pg_name (i := 16) sc.nd rfl (Or.inl rfl))) (fun _ _ _ _ _ => (pts_one (pt_cmpR op_eq (pe_c C__law_pick hr (by omega) rfl (pa_cons (pv 1) (pa_cons pe_int pa_nil))) pe_int (nomark _)))) (fun _ _ _ _ _ => (pv 16))) pa_nil)))
  (pss_cons (ps_set (i := 9) sc.nd rfl (Or.inl rfl) (pv 8))
  (C8.pss_cut (ps_if (pt_cmpR op_eq (pe_c C__law_pick hr (by omega) rfl (pa_cons (pv 1) (pa_cons pe_int pa_nil))) pe_int (nomark _)) (pss_cons (ps_set (i := 10) sc.nd rfl (Or.inl rfl) (pe_lst (pa_cons pe_non (pa_cons (pe_callTy call_list_of rfl T.m_list (by decide +kernel) (pa_cons (pv 8) pa_nil)) (pa_cons (Nm.pe_revT0 (pv 8)) (pa_cons (pe_op op_catA (pv 8) (pv 8)) (pa_cons (pe_op op_catA (pv 8) (pe_tup (pa_cons (pe_callB call_len_seq rfl T.m_len (by decide +kernel) (pa_cons (pe_op op_catA (pv 2) (pv 3)) pa_nil)) pa_nil))) (pa_cons (pe_op op_catA (pe_tup (pa_cons (pe_un un_neg pe_int) pa_nil)) (pv 8)) (pa_cons (pe_tup (pa_cons pe_bl pa_nil)) (pa_cons pe_str (pa_cons pe_int (pa_cons pe_dnewK pa_nil))))))))))))
  (pss_one (ps_set (i := 9) sc.nd rfl (Or.inl rfl) (pe_c C__law_some hr (by omega) rfl (pa_cons (pv 1) (pa_cons (pv 10) pa_nil)))))) pss_nil)
  (pss_cons (ps_set (i := 11) sc.nd rfl (Or.inl rfl) (pe_c C__law_only hr (by omega) rfl (pa_cons (pv 5) (pa_cons (pv 9) pa_nil))))
  (pss_one (ps_if (PW.pt (pw_and (pt_val (pe_c C__law_is_lot hr (by omega) rfl (pa_cons (pv 9) (pa_cons (pe_callB call_len_seq rfl T.m_len (by decide +kernel) (pa_cons (pe_op op_catA (pv 2) (pv 3)) pa_nil)) pa_nil)))) (pw_and1 (pt_cmpR op_gt (pe_callB call_len_seq rfl T.m_len (by decide +kernel) (pa_cons (pv 9) pa_nil)) pe_int (nomark _))))) (pss_cons (ps_set (i := 12) sc.nd rfl (Or.inl rfl) (pe_callTy call_tuple_of rfl T.m_tuple (by decide +kernel) (pa_cons (pe_lc (own := [("k", 16)]) (g := gName 16) rfl sc.nd (pi_tup (pv 9)) (blkOk_by (own := [("k", 16)]) (N := ["script", "tape", "one", "other", "hall", "both", "due", "turn", "lot", "thing", "odd", "told", "cut", "name", "side", "begun", "k"]) (sc := defScope s_law) (by decide +kernel)) (fun _ _ _ _ _ => (pg_name (i := 16) sc.nd rfl (Or.inl rfl))) (fun _ _ _ _ _ => pts_nil) (fun _ _ _ _ _ => (pe_ix (r := rIxT K) ix_tup (pe_op (r := rCatA K) op_catA (pv 2) (pv 3)) (pv 16) (fun _ _ => rfl)))) pa_nil)))
  (pss_one (ps_if (PW.pt (pw_or (pt_not (pt_val (pe_callB call_isi rfl T.m_isinstance (by decide +kernel) (pa_cons (pv 11) (pa_cons (pe_gc rfl kH) pa_nil))))) (pw_or (pt_not (pt_val (pe_c C__law_is hr (by omega) rfl (pa_cons (pe_fld (pv 11) rfl) (pa_cons (pv 12) pa_nil))))) (pw_or1 (pt_cmpR (op_neD hr.units) (pe_fld (pv 11) rfl) (pe_c C__law_names hr (by omega) rfl (pa_cons (pv 12) pa_nil)) (nomark _)))))) (pss_one (ps_ret pe_bl)) pss_nil))) (pss_one (ps_if (pt_cmpR op_ne (pv 11) pe_str (nomark _)) (pss_one (ps_ret pe_bl)) pss_nil)))))))))
  (pss_one (ps_ret pe_bl))))))))))))), ?_⟩
    refine ⟨_, rfl, s0, rfl, ns, hs, fun tp l H1 g1 htp t1 => ?_⟩
    refine ⟨_, rfl, tp, rfl, l, t1, fun H2 t2 mv2 => ⟨true, rfl, iteF ?_⟩⟩
    refine ⟨_, rfl, _, rfl, tp, 2, rfl, l, t2, by decide, by decide, fun r1 H3 _ _ t3 mv3 => ⟨rfl, tp, 12, _, rfl, l, t3, by decide, by decide, fun r0 bs H4 hb4 dr l01 l012 t4 mv4 => ?_⟩⟩
    refine ⟨_, rfl, _, rfl, tp, 2, rfl, l, t4, by decide, by decide, fun r1 H5 _ _ t5 mv5 => ⟨rfl, tp, 12, _, rfl, l, t5, by decide, by decide, fun r2 cs H6 hc6 dr2 l21 l212 t6 mv6 => ?_⟩⟩
    have ok : ∀ b ∈ bs, okB b := fun b hb => (dr b hb).1
    have ok2 : ∀ b ∈ cs, okB b := fun b hb => (dr2 b hb).1
    have l12 : bs.length ≤ 12 := by omega
    have l22 : cs.length ≤ 12 := by omega
    have hb6 := (hb4.mono (t4.keep mv5).tups).mono (t5.keep mv6).tups
    clear hb4 dr dr2 mv3 mv4 mv5 mv6 mv2 t1 t2 t3 t4 t5 l012 l212 g1 htp hs
    refine ⟨_, rfl, fun x1 dx1 hx1 hdx1 _ => ?_⟩
    have gx1 : Same H6 (upd (upd H6 dx1 (.own x1)) x1 (.ins CE dx1 [])) := fun c o ho => by
      rw [upd_ne (ne_of_none ho hx1), upd_ne (ne_of_none ho hdx1)]
      exact ho
    refine ⟨x1, dx1, r0, bs, rfl, upd_same, (hb6).mono (same_tups gx1), ok, l01, l12, fun H7 fs1 hi1 _ hh1 kp1 => ⟨rfl, ?_⟩⟩
    have s1 : Same H6 H7 := made_same hx1 hdx1 kp1
    have ho1 : HallOf K H7 x1 bs := ⟨hh1, CE, dx1, fs1, hall_ns T hmC, hi1⟩
    clear kp1 hh1 hi1 gx1 hx1 hdx1
    have hb7 := hb6.mono (same_tups s1)
    have hc7 := hc6.mono (same_tups s1)
    refine ⟨_, rfl, ?_⟩
    refine ⟨_, rfl, fun x2 dx2 hx2 hdx2 _ => ?_⟩
    have gx2 : Same H7 (upd (upd H7 dx2 (.own x2)) x2 (.ins CE dx2 [])) := fun c o ho => by
      rw [upd_ne (ne_of_none ho hx2), upd_ne (ne_of_none ho hdx2)]
      exact ho
    refine ⟨x2, dx2, r2, cs, rfl, upd_same, (hc7).mono (same_tups gx2), ok2, l21, l22, fun H8 fs2 hi2 _ hh2 kp2 => ⟨rfl, ?_⟩⟩
    have s2 : Same H7 H8 := made_same hx2 hdx2 kp2
    have ho2 : HallOf K H8 x2 cs := ⟨hh2, CE, dx2, fs2, hall_ns T hmC, hi2⟩
    clear kp2 hh2 hi2 gx2 hx2 hdx2
    have h1 := ho1.same s2
    refine ⟨x1, x2, rfl, bs, cs, h1.1, ho2.1, ok, ok2, l01, by omega, fun x3 H9 h3 g9 => ?_⟩
    have s29 := s2.trans g9
    have h1 := h1.same g9
    have hb := hb7.mono (same_tups s29)
    have hc := hc7.mono (same_tups s29)
    have t9 := (t6.same s1).same s29
    have ok3 := ok_app ok ok2
    have l3 : (bs ++ cs).length ≤ 24 := by rw [List.length_append]; omega
    have l31 : 1 ≤ (bs ++ cs).length := by rw [List.length_append]; omega
    clear ho1 ho2 s1 s2 s29 g9 hb6 hb7 hc6 hc7 t6
    obtain ⟨xs, ha, pr⟩ := id hb
    obtain ⟨zs, ha2, pr2⟩ := id hc
    have el : xs.length = bs.length := paired_len pr
    have el2 : zs.length = cs.length := paired_len pr2
    have cat : ∀ {H' q'}, Same H9 H' → H' q' = some (.tup (xs ++ zs)) → BoardsAt H' q' (bs ++ cs) := fun g e => ⟨_, e, paired_mono (fun _ _ h => stays_bd _ _ _ _ (tups_same g) h) (paired_app pr pr2)⟩
    obtain ⟨C3, dx3, fs3, a3, n3, ys3, cl3, nB3, nN3, hp3, fb3, fn3, hb3, hn3, nm3⟩ := id h3.1
    obtain ⟨ly3, oky3⟩ := namesOk3 nm3 ok3
    refine ⟨_, rfl, x3, C3, dx3, fs3, _, rfl, hp3, cl3, nB3, fb3, _, rfl, _, rfl, cat_tups ha ha2 (by omega) fun q1 H10 g10 hq1 => ?_⟩
    refine ⟨_, _, rfl, tp, bdsD (bs ++ cs), at_bds (hb3.mono (same_tups g10)) ok3, at_bds (cat g10 hq1) ok3, plain_bds (by omega) ok3, fun H11 g11 => ⟨true, rfl, iteF ?_⟩⟩
    have k11 := g10.trans g11
    refine ⟨_, rfl, x3, C3, dx3, fs3, _, rfl, k11 _ _ hp3, cl3, nN3, fn3, _, rfl, _, rfl, cat_tups (k11 _ _ ha) (k11 _ _ ha2) (by omega) fun q2 H12 g12 hq2 => ?_⟩
    have k12 := k11.trans g12
    refine ⟨q2, rfl, bs ++ cs, ys3, cat k12 hq2, by omega, nm3, fun q3 H13 hq3 g13 => ?_⟩
    have k13 := k12.trans g13
    refine ⟨_, _, rfl, tp, rowD ys3, at_row (k13 _ _ hn3) (fun z hz => (oky3 z hz).2), at_row hq3 (fun z hz => (oky3 z hz).2), plain_row (by omega), fun H14 g14 => ⟨true, rfl, iteF ?_⟩⟩
    have k14 := k13.trans g14
    clear k11 k12 k13 g10 g11 g12 g13 g14 hq1 hq2 hq3
    -- turned about
    refine ⟨_, rfl, _, rfl, cat_tups (k14 _ _ ha) (k14 _ _ ha2) (by omega) fun q4 H15 g15 hq4 => ⟨q4, rfl, ⟨_, SqT.of hq4⟩, fun D hD => ?_⟩⟩
    have k15 := k14.trans g15
    have pq := paired_mono (fun _ _ h => stays_bd _ _ _ _ (tups_same k15) h) (paired_app pr pr2)
    refine lcS (walk_tup (K := K) (a := q4) (xs := xs ++ zs)) stays_bd (bs ++ cs) (fun _ => true) turnB (by rw [List.length_append, List.length_append, el, el2]) (by omega) (fun H1 g => SqT.of (g _ _ hq4)) hD ?_ ?_
    · rintro i2 x b H1 H2 Nx hb' ⟨rfl, hx⟩ sm _ yes
      obtain ⟨b', hb'', c, r, rfl, hc', hr1⟩ := paired_at pq i2 _ hx
      have ee : b' = b := Option.some.inj (hb''.symm.trans hb')
      subst ee
      refine ⟨c, _, rfl, SqT.of (sm _ _ hc'), rfl, _, _, rfl, _, _, rfl, _, _, rfl, rfl, rfl, ?_⟩
      refine ⟨_, rfl, _, rfl, _, _, rfl, rfl, _, rfl, three, fun o1 h1' => ?_⟩
      exact yes rfl _ _ (same_new h1') ⟨o1, r, rfl, upd_same, same_new h1' _ _ (sm _ _ hr1)⟩
    intro H16 g16 l16
    rw [filter_all] at l16
    obtain ⟨us, hu, pu⟩ := l16
    refine ⟨D, us, rfl, .inl ⟨SqL.of hu, fun qd hqd => ?_⟩⟩
    have g17 := same_new (o := .tup us) hqd
    have k17 := k15.trans (g16.trans g17)
    have hd : BoardsAt (upd H16 qd (.tup us)) qd ((bs ++ cs).map turnB) := ⟨us, upd_same, paired_mono (fun _ _ h => stays_bd _ _ _ _ (tups_same g17) h) pu⟩
    generalize upd H16 qd (.tup us) = H17 at k17 hd
    have h1 := h1.same k17
    have h3 := h3.same k17
    have t17 := t9.same k17
    have hc := hc.mono (same_tups k17)
    have hb := hb.mono (same_tups k17)
    clear g15 g16 g17 k15 k14 hqd hu pu pq hq4 hD t9 cat pr pr2 ha ha2 hp3 fb3 fn3 hb3 hn3 nm3 cl3 nB3 nN3 ly3 oky3 el el2
    refine ⟨_, rfl, x3, rfl, bs ++ cs, h3.1, ok3, l31, by omega, fun y1 H18 hy1 g18 => ?_⟩
    obtain ⟨C4, dx4, fs4, a4, n4, ys4, cl4, nB4, nN4, hp4, fb4, fn4, hb4, hn4, nm4⟩ := id hy1.1
    refine ⟨y1, C4, dx4, fs4, _, rfl, hp4, cl4, nB4, fb4, _, rfl, ?_⟩
    refine ⟨_, _, rfl, tp, bdsD ((bs ++ cs).map turnB), at_bds hb4 (ok_turns ok3), at_bds (hd.mono (same_tups g18)) (ok_turns ok3), plain_bds (by rw [List.length_map]; omega) (ok_turns ok3), fun H19 g19 => ⟨true, rfl, iteF ?_⟩⟩
    have k19 := g18.trans g19
    clear hb4 hn4 nm4 hp4 fb4 fn4 cl4 nB4 nN4 hy1
    have h1 := h1.same k19
    have h3 := h3.same k19
    have t19 := t17.same k19
    have hc := hc.mono (same_tups k19)
    have hb := hb.mono (same_tups k19)
    clear k19 g18 g19 hd t17
    refine ⟨_, rfl, x3, rfl, bs ++ cs, h3.1, ok3, l31, by omega, fun y1 H20 hy1 g20 => ?_⟩
    refine ⟨_, rfl, x1, rfl, bs, (h1.same g20).1, ok, l01, by omega, fun y2 H21 hy2 g21 => ?_⟩
    have k21 := g20.trans g21
    have hc21 := hc.mono (same_tups k21)
    refine ⟨_, rfl, fun x4 dx4 hx4 hdx4 _ => ?_⟩
    have gx4 : Same H21 (upd (upd H21 dx4 (.own x4)) x4 (.ins CE dx4 [])) := fun c o ho => by
      rw [upd_ne (ne_of_none ho hx4), upd_ne (ne_of_none ho hdx4)]
      exact ho
    refine ⟨x4, dx4, r2, cs, rfl, upd_same, (hc21).mono (same_tups gx4), ok2, l21, l22, fun H22 fs4 hi4 _ hh4 kp4 => ⟨rfl, ?_⟩⟩
    have s4 : Same H21 H22 := made_same hx4 hdx4 kp4
    have ho4 : HallOf K H22 x4 cs := ⟨hh4, CE, dx4, fs4, hall_ns T hmC, hi4⟩
    clear kp4 hh4 hi4 gx4 hx4 hdx4
    refine ⟨x4, rfl, cs, ho4.1, ok2, l21, by omega, fun y3 H23 hy3 g23 => ?_⟩
    refine ⟨y2, y3, rfl, bs.map turnB, cs.map turnB, (hy2.same (s4.trans g23)).1, hy3.1, ok_turns ok, ok_turns ok2, by rw [List.length_map]; exact l01, by rw [List.length_map, List.length_map]; omega, fun y4 H24 hy4 g24 => ?_⟩
    rw [← List.map_append] at hy4
    have k2124 := s4.trans (g23.trans g24)
    refine own_hall HT (hy1.same (g21.trans k2124)) (ok_turns ok3) hy4 (ok_turns ok3) fun H25 g25 => ⟨_, rfl, ?_⟩
    rw [Bool.false_xor, decide_eq_true rfl]
    refine iteF ?_
    have k25 := k21.trans (k2124.trans g25)
    have h1 := h1.same k25
    have h3 := h3.same k25
    have t25 := t19.same k25
    have hc := hc.mono (same_tups k25)
    have hb := hb.mono (same_tups k25)
    clear k25 k2124 k21 g20 g21 g23 g24 g25 s4 hy1 hy2 hy3 hy4 ho4 hc21 t19
    -- the names, the first boards
    refine ⟨_, rfl, x1, rfl, bs, h1.1, ok, l01, by omega, fun y1 H26 hy1 g26 => ?_⟩
    obtain ⟨C4, dx4, fs4, a4, n4, ys4, cl4, nB4, nN4, hp4, fb4, fn4, hb4, hn4, nm4⟩ := id hy1.1
    obtain ⟨C5, dx5, fs5, a5, n5, ys5, cl5, nB5, nN5, hp5, fb5, fn5, hb5, hn5, nm5⟩ := id (h1.same g26).1
    rw [names_turn] at nm4
    have ey := names_one nm4 nm5
    subst ey
    have sh : SeqAt.shaped (rowD ys4) = true := shaped_row fun z hz => lay_let ((namesOk3 nm4 ok).2 z hz).1
    refine ⟨y1, C4, dx4, fs4, _, rfl, hp4, cl4, nN4, fn4, _, rfl, x1, C5, dx5, fs5, _, rfl, hp5, cl5, nN5, fn5, rowD ys4, rowD ys4, dp_row hn4, dp_row hn5, sh, sh, ?_⟩
    rw [eqv_row, decide_eq_true rfl]
    refine ⟨_, rfl, iteF ?_⟩
    have h1 := h1.same g26
    have h3 := h3.same g26
    have t26 := t25.same g26
    have hc := hc.mono (same_tups g26)
    have hb := hb.mono (same_tups g26)
    clear hb4 hn4 nm4 hp4 fb4 fn4 cl4 nB4 nN4 hb5 hn5 nm5 hp5 fb5 fn5 cl5 nB5 nN5 hy1 sh g26 t25
    obtain ⟨xs, ha, pr⟩ := id hb
    have el : xs.length = bs.length := paired_len pr
    refine ⟨_, rfl, _, rfl, r0, _, rfl, .inr (SqT.of ha), _, rfl, RgOk.of_le (by omega) (by omega) (by omega) (by omega), fun q1 hq1 => ?_⟩
    have k18 := same_new (o := .tup (rgV 0 (xs.length : Int))) hq1
    refine ⟨x3, q1, bs ++ cs, allN bs.length, rfl, (h3.same k18).1, ok3, by omega, by rw [upd_same, rg_all, el], by rw [all_len]; omega, all_in (by rw [List.length_append]; omega), all_up _, all_ne l01, fun y1 H27 hy1 g27 => ?_⟩
    rw [cut_all] at hy1
    have k27 := k18.trans g27
    refine ⟨_, rfl, ?_⟩
    refine own_hall HT hy1 ok (h1.same k27) ok fun H28 g28 => ⟨_, rfl, ?_⟩
    rw [Bool.false_xor, decide_eq_true rfl]
    refine iteF ?_
    have k28 := k27.trans g28
    have h3 := h3.same k28
    have hb := hb.mono (same_tups k28)
    have hc := hc.mono (same_tups k28)
    have t28 := t26.same k28
    clear k18 k27 k28 g27 g28 hq1 hy1 t26 ha pr h1 el
    -- lots
    refine ⟨6, rfl, by decide, by decide, ?_⟩
    refine for_range (lo := 0) (n := (6 : Int).toNat) (fun i σ H' => ∃ v6 v7 v8 v9 v10 v11 v12 v13 v14 v15 v16, σ = [some (.ref s0), some (.ref tp), some (.ref r0), some (.ref r2), some (.ref x1), some (.ref x3), v6, v7, v8, v9, v10, v11, v12, v13, v14, v15, v16] ∧ TapeAt H' tp l ∧ HallOf K H' x3 (bs ++ cs) ∧ BoardsAt H' r0 bs ∧ BoardsAt H' r2 cs) ⟨_, _, _, _, _, _, _, _, _, _, _, rfl, t28, h3, hb, hc⟩ ?_ ?_
    rotate_left
    · rintro σ H' ⟨v6, v7, v8, v9, v10, v11, v12, v13, v14, v15, v16, rfl, _⟩
      exact q _
    clear h3 hb hc t28
    rintro i σ H29 hi ⟨v6, v7, v8, v9, v10, v11, v12, v13, v14, v15, v16, rfl, t29, h3, hb, hc⟩
    obtain ⟨xs, ha, pr⟩ := id hb
    obtain ⟨zs, ha2, pr2⟩ := id hc
    have el : xs.length = bs.length := paired_len pr
    have el2 : zs.length = cs.length := paired_len pr2
    have lz : (xs ++ zs).length = (bs ++ cs).length := by rw [List.length_append, List.length_append, el, el2]
    refine ⟨_, rfl, _, rfl, cat_tups ha ha2 (by omega) fun q4 H30 g30 hq4 => ⟨q4, _, rfl, .inr (SqT.of hq4), _, rfl, by omega, by omega, fun D hD => ?_⟩⟩
    have t30 := t29.same g30
    have nD := t30.new hD
    refine lc_range (lo := 0) (n := (((xs ++ zs).length : Nat) : Int).toNat) (fun j H' => ∃ ks : List Int, H' D = some (.lst (ks.map V.int)) ∧ (∀ n ∈ ks, 0 ≤ n ∧ n < (j : Int)) ∧ ks.Pairwise (· < ·) ∧ ks.length ≤ j ∧ TapeAt H' tp l ∧ Mov tp H30 H') ⟨[], upd_same, fun n hn => absurd hn (List.not_mem_nil), .nil, Nat.le_refl _, t30.upd nD, mov_mut (Mov.refl _ _) hD⟩ ?_ ?_
    · rintro j H' hj ⟨ks, hk, inn, up, lk, tk, mk⟩
      refine ⟨rfl, ?_⟩
      refine ⟨_, rfl, tp, 2, rfl, l, tk, by decide, by decide, fun r9 H9 _ _ t9' mv9 => ⟨rfl, _, rfl, ?_⟩⟩
      have hk9 := mv9 _ _ hk nD.1
      have big : (1000 : Nat) < PySem.sizeLine := by decide
      refine ite2 (fun _ => ?_) (fun _ => ?_)
      · refine ⟨_, rfl, _, hk9, by rw [List.length_map]; omega, ks ++ [0 + (j : Int)], by rw [upd_same, List.map_append]; rfl, fun n hn => ?_, ?_, by rw [List.length_append]; exact Nat.succ_le_succ lk, t9'.upd nD, mov_mut (mk.trans mv9) hD⟩
        · rcases List.mem_append.mp hn with hn | hn
          · have := inn n hn
            omega
          · rw [List.mem_singleton.mp hn]
            omega
        · refine List.pairwise_append.mpr ⟨up, List.pairwise_singleton _ _, fun x hx y hy => ?_⟩
          rw [List.mem_singleton.mp hy]
          have := inn x hx
          omega
      · exact ⟨ks, hk9, fun n hn => by have := inn n hn; omega, up, by omega, t9', mk.trans mv9⟩
    rintro H31 ⟨ks, hk, inn, up, lk, t31, m31⟩
    rw [Int.toNat_natCast] at inn lk
    have kp := t30.keep m31
    have h3 := (h3.same g30).keep kp
    have hb := (hb.mono (same_tups g30)).mono kp.tups
    have hc := (hc.mono (same_tups g30)).mono kp.tups
    have ha := kp.tups _ _ (g30 _ _ ha)
    have ha2 := kp.tups _ _ (g30 _ _ ha2)
    clear kp m31 t30 nD hD hq4 g30 t29 pr pr2
    refine ⟨D, _, rfl, .inl ⟨SqL.of hk, fun la hla => ?_⟩⟩
    have g32 := same_new (o := .tup (ks.map V.int)) hla
    have hl32 : upd H31 la (.tup (ks.map V.int)) la = some (.tup (ks.map V.int)) := upd_same
    have h3 := h3.same g32
    have hb := hb.mono (same_tups g32)
    have hc := hc.mono (same_tups g32)
    have ha := g32 _ _ ha
    have ha2 := g32 _ _ ha2
    have t32 := t31.same g32
    generalize upd H31 la (.tup (ks.map V.int)) = H32 at hl32 h3 hb hc ha ha2 t32
    clear g32 hla hk t31
    refine ⟨_, rfl, ?_⟩
    refine ⟨fun σ H4 => ∃ v v10 d, σ = [some (.ref s0), some (.ref tp), some (.ref r0), some (.ref r2), some (.ref x1), some (.ref x3), v6, some (.int (0 + (i : Int))), some (.ref la), some v, v10, v11, v12, v13, v14, v15, v16] ∧ At tp H4 v d ∧ lenD d ≤ 60 ∧ TapeAt H4 tp l ∧ HallOf K H4 x3 (bs ++ cs) ∧ BoardsAt H4 r0 bs ∧ BoardsAt H4 r2 cs, ?_, ?_⟩
    · refine ⟨_, rfl, tp, 3, rfl, l, t32, by decide, by decide, fun r9 H33 _ _ t33 mv33 => ⟨rfl, _, rfl, ?_⟩⟩
      have kp := t32.keep mv33
      have h3 := h3.keep kp
      have hb := hb.mono kp.tups
      have hc := hc.mono kp.tups
      have ha := kp.tups _ _ ha
      have ha2 := kp.tups _ _ ha2
      have hl := kp.tups _ _ hl32
      refine ite2 (fun _ => ?_) (fun _ => ?_)
      · refine ⟨_, rfl, la, _, rfl, .inr (SqT.of hl), fun o1 ho1 => ?_⟩
        have k1 := same_new (o := .lst (ks.map V.int)) ho1
        have n1 := (t33.new ho1).1
        have lks : (ks.map V.int).length ≤ 24 := by rw [List.length_map]; omega
        refine ⟨_, rfl, la, _, rfl, SqT.of (k1 _ _ hl), fun o2 ho2 => ?_⟩
        have k2 := same_new (o := .tup (ks.map V.int).reverse) ho2
        have k12 := k1.trans k2
        refine ⟨_, rfl, _, rfl, cat_tups (k12 _ _ hl) (k12 _ _ hl) (by omega) fun o3 H34 k3 ho3 => ?_⟩
        have k13 := k12.trans k3
        refine ⟨_, rfl, _, rfl, _, rfl, cat_tups (k13 _ _ ha) (k13 _ _ ha2) (by omega) fun q5 H35 k4 hq5 => ⟨q5, _, rfl, .inr (SqT.of hq5), (by show 1 ≤ PySem.sizeLine; decide), fun t1 ht1 => ?_⟩⟩
        have k5 := same_new (o := .tup [V.int (((xs ++ zs).length : Nat) : Int)]) ht1
        have k15 := k13.trans (k4.trans k5)
        refine cat_tups (k15 _ _ hl) upd_same (by show (ks.map V.int).length + 1 ≤ 4000; omega) fun o4 H36 k6 ho4 => ?_
        refine ⟨1, rfl, (by show 1 ≤ PySem.sizeLine; decide), fun t2 ht2 => ?_⟩
        have k7 := same_new (o := .tup [V.int (-1)]) ht2
        have k17 := k15.trans (k6.trans k7)
        refine ⟨_, rfl, cat_tups upd_same (k17 _ _ hl) (by show 1 + (ks.map V.int).length ≤ 4000; omega) fun o5 H37 k8 ho5 => ?_⟩
        refine ⟨(by show 1 ≤ PySem.sizeLine; decide), fun o6 ho6 => fun d1 hd1 => ⟨(by show 10 ≤ PySem.sizeLine; decide), fun lp hlp => ?_⟩⟩
        have k9 := same_new (o := .tup [V.bl true]) ho6
        have k10 := same_new (o := .dK []) hd1
        have k11 := same_new (o := .lst [V.non, V.ref o1, V.ref o2, V.ref o3, V.ref o4, V.ref o5, V.ref o6, V.str (Str.ofString "0"), V.int 0, V.ref d1]) hlp
        have k911 := k9.trans (k10.trans k11)
        have k811 := k8.trans k911
        have k711 := k7.trans k811
        have k611 := k6.trans k711
        have k411 := (k4.trans k5).trans k611
        have k311 := k3.trans k411
        have k211 := k2.trans k311
        have kall := k1.trans k211
        have nlp := ((t33.same k17).same (k8.trans (k9.trans k10))).new hlp
        have e1 := k211 _ _ (upd_same (H := H33) (a := o1) (o := .lst (ks.map V.int)))
        have e2 := k311 _ _ (upd_same (H := upd H33 o1 (.lst (ks.map V.int))) (a := o2) (o := .tup (ks.map V.int).reverse))
        have e3 := k411 _ _ ho3
        have e4 := k711 _ _ ho4
        have e5 := k911 _ _ ho5
        have e6 := k11 _ _ (k10 _ _ (upd_same (H := H37) (a := o6) (o := .tup [V.bl true])))
        have e7 := k11 _ _ (upd_same (H := upd H37 o6 (.tup [V.bl true])) (a := d1) (o := .dK []))
        have e8 := upd_same (H := upd (upd H37 o6 (.tup [V.bl true])) d1 (.dK [])) (a := lp) (o := .lst [V.non, V.ref o1, V.ref o2, V.ref o3, V.ref o4, V.ref o5, V.ref o6, V.str (Str.ofString "0"), V.int 0, V.ref d1])
        generalize upd (upd (upd H37 o6 (.tup [V.bl true])) d1 (.dK [])) lp (.lst [V.non, V.ref o1, V.ref o2, V.ref o3, V.ref o4, V.ref o5, V.ref o6, V.str (Str.ofString "0"), V.int 0, V.ref d1]) = H38 at kall e1 e2 e3 e4 e5 e6 e7 e8
        have t38 := t33.same kall
        have h3 := h3.same kall
        have hb := hb.mono (same_tups kall)
        have hc := hc.mono (same_tups kall)
        clear kall k1 k2 k3 k4 k5 k6 k7 k8 k9 k10 k11 k911 k811 k711 k611 k411 k311 k211 k12 k13 k15 k17 ho1 ho2 ho3 ho4 ho5 ho6 hd1 hlp ht1 ht2 hq5
        rw [← List.map_reverse] at e2
        rw [← List.map_append] at e3
        have e4' : H38 o4 = some (.tup ((ks ++ [(((xs ++ zs).length : Nat) : Int)]).map V.int)) := by rw [List.map_append]; exact e4
        have e5' : H38 o5 = some (.tup (((-1) :: ks).map V.int)) := e5
        have lk24 : ks.length ≤ 24 := by rw [List.length_map] at lks; exact lks
        have each : ∀ y ∈ [V.non, V.ref o1, V.ref o2, V.ref o3, V.ref o4, V.ref o5, V.ref o6, V.str (Str.ofString "0"), V.int 0, V.ref d1], ∃ d, At tp H38 y d ∧ lenD d ≤ 60 := fun y hy => by
          simp only [List.mem_cons, List.not_mem_nil, or_false] at hy
          rcases hy with rfl | rfl | rfl | rfl | rfl | rfl | rfl | rfl | rfl | rfl
          · exact ⟨_, .non, Nat.zero_le _⟩
          · exact ⟨_, .lst n1 e1 (at_ints ks), Nat.zero_le _⟩
          · exact ⟨_, .tup e2 (at_ints _), by show (ks.reverse.map PyData.int).length ≤ 60; rw [List.length_map, List.length_reverse]; omega⟩
          · exact ⟨_, .tup e3 (at_ints _), by show ((ks ++ ks).map PyData.int).length ≤ 60; rw [List.length_map, List.length_append]; omega⟩
          · exact ⟨_, .tup e4' (at_ints _), by show ((ks ++ [(((xs ++ zs).length : Nat) : Int)]).map PyData.int).length ≤ 60; rw [List.length_map, List.length_append]; show ks.length + 1 ≤ 60; omega⟩
          · exact ⟨_, .tup e5' (at_ints _), by show (((-1) :: ks).map PyData.int).length ≤ 60; rw [List.length_map]; show ks.length + 1 ≤ 60; omega⟩
          · exact ⟨_, .tup e6 (.cons (.bl true) .nil), by show 1 ≤ 60; decide⟩
          · exact ⟨_, .str _ (by decide), Nat.zero_le _⟩
          · exact ⟨_, .int 0, Nat.zero_le _⟩
          · exact ⟨_, .dct e7, Nat.zero_le _⟩
        refine ⟨_, rfl, _, rfl, tp, lp, rfl, l, _, t38, e8, nlp.1, (by show 1 ≤ 10; decide), (by show 10 ≤ 1000; decide), fun y H39 my t39 mv39 => ?_⟩
        obtain ⟨d, hA, ld⟩ := each y my
        have kp := t38.keep mv39
        exact ⟨_, _, d, rfl, hA.tape t38 mv39, ld, t39, h3.keep kp, hb.mono kp.tups, hc.mono kp.tups⟩
      · exact ⟨_, _, _, rfl, .tup hl (at_ints ks), by show (ks.map PyData.int).length ≤ 60; rw [List.length_map]; omega, t33, h3, hb, hc⟩
    clear h3 hb hc ha ha2 t32 hl32 inn up lk
    rintro σ' H40 ⟨v, v10', d, rfl, hA, ld, t40, h3, hb, hc⟩
    obtain ⟨xs2, ha, pr⟩ := id hb
    obtain ⟨zs2, ha2, pr2⟩ := id hc
    have el : xs2.length = bs.length := paired_len pr
    have el2 : zs2.length = cs.length := paired_len pr2
    have lz : (xs2 ++ zs2).length = (bs ++ cs).length := by rw [List.length_append, List.length_append, el, el2]
    refine ⟨_, rfl, _, rfl, x3, v, rfl, bs ++ cs, tp, d, h3.1, ok3, by omega, hA, ld, fun ms ed lt ne p H41 hp g41 => ?_, fun no H41 g41 => ?_⟩
    · subst ed
      refine ⟨_, rfl, _, rfl, _, rfl, cat_tups (g41 _ _ ha) (g41 _ _ ha2) (by omega) fun q5 H42 g42 hq5 => ⟨q5, _, rfl, .inr (SqT.of hq5), v, _, rfl, tp, _, At.same (g41.trans g42) _ _ hA, by omega, fun H43 g43 => ⟨_, rfl, ?_⟩⟩⟩
      rw [lz, lt]
      have k43 := g41.trans (g42.trans g43)
      have hv : ∃ b, v = .ref b ∧ H40 b = some (.tup (ms.map V.int)) := by
        cases hA with
        | tup h1 h2 =>
          rw [ints_inv h2] at h1
          exact ⟨_, rfl, h1⟩
      obtain ⟨b, rfl, hbv⟩ := hv
      refine iteT ⟨_, rfl, b, _, rfl, .inr (SqT.of (k43 _ _ hbv)), _, _, rfl, rfl, _, rfl, ?_⟩
      have pos : 0 < ms.length := List.length_pos_iff.mpr ne
      refine ite2 (fun _ => ?_) (fun z => absurd (decide_eq_true (show (((ms.map V.int).length : Nat) : Int) > 0 by rw [List.length_map]; omega)) z)
      have inn := lot_in lt
      have lms : ms.length ≤ 60 := by
        have z : (ms.map PyData.int).length ≤ 60 := ld
        rw [List.length_map] at z
        exact z
      have hp43 := hp.same (g42.trans g43)
      have h3 := h3.same k43
      have hb := hb.mono (same_tups k43)
      have hc := hc.mono (same_tups k43)
      have ha := k43 _ _ ha
      have ha2 := k43 _ _ ha2
      have hbv := k43 _ _ hbv
      have t43 := t40.same k43
      have pq := paired_mono (fun _ _ h => stays_bd _ _ _ _ (tups_same k43) h) (paired_app pr pr2)
      clear k43 g41 g42 g43 hq5 hA pr pr2 hp t40
      refine ⟨_, rfl, b, rfl, ⟨_, SqT.of hbv⟩, fun D hD => ?_⟩
      refine lcS (walk_tup (K := K) (a := b) (xs := ms.map V.int)) stays_bd ms (fun _ => true) (fun n => (bs ++ cs).getD n.toNat dfB) (List.length_map ..) (by omega) (fun H3 g => SqT.of (g _ _ hbv)) hD ?_ ?_
      · rintro i2 x k H3 H4 Nx hk ⟨rfl, hx⟩ sm _ yes
        rw [List.getElem?_map, hk] at hx
        cases hx
        obtain ⟨k0, k1⟩ := inn k (List.mem_of_getElem? hk)
        have hy : (xs2 ++ zs2)[k.toNat]? = some ((xs2 ++ zs2)[k.toNat]'(by omega)) := List.getElem?_eq_getElem (by omega)
        obtain ⟨bb, hbb, hB⟩ := paired_at pq k.toNat _ hy
        have ek : k = ((k.toNat : Nat) : Int) := by omega
        refine ⟨rfl, ?_⟩
        refine ⟨_, rfl, _, rfl, cat_tups (sm _ _ ha) (sm _ _ ha2) (by omega) fun q6 H5 g5 hq6 => ?_⟩
        refine ⟨_, rfl, q6, _, k, _, rfl, rfl, SqT.of hq6, by rw [ek]; exact atI_nat hy, ?_⟩
        refine yes rfl _ _ g5 ?_
        have eg : (bs ++ cs).getD k.toNat dfB = bb := by rw [List.getD_eq_getElem?_getD, hbb]; rfl
        rw [eg]
        exact hB.mono (same_tups (sm.trans g5))
      intro H44 g44 l44
      rw [filter_all] at l44
      obtain ⟨us, hu, pu⟩ := l44
      refine ⟨D, us, rfl, .inl ⟨SqL.of hu, fun qc hqc => ?_⟩⟩
      have k45 := same_new (o := .tup us) hqc
      have hcut : BoardsAt (upd H44 qc (.tup us)) qc (cutB (bs ++ cs) ms) := ⟨us, upd_same, paired_mono (fun _ _ h => stays_bd _ _ _ _ (tups_same k45) h) pu⟩
      have k4 := g44.trans k45
      generalize upd H44 qc (.tup us) = H45 at k4 hcut
      have okc : ∀ b ∈ cutB (bs ++ cs) ms, okB b := fun z hz => by
        obtain ⟨k, hk, rfl⟩ := List.mem_map.mp hz
        obtain ⟨k0, k1⟩ := inn k hk
        have hy : (bs ++ cs)[k.toNat]? = some ((bs ++ cs)[k.toNat]'(by omega)) := List.getElem?_eq_getElem (by omega)
        rw [List.getD_eq_getElem?_getD, hy]
        exact ok3 _ (List.mem_of_getElem? hy)
      have lcut : (cutB (bs ++ cs) ms).length = ms.length := by rw [cutB, List.length_map]
      obtain ⟨⟨C4, dx4, fs4, a4, n4, ys4, cl4, nB4, nN4, hp4, fb4, fn4, hb4, hn4, nm4⟩, D5, dx5, fs5, ns5, hp5⟩ := hp43.same k4
      cases HT.one ns5
      refine ⟨_, rfl, _, _, _, _, true, rfl, .own _, HT.ty hp5, kit_self, true, rfl, ?_⟩
      refine iteF ?_
      refine ⟨_, rfl, p, C4, dx4, fs4, _, rfl, hp4, cl4, nB4, fb4, _, rfl, ?_⟩
      refine ⟨_, _, rfl, tp, bdsD (cutB (bs ++ cs) ms), at_bds hb4 okc, at_bds hcut okc, plain_bds (by omega) okc, fun H46 g46 => ⟨true, rfl, iteF ?_⟩⟩
      refine ⟨_, rfl, p, C4, dx4, fs4, _, rfl, g46 _ _ hp4, cl4, nN4, fn4, _, rfl, qc, rfl, cutB (bs ++ cs) ms, ys4, hcut.mono (same_tups g46), by omega, nm4, fun p2 H47 hp2 g47 => ?_⟩
      have sh : SeqAt.shaped (rowD ys4) = true := shaped_row fun z hz => lay_let ((namesOk3 nm4 okc).2 z hz).1
      refine ⟨rowD ys4, rowD ys4, dp_row (g47 _ _ (g46 _ _ hn4)), dp_row hp2, sh, sh, ?_⟩
      rw [eqv_row, decide_eq_true rfl]
      have kf := k4.trans (g46.trans g47)
      exact ⟨_, rfl, iteF ⟨_, _, _, _, _, _, _, _, _, _, _, rfl, t43.same kf, h3.same kf, hb.mono (same_tups kf), hc.mono (same_tups kf)⟩⟩
    · refine ⟨_, rfl, _, rfl, _, rfl, cat_tups (g41 _ _ ha) (g41 _ _ ha2) (by omega) fun q5 H42 g42 hq5 => ⟨q5, _, rfl, .inr (SqT.of hq5), v, _, rfl, tp, _, At.same (g41.trans g42) _ _ hA, by omega, fun H43 g43 => ⟨_, rfl, ?_⟩⟩⟩
      rw [lz]
      have k43 := g41.trans (g42.trans g43)
      have t43 := t40.same k43
      have h3 := h3.same k43
      have hb := hb.mono (same_tups k43)
      have hc := hc.mono (same_tups k43)
      rcases no with e | rfl
      · rw [e]
        refine iteF ?_
        refine ⟨_, rfl, rfl, _, rfl, ?_⟩
        refine ite2 (fun z => ?_) (fun _ => ⟨_, _, _, _, _, _, _, _, _, _, _, rfl, t43, h3, hb, hc⟩)
        have z' : (!decide (V.str (Str.ofString "none") = V.str (Str.ofString "none"))) = true := z
        rw [decide_eq_true rfl] at z'
        cases z'
      · rw [show lotD (.tuple []) (((bs ++ cs).length : Nat) : Int) = true from rfl]
        have hv : ∃ b, v = .ref b ∧ H40 b = some (.tup []) := by
          cases hA with
          | tup h1 h2 =>
            cases h2
            exact ⟨_, rfl, h1⟩
        obtain ⟨b, rfl, hbv⟩ := hv
        refine iteT ⟨_, rfl, b, _, rfl, .inr (SqT.of (k43 _ _ hbv)), _, _, rfl, rfl, _, rfl, ?_⟩
        refine ite2 (fun z => absurd (of_decide_eq_true z) (by decide)) (fun _ => ?_)
        refine ⟨_, rfl, rfl, _, rfl, ?_⟩
        refine ite2 (fun z => ?_) (fun _ => ⟨_, _, _, _, _, _, _, _, _, _, _, rfl, t43, h3, hb, hc⟩)
        have z' : (!decide (V.str (Str.ofString "none") = V.str (Str.ofString "none"))) = true := z
        rw [decide_eq_true rfl] at z'
        cases z'
end
end K13
namespace K13
open PySem L2 Nm
theorem exm_of {K : PySem.W.Frag} {S : Addr} (h1 : PySem.W.subIn K (.ref S) (.type "BaseException") = some true) (h2 : PySem.W.isClsIn K S = true) (h3 : PySem.W.typeIn K (.ref S) = some (.type "type")) (h4 : PySem.W.subIn K (.ref S) (.ref S) = some true) : PySem.W.exmOne K (.ref S) (.ref S) = some true := by
  have h2' : (PySem.W.clsIn K S).isSome = true := h2
  simp [PySem.W.exmOne, PySem.W.kitCls, h1, h2', h3, h4]
theorem all_mk {l : PySem.W.OpenLaw} {w : World} {K : PySem.W.Frag} {h : Heap} {mg : Str → Option Value} {fa CHall CHallError CNoLot f1 f2 f3 f4 f5 f6 f7 f8 f9 f10 f11 f12 f13 f14 f15 f16 f17 f18 f19 f20 f21 f22 f23 f24 f25 f26 f27 f28 f29 f30 f31 f32 f33 f34 : Addr} (X : K.In h) (G : h.Ns mainGlobals mg) (hfa : mg "law" = some (.ref fa))
    {od1 an1 od2 an2 od3 an3 od4 an4 od5 an5 od6 an6 od7 an7 od8 an8 od9 an9 od10 an10 od11 an11 od12 an12 od13 an13 od14 an14 od15 an15 od16 an16 od17 an17 od18 an18 od19 an19 od20 an20 od21 an21 od22 an22 od23 an23 od24 an24 od25 an25 od26 an26 od27 an27 od28 an28 od29 an29 od30 an30 od31 an31 od32 an32 od33 an33 od34 an34 : Option Addr} {sl1 sl2 sl3 sl4 sl5 sl6 sl7 sl8 sl9 sl10 sl11 sl12 sl13 sl14 sl15 sl16 sl17 sl18 sl19 sl20 sl21 sl22 sl23 sl24 sl25 sl26 sl27 sl28 sl29 sl30 sl31 sl32 sl33 sl34 : Array (Option Value)} {oc1 kV1 dc1 pm1 cd1 ct1 oc2 kV2 dc2 pm2 cd2 ct2 oc3 kV3 dc3 pm3 cd3 ct3 oc4 kV4 dc4 pm4 cd4 ct4 oc5 kV5 dc5 pm5 cd5 ct5 oc6 kV6 dc6 pm6 cd6 ct6 oc7 kV7 dc7 pm7 cd7 ct7 oc8 kV8 dc8 pm8 cd8 ct8 oc9 kV9 dc9 pm9 cd9 ct9 oc10 kV10 dc10 pm10 cd10 ct10 oc11 kV11 dc11 pm11 cd11 ct11 oc12 kV12 dc12 pm12 cd12 ct12 oc13 kV13 dc13 pm13 cd13 ct13 oc14 kV14 dc14 pm14 cd14 ct14 oc15 kV15 dc15 pm15 cd15 ct15 oc16 kV16 dc16 pm16 cd16 ct16 oc17 kV17 dc17 pm17 cd17 ct17 oc18 kV18 dc18 pm18 cd18 ct18 oc19 kV19 dc19 pm19 cd19 ct19 oc20 kV20 dc20 pm20 cd20 ct20 oc21 kV21 dc21 pm21 cd21 ct21 oc22 kV22 dc22 pm22 cd22 ct22 oc23 kV23 dc23 pm23 cd23 ct23 oc24 kV24 dc24 pm24 cd24 ct24 oc25 kV25 dc25 pm25 cd25 ct25 oc26 kV26 dc26 pm26 cd26 ct26 oc27 kV27 dc27 pm27 cd27 ct27 oc28 kV28 dc28 pm28 cd28 ct28 oc29 kV29 dc29 pm29 cd29 ct29 oc30 kV30 dc30 pm30 cd30 ct30 oc31 kV31 dc31 pm31 cd31 ct31 oc32 kV32 dc32 pm32 cd32 ct32 oc33 kV33 dc33 pm33 cd33 ct33 oc34 kV34 dc34 pm34 cd34 ct34 : Value} {tMOST_BEGUN tMOST_BOARDS : Tok} {enmNoLot eqNoLot : Str} {eNNoLot : Addr} {ebsNoLot ebmNoLot : List Value} {esnNoLot : List Str} {esubNoLot : List Value} {eabNoLot : Bool} {ecolNoLot : Option Bool} {eddNoLot : Option Addr} {em0NoLot em1NoLot em2NoLot em3NoLot em5NoLot : Option Value}
    (a_Hall : PySem.W.nsIn K mainGlobals "Hall" = some (some (.ref CHall)))
    (a_HallError : PySem.W.nsIn K mainGlobals "HallError" = some (some (.ref CHallError)))
    (a_NoLot : PySem.W.nsIn K mainGlobals "NoLot" = some (some (.ref CNoLot)))
    (a1 : PySem.W.nsIn K mainGlobals "is_integer" = some (some (.ref f1)))
    (l1 : K.lookup f1 = some ⟨oc1, od1, .func (PySem.W.fnOf "is_integer" "is_integer" (defArgs s_is_integer) (defBody s_is_integer) (defScope s_is_integer) .none kV1 dc1 pm1 an1 cd1 ct1), sl1⟩)
    (c1 : PySem.W.codeIn K cd1 "is_integer" = true)
    (k1 : PySem.W.keepIn K (.ref f1) = true)
    (a2 : PySem.W.nsIn K mainGlobals "is_within" = some (some (.ref f2)))
    (l2 : K.lookup f2 = some ⟨oc2, od2, .func (PySem.W.fnOf "is_within" "is_within" (defArgs s_is_within) (defBody s_is_within) (defScope s_is_within) .none kV2 dc2 pm2 an2 cd2 ct2), sl2⟩)
    (c2 : PySem.W.codeIn K cd2 "is_within" = true)
    (k2 : PySem.W.keepIn K (.ref f2) = true)
    (a3 : PySem.W.nsIn K mainGlobals "is_side" = some (some (.ref f3)))
    (l3 : K.lookup f3 = some ⟨oc3, od3, .func (PySem.W.fnOf "is_side" "is_side" (defArgs s_is_side) (defBody s_is_side) (defScope s_is_side) .none kV3 dc3 pm3 an3 cd3 ct3), sl3⟩)
    (c3 : PySem.W.codeIn K cd3 "is_side" = true)
    (k3 : PySem.W.keepIn K (.ref f3) = true)
    (a4 : PySem.W.nsIn K mainGlobals "is_lettered" = some (some (.ref f4)))
    (l4 : K.lookup f4 = some ⟨oc4, od4, .func (PySem.W.fnOf "is_lettered" "is_lettered" (defArgs s_is_lettered) (defBody s_is_lettered) (defScope s_is_lettered) .none kV4 dc4 pm4 an4 cd4 ct4), sl4⟩)
    (c4 : PySem.W.codeIn K cd4 "is_lettered" = true)
    (k4 : PySem.W.keepIn K (.ref f4) = true)
    (a5 : PySem.W.nsIn K mainGlobals "is_name" = some (some (.ref f5)))
    (l5 : K.lookup f5 = some ⟨oc5, od5, .func (PySem.W.fnOf "is_name" "is_name" (defArgs s_is_name) (defBody s_is_name) (defScope s_is_name) .none kV5 dc5 pm5 an5 cd5 ct5), sl5⟩)
    (c5 : PySem.W.codeIn K cd5 "is_name" = true)
    (k5 : PySem.W.keepIn K (.ref f5) = true)
    (a6 : PySem.W.nsIn K mainGlobals "is_word" = some (some (.ref f6)))
    (l6 : K.lookup f6 = some ⟨oc6, od6, .func (PySem.W.fnOf "is_word" "is_word" (defArgs s_is_word) (defBody s_is_word) (defScope s_is_word) .none kV6 dc6 pm6 an6 cd6 ct6), sl6⟩)
    (c6 : PySem.W.codeIn K cd6 "is_word" = true)
    (k6 : PySem.W.keepIn K (.ref f6) = true)
    (a7 : PySem.W.nsIn K mainGlobals "is_words" = some (some (.ref f7)))
    (l7 : K.lookup f7 = some ⟨oc7, od7, .func (PySem.W.fnOf "is_words" "is_words" (defArgs s_is_words) (defBody s_is_words) (defScope s_is_words) .none kV7 dc7 pm7 an7 cd7 ct7), sl7⟩)
    (c7 : PySem.W.codeIn K cd7 "is_words" = true)
    (k7 : PySem.W.keepIn K (.ref f7) = true)
    (a8 : PySem.W.nsIn K mainGlobals "is_board" = some (some (.ref f8)))
    (l8 : K.lookup f8 = some ⟨oc8, od8, .func (PySem.W.fnOf "is_board" "is_board" (defArgs s_is_board) (defBody s_is_board) (defScope s_is_board) .none kV8 dc8 pm8 an8 cd8 ct8), sl8⟩)
    (c8 : PySem.W.codeIn K cd8 "is_board" = true)
    (k8 : PySem.W.keepIn K (.ref f8) = true)
    (a9 : PySem.W.nsIn K mainGlobals "names_of" = some (some (.ref f9)))
    (l9 : K.lookup f9 = some ⟨oc9, od9, .func (PySem.W.fnOf "names_of" "names_of" (defArgs s_names_of) (defBody s_names_of) (defScope s_names_of) .none kV9 dc9 pm9 an9 cd9 ct9), sl9⟩)
    (c9 : PySem.W.codeIn K cd9 "names_of" = true)
    (k9 : PySem.W.keepIn K (.ref f9) = true)
    (a10 : PySem.W.findIn K (.ref CHall) "__init__" = some (some (.ref f10)))
    (i10 : PySem.W.isFn K (.ref f10) = true)
    (l10 : K.lookup f10 = some ⟨oc10, od10, .func (PySem.W.fnOf "__init__" "Hall.__init__" (defArgs s_Hall___init__) (defBody s_Hall___init__) (defScope s_Hall___init__) .none kV10 dc10 pm10 an10 cd10 ct10), sl10⟩)
    (c10 : PySem.W.codeIn K cd10 "Hall.__init__" = true)
    (k10 : PySem.W.keepIn K (.ref f10) = true)
    (a11 : PySem.W.nsIn K mainGlobals "_law_tape" = some (some (.ref f11)))
    (l11 : K.lookup f11 = some ⟨oc11, od11, .func (PySem.W.fnOf "_law_tape" "_law_tape" (defArgs s__law_tape) (defBody s__law_tape) (defScope s__law_tape) .none kV11 dc11 pm11 an11 cd11 ct11), sl11⟩)
    (c11 : PySem.W.codeIn K cd11 "_law_tape" = true)
    (k11 : PySem.W.keepIn K (.ref f11) = true)
    (a12 : PySem.W.nsIn K mainGlobals "_law_pick" = some (some (.ref f12)))
    (l12 : K.lookup f12 = some ⟨oc12, od12, .func (PySem.W.fnOf "_law_pick" "_law_pick" (defArgs s__law_pick) (defBody s__law_pick) (defScope s__law_pick) .none kV12 dc12 pm12 an12 cd12 ct12), sl12⟩)
    (c12 : PySem.W.codeIn K cd12 "_law_pick" = true)
    (k12 : PySem.W.keepIn K (.ref f12) = true)
    (a13 : PySem.W.nsIn K mainGlobals "hall_of" = some (some (.ref f13)))
    (l13 : K.lookup f13 = some ⟨oc13, od13, .func (PySem.W.fnOf "hall_of" "hall_of" (defArgs s_hall_of) (defBody s_hall_of) (defScope s_hall_of) .none kV13 dc13 pm13 an13 cd13 ct13), sl13⟩)
    (c13 : PySem.W.codeIn K cd13 "hall_of" = true)
    (k13 : PySem.W.keepIn K (.ref f13) = true)
    (a14 : PySem.W.nsIn K mainGlobals "turned" = some (some (.ref f14)))
    (l14 : K.lookup f14 = some ⟨oc14, od14, .func (PySem.W.fnOf "turned" "turned" (defArgs s_turned) (defBody s_turned) (defScope s_turned) .none kV14 dc14 pm14 an14 cd14 ct14), sl14⟩)
    (c14 : PySem.W.codeIn K cd14 "turned" = true)
    (k14 : PySem.W.keepIn K (.ref f14) = true)
    (a15 : PySem.W.nsIn K mainGlobals "joined" = some (some (.ref f15)))
    (l15 : K.lookup f15 = some ⟨oc15, od15, .func (PySem.W.fnOf "joined" "joined" (defArgs s_joined) (defBody s_joined) (defScope s_joined) .none kV15 dc15 pm15 an15 cd15 ct15), sl15⟩)
    (c15 : PySem.W.codeIn K cd15 "joined" = true)
    (k15 : PySem.W.keepIn K (.ref f15) = true)
    (a16 : PySem.W.nsIn K mainGlobals "_law_some" = some (some (.ref f16)))
    (l16 : K.lookup f16 = some ⟨oc16, od16, .func (PySem.W.fnOf "_law_some" "_law_some" (defArgs s__law_some) (defBody s__law_some) (defScope s__law_some) .none kV16 dc16 pm16 an16 cd16 ct16), sl16⟩)
    (c16 : PySem.W.codeIn K cd16 "_law_some" = true)
    (k16 : PySem.W.keepIn K (.ref f16) = true)
    (a17 : PySem.W.nsIn K mainGlobals "_law_word" = some (some (.ref f17)))
    (l17 : K.lookup f17 = some ⟨oc17, od17, .func (PySem.W.fnOf "_law_word" "_law_word" (defArgs s__law_word) (defBody s__law_word) (defScope s__law_word) .none kV17 dc17 pm17 an17 cd17 ct17), sl17⟩)
    (c17 : PySem.W.codeIn K cd17 "_law_word" = true)
    (k17 : PySem.W.keepIn K (.ref f17) = true)
    (a18 : PySem.W.nsIn K mainGlobals "_law_line" = some (some (.ref f18)))
    (l18 : K.lookup f18 = some ⟨oc18, od18, .func (PySem.W.fnOf "_law_line" "_law_line" (defArgs s__law_line) (defBody s__law_line) (defScope s__law_line) .none kV18 dc18 pm18 an18 cd18 ct18), sl18⟩)
    (c18 : PySem.W.codeIn K cd18 "_law_line" = true)
    (k18 : PySem.W.keepIn K (.ref f18) = true)
    (a19 : PySem.W.nsIn K mainGlobals "_law_boards" = some (some (.ref f19)))
    (l19 : K.lookup f19 = some ⟨oc19, od19, .func (PySem.W.fnOf "_law_boards" "_law_boards" (defArgs s__law_boards) (defBody s__law_boards) (defScope s__law_boards) .none kV19 dc19 pm19 an19 cd19 ct19), sl19⟩)
    (c19 : PySem.W.codeIn K cd19 "_law_boards" = true)
    (k19 : PySem.W.keepIn K (.ref f19) = true)
    (a20 : PySem.W.nsIn K mainGlobals "_law_is" = some (some (.ref f20)))
    (l20 : K.lookup f20 = some ⟨oc20, od20, .func (PySem.W.fnOf "_law_is" "_law_is" (defArgs s__law_is) (defBody s__law_is) (defScope s__law_is) .none kV20 dc20 pm20 an20 cd20 ct20), sl20⟩)
    (c20 : PySem.W.codeIn K cd20 "_law_is" = true)
    (k20 : PySem.W.keepIn K (.ref f20) = true)
    (a21 : PySem.W.nsIn K mainGlobals "is_ascending" = some (some (.ref f21)))
    (l21 : K.lookup f21 = some ⟨oc21, od21, .func (PySem.W.fnOf "is_ascending" "is_ascending" (defArgs s_is_ascending) (defBody s_is_ascending) (defScope s_is_ascending) .none kV21 dc21 pm21 an21 cd21 ct21), sl21⟩)
    (c21 : PySem.W.codeIn K cd21 "is_ascending" = true)
    (k21 : PySem.W.keepIn K (.ref f21) = true)
    (a22 : PySem.W.nsIn K mainGlobals "_law_flag" = some (some (.ref f22)))
    (l22 : K.lookup f22 = some ⟨oc22, od22, .func (PySem.W.fnOf "_law_flag" "_law_flag" (defArgs s__law_flag) (defBody s__law_flag) (defScope s__law_flag) .none kV22 dc22 pm22 an22 cd22 ct22), sl22⟩)
    (c22 : PySem.W.codeIn K cd22 "_law_flag" = true)
    (k22 : PySem.W.keepIn K (.ref f22) = true)
    (a23 : PySem.W.findIn K (.ref CHallError) "__init__" = some (some (.ref f23)))
    (i23 : PySem.W.isFn K (.ref f23) = true)
    (l23 : K.lookup f23 = some ⟨oc23, od23, .func (PySem.W.fnOf "__init__" "HallError.__init__" (defArgs s_HallError___init__) (defBody s_HallError___init__) (defScope s_HallError___init__) .none kV23 dc23 pm23 an23 cd23 ct23), sl23⟩)
    (c23 : PySem.W.codeIn K cd23 "HallError.__init__" = true)
    (k23 : PySem.W.keepIn K (.ref f23) = true)
    (a24 : PySem.W.findIn K (.ref CHall) "__eq__" = some (some (.ref f24)))
    (i24 : PySem.W.isFn K (.ref f24) = true)
    (l24 : K.lookup f24 = some ⟨oc24, od24, .func (PySem.W.fnOf "__eq__" "Hall.__eq__" (defArgs s_Hall___eq__) (defBody s_Hall___eq__) (defScope s_Hall___eq__) .none kV24 dc24 pm24 an24 cd24 ct24), sl24⟩)
    (c24 : PySem.W.codeIn K cd24 "Hall.__eq__" = true)
    (k24 : PySem.W.keepIn K (.ref f24) = true)
    (a25 : PySem.W.nsIn K mainGlobals "is_fresh" = some (some (.ref f25)))
    (l25 : K.lookup f25 = some ⟨oc25, od25, .func (PySem.W.fnOf "is_fresh" "is_fresh" (defArgs s_is_fresh) (defBody s_is_fresh) (defScope s_is_fresh) .none kV25 dc25 pm25 an25 cd25 ct25), sl25⟩)
    (c25 : PySem.W.codeIn K cd25 "is_fresh" = true)
    (k25 : PySem.W.keepIn K (.ref f25) = true)
    (a26 : PySem.W.nsIn K mainGlobals "is_lot" = some (some (.ref f26)))
    (l26 : K.lookup f26 = some ⟨oc26, od26, .func (PySem.W.fnOf "is_lot" "is_lot" (defArgs s_is_lot) (defBody s_is_lot) (defScope s_is_lot) .none kV26 dc26 pm26 an26 cd26 ct26), sl26⟩)
    (c26 : PySem.W.codeIn K cd26 "is_lot" = true)
    (k26 : PySem.W.keepIn K (.ref f26) = true)
    (a27 : PySem.W.nsIn K mainGlobals "_law_int" = some (some (.ref f27)))
    (l27 : K.lookup f27 = some ⟨oc27, od27, .func (PySem.W.fnOf "_law_int" "_law_int" (defArgs s__law_int) (defBody s__law_int) (defScope s__law_int) .none kV27 dc27 pm27 an27 cd27 ct27), sl27⟩)
    (c27 : PySem.W.codeIn K cd27 "_law_int" = true)
    (k27 : PySem.W.keepIn K (.ref f27) = true)
    (a28 : PySem.W.nsIn K mainGlobals "_law_is_lot" = some (some (.ref f28)))
    (l28 : K.lookup f28 = some ⟨oc28, od28, .func (PySem.W.fnOf "_law_is_lot" "_law_is_lot" (defArgs s__law_is_lot) (defBody s__law_is_lot) (defScope s__law_is_lot) .none kV28 dc28 pm28 an28 cd28 ct28), sl28⟩)
    (c28 : PySem.W.codeIn K cd28 "_law_is_lot" = true)
    (k28 : PySem.W.keepIn K (.ref f28) = true)
    (a29 : PySem.W.nsIn K mainGlobals "only" = some (some (.ref f29)))
    (l29 : K.lookup f29 = some ⟨oc29, od29, .func (PySem.W.fnOf "only" "only" (defArgs s_only) (defBody s_only) (defScope s_only) .none kV29 dc29 pm29 an29 cd29 ct29), sl29⟩)
    (c29 : PySem.W.codeIn K cd29 "only" = true)
    (k29 : PySem.W.keepIn K (.ref f29) = true)
    (a30 : PySem.W.nsIn K mainGlobals "_law_only" = some (some (.ref f30)))
    (l30 : K.lookup f30 = some ⟨oc30, od30, .func (PySem.W.fnOf "_law_only" "_law_only" (defArgs s__law_only) (defBody s__law_only) (defScope s__law_only) .none kV30 dc30 pm30 an30 cd30 ct30), sl30⟩)
    (c30 : PySem.W.codeIn K cd30 "_law_only" = true)
    (k30 : PySem.W.keepIn K (.ref f30) = true)
    (a31 : PySem.W.nsIn K mainGlobals "_law_names" = some (some (.ref f31)))
    (l31 : K.lookup f31 = some ⟨oc31, od31, .func (PySem.W.fnOf "_law_names" "_law_names" (defArgs s__law_names) (defBody s__law_names) (defScope s__law_names) .none kV31 dc31 pm31 an31 cd31 ct31), sl31⟩)
    (c31 : PySem.W.codeIn K cd31 "_law_names" = true)
    (k31 : PySem.W.keepIn K (.ref f31) = true)
    (a32 : PySem.W.nsIn K mainGlobals "_law_changed" = some (some (.ref f32)))
    (l32 : K.lookup f32 = some ⟨oc32, od32, .func (PySem.W.fnOf "_law_changed" "_law_changed" (defArgs s__law_changed) (defBody s__law_changed) (defScope s__law_changed) .none kV32 dc32 pm32 an32 cd32 ct32), sl32⟩)
    (c32 : PySem.W.codeIn K cd32 "_law_changed" = true)
    (k32 : PySem.W.keepIn K (.ref f32) = true)
    (a33 : PySem.W.nsIn K mainGlobals "_law_compared" = some (some (.ref f33)))
    (l33 : K.lookup f33 = some ⟨oc33, od33, .func (PySem.W.fnOf "_law_compared" "_law_compared" (defArgs s__law_compared) (defBody s__law_compared) (defScope s__law_compared) .none kV33 dc33 pm33 an33 cd33 ct33), sl33⟩)
    (c33 : PySem.W.codeIn K cd33 "_law_compared" = true)
    (k33 : PySem.W.keepIn K (.ref f33) = true)
    (a34 : PySem.W.nsIn K mainGlobals "law" = some (some (.ref f34)))
    (l34 : K.lookup f34 = some ⟨oc34, od34, .func (PySem.W.fnOf "law" "law" (defArgs s_law) (defBody s_law) (defScope s_law) .none kV34 dc34 pm34 an34 cd34 ct34), sl34⟩)
    (c34 : PySem.W.codeIn K cd34 "law" = true)
    (k34 : PySem.W.keepIn K (.ref f34) = true)
    (xL_NoLot : K.lookup CNoLot = some (excClassObj enmNoLot eqNoLot CNoLot eNNoLot ebsNoLot ebmNoLot true esnNoLot esubNoLot eabNoLot ecolNoLot eddNoLot em0NoLot em1NoLot em2NoLot em3NoLot em5NoLot "ValueError.__new__"))
    (rv_NoLot : PySem.HandSPX.refsVE ebmNoLot = true)
    (sa_NoLot : PySem.W.findIn K (.ref CNoLot) "__setattr__" = some (some (.builtin "object.__setattr__")))
    (eC_NoLot : PySem.W.subIn K (.ref CNoLot) (.type "BaseException") = some true)
    (tC_NoLot : PySem.W.typeIn K (.ref CNoLot) = some (.type "type"))
    (kc_NoLot : PySem.W.keepIn K (.ref CNoLot) = true)
    (iC_NoLot : PySem.W.findIn K (.ref CNoLot) "__init__" = some (some (.ref f23)))
    (tI_NoLot : PySem.W.typeIn K (.ref f23) = some (.type "function"))
    (iS_NoLot : PySem.W.isClsIn K CNoLot = true)
    (sS_NoLot : PySem.W.subIn K (.ref CNoLot) (.ref CNoLot) = some true)
    (vV_ : PySem.W.findCls K (.type "ValueError") (.type "type") "__init__" = some (.val (.builtin "ValueError.__init__")))
    (z_VE : PySem.W.nsIn K mainGlobals "ValueError" = some none)
    (hc_a : PySem.W.findIn K (.ref CHall) "__class__" = some (some (.builtin "object.__class__")))
    (hc_n : PySem.W.specialIn K (.builtin "object.__class__") "__get__" = some (some (.builtin "getset_descriptor.__get__")))
    (hc_t : PySem.W.takesIn K (.builtin "object.__class__") = some true)
    (hc_m : PySem.W.mroIn K CHall (.type "object") = some true)
    (hc_ne : PySem.W.findIn K (.ref CHall) "__ne__" = some (some (.builtin "object.__ne__")))
    (hc_ob : PySem.W.subIn K (.ref CHall) (.type "object") = some true)
    (hc_is : PySem.W.isClsIn K CHall = true)
    (hc_ty : PySem.W.typeIn K (.ref CHall) = some (.type "type"))
    (hc_no_NoneType : PySem.W.subIn K (.type "NoneType") (.ref CHall) = some false)
    (hc_no_int : PySem.W.subIn K (.type "int") (.ref CHall) = some false)
    (hc_no_bool : PySem.W.subIn K (.type "bool") (.ref CHall) = some false)
    (hc_no_str : PySem.W.subIn K (.type "str") (.ref CHall) = some false)
    (hc_no_tuple : PySem.W.subIn K (.type "tuple") (.ref CHall) = some false)
    (hc_no_list : PySem.W.subIn K (.type "list") (.ref CHall) = some false)
    (hc_no_dict : PySem.W.subIn K (.type "dict") (.ref CHall) = some false)
    (pg_Hall : PySem.W.plainGet K CHall Str.empty = true)
    (hd_Hall : PySem.W.hasDictIn K CHall = true)
    (po_Hall : PySem.W.plainOver K CHall = true)
    (sa_Hall : PySem.W.findIn K (.ref CHall) "__setattr__" = some (some (.builtin "object.__setattr__")))
    (mk_Hall : PySem.W.makesIn K CHall = true)
    (kc_Hall : PySem.W.keepIn K (.ref CHall) = true)
    (n_Hall_boards : PySem.W.findIn K (.ref CHall) "boards" = some none)
    (n_Hall_names : PySem.W.findIn K (.ref CHall) "names" = some none)
    (z_ValueError : PySem.W.nsIn K mainGlobals "ValueError" = some none)
    (z_all : PySem.W.nsIn K mainGlobals "all" = some none)
    (z_bool : PySem.W.nsIn K mainGlobals "bool" = some none)
    (z_enumerate : PySem.W.nsIn K mainGlobals "enumerate" = some none)
    (z_int : PySem.W.nsIn K mainGlobals "int" = some none)
    (z_isinstance : PySem.W.nsIn K mainGlobals "isinstance" = some none)
    (z_len : PySem.W.nsIn K mainGlobals "len" = some none)
    (z_list : PySem.W.nsIn K mainGlobals "list" = some none)
    (z_max : PySem.W.nsIn K mainGlobals "max" = some none)
    (z_range : PySem.W.nsIn K mainGlobals "range" = some none)
    (z_sorted : PySem.W.nsIn K mainGlobals "sorted" = some none)
    (z_str : PySem.W.nsIn K mainGlobals "str" = some none)
    (z_tuple : PySem.W.nsIn K mainGlobals "tuple" = some none)
    (z_zip : PySem.W.nsIn K mainGlobals "zip" = some none)
    (g_MOST_BEGUN : PySem.W.nsIn K mainGlobals "MOST_BEGUN" = some (some (.int 20 tMOST_BEGUN)))
    (g_MOST_BOARDS : PySem.W.nsIn K mainGlobals "MOST_BOARDS" = some (some (.int 12 tMOST_BOARDS))) :
    ∃ fd : FuncData, (∀ (s : Shared) (v : Value), BindsTo s fd ⟨[v], []⟩ [("script", v)]) ∧ ∀ base : Heap, K.In base → base.Ns mainGlobals mg → FnOk l.prog w K mg base CX0 14 fa fd ["script"] (sp_law K) := by
  have e := hfa.symm.trans (PySem.W.mg_of X G a34)
  cases e
  have F1 := fun_mk (st := s_is_integer) l1 c1 k1
  have F2 := fun_mk (st := s_is_within) l2 c2 k2
  have F3 := fun_mk (st := s_is_side) l3 c3 k3
  have F4 := fun_mk (st := s_is_lettered) l4 c4 k4
  have F5 := fun_mk (st := s_is_name) l5 c5 k5
  have F6 := fun_mk (st := s_is_word) l6 c6 k6
  have F7 := fun_mk (st := s_is_words) l7 c7 k7
  have F8 := fun_mk (st := s_is_board) l8 c8 k8
  have F9 := fun_mk (st := s_names_of) l9 c9 k9
  have F10 := fun_mk (st := s_Hall___init__) l10 c10 k10
  have F11 := fun_mk (st := s__law_tape) l11 c11 k11
  have F12 := fun_mk (st := s__law_pick) l12 c12 k12
  have F13 := fun_mk (st := s_hall_of) l13 c13 k13
  have F14 := fun_mk (st := s_turned) l14 c14 k14
  have F15 := fun_mk (st := s_joined) l15 c15 k15
  have F16 := fun_mk (st := s__law_some) l16 c16 k16
  have F17 := fun_mk (st := s__law_word) l17 c17 k17
  have F18 := fun_mk (st := s__law_line) l18 c18 k18
  have F19 := fun_mk (st := s__law_boards) l19 c19 k19
  have F20 := fun_mk (st := s__law_is) l20 c20 k20
  have F21 := fun_mk (st := s_is_ascending) l21 c21 k21
  have F22 := fun_mk (st := s__law_flag) l22 c22 k22
  have F23 := fun_mk (st := s_HallError___init__) l23 c23 k23
  have F24 := fun_mk (st := s_Hall___eq__) l24 c24 k24
  have F25 := fun_mk (st := s_is_fresh) l25 c25 k25
  have F26 := fun_mk (st := s_is_lot) l26 c26 k26
  have F27 := fun_mk (st := s__law_int) l27 c27 k27
  have F28 := fun_mk (st := s__law_is_lot) l28 c28 k28
  have F29 := fun_mk (st := s_only) l29 c29 k29
  have F30 := fun_mk (st := s__law_only) l30 c30 k30
  have F31 := fun_mk (st := s__law_names) l31 c31 k31
  have F32 := fun_mk (st := s__law_changed) l32 c32 k32
  have F33 := fun_mk (st := s__law_compared) l33 c33 k33
  have F34 := fun_mk (st := s_law) l34 c34 k34
  have T : Txt K mg := ⟨⟨_, _, F1, PySem.W.mg_of X G a1⟩,
    ⟨_, _, F2, PySem.W.mg_of X G a2⟩,
    ⟨_, _, F3, PySem.W.mg_of X G a3⟩,
    ⟨_, _, F4, PySem.W.mg_of X G a4⟩,
    ⟨_, _, F5, PySem.W.mg_of X G a5⟩,
    ⟨_, _, F6, PySem.W.mg_of X G a6⟩,
    ⟨_, _, F7, PySem.W.mg_of X G a7⟩,
    ⟨_, _, F8, PySem.W.mg_of X G a8⟩,
    ⟨_, _, F9, PySem.W.mg_of X G a9⟩,
    ⟨_, _, F11, PySem.W.mg_of X G a11⟩,
    ⟨_, _, F12, PySem.W.mg_of X G a12⟩,
    ⟨_, _, F13, PySem.W.mg_of X G a13⟩,
    ⟨_, _, F14, PySem.W.mg_of X G a14⟩,
    ⟨_, _, F15, PySem.W.mg_of X G a15⟩,
    ⟨_, _, F16, PySem.W.mg_of X G a16⟩,
    ⟨_, _, F17, PySem.W.mg_of X G a17⟩,
    ⟨_, _, F18, PySem.W.mg_of X G a18⟩,
    ⟨_, _, F19, PySem.W.mg_of X G a19⟩,
    ⟨_, _, F20, PySem.W.mg_of X G a20⟩,
    ⟨_, _, F21, PySem.W.mg_of X G a21⟩,
    ⟨_, _, F22, PySem.W.mg_of X G a22⟩,
    ⟨_, _, F25, PySem.W.mg_of X G a25⟩,
    ⟨_, _, F26, PySem.W.mg_of X G a26⟩,
    ⟨_, _, F27, PySem.W.mg_of X G a27⟩,
    ⟨_, _, F28, PySem.W.mg_of X G a28⟩,
    ⟨_, _, F29, PySem.W.mg_of X G a29⟩,
    ⟨_, _, F30, PySem.W.mg_of X G a30⟩,
    ⟨_, _, F31, PySem.W.mg_of X G a31⟩,
    ⟨_, _, F32, PySem.W.mg_of X G a32⟩,
    ⟨_, _, F33, PySem.W.mg_of X G a33⟩,
    ⟨_, _, F34, PySem.W.mg_of X G a34⟩,
    PySem.W.mg_none_of X G z_ValueError,
    PySem.W.mg_none_of X G z_all,
    PySem.W.mg_none_of X G z_bool,
    PySem.W.mg_none_of X G z_enumerate,
    PySem.W.mg_none_of X G z_int,
    PySem.W.mg_none_of X G z_isinstance,
    PySem.W.mg_none_of X G z_len,
    PySem.W.mg_none_of X G z_list,
    PySem.W.mg_none_of X G z_max,
    PySem.W.mg_none_of X G z_range,
    PySem.W.mg_none_of X G z_sorted,
    PySem.W.mg_none_of X G z_str,
    PySem.W.mg_none_of X G z_tuple,
    PySem.W.mg_none_of X G z_zip,
    ⟨_, PySem.W.mg_of X G g_MOST_BEGUN, ⟨_, rfl⟩⟩,
    ⟨_, PySem.W.mg_of X G g_MOST_BOARDS, ⟨_, rfl⟩⟩,
    ⟨_, _, _, ⟨pg_Hall, hd_Hall, po_Hall, sa_Hall⟩, ⟨mk_Hall, a10, i10, kc_Hall⟩, PySem.W.mg_of X G a_Hall, F10, n_Hall_boards, n_Hall_names⟩,
    PySem.W.mg_none_of X G z_VE,
    vV_,
    ⟨_, _, _, { hm := PySem.W.mg_of X G a_NoLot, ox := { cls := ⟨_, _, _, _, _, _, _, _, _, _, _, _, _, _, _, xL_NoLot, rv_NoLot⟩, sa := sa_NoLot, exC := eC_NoLot, tyC := tC_NoLot, kC := kc_NoLot }, iC := iC_NoLot, tI := tI_NoLot }, exm_of eC_NoLot iS_NoLot tC_NoLot sS_NoLot, F23⟩,
    ⟨_, _, _, { ns := a_Hall, cl := ⟨pg_Hall, hd_Hall, po_Hall, sa_Hall⟩, ha := hc_a, hn := hc_n, htk := hc_t, hm := hc_m, no := Nm.no_all hc_is hc_ty hc_no_NoneType hc_no_int hc_no_bool hc_no_str hc_no_tuple hc_no_list hc_no_dict }, PySem.W.mg_of X G a_Hall, a24, i24, hc_ne, hc_ob, F24⟩⟩
  exact ⟨PySem.W.fnOf "law" "law" (defArgs s_law) (defBody s_law) (defScope s_law) .none kV34 dc34 pm34 an34 cd34 ct34, fun s v => .of_eq rfl, fun base _ _ => ok_law F34 T⟩
theorem walk {l : PySem.W.OpenLaw} {q : Program} {loose : List Str} {XP : (Str → Option Value) → Heap → Prop} {YP : World → Heap → Prop} {d : DefRec} {K : Params → PySem.W.Frag} (hn : l.most = some 63) (hdf : d.params.defaults = [])
    (hY : ∀ (w : World) (h : Heap), YP w h → (K w.params).In h)
    (F : ∀ (w : World) (mg : Str → Option Value) (fa : Addr) (h : Heap), (K w.params).In h → h.Ns mainGlobals mg → mg d.name = some (.ref fa) →
      ∃ fd : FuncData, (∀ (s : Shared) (u : Value), BindsTo s fd ⟨[u], []⟩ [("script", u)]) ∧ ∀ base : Heap, (K w.params).In base → base.Ns mainGlobals mg → FnOk l.prog w (K w.params) mg base CX0 14 fa fd ["script"] (sp_law (K w.params))) :
    PySem.W.WalkO q loose XP YP l.row.toRowW d [] (fun f vs => PySem.call f vs) :=
  L2.walk_of (n := 63) (k := 14) (x := "script") (CX := fun _ => CX0) (sp := fun w => sp_law (K w.params)) hn (by decide) hdf ⟨rfl, by decide, by decide⟩ hY F (fun _ _ a ns hl _ hS => ⟨a, ns, rfl, hS, fun _ => rfl⟩) fun _ _ _ _ _ z => z
end K13
open PySem PySem.W PyProof.Rows
set_option maxRecDepth 100000 in
set_option maxHeartbeats 0 in
theorem PySem.Challenge.cw_untoldgames_k13_whole_halls_turned_joine_holds : PySem.Challenge.rw_untoldgames_k13_whole_halls_turned_joine.Holds := by
  w_on; o_law; k_head; (case hw => w_witness2)
  k_fill
  refine K13.walk (l := PySem.Challenge.rw_untoldgames_k13_whole_halls_turned_joine) rfl rfl (fun w h Y => PySem.W.kIn_of Y) ?F
  case F =>
    intro w mg fa h KX G hmg
    refine' K13.all_mk KX G hmg ?a_Hall ?a_HallError ?a_NoLot ?a1 ?l1 ?c1 ?k1 ?a2 ?l2 ?c2 ?k2 ?a3 ?l3 ?c3 ?k3 ?a4 ?l4 ?c4 ?k4 ?a5 ?l5 ?c5 ?k5 ?a6 ?l6 ?c6 ?k6 ?a7 ?l7 ?c7 ?k7 ?a8 ?l8 ?c8 ?k8 ?a9 ?l9 ?c9 ?k9 ?a10 ?i10 ?l10 ?c10 ?k10 ?a11 ?l11 ?c11 ?k11 ?a12 ?l12 ?c12 ?k12 ?a13 ?l13 ?c13 ?k13 ?a14 ?l14 ?c14 ?k14 ?a15 ?l15 ?c15 ?k15 ?a16 ?l16 ?c16 ?k16 ?a17 ?l17 ?c17 ?k17 ?a18 ?l18 ?c18 ?k18 ?a19 ?l19 ?c19 ?k19 ?a20 ?l20 ?c20 ?k20 ?a21 ?l21 ?c21 ?k21 ?a22 ?l22 ?c22 ?k22 ?a23 ?i23 ?l23 ?c23 ?k23 ?a24 ?i24 ?l24 ?c24 ?k24 ?a25 ?l25 ?c25 ?k25 ?a26 ?l26 ?c26 ?k26 ?a27 ?l27 ?c27 ?k27 ?a28 ?l28 ?c28 ?k28 ?a29 ?l29 ?c29 ?k29 ?a30 ?l30 ?c30 ?k30 ?a31 ?l31 ?c31 ?k31 ?a32 ?l32 ?c32 ?k32 ?a33 ?l33 ?c33 ?k33 ?a34 ?l34 ?c34 ?k34 ?xL_NoLot ?rv_NoLot ?sa_NoLot ?eC_NoLot ?tC_NoLot ?kc_NoLot ?iC_NoLot ?tI_NoLot ?iS_NoLot ?sS_NoLot ?vV_ ?z_VE ?hc_a ?hc_n ?hc_t ?hc_m ?hc_ne ?hc_ob ?hc_is ?hc_ty ?hc_no_NoneType ?hc_no_int ?hc_no_bool ?hc_no_str ?hc_no_tuple ?hc_no_list ?hc_no_dict ?pg_Hall ?hd_Hall ?po_Hall ?sa_Hall ?mk_Hall ?kc_Hall ?n_Hall_boards ?n_Hall_names ?z_ValueError ?z_all ?z_bool ?z_enumerate ?z_int ?z_isinstance ?z_len ?z_list ?z_max ?z_range ?z_sorted ?z_str ?z_tuple ?z_zip ?g_MOST_BEGUN ?g_MOST_BOARDS
    (case a_Hall => k_is)
    (case a_HallError => k_is)
    (case a_NoLot => k_is)
    (case a1 => k_is)
    (case l1 => k_is)
    (case c1 => k_is)
    (case k1 => k_is)
    (case a2 => k_is)
    (case l2 => k_is)
    (case c2 => k_is)
    (case k2 => k_is)
    (case a3 => k_is)
    (case l3 => k_is)
    (case c3 => k_is)
    (case k3 => k_is)
    (case a4 => k_is)
    (case l4 => k_is)
    (case c4 => k_is)
    (case k4 => k_is)
    (case a5 => k_is)
    (case l5 => k_is)
    (case c5 => k_is)
    (case k5 => k_is)
    (case a6 => k_is)
    (case l6 => k_is)
    (case c6 => k_is)
    (case k6 => k_is)
    (case a7 => k_is)
    (case l7 => k_is)
    (case c7 => k_is)
    (case k7 => k_is)
    (case a8 => k_is)
    (case l8 => k_is)
    (case c8 => k_is)
    (case k8 => k_is)
    (case a9 => k_is)
    (case l9 => k_is)
    (case c9 => k_is)
    (case k9 => k_is)
    (case a10 => k_is)
    (case i10 => k_is)
    (case l10 => k_is)
    (case c10 => k_is)
    (case k10 => k_is)
    (case a11 => k_is)
    (case l11 => k_is)
    (case c11 => k_is)
    (case k11 => k_is)
    (case a12 => k_is)
    (case l12 => k_is)
    (case c12 => k_is)
    (case k12 => k_is)
    (case a13 => k_is)
    (case l13 => k_is)
    (case c13 => k_is)
    (case k13 => k_is)
    (case a14 => k_is)
    (case l14 => k_is)
    (case c14 => k_is)
    (case k14 => k_is)
    (case a15 => k_is)
    (case l15 => k_is)
    (case c15 => k_is)
    (case k15 => k_is)
    (case a16 => k_is)
    (case l16 => k_is)
    (case c16 => k_is)
    (case k16 => k_is)
    (case a17 => k_is)
    (case l17 => k_is)
    (case c17 => k_is)
    (case k17 => k_is)
    (case a18 => k_is)
    (case l18 => k_is)
    (case c18 => k_is)
    (case k18 => k_is)
    (case a19 => k_is)
    (case l19 => k_is)
    (case c19 => k_is)
    (case k19 => k_is)
    (case a20 => k_is)
    (case l20 => k_is)
    (case c20 => k_is)
    (case k20 => k_is)
    (case a21 => k_is)
    (case l21 => k_is)
    (case c21 => k_is)
    (case k21 => k_is)
    (case a22 => k_is)
    (case l22 => k_is)
    (case c22 => k_is)
    (case k22 => k_is)
    (case a23 => k_is)
    (case i23 => k_is)
    (case l23 => k_is)
    (case c23 => k_is)
    (case k23 => k_is)
    (case a24 => k_is)
    (case i24 => k_is)
    (case l24 => k_is)
    (case c24 => k_is)
    (case k24 => k_is)
    (case a25 => k_is)
    (case l25 => k_is)
    (case c25 => k_is)
    (case k25 => k_is)
    (case a26 => k_is)
    (case l26 => k_is)
    (case c26 => k_is)
    (case k26 => k_is)
    (case a27 => k_is)
    (case l27 => k_is)
    (case c27 => k_is)
    (case k27 => k_is)
    (case a28 => k_is)
    (case l28 => k_is)
    (case c28 => k_is)
    (case k28 => k_is)
    (case a29 => k_is)
    (case l29 => k_is)
    (case c29 => k_is)
    (case k29 => k_is)
    (case a30 => k_is)
    (case l30 => k_is)
    (case c30 => k_is)
    (case k30 => k_is)
    (case a31 => k_is)
    (case l31 => k_is)
    (case c31 => k_is)
    (case k31 => k_is)
    (case a32 => k_is)
    (case l32 => k_is)
    (case c32 => k_is)
    (case k32 => k_is)
    (case a33 => k_is)
    (case l33 => k_is)
    (case c33 => k_is)
    (case k33 => k_is)
    (case a34 => k_is)
    (case l34 => k_is)
    (case c34 => k_is)
    (case k34 => k_is)
    (case xL_NoLot => k_is)
    (case rv_NoLot => decide +kernel)
    (case sa_NoLot => k_is)
    (case eC_NoLot => k_is)
    (case tC_NoLot => k_is)
    (case kc_NoLot => k_is)
    (case iC_NoLot => k_is)
    (case tI_NoLot => k_is)
    (case iS_NoLot => k_is)
    (case sS_NoLot => first | rfl | k_is)
    (case vV_ => k_is)
    (case z_VE => k_is)
    (case hc_a => k_is)
    (case hc_n => k_is)
    (case hc_t => k_is)
    (case hc_m => k_is)
    (case hc_ne => k_is)
    (case hc_ob => k_is)
    (case hc_is => k_is)
    (case hc_ty => k_is)
    (case hc_no_NoneType => k_is)
    (case hc_no_int => k_is)
    (case hc_no_bool => k_is)
    (case hc_no_str => k_is)
    (case hc_no_tuple => k_is)
    (case hc_no_list => k_is)
    (case hc_no_dict => k_is)
    (case pg_Hall => k_is)
    (case hd_Hall => k_is)
    (case po_Hall => k_is)
    (case sa_Hall => k_is)
    (case mk_Hall => k_is)
    (case kc_Hall => k_is)
    (case n_Hall_boards => k_is)
    (case n_Hall_names => k_is)
    (case z_ValueError => k_is)
    (case z_all => k_is)
    (case z_bool => k_is)
    (case z_enumerate => k_is)
    (case z_int => k_is)
    (case z_isinstance => k_is)
    (case z_len => k_is)
    (case z_list => k_is)
    (case z_max => k_is)
    (case z_range => k_is)
    (case z_sorted => k_is)
    (case z_str => k_is)
    (case z_tuple => k_is)
    (case z_zip => k_is)
    (case g_MOST_BEGUN => k_is)
    (case g_MOST_BOARDS => k_is)
#print axioms PySem.Challenge.cw_untoldgames_k13_whole_halls_turned_joine_holds
