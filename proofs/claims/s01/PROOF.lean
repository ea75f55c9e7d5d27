import PyProof.Rows.All
import Wide.All
import OpenK.AllK
import Wide.FinOn
import PyProof.EqAt
import PyProof.EqKinds
import PyProof.TupleCall
import KE.BitLaws
import Open.SpecLaws
import KE.OsHead
import KE.OsGo
import PySem.SetOps
import PyProof.SetKind
import PyProof.DictKinds
import PyProof.DictStraight
import PyProof.FactsAll.set_1
import PyProof.Seq
import PyProof.Walks
import PyProof.WalksS
import PyProof.MakeMany
import PyProof.DictIter
import PyProof.CollectWalk
import PyProof.FactsAll.set_2
import PyProof.Rows.TupIn
import PyProof.Rows.SetFrom
import KE.KLam
import KE.KMinKey
import PyProof.Rows.SortShellAny
import PyProof.Rows.SortWalk
import KE.KRevIter
import PyProof.CollectIter
import PyProof.ListRange
import KE.KSortTupG
import PySem.Challenge.RW_crewshifts_s01_answers
set_option Elab.async false
set_option linter.all false
set_option maxRecDepth 100000
namespace PySem.SetTable
def Up (xs : Array Nat) : Prop := ∀ (i j a b : Nat),i < j -> xs[i]? = some a -> xs[j]? = some b -> a < b
theorem below_go (xs : Array Nat) (j : Nat) (up : Up xs) : ∀ (fuel lo hi : Nat),hi <= xs.size -> lo <= hi -> hi - lo <= fuel →
  (∀ i a,i < lo -> xs[i]? = some a -> a < j) -> (∀ i a,hi <= i -> xs[i]? = some a -> j <= a) →
  below.go xs j fuel lo hi <= xs.size /\ (∀ i a,i < below.go xs j fuel lo hi -> xs[i]? = some a -> a < j) /\ (∀ i a,below.go xs j fuel lo hi <= i -> xs[i]? = some a -> j <= a)
 | 0,lo,hi,h1,h2,h3,hl,hh => by
  have e : lo = hi := by omega
  subst e
  exact ⟨h1,hl,hh⟩
 | fuel + 1,lo,hi,h1,h2,h3,hl,hh => by
  unfold below.go
  by_cases c : lo < hi
  ·rw [if_pos c]
   have hm : (lo + hi) / 2 < xs.size := by omega
   have em : xs[(lo + hi) / 2]? = some xs[(lo + hi) / 2] := Array.getElem?_eq_getElem hm
   have eg : xs.getD ((lo + hi) / 2) j = xs[(lo + hi) / 2] := by simp [Array.getD,hm]
   dsimp only
   rw [eg]
   by_cases d : xs[(lo + hi) / 2] < j
   ·rw [if_pos d]
    refine below_go xs j up fuel _ _ h1 (by omega) (by omega) (fun i a hi' ea => ?_) hh
    rcases Nat.lt_or_ge i ((lo + hi) / 2) with q | q
    ·exact Nat.lt_trans (up i _ a _ q ea em) d
    ·have : i = (lo + hi) / 2 := by omega
     subst this
     rw [em] at ea; cases ea; exact d
   ·rw [if_neg d]
    refine below_go xs j up fuel _ _ (by omega) (by omega) (by omega) hl (fun i a hi' ea => ?_)
    rcases Nat.lt_or_ge ((lo + hi) / 2) i with q | q
    ·exact Nat.le_of_lt (Nat.lt_of_le_of_lt (Nat.not_lt.mp d) (up _ i _ a q em ea))
    ·have : i = (lo + hi) / 2 := by omega
     subst this
     rw [em] at ea; cases ea; exact Nat.not_lt.mp d
  ·rw [if_neg c]
   have e : lo = hi := by omega
   subst e
   exact ⟨h1,hl,hh⟩
theorem below_ok {xs : Array Nat} (up : Up xs) (j : Nat) : below xs j <= xs.size /\ (∀ i a,i < below xs j -> xs[i]? = some a -> a < j) /\ (∀ i a,below xs j <= i -> xs[i]? = some a -> j <= a) :=
 below_go xs j up xs.size 0 xs.size (Nat.le_refl _) (Nat.zero_le _) (by omega) (fun i a h => absurd h (Nat.not_lt_zero _)) (fun i a h e => by
  rw [Array.getElem?_eq_none h] at e; cases e)
theorem get_insertAt {α : Type} (xs : Array α) (p : Nat) (x : α) (hp : p <= xs.size) (i : Nat) : (insertAt xs p x)[i]? = if i < p then xs[i]? else if i = p then some x else xs[i - 1]? := by
 have e : (insertAt xs p x)[i]? = (xs.toList.take p ++ x :: xs.toList.drop p)[i]? := by
  rw [<- Array.getElem?_toList]
  congr 1
  simp [insertAt,List.extract_eq_take_drop,List.take_of_length_le]
 rw [e,List.getElem?_append,List.length_take,Array.length_toList,Nat.min_eq_left hp]
 by_cases c1 : i < p
 ·rw [if_pos c1,if_pos c1,List.getElem?_take,if_pos c1,Array.getElem?_toList]
 ·rw [if_neg c1,if_neg c1]
  by_cases c2 : i = p
  ·subst c2; rw [if_pos rfl,Nat.sub_self]; rfl
  ·rw [if_neg c2]
   obtain ⟨k,rfl⟩ : ∃ k,i = p + (k + 1) := ⟨i - p - 1,by omega⟩
   rw [Nat.add_sub_cancel_left,List.getElem?_cons_succ,List.getElem?_drop,Array.getElem?_toList]
   rfl
theorem Up.insert {xs : Array Nat} (up : Up xs) {j : Nat} (hn : xs[below xs j]? ≠ some j) : Up (insertAt xs (below xs j) j) := by
 obtain ⟨h1,h2,h3⟩ := below_ok up j
 intro i k a b hik ea eb
 rw [get_insertAt xs _ j h1] at ea eb
 by_cases c1 : i < below xs j
 ·rw [if_pos c1] at ea
  by_cases c2 : k < below xs j
  ·rw [if_pos c2] at eb; exact up i k a b hik ea eb
  ·rw [if_neg c2] at eb
   by_cases c3 : k = below xs j
   ·rw [if_pos c3] at eb; cases eb; exact h2 i a c1 ea
   ·rw [if_neg c3] at eb
    exact up i (k - 1) a b (by omega) ea eb
 ·rw [if_neg c1] at ea
  have c2 : ¬ k < below xs j := by omega
  have c3 : ¬ k = below xs j := by omega
  rw [if_neg c2,if_neg c3] at eb
  by_cases c4 : i = below xs j
  ·rw [if_pos c4] at ea; cases ea
   have hle := h3 (k - 1) b (by omega) eb
   rcases Nat.lt_or_ge j b with q | q
   ·exact q
   ·exfalso
    have ej : b = j := by omega
    subst ej
    rcases Nat.lt_or_ge (below xs b) (k - 1) with r | r
    ·have hb : below xs b < xs.size := by
      have := Array.getElem?_eq_some_iff.mp eb
      obtain ⟨z,_⟩ := this; omega
     have := h3 (below xs b) _ (Nat.le_refl _) (Array.getElem?_eq_getElem hb)
     have := up (below xs b) (k - 1) _ b r (Array.getElem?_eq_getElem hb) eb
     omega
    ·have : k - 1 = below xs b := by omega
     rw [this] at eb; exact hn eb
  ·rw [if_neg c4] at ea
   exact up (i - 1) (k - 1) a b (by omega) ea eb
theorem up_range (n : Nat) : Up (Array.range n) := by
 intro i j a b h ea eb
 rw [Array.getElem?_range] at ea eb
 split at ea <;> simp at ea
 split at eb <;> simp at eb
 omega
theorem slot_notLive {t : SetTable} {j : Nat} (h : ∀ i,t.slot j ≠ .live i) : t.place[below t.place j]? ≠ some j := by
 intro e
 refine h (below t.place j) ?_
 unfold slot
 dsimp only
 rw [e,if_pos (by simp)]
theorem probe_go {t : SetTable} {f : Nat -> Int} {h : Int} : ∀ (fuel : Nat) (p : Probe),(∀ d,p.dummy = some d -> t.place[below t.place d]? ≠ some d) →
  ∀ {j : Nat} {d : Option Nat},probe.go t f h fuel p = some (.empty j d) -> t.place[below t.place (d.getD j)]? ≠ some (d.getD j)
 | 0,p,hp,j,d,e => by simp [probe.go] at e
 | fuel + 1,p,hp,j,d,e => by
  unfold probe.go at e
  cases hs : t.slot p.j with
  | empty =>
   rw [hs] at e
   simp only [Option.some.injEq,Met.empty.injEq] at e
   obtain ⟨rfl,rfl⟩ := e
   cases hd : p.dummy with
   | none => exact slot_notLive (fun i q => by rw [show (none : Option Nat).getD p.j = p.j from rfl] at q; rw [hs] at q; cases q)
   | some d => exact hp d hd
  | dummy =>
   rw [hs] at e
   refine probe_go fuel _ ?_ e
   intro d hd
   have : d = p.j := by
    unfold advance at hd
    split at hd <;> simp at hd <;> exact hd.symm
   subst this
   exact slot_notLive (fun i q => by rw [hs] at q; cases q)
  | live i =>
   rw [hs] at e
   dsimp only at e
   split at e
   ·cases e
   ·refine probe_go fuel _ ?_ e
    intro d hd
    have : p.dummy = some d := by
     unfold advance at hd
     split at hd <;> simp at hd <;> exact hd
    exact hp d this
theorem freeSlot_not {t : SetTable} {h : Int} {j : Nat} {b : Bool} (e : t.freeSlot h = some (j,b)) : t.place[below t.place j]? ≠ some j := by
 unfold freeSlot at e
 cases hp : t.probe (fun _ => h + 1) h (t.probeStart h) with
 | none => rw [hp] at e; cases e
 | some m =>
  rw [hp] at e
  cases m with
  | candidate _ _ _ => cases e
  | empty j' d =>
   simp only [Option.some.injEq,Prod.mk.injEq] at e
   obtain ⟨rfl,rfl⟩ := e
   exact probe_go _ _ (by intro d hd; simp [probeStart] at hd) hp
structure Ld (t : SetTable) (b : Bool) : Prop where
 led : t.led = b
 up : Up t.place
theorem Ld.standIn {t : SetTable} {b : Bool} (h : Ld t b) (n : Nat) : Ld (t.standIn n) b := ⟨h.led,up_range n⟩
theorem Ld.orStandIn {t : SetTable} {b : Bool} (h : Ld t b) (n : Nat) : Ld (t.orStandIn n) b := by
 unfold SetTable.orStandIn
 split
 ·exact h
 ·exact h.standIn n
theorem Ld.plainOff {t : SetTable} {b : Bool} (h : Ld t b) : Ld { t with plain := false } b := ⟨h.led,h.up⟩
theorem Ld.layNew {t : SetTable} {b : Bool} (ld : Ld t b) (es : Array (Int × Value)) (h : Int) (x : Value) : Ld (layNew t es h x).2.1 b := by
 unfold PySem.layNew
 cases e : t.freeSlot h with
 | none => exact ld.standIn _
 | some p =>
  obtain ⟨j,d⟩ := p
  exact Ld.orStandIn (t := (t.put j).1) ⟨ld.led,ld.up.insert (freeSlot_not e)⟩ _
theorem pw_filterMap (f : Nat -> Option (Nat × Nat)) (hf : ∀ j p,f j = some p -> p.1 = j) : ∀ l : List Nat,l.Pairwise (· < ·) -> ((l.filterMap f).map (·.1)).Pairwise (· < ·)
 | [],_ => .nil
 | x :: r,h => by
  cases h with
  | cons h1 h2 =>
   have ih := pw_filterMap f hf r h2
   cases e : f x with
   | none => rw [List.filterMap_cons_none e]; exact ih
   | some p =>
    rw [List.filterMap_cons_some e,List.map_cons]
    refine .cons (fun y hy => ?_) ih
    rw [List.mem_map] at hy
    obtain ⟨q,hq,rfl⟩ := hy
    rw [List.mem_filterMap] at hq
    obtain ⟨z,hz,ez⟩ := hq
    rw [hf x p e,hf z q ez]
    exact h1 z hz
theorem up_of_pw {l : List Nat} (h : l.Pairwise (· < ·)) : Up l.toArray := by
 intro i j a b hij ea eb
 rw [List.getElem?_toArray] at ea eb
 obtain ⟨hi,rfl⟩ := List.getElem?_eq_some_iff.mp ea
 obtain ⟨hj,rfl⟩ := List.getElem?_eq_some_iff.mp eb
 exact List.pairwise_iff_getElem.mp h i j hi hj hij
theorem laid_ld {mask finger moves : Nat} {led plain : Bool} {hs : Array Int} {t : SetTable} {o : Array Nat} (e : laid mask finger moves led plain hs = some (t,o)) : Ld t led := by
 unfold laid at e
 simp only [Option.pure_def,Option.bind_eq_bind] at e
 cases hl : layClean mask hs with
 | none => rw [hl] at e; cases e
 | some owner =>
  rw [hl] at e
  simp only [Option.bind_some,Option.some.injEq,Prod.mk.injEq] at e
  obtain ⟨rfl,_⟩ := e
  refine ⟨rfl,up_of_pw (pw_filterMap _ ?_ _ List.pairwise_lt_range)⟩
  intro j p ep
  simp only [Option.map_eq_some_iff] at ep
  obtain ⟨a,_,rfl⟩ := ep
  rfl
theorem Ld.relayAll {t : SetTable} {b : Bool} (ld : Ld t b) (es : Array (Int × Value)) (wanted : Nat) : Ld (relayAll t es wanted).2.1 b := by
 unfold PySem.relayAll
 cases e : t.relaid (es.map (·.1)) wanted with
 | none => exact ld.standIn _
 | some p =>
  obtain ⟨t',o⟩ := p
  dsimp only
  split
  ·have h := laid_ld (show laid _ _ _ _ _ _ = some (t',o) from e)
   exact ⟨h.led.trans ld.led,h.up⟩
  ·exact ld.standIn _
theorem ld_fresh (f m : Nat) (b : Bool) : Ld (fresh f m b) b := ⟨rfl,fun i j a c _ e _ => by simp [fresh] at e⟩
end PySem.SetTable
set_option maxRecDepth 100000
namespace SI
open PySem PySem.SetTable
def vInt : Value -> Int
 | .int n _ => n
 | _ => 0
abbrev byText (w : World) : Bool := w.params.followText "set-order"
def SetK (prog : Program) (w : World) (h : Heap) (a : Addr) (ks : List Int) : Prop :=
 ∃ (ob : Obj) (es : Array (Int × Value)) (ep : Nat) (t : SetTable),h.get? a = some ob /\ ob.ExactSet /\ ob.data = .set es ep t /\ ElemsOf (intKind prog w) es.toList ∧
  ks = es.toList.map (fun e => vInt e.2) /\ ks.Nodup /\ es.size < scanBound /\ t.fits es.size = true /\ Ld t (!byText w)
section
variable {prog : Program} {w : World}
theorem SetK.len {h : Heap} {a : Addr} {ks : List Int} (x : SetK prog w h a ks) : ks.length < scanBound := by
 obtain ⟨ob,es,ep,t,_,_,_,_,e,_,hb,_⟩ := x
 rw [e,List.length_map,Array.length_toList]
 exact hb
theorem SetK.keep {h h' : Heap} {a : Addr} {ks : List Int} (x : SetK prog w h a ks) (k : ∀ o,h.get? a = some o -> h'.get? a = some o) : SetK prog w h' a ks := by
 obtain ⟨ob,es,ep,t,h1,r⟩ := x
 exact ⟨ob,es,ep,t,k ob h1,r⟩
theorem SetK.typeIs {s : Shared} {a : Addr} {ks : List Int} (x : SetK prog w s.heap a ks) : s.TypeIs (.ref a) "set" := by
 obtain ⟨ob,es,ep,t,h1,h2,_⟩ := x
 exact ⟨ob,h1,h2.1⟩
theorem elem_int {l : List (Int × Value)} (hl : ElemsOf (intKind prog w) l) {e : Int × Value} (he : e ∈ l) : ∃ t,e.2 = .int (vInt e.2) t /\ e.1 = hashInt (vInt e.2) := by
 obtain ⟨⟨k,h1,h2⟩,_⟩ := hl e he
 obtain ⟨t,e2⟩ := Value.isInt_shape (k := k) h1
 refine ⟨t,?_,?_⟩
 ·rw [e2]; rfl
 ·rw [h2,e2]; rfl
theorem is_elem {l : List (Int × Value)} (hl : ElemsOf (intKind prog w) l) {e : Int × Value} (he : e ∈ l) (k : Int) : (intKind prog w).is k e.2 = decide (k = vInt e.2) := by
 obtain ⟨t,e2,_⟩ := elem_int hl he
 have : (intKind prog w).is (vInt e.2) e.2 = true := by
  rw [e2]; exact intKind_is _ _ _ _
 exact KeyKind.is_eq_decide this k
variable {A : Around} {E : Value -> Shared -> Prop} {s : Shared}
theorem stored {h : Heap} {a : Addr} {ob : Obj} {es es' : Array (Int × Value)} {ep : Nat} {t t' : SetTable} {ks' : List Int} (g : h.get? a = some ob) (x : ob.ExactSet) (d : ob.data = .set es ep t)
  (el : ElemsOf (intKind prog w) es'.toList) (ek : ks' = es'.toList.map (fun e => vInt e.2)) (nd : ks'.Nodup) (hb : es'.size < scanBound) (hf : t'.fits es'.size = true) (ld : Ld t' (!byText w)) :
  (h.update a (Obj.putSet es' t')).get? a = some { ob with data := .set es' (ep + 1) t' } /\ SetK prog w (h.update a (Obj.putSet es' t')) a ks' := by
 have g2 : (h.update a (Obj.putSet es' t')).get? a = some { ob with data := .set es' (ep + 1) t' } := by
  have z := Heap.get?_update_self (Obj.putSet es' t') g (by rw [putSet_of es' t' d]; rfl)
  rw [putSet_of es' t' d] at z
  exact z
 exact ⟨g2,_,es',ep + 1,t',g2,x,rfl,el,ek,nd,hb,hf,ld⟩
theorem add_end {g : Bool -> Sem Unit} (hg : ∀ (b : Bool) (s₁ : Shared) (R : Unit -> Shared -> Prop),R () s₁ -> wpAny (model prog w) A (g b) R E s₁)
  {a : Addr} {ob : Obj} {es : Array (Int × Value)} {ep : Nat} {t : SetTable} (ho : s.heap.get? a = some ob) (hex : ob.ExactSet) (hd : ob.data = .set es ep t)
  {es1 : Array (Int × Value)} {t2 : SetTable} (el : ElemsOf (intKind prog w) es1.toList) (nd : (es1.toList.map fun e => vInt e.2).Nodup) (hb : es1.size < scanBound) (hf : t2.fits es1.size = true) (ld : Ld t2 (!byText w))
  {wd : Bool} {R : Option Bool -> Shared -> Prop}
  (h : ∀ h' ks',Heap.SameBut a s.heap h' -> SetK prog w h' a ks' -> ks'.Perm (es1.toList.map fun e => vInt e.2) -> R (some true) { s with heap := h' }) :
  wpAny (model prog w) A (do
    storeSet a es1 t2
    if (!wd && t2.tooFull) = true then do
      g (relayAll t2 es1 (SetTable.grown es1.size)).2.2
      storeSet a (relayAll t2 es1 (SetTable.grown es1.size)).1 (relayAll t2 es1 (SetTable.grown es1.size)).2.1
      pure (some true)
     else pure (some true)) R E s := by
 refine wpAny_bind (wpAny_storeSet_of ho hd ?_ (fits_of_scanBound hb))
 obtain ⟨ho1,K1⟩ := stored (ks' := es1.toList.map fun e => vInt e.2) ho hex hd el rfl nd hb hf ld
 have sb := Heap.SameBut.update s.heap a (Obj.putSet es1 t2)
 split
 ·have p := relayAll_perm t2 es1 (SetTable.grown es1.size)
  have f := relayAll_fits t2 es1 (SetTable.grown es1.size)
  have l := ld.relayAll es1 (SetTable.grown es1.size)
  generalize relayAll t2 es1 (SetTable.grown es1.size) = Z at p f l ⊢
  obtain ⟨es2,t3,gave⟩ := Z
  dsimp only at p f l ⊢
  have sz : es2.size = es1.size := by rw [<- Array.length_toList,p.length_eq,Array.length_toList]
  have pk : (es2.toList.map fun e => vInt e.2).Perm (es1.toList.map fun e => vInt e.2) := p.map _
  refine wpAny_bind (hg _ _ _ ?_)
  refine wpAny_bind (wpAny_storeSet_of ho1 rfl ?_ (fits_of_scanBound (by rw [sz]; exact hb)))
  obtain ⟨_,K2⟩ := stored (ks' := es2.toList.map fun e => vInt e.2) ho1 hex rfl (el.perm p) rfl (pk.nodup_iff.mpr nd) (by rw [sz]; exact hb) f l
  exact wpAny_pure (h _ _ (sb.trans (Heap.SameBut.update _ a _)) K2 pk)
 ·exact wpAny_pure (h _ _ sb K1 (List.Perm.refl _))
theorem add_int {a : Addr} {ks : List Int} {k : Int} {tk : Tok} {Q : Bool -> Shared -> Prop} (K : SetK prog w s.heap a ks) (room : ks.length + 1 < scanBound)
  (h : ∀ h' ks',Heap.SameBut a s.heap h' -> SetK prog w h' a ks' -> ks'.length <= ks.length + 1 -> (∀ x,x ∈ ks' ↔ x ∈ ks ∨ x = k) -> ∀ b,Q b { s with heap := h' }) :
  wpAny (model prog w) A (setAddHashed a (.int k tk) ((intKind prog w).hash k)) Q E s := by
 have hkey : (intKind prog w).is k (.int k tk) = true := intKind_is _ _ _ _
 have hsc : (Value.int k tk).scannable = true := rfl
 obtain ⟨ob,es,ep,t,ho,hex,hd,hel,ek,nd,hb,hf,ld⟩ := id K
 have hsize : ks.length = es.size := by rw [ek,List.length_map,Array.length_toList]
 unfold setAddHashed setAddHashedIn
 refine wpAny_holding (wpAny_bind (wpAny_setState_of ho hd hf ?_))
 dsimp only
 rw [byScan_of hsc hb hel]
 simp only [↓reduceIte]
 unfold setAddByScan
 refine wpAny_bind (wpAny_bind (wpAny_rule (wpAny_bind (wpAny_setScan_of (knd := intKind prog w) hkey ho hd hf hel ?_))))
 cases hr : List.findIdx? (fun e => (intKind prog w).is k e.2) es.toList with
 | some j =>
  dsimp only
  obtain ⟨hj,pj,_⟩ := List.findIdx?_eq_some_iff_getElem.mp hr
  have mem : k ∈ ks := by
   rw [ek,List.mem_map]
   refine ⟨es.toList[j],List.getElem_mem hj,?_⟩
   rw [is_elem hel (List.getElem_mem hj)] at pj
   exact (of_decide_eq_true pj).symm
  refine wpAny_pure (wpAny_pure ?_)
  have e : s = { s with heap := s.heap } := by cases s; rfl
  rw [e]
  exact h s.heap ks (Heap.SameBut.refl a s.heap) K (Nat.le_succ _) (fun x => ⟨.inl,fun q => q.elim id fun q => q ▸ mem⟩) _
 | none =>
  dsimp only
  have nmem : k ∉ ks := by
   rw [ek,List.mem_map]
   rintro ⟨e,he,q⟩
   have z := List.findIdx?_eq_none_iff.mp hr e he
   rw [is_elem hel he,q] at z
   simp at z
  have gw : ∀ (b : Bool) (s₁ : Shared) (R : Unit -> Shared -> Prop),R () s₁ -> wpAny (model prog w) A (match b with | true => rule "set.scan.the-table-gave-way" | false => pure ()) R E s₁ :=
   fun b s₁ R hq => by cases b <;> first | exact wpAny_pure hq | exact wpAny_rule hq
  have p := layNew_perm t es ((intKind prog w).hash k) (.int k tk)
  have f := layNew_fits t es ((intKind prog w).hash k) (.int k tk)
  have l := ld.layNew es ((intKind prog w).hash k) (.int k tk)
  generalize layNew t es ((intKind prog w).hash k) (.int k tk) = L at p f l ⊢
  obtain ⟨es1,t1,wasDummy,gave⟩ := L
  dsimp only at p f l ⊢
  rw [Array.toList_push] at p
  have el1 : ElemsOf (intKind prog w) es1.toList := (hel.push hkey hsc).perm p
  have sz1 : es1.size = es.size + 1 := by rw [<- Array.length_toList,p.length_eq,List.length_append,Array.length_toList]; rfl
  have pk : (es1.toList.map fun e => vInt e.2).Perm (ks ++ [k]) := by
   have z := p.map (fun e => vInt e.2)
   rw [List.map_append,← ek] at z
   exact z
  have nd1 : (es1.toList.map fun e => vInt e.2).Nodup := by
   refine pk.nodup_iff.mpr ?_
   rw [List.nodup_append]
   refine ⟨nd,by simp,?_⟩
   intro x hx y hy q
   rw [List.mem_singleton] at hy
   subst hy; subst q; exact nmem hx
  have fin : ∀ h' ks',Heap.SameBut a s.heap h' -> SetK prog w h' a ks' -> ks'.Perm (es1.toList.map fun e => vInt e.2) -> ∀ b,Q b { s with heap := h' } := by
   intro h' ks' sb K' pp b
   have pq := pp.trans pk
   refine h h' ks' sb K' (by rw [pq.length_eq,List.length_append]; exact Nat.le_refl _) (fun x => ?_) b
   rw [pq.mem_iff,List.mem_append,List.mem_singleton]
  refine wpAny_bind (gw _ _ _ ?_)
  split
  ·refine wpAny_bind ?_
   rw [hashByValue_scannable 8 hsc]
   refine wpAny_pure ?_
   refine add_end gw ho hex hd el1 nd1 (by rw [sz1,← hsize]; exact room) ?_ ?_ ?_
   ·split
    ·exact f
    ·exact SetTable.fits_plain_off f
   ·split
    ·exact l
    ·exact l.plainOff
   ·intro h' ks' sb K' pp; dsimp only; exact wpAny_pure (fin h' ks' sb K' pp _)
  ·refine wpAny_bind (wpAny_pure ?_)
   simp only [↓reduceIte]
   refine add_end gw ho hex hd el1 nd1 (by rw [sz1,← hsize]; exact room) f l ?_
   intro h' ks' sb K' pp; dsimp only; exact wpAny_pure (fin h' ks' sb K' pp _)
end
end SI
set_option maxRecDepth 100000
namespace SI
open PySem PySem.SetTable
theorem setDrawn_eq (a : Addr) : setDrawn a = (do
  let p ← setState a
  let b ← setsByText
  return !b && (!p.2.2.plain && decide (p.1.size > 1))) := rfl
theorem setNext_eq (a : Addr) (slot given ep0 : Nat) : setNext a slot given ep0 = (do
  let p ← setState a
  let b ← setsByText
  if b then
   if p.2.1 != ep0 then unsupported "set_iterator.__next__:elements-changed"
   return ((← setWalk a)[given]?).map fun e => (e.2,slot)
  if (!p.2.2.plain && decide (p.1.size > 1)) then unsupported "set_iterator.__next__:the-table-is-plain-no-more"
  (if !p.2.2.led && !p.1.isEmpty then unsupported "set:maker-not-led" else pure ())
  return match p.1[SetTable.below p.2.2.place slot]?,p.2.2.place[SetTable.below p.2.2.place slot]? with
   | some (_,x),some j => some (x,j + 1)
   | _,_ => none) := rfl
section
variable {M : Model} {A : Around} {E : Value -> Shared -> Prop} {s : Shared}
theorem byText_ {prog : Program} {w : World} {Q : Bool -> Shared -> Prop} (h : Q (byText w) s) : wpAny (model prog w) A setsByText Q E s := by
 unfold setsByText
 exact wpAny_bind (wpAny_askSetting (wpAny_pure h))
theorem choose_ {src : Source} {n : Nat} {Q : Nat -> Shared -> Prop} (hn : 0 < n) (h : ∀ i,i < n -> ∀ d,Q i { s with drawn := d }) : wpAny M A (choose src n) Q E s := by
 intro Γ p hΓ
 have hne : n ≠ 0 := Nat.ne_of_gt hn
 exact (show Sem.wp _ _ _ _ _ _ _ from ⟨hne,h _ (Nat.mod_lt _ hn) _⟩)
theorem erase_perm {α : Type} : ∀ (l : List α) (i : Nat) (y : α),l[i]? = some y -> (y :: l.eraseIdx i).Perm l
 | [],i,y,h => by simp at h
 | a :: l,0,y,h => by
  have e : a = y := Option.some.inj h
  subst e
  exact List.Perm.refl _
 | a :: l,i + 1,y,h => by
  have ih := erase_perm l i y h
  exact (List.Perm.swap a y _).trans (ih.cons a)
theorem drawOrder_ {α : Type} {Q : List α -> Shared -> Prop} : ∀ (n : Nat) (xs : List α) (s : Shared),n = xs.length -> (∀ ys d,ys.Perm xs -> Q ys { s with drawn := d }) -> wpAny M A (drawOrder n xs) Q E s
 | 0,xs,s,hn,h => by
  have e : xs = [] := List.length_eq_zero_iff.mp hn.symm
  subst e
  unfold drawOrder
  exact wpAny_pure (h [] s.drawn (List.Perm.refl _))
 | n + 1,[],s,hn,h => by cases hn
 | n + 1,x :: xs,s,hn,h => by
  unfold drawOrder
  refine wpAny_bind (choose_ (by simp) fun i hi d => ?_)
  obtain ⟨y,hy⟩ : ∃ y,(x :: xs)[i]? = some y := ⟨_,List.getElem?_eq_getElem hi⟩
  rw [hy]
  dsimp only
  refine wpAny_bind (drawOrder_ (Q := fun ys s' => wpAny M A (pure (y :: ys)) Q E s') n ((x :: xs).eraseIdx i) _ ?_ fun ys d' p => wpAny_pure ?_)
  ·rw [List.length_eraseIdx,if_pos hi,← hn]; rfl
  ·refine h (y :: ys) d' ((p.cons y).trans ?_)
   exact erase_perm _ _ _ hy
theorem pick_go {α : Type} (next : Nat -> Nat) : ∀ (fuel k : Nat) (left : List α) (out : Array α),fuel = left.length -> (pickOrder.go next fuel k left out).toList.Perm (out.toList ++ left)
 | 0,k,left,out,h => by
  have e : left = [] := List.length_eq_zero_iff.mp h.symm
  subst e
  unfold pickOrder.go
  simp
 | fuel + 1,k,left,out,h => by
  unfold pickOrder.go
  have hlt : next k % left.length < left.length := Nat.mod_lt _ (by omega)
  obtain ⟨y,hy⟩ : ∃ y,left[next k % left.length]? = some y := ⟨_,List.getElem?_eq_getElem hlt⟩
  rw [hy]
  dsimp only
  refine (pick_go next fuel (k + 1) (left.eraseIdx (next k % left.length)) (out.push y) (by rw [List.length_eraseIdx,if_pos hlt,← h]; rfl)).trans ?_
  rw [Array.toList_push,List.append_assoc]
  refine List.Perm.append_left _ ?_
  exact erase_perm _ _ _ hy
theorem pick_perm {α : Type} (next : Nat -> Nat) (xs : Array α) : (pickOrder next xs).toList.Perm xs.toList := by
 unfold pickOrder
 have z := pick_go next xs.size 0 xs.toList #[] (by simp)
 simpa using z
end
inductive Mode (w : World) (a : Addr) (es : Array (Int × Value)) (ep : Nat) (t : SetTable) (h : Heap) : Nat -> Value -> List Value -> Prop
 | text {i : Nat} : byText w = true -> Mode w a es ep t h i (.int 0 0) ((pickOrder (w.params.setOrder a ep) es).toList.map (·.2))
 | slots {i : Nat} : byText w = false -> (!t.plain && decide (es.size > 1)) = false -> Mode w a es ep t h i (.int (if i = 0 then 0 else t.place.getD (i - 1) 0 + 1 : Nat) 0) (es.toList.map (·.2))
 | drawn {i : Nat} {T : Addr} {ps : List Nat} : h.get? T = some { cls := .type "tuple",data := .seq (ps.map fun (p : Nat) => rawInt p).toArray } -> ps.Perm (List.range es.size) →
   Mode w a es ep t h i (.ref T) (ps.map fun p => (es.getD p (0,.none)).2)
end SI
set_option maxRecDepth 100000
namespace SI
open PySem PySem.SetTable
theorem slot_next : Slot "set_iterator" "__next__" "set_iterator.__next__" :=
 .of (owner := "set_iterator") (n := "__next__") (by rw [typeLookup_type,builtinLookup_eq_fast]; kernel_rfl) (by decide +kernel) (by decide +kernel) (by decide +kernel) (by first | exact .inl (by decide +kernel) | exact .inr (by decide +kernel)) (by rw [isSubtype_type]; kernel_rfl)
theorem entry_next : entryFor table "set_iterator.__next__" = some Builtin.«set_iterator.__next__» := entryFor_of_tree (by kernel_rfl)
theorem owner_next : Manifest.owners.lookup (String.ofList ['r','o','t','a','r','e','t','i','_','t','e','s'].reverse) = some Manifest.sig_set_iterator := by kernel_rfl
theorem args_next (a : Value) : argsOk "set_iterator.__next__" ⟨[a],[]⟩ := by
 unfold argsOk
 rw [signature?_of (id := "set_iterator.__next__") (n := ['_','_','t','x','e','n','_','_']) (o := ['r','o','t','a','r','e','t','i','_','t','e','s']) (by kernel_rfl) owner_next]
 kernel_rfl
theorem entry_iter : entryFor table "set.__iter__" = some Builtin.«frozenset.__iter__» := entryFor_alias (id' := "frozenset.__iter__") (by kernel_rfl) rfl (by decide +kernel) (by kernel_rfl)
end SI
set_option maxRecDepth 100000
namespace SI
open PySem PySem.SetTable
def itObj (first : Value) (i : Nat) (a : Addr) (n ep : Nat) : Obj := { cls := .type "set_iterator",dict := none,data := .fields #[first,.int i 0,.ref a,.int n 0,.int ep 0],slots := #[] }
theorem it_type {s : Shared} {I a : Addr} {f : Value} {i n ep : Nat} (h : s.heap.get? I = some (itObj f i a n ep)) : s.TypeIs (.ref I) "set_iterator" := ⟨_,h,rfl⟩
section
variable {prog : Program} {w : World} {A : Around} {E : Value -> Shared -> Prop} {s : Shared} {I a : Addr} {i ep : Nat} {ob : Obj} {es : Array (Int × Value)} {t : SetTable} {first : Value} {ord : List Value}
theorem next_head {R : Fin -> Shared -> Prop} (hI : s.heap.get? I = some (itObj first i a es.size ep)) (ho : s.heap.get? a = some ob) (hd : ob.data = .set es ep t) (hf : t.fits es.size = true)
  (h : wpAny (model prog w) A (if let .int slot _ := first then do
    match ← setNext a slot.toNat (i : Int).toNat (ep : Int).toNat with
    | some (x,next) =>
     setField (.ref I) 0 (rawInt next)
     setField (.ref I) 1 (rawInt ((i : Int) + 1))
     ret x
    | none => setField (.ref I) 2 .none; raiseNew (← newExc (.type "StopIteration") [])
   else do
    let some places ← seqItems? first | unsupported "internal:set_iterator"
    match places[(i : Int).toNat]? with
    | some (.int place _) =>
     let x ← setNextDrawn a place.toNat (ep : Int).toNat
     setField (.ref I) 1 (rawInt ((i : Int) + 1))
     ret x
    | some _ => unsupported "internal:set_iterator"
    | none => setField (.ref I) 0 (rawInt 0); setField (.ref I) 2 .none; raiseNew (← newExc (.type "StopIteration") [])) R E s) :
  wpAny (model prog w) A (Builtin.«set_iterator.__next__» ⟨[.ref I],[]⟩) R E s := by
 unfold Builtin.«set_iterator.__next__»
 refine wpAny_bind (m := slotArgs "__next__" 0 _) (wpAny_pure ?_)
 refine wpAny_bind (wpAny_fieldsOf hI rfl ?_)
 show wpAny _ _ (setEntries a >>= _) _ _ s
 refine wpAny_bind (wpAny_setEntries_of ho hd hf ?_)
 rw [if_neg (by simp)]
 exact h
theorem fld_ {f : Value} {k : Nat} {x : Value} {f' : Value} {i' : Nat} {n : Nat} {R : Unit -> Shared -> Prop} (hI : s.heap.get? I = some (itObj f i a n ep)) (hk : k < 5)
  (he : Array.setIfInBounds #[f,.int i 0,.ref a,.int n 0,.int ep 0] k x = #[f',.int i' 0,.ref a,.int n 0,.int ep 0])
  (h : ∀ h',h'.get? I = some (itObj f' i' a n ep) -> Heap.SameBut I s.heap h' -> R () { s with heap := h' }) : wpAny (model prog w) A (setField (.ref I) k x) R E s := by
 refine wpAny_setField hI rfl hk (h _ ?_ (Heap.SameBut.update ..))
 have z := Heap.get?_update_self (Obj.mapFields (·.setIfInBounds k x)) hI rfl
 rw [z]
 unfold itObj Obj.mapFields
 dsimp only
 rw [he]
theorem below_at {xs : Array Nat} (up : Up xs) (hi : i <= xs.size) : below xs (if i = 0 then 0 else xs.getD (i - 1) 0 + 1) = i := by
 obtain ⟨h1,h2,h3⟩ := below_ok up (if i = 0 then 0 else xs.getD (i - 1) 0 + 1)
 generalize hb : below xs (if i = 0 then 0 else xs.getD (i - 1) 0 + 1) = b at h1 h2 h3
 rcases Nat.lt_trichotomy b i with q | q | q
 ·have lt : b < xs.size := by omega
  have z := h3 b _ (Nat.le_refl _) (Array.getElem?_eq_getElem lt)
  rw [if_neg (by omega)] at z
  have lt2 : i - 1 < xs.size := by omega
  have e : xs.getD (i - 1) 0 = xs[i - 1] := by simp [Array.getD,lt2]
  rw [e] at z
  rcases Nat.lt_or_ge b (i - 1) with r | r
  ·have := up b (i - 1) _ _ r (Array.getElem?_eq_getElem lt) (Array.getElem?_eq_getElem lt2)
   omega
  ·have : b = i - 1 := by omega
   subst this; omega
 ·exact q
 ·have lt : i < xs.size := by omega
  have z := h2 i _ q (Array.getElem?_eq_getElem lt)
  by_cases c : i = 0
  ·rw [if_pos c] at z; omega
  ·rw [if_neg c] at z
   have lt2 : i - 1 < xs.size := by omega
   have e : xs.getD (i - 1) 0 = xs[i - 1] := by simp [Array.getD,lt2]
   rw [e] at z
   have := up (i - 1) i _ _ (by omega) (Array.getElem?_eq_getElem lt2) (Array.getElem?_eq_getElem lt)
   omega
theorem setNext_item {R : Option (Value × Nat) -> Shared -> Prop} {slot : Nat} {v : Value} (ho : s.heap.get? a = some ob) (hd : ob.data = .set es ep t) (hf : t.fits es.size = true) (ld : Ld t (!byText w))
  (m : Mode w a es ep t s.heap i (.int slot 0) ord) (hv : ord[i]? = some v)
  (h : ∀ next,Mode w a es ep t s.heap (i + 1) (.int (next : Nat) 0) ord -> R (some (v,next)) s) : wpAny (model prog w) A (setNext a slot i ep) R E s := by
 have hps : t.place.size = es.size := by
  unfold SetTable.fits at hf
  simp only [Bool.and_eq_true,beq_iff_eq] at hf
  exact hf.1
 rw [setNext_eq]
 refine wpAny_bind (wpAny_setState_of ho hd hf (wpAny_bind (byText_ ?_)))
 generalize hfst : Value.int (slot : Int) 0 = first at m
 cases m with
 | text hb =>
  rw [hb,if_pos rfl]
  injection hfst with e1 _
  have e2 : slot = 0 := by omega
  subst e2
  rw [if_neg (by simp)]
  unfold setWalk
  refine wpAny_bind (wpAny_bind (wpAny_setState_of ho hd hf (wpAny_bind (byText_ ?_))))
  rw [hb,if_pos rfl]
  refine wpAny_bind (wpAny_askSetting (wpAny_pure (wpAny_pure ?_)))
  rw [List.getElem?_map,Array.getElem?_toList,Option.map_eq_some_iff] at hv
  obtain ⟨e,he,rfl⟩ := hv
  show R (((pickOrder (w.params.setOrder a ep) es)[i]?).map fun e => (e.2,0)) s
  rw [he]
  exact h 0 (.text hb)
 | slots hb hp =>
  injection hfst with e1 _
  have e2 : slot = (if i = 0 then 0 else t.place.getD (i - 1) 0 + 1) := by
   have := e1; omega
  subst e2
  rw [hb,if_neg (by simp)]
  dsimp only
  rw [hp,if_neg (by simp)]
  have hl : t.led = true := by rw [ld.led,hb]; rfl
  rw [hl]
  rw [List.getElem?_map,Array.getElem?_toList,Option.map_eq_some_iff] at hv
  obtain ⟨e,he,rfl⟩ := hv
  obtain ⟨lt,hee⟩ := Array.getElem?_eq_some_iff.mp he
  rw [below_at ld.up (by omega),he,Array.getElem?_eq_getElem (show i < t.place.size by omega)]
  refine wpAny_bind (wpAny_pure (wpAny_pure (h _ ?_)))
  have lt2 : i < t.place.size := by omega
  have z : Mode w a es ep t s.heap (i + 1) _ _ := .slots hb hp
  rw [if_neg (by omega),Nat.add_sub_cancel] at z
  have e : t.place.getD i 0 = t.place[i] := by simp [Array.getD,lt2]
  rw [e] at z
  exact z
 | drawn _ _ => cases hfst
theorem Mode.keep {h h' : Heap} {v : Value} {l : List Value} (m : Mode w a es ep t h i v l) (k : ∀ T o,v = .ref T -> h.get? T = some o -> h'.get? T = some o) : Mode w a es ep t h' i v l := by
 cases m with
 | text hb => exact .text hb
 | slots hb hp => exact .slots hb hp
 | drawn hT hp => exact .drawn (k _ _ rfl hT) hp
theorem next_item {Q : Option Value -> Shared -> Prop} {v : Value} (hI : s.heap.get? I = some (itObj first i a es.size ep)) (ho : s.heap.get? a = some ob) (hd : ob.data = .set es ep t) (hf : t.fits es.size = true) (ld : Ld t (!byText w))
  (m : Mode w a es ep t s.heap i first ord) (hv : ord[i]? = some v)
  (h : ∀ h' f',Heap.SameBut I s.heap h' -> h'.get? I = some (itObj f' (i + 1) a es.size ep) -> Mode w a es ep t h' (i + 1) f' ord -> (∀ T,f' = .ref T -> first = .ref T) -> Q (some v) { s with heap := h' }) :
  wpAny (model prog w) A (pyNext (.ref I)) Q E s := by
 unfold pyNext
 refine wpAny_bind (wpAny_attempt (wpAny_callSpecial?_slot (name := Str.ofString "__next__") (it_type hI) slot_next (wpAny_call_entry slot_next (it_type hI) entry_next (next_head hI ho hd hf ?_) (args_next _))))
 have byNum : ∀ slot : Nat,first = .int slot 0 -> wpAny (model prog w) A.in1 (do
    match ← setNext a slot i ep with
    | some (x,next) =>
     setField (.ref I) 0 (rawInt next)
     setField (.ref I) 1 (rawInt ((i : Int) + 1))
     ret x
    | none => setField (.ref I) 2 .none; raiseNew (← newExc (.type "StopIteration") [])) (fun fin s' => ∃ v,fin = .done (.ret v) /\ (fun v => fun s => wpAny (model prog w) A (pure (some v)) Q E s) v s') (fun e s' => (wpAny (model prog w) A (do if ← isInstance e (.type "StopIteration") then pure none else throw e) Q E s')) s := by
  intro slot ef
  subst ef
  refine wpAny_bind (setNext_item ho hd hf ld m hv fun next m' => ?_)
  dsimp only
  refine wpAny_bind (fld_ (f' := .int next 0) (i' := i) hI (by decide) rfl fun h1 g1 sb1 => ?_)
  refine wpAny_bind (fld_ (s := { s with heap := h1 }) (f' := .int next 0) (i' := i + 1) g1 (by decide) rfl fun h2 g2 sb2 => ?_)
  exact wpAny_pure ⟨_,rfl,wpAny_pure (h h2 _ (sb1.trans sb2) g2 (m'.keep fun T o e => by cases e) fun T e => by cases e)⟩
 cases m with
 | text hb => exact byNum 0 rfl
 | slots hb hp => exact byNum _ rfl
 | drawn hT hp =>
  rename_i T ps
  have nTI : T ≠ I := by
   intro e; subst e; rw [hT] at hI
   have z := congrArg Obj.data (Option.some.inj hI)
   cases z
  rw [List.getElem?_map,Option.map_eq_some_iff] at hv
  obtain ⟨p,hp1,rfl⟩ := hv
  have lt : p < es.size := by
   have := hp.mem_iff.mp (List.mem_of_getElem? hp1)
   exact List.mem_range.mp this
  refine wpAny_bind (wpAny_seqItems hT rfl ?_)
  dsimp only
  have e1 : (ps.map fun (p : Nat) => rawInt p).toArray[(i : Int).toNat]? = some (.int p 0) := by
   rw [Int.toNat_natCast,List.getElem?_toArray,List.getElem?_map,hp1]; rfl
  rw [e1]
  dsimp only
  unfold setNextDrawn
  refine wpAny_bind (wpAny_bind (wpAny_setState_of ho hd hf ?_))
  dsimp only
  rw [if_neg (by simp)]
  have e2 : es[(p : Int).toNat]? = some es[p] := by rw [Int.toNat_natCast]; exact Array.getElem?_eq_getElem lt
  rw [e2]
  refine wpAny_pure ?_
  refine wpAny_bind (fld_ (f' := .ref T) (i' := i + 1) hI (by decide) rfl fun h1 g1 sb1 => ?_)
  have e3 : (es.getD p (0,.none)).2 = es[p].2 := by simp [Array.getD,lt]
  refine wpAny_pure ⟨_,rfl,wpAny_pure ?_⟩
  show Q (some es[p].2) _
  rw [<- e3]
  exact h h1 _ sb1 g1 (Mode.keep (h := s.heap) (.drawn hT hp) fun T' o e g => by
   cases e
   rw [sb1.2 _ nTI]; exact g) fun T' e => e
theorem next_end {Q : Option Value -> Shared -> Prop} (hh : A.handled = none) (hI : s.heap.get? I = some (itObj first i a es.size ep)) (ho : s.heap.get? a = some ob) (hd : ob.data = .set es ep t) (hf : t.fits es.size = true) (ld : Ld t (!byText w))
  (m : Mode w a es ep t s.heap i first ord) (hn : i = es.size)
  (h : ∀ h',Heap.ExtBut I s.heap h' -> Q none { s with heap := h' }) : wpAny (model prog w) A (pyNext (.ref I)) Q E s := by
 have hps : t.place.size = es.size := by
  unfold SetTable.fits at hf
  simp only [Bool.and_eq_true,beq_iff_eq] at hf
  exact hf.1
 have stop : ∀ s1 : Shared,Heap.ExtBut I s.heap s1.heap -> (∀ h',Heap.ExtBut I s.heap h' -> Q none { s1 with heap := h' }) -> wpAny (model prog w) A.in1 (do raiseNew (← newExc (.type "StopIteration") [])) (fun fin s' => ∃ v,fin = Fin.done (.ret v) /\ (fun v => fun s => wpAny (model prog w) A (pure (some v)) Q E s) v s')
   (fun e s' => wpAny (model prog w) A (do if ← isInstance e (.type "StopIteration") then pure none else throw e) Q E s') s1 := by
  intro s1 ex hq
  refine wpAny_bind ?_
  simp only [newExc,newTuple]
  refine wpAny_bind (wpAny_newObj_type ?_ (by size_fits))
  refine wpAny_bind (m := firstArgMember _ _) (wpAny_of_eq (a := Value.none) (by first | rfl | (simp only [firstArgMember]; rfl)) ?_)
  refine wpAny_newObj_type ?_ (by size_fits)
  simp only [raiseNew]
  refine wpAny_bind (wpAny_handled ?_)
  rw [show A.in1.handled = none from hh]
  refine wpAny_bind (wpAny_pure (wpAny_throw ?_))
  refine wpAny_bind (wpAny_isInstance (T := "StopIteration") (b := true) ⟨_,Heap.get?_push_size _ rfl,rfl⟩ isSubtype_stop ?_)
  exact wpAny_pure (hq _ ((ex.push _).push _))
 unfold pyNext
 refine wpAny_bind (wpAny_attempt (wpAny_callSpecial?_slot (name := Str.ofString "__next__") (it_type hI) slot_next (wpAny_call_entry slot_next (it_type hI) entry_next (next_head hI ho hd hf ?_) (args_next _))))
 have fin1 : ∀ s1 : Shared,s1 = s -> wpAny (model prog w) A.in1 (do setField (.ref I) 2 Value.none; raiseNew (← newExc (.type "StopIteration") [])) (fun fin s' => ∃ v,fin = Fin.done (.ret v) /\ (fun v => fun s => wpAny (model prog w) A (pure (some v)) Q E s) v s')
   (fun e s' => wpAny (model prog w) A (do if ← isInstance e (.type "StopIteration") then pure none else throw e) Q E s') s1 := by
  intro s1 es1
  subst es1
  refine wpAny_bind (wpAny_setField hI rfl (by show 2 < 5; decide) ?_)
  exact stop _ (Heap.SameBut.update ..).extBut fun h' ex => h h' ex
 cases m with
 | text hb =>
  show wpAny _ _ (setNext a 0 i ep >>= _) _ _ s
  rw [setNext_eq]
  refine wpAny_bind (wpAny_bind (wpAny_setState_of ho hd hf (wpAny_bind (byText_ ?_))))
  rw [hb,if_pos rfl,if_neg (by simp)]
  unfold setWalk
  refine wpAny_bind (wpAny_bind (wpAny_setState_of ho hd hf (wpAny_bind (byText_ ?_))))
  rw [hb,if_pos rfl]
  refine wpAny_bind (wpAny_askSetting (wpAny_pure (wpAny_pure ?_)))
  have z : (pickOrder (w.params.setOrder a ep) es)[i]? = none := by
   refine Array.getElem?_eq_none ?_
   have := (pick_perm (w.params.setOrder a ep) es).length_eq
   rw [Array.length_toList,Array.length_toList] at this
   omega
  show wpAny _ _ (match ((pickOrder (w.params.setOrder a ep) es)[i]?).map (fun e => (e.2,0)) with | some (x,next) => _ | none => _) _ _ s
  rw [z]
  exact fin1 s rfl
 | slots hb hp =>
  show wpAny _ _ (setNext a (if i = 0 then 0 else t.place.getD (i - 1) 0 + 1) i ep >>= _) _ _ s
  rw [setNext_eq]
  refine wpAny_bind (wpAny_bind (wpAny_setState_of ho hd hf (wpAny_bind (byText_ ?_))))
  rw [hb,if_neg (by simp)]
  dsimp only
  rw [hp,if_neg (by simp)]
  have hl : t.led = true := by rw [ld.led,hb]; rfl
  rw [hl,below_at ld.up (by omega),Array.getElem?_eq_none (show es.size <= i by omega)]
  refine wpAny_bind (wpAny_pure (wpAny_pure ?_))
  exact fin1 s rfl
 | drawn hT hp =>
  rename_i T ps
  refine wpAny_bind (wpAny_seqItems hT rfl ?_)
  dsimp only
  have e1 : (ps.map fun (p : Nat) => rawInt p).toArray[(i : Int).toNat]? = none := by
   rw [Int.toNat_natCast,List.getElem?_toArray,List.getElem?_map,List.getElem?_eq_none (by rw [hp.length_eq,List.length_range]; omega)]; rfl
  rw [e1]
  dsimp only
  refine wpAny_bind (fld_ (f' := rawInt 0) (i' := i) hI (by decide) rfl fun h1 g1 sb1 => ?_)
  refine wpAny_bind (wpAny_setField g1 rfl (by show 2 < 5; decide) ?_)
  exact stop _ (sb1.trans (Heap.SameBut.update ..)).extBut fun h' ex => h h' ex
end
end SI
set_option maxRecDepth 100000
namespace SI
open PySem PySem.SetTable
theorem slot_iter2 : Slot "set_iterator" "__iter__" "set_iterator.__iter__" :=
 .of (owner := "set_iterator") (n := "__iter__") (by rw [typeLookup_type,builtinLookup_eq_fast]; kernel_rfl) (by decide +kernel) (by decide +kernel) (by decide +kernel) (by first | exact .inl (by decide +kernel) | exact .inr (by decide +kernel)) (by rw [isSubtype_type]; kernel_rfl)
theorem entry_iter2 : entryFor table "set_iterator.__iter__" = some Builtin.«dict_keyiterator.__iter__» := entryFor_alias (id' := "dict_keyiterator.__iter__") (by kernel_rfl) rfl (by decide +kernel) (by kernel_rfl)
theorem args_iter2 (a : Value) : argsOk "set_iterator.__iter__" ⟨[a],[]⟩ := by
 unfold argsOk
 rw [signature?_of (id := "set_iterator.__iter__") (n := ['_','_','r','e','t','i','_','_']) (o := ['r','o','t','a','r','e','t','i','_','t','e','s']) (by kernel_rfl) owner_next]
 kernel_rfl
def WSt (w : World) (I a T : Addr) (ob : Obj) (es : Array (Int × Value)) (ep : Nat) (t : SetTable) (ord : List Value) (i : Nat) (h : Heap) : Prop :=
 h.get? a = some ob /\ ∃ first,h.get? I = some (itObj first i a es.size ep) /\ Mode w a es ep t h i first ord /\ ∀ T',first = .ref T' -> T' = T
theorem Mode.len {w : World} {a : Addr} {es : Array (Int × Value)} {ep : Nat} {t : SetTable} {h : Heap} {i : Nat} {v : Value} {l : List Value} (m : Mode w a es ep t h i v l) : l.length = es.size := by
 cases m with
 | text hb => rw [List.length_map,(pick_perm _ _).length_eq,Array.length_toList]
 | slots hb hp => rw [List.length_map,Array.length_toList]
 | drawn hT hp => rw [List.length_map,hp.length_eq,List.length_range]
theorem walk {prog : Program} {w : World} {A : Around} (hh : A.handled = none) {I a T : Addr} {ob : Obj} {es : Array (Int × Value)} {ep : Nat} {t : SetTable} {ord : List Value} (hd : ob.data = .set es ep t) (hf : t.fits es.size = true) (ld : Ld t (!byText w)) (nI : a ≠ I) (_ : T ≠ I) :
  Walks prog w A I [I,a,T] [I] es.size (fun i v => ord[i]? = some v) (WSt w I a T ob es ep t ord) where
 sub := fun b hb => by simp at hb; simp [hb]
 frame := fun i h h' st k => by
  obtain ⟨h1,f,h2,m,ht⟩ := st
  exact ⟨k a (by simp) _ h1,f,k I (by simp) _ h2,m.keep fun T' o e g => k T' (by rw [ht T' e]; simp) o g,ht⟩
 item := fun i s Q E hi st hQ => by
  obtain ⟨h1,f,h2,m,ht⟩ := st
  obtain ⟨v,hv⟩ : ∃ v,ord[i]? = some v := ⟨_,List.getElem?_eq_getElem (by rw [m.len]; exact hi)⟩
  refine next_item h2 h1 hd hf ld m hv fun h' f' sb g m' hf' => ?_
  exact hQ v h' s.toks hv ⟨by rw [sb.2 _ nI]; exact h1,f',g,m',fun T' e => ht T' (hf' T' e)⟩ fun b o hb e => by
   rw [sb.2 b (fun q => hb (by rw [q]; simp))]; exact e
 done := fun s Q E st hQ => by
  obtain ⟨h1,f,h2,m,ht⟩ := st
  exact next_end hh h2 h1 hd hf ld m rfl fun h' ex => hQ h' s.toks fun b o hb e => ex b o (fun q => hb (by rw [q]; simp)) e
 self := fun i s Q E st hQ => by
  obtain ⟨h1,f,h2,m,ht⟩ := st
  refine wpAny_pyIter_slot (it_type h2) slot_iter2 (wpAny_call_entry slot_iter2 (it_type h2) entry_iter2 ?_ (args_iter2 _))
  show wpAny _ _ (ret (.ref I)) _ _ s
  exact wpAny_pure ⟨_,rfl, "set_iterator",_,it_type h2,slot_next.lookup,hQ⟩
section
variable {prog : Program} {w : World} {A : Around} {E : Value -> Shared -> Prop} {s : Shared} {a : Addr}
theorem iter_ {ob : Obj} {es : Array (Int × Value)} {ep : Nat} {t : SetTable} {Q : Value -> Shared -> Prop} (ho : s.heap.get? a = some ob) (hx : ob.ExactSet) (hd : ob.data = .set es ep t) (hf : t.fits es.size = true) (hb : es.size < scanBound)
  (h : ∀ h' d I T ord,(∀ b o,s.heap.get? b = some o -> h'.get? b = some o) -> s.heap.objs.size <= I -> T ≠ I -> (T = a ∨ s.heap.objs.size <= T) -> ord.Perm (es.toList.map (·.2)) -> WSt w I a T ob es ep t ord 0 h' -> h'.objs.size = I + 1 -> Q (.ref I) { s with heap := h',drawn := d }) :
  wpAny (model prog w) A (pyIter (.ref a)) Q E s := by
 have hT : s.TypeIs (.ref a) "set" := ⟨ob,ho,hx.1⟩
 refine wpAny_pyIter_slot hT F.slot_set_iter (wpAny_call_entry F.slot_set_iter hT entry_iter ?_ (F.args_set_iter_1 _))
 unfold Builtin.«frozenset.__iter__»
 refine wpAny_bind (m := Builtin.Frozenset.slot0 "__iter__" _) (wpAny_pure ?_)
 unfold Builtin.Frozenset.sizeOf
 refine wpAny_bind (wpAny_bind (wpAny_setEntries_of ho hd hf (wpAny_pure ?_)))
 rw [setDrawn_eq]
 refine wpAny_bind (wpAny_bind (wpAny_setState_of ho hd hf (wpAny_bind (byText_ (wpAny_pure ?_)))))
 dsimp only
 have alt : a < s.heap.objs.size := Heap.lt_size ho
 cases hdr : (!byText w && (!t.plain && decide (es.size > 1))) with
 | false =>
  rw [if_neg (by simp)]
  refine wpAny_bind (wpAny_pure ?_)
  refine wpAny_bind (wpAny_setEpoch_of ho hd hf ?_)
  refine wpAny_bind (wpAny_newObj_type (wpAny_pure ⟨_,rfl, "set_iterator",_,⟨_,Heap.get?_push_size _ rfl,rfl⟩,slot_next.lookup,?_⟩))
  have mk : ∃ ord,ord.Perm (es.toList.map (·.2)) /\ ∀ hp,Mode w a es ep t hp 0 (.int 0 0) ord := by
   cases hb : byText w with
   | true => exact ⟨_,(pick_perm (w.params.setOrder a ep) es).map _,fun hp => .text hb⟩
   | false =>
    rw [hb] at hdr
    exact ⟨_,List.Perm.refl _,fun hp => .slots hb (by simpa using hdr)⟩
  obtain ⟨ord,po,mo⟩ := mk
  refine h _ s.drawn s.heap.objs.size a ord (fun b o e => Heap.get?_push_of_some _ e) (Nat.le_refl _) (Nat.ne_of_lt alt) (.inl rfl) po ⟨Heap.get?_push_of_some _ ho,.int 0 0,?_,mo _,fun T' e => by cases e⟩ ?_
  ·exact Heap.get?_push_size _ rfl
  ·rw [Heap.size_push]
 | true =>
  rw [if_pos rfl]
  refine wpAny_bind (drawOrder_ es.size (List.range es.size) _ (by rw [List.length_range]) fun ps d pp => ?_)
  have lps : (ps.map fun (i : Nat) => rawInt i).length <= sizeLine := by
   rw [List.length_map,pp.length_eq,List.length_range]
   exact fits_of_scanBound hb
  refine wpAny_bind (wpAny_newTuple ?_ lps)
  refine wpAny_bind (wpAny_setEpoch_of (Heap.get?_push_of_some _ ho) hd hf ?_)
  refine wpAny_bind (wpAny_newObj_type (wpAny_pure ⟨_,rfl, "set_iterator",_,⟨_,Heap.get?_push_size _ rfl,rfl⟩,slot_next.lookup,?_⟩))
  have hTt : (s.heap.push { cls := .type "tuple",data := .seq (ps.map fun (i : Nat) => rawInt i).toArray }).get? s.heap.objs.size = some { cls := .type "tuple",data := .seq (ps.map fun (i : Nat) => rawInt i).toArray } := Heap.get?_push_size _ rfl
  have pord : (ps.map fun p => (es.getD p (0,.none)).2).Perm (es.toList.map (·.2)) := by
   refine (pp.map _).trans (List.Perm.of_eq ?_)
   apply List.ext_getElem?
   intro k
   rw [List.getElem?_map,List.getElem?_map]
   by_cases c : k < es.size
   ·rw [List.getElem?_range c,List.getElem?_eq_getElem (by rw [Array.length_toList]; exact c)]
    simp [Array.getD,c]
   ·rw [List.getElem?_eq_none (by rw [List.length_range]; omega),List.getElem?_eq_none (by rw [Array.length_toList]; omega)]
    rfl
  have z1 : (s.heap.push { cls := .type "tuple",data := .seq (ps.map fun (i : Nat) => rawInt i).toArray }).objs.size = s.heap.objs.size + 1 := by rw [Heap.size_push]
  refine h _ d (s.heap.push { cls := .type "tuple",data := .seq (ps.map fun (i : Nat) => rawInt i).toArray }).objs.size s.heap.objs.size _ (fun b o e => Heap.get?_push_of_some _ (Heap.get?_push_of_some _ e)) (by omega) (by omega) (.inr (Nat.le_refl _)) pord
   ⟨Heap.get?_push_of_some _ (Heap.get?_push_of_some _ ho),.ref s.heap.objs.size,?_,.drawn (Heap.get?_push_of_some _ hTt) pp,fun T' e => by cases e; rfl⟩ ?_
  ·exact Heap.get?_push_size _ rfl
  ·rw [Heap.size_push]
end
end SI
set_option maxRecDepth 100000
namespace SI
open PySem PySem.SetTable PyProof.Rows
section
variable {prog : Program} {w : World} {A : Around} {E : Value -> Shared -> Prop} {s : Shared} {a : Addr}
theorem hint_set {Q : Bool -> Shared -> Prop} (hT : s.TypeIs (.ref a) "set") (h : Q false s) : wpAny (model prog w) A (Builtin.List.listLengthHint (.ref a)) Q E s := by
 unfold Builtin.List.listLengthHint
 refine wpAny_bind (wpAny_specialOf hT PySem.F.slot_set_len.lookup ?_)
 generalize hid : ("set.__len__" : String) = id0
 wp_delta
 rw [show splitId id0 = some ("set", "__len__") from by subst hid; decide +kernel]
 subst hid
 refine wpAny_bind (wpAny_isInstance (T := "set") (b := true) hT (by rw [isSubtype_type]; kernel_rfl) ?_)
 refine wpAny_ite_split (fun hab => absurd hab (by decide)) (fun _ => ?_)
 refine wpAny_ite_split (fun _ => ?_) (fun hab => absurd (by decide +kernel) hab)
 exact wpAny_bind (wpAny_typeOf hT (wpAny_pure h))
theorem ints_of : ∀ (vs : List Value),(∀ v ∈ vs,∃ n t,v = .int n t) -> IntsAre vs (vs.map vInt)
 | [],_ => .nil
 | v :: r,h => by
  obtain ⟨n,t,e⟩ := h v (by simp)
  subst e
  exact .cons n t (ints_of r fun u hu => h u (by simp [hu]))
theorem collect_set {ks : List Int} {Q : List Value -> Shared -> Prop} (hh : A.handled = none) (K : SetK prog w s.heap a ks)
  (hQ : ∀ h' d tk vs ns,s.heap.objs.size < h'.objs.size -> (∀ b o,s.heap.get? b = some o -> h'.get? b = some o) -> IntsAre vs ns -> ns.Perm ks -> Q vs { s with heap := h',drawn := d,toks := tk }) : wpAny (model prog w) A (collect (.ref a)) Q E s := by
 have hT := K.typeIs
 obtain ⟨ob,es,ep,t,ho,hx,hd,hel,ek,nd,hb,hf,ld⟩ := id K
 have alt : a < s.heap.objs.size := Heap.lt_size ho
 have hn : es.size <= sizeLine := fits_of_scanBound hb
 unfold collect
 refine wpAny_bind (wpAny_runValue (codeAny_builtin F.entry_proto_collect ?_))
 rw [Around.under_plainId F.plain_proto_collect _]
 show wpAny _ A.in1 (newList [] >>= fun l => again (.builtin "list.__iadd__" ⟨[l,.ref a],[]⟩)) _ _ s
 refine wpAny_bind (wpAny_newObj_type (wpAny_pure ⟨plainId_quiet F.plain_list_iadd _,codeAny_builtin F.entry_list_iadd ?_⟩))
 rw [Around.under_plainId F.plain_list_iadd _]
 have ho1 := Heap.get?_push_of_some { cls := .type "list",data := .seq ([] : List Value).toArray } ho
 have hS1 : (s.heap.push { cls := .type "list",data := .seq ([] : List Value).toArray }).get? s.heap.objs.size = some { cls := .type "list",data := .seq ([] : List Value).toArray } := Heap.get?_push_size _ rfl
 show wpAny _ A.in1 (Builtin.List.listExtendWith (.ref s.heap.objs.size) (.ref a) (.ref s.heap.objs.size)) _ _ _
 unfold Builtin.List.listExtendWith
 refine wpAny_bind (wpAny_typeOf (T := "set") ⟨ob,ho1,hx.1⟩ ?_)
 have h1 : Builtin.List.listSameRef (.ref s.heap.objs.size) (.ref a) = false := by simp [Builtin.List.listSameRef,Nat.ne_of_gt alt]
 have h2 : (Value.type "set" == Value.type "list") = false := by decide
 have h3 : (Value.type "set" == Value.type "tuple") = false := by decide
 simp only [h1,h2,h3,Bool.or_false,Bool.false_eq_true,if_false]
 refine wpAny_bind (iter_ ho1 hx hd hf hb fun h' d I T ord keep hI nT hT2 po st hsz => ?_)
 have keep0 : ∀ b o,s.heap.get? b = some o -> h'.get? b = some o := fun b o e => keep b o (Heap.get?_push_of_some _ e)
 have hSz : s.heap.objs.size + 1 <= I := by rw [Heap.size_push] at hI; exact hI
 refine wpAny_bind (wpAny_holding (hint_set ⟨ob,st.1,hx.1⟩ ?_))
 show wpAny _ A.in1 (rule "list.extend.makes-room" >>= fun _ => Builtin.List.listTouch (.ref s.heap.objs.size) >>= fun _ =>
  again (.builtin "list.extend.loop" ⟨[.ref s.heap.objs.size,.ref I,.ref s.heap.objs.size],[]⟩)) _ _ _
 refine wpAny_bind (wpAny_rule ?_)
 have hSh := keep _ _ hS1
 have hSf : s.heap.objs.size ∉ [I,a,T] := by
  rw [Heap.size_push] at hT2
  simp only [List.mem_cons,List.not_mem_nil,or_false,not_or]
  refine ⟨Nat.ne_of_lt hSz,Nat.ne_of_gt alt,?_⟩
  rcases hT2 with q | q
  ·rw [q]; exact Nat.ne_of_gt alt
  ·exact Nat.ne_of_lt q
 refine wpAny_bind ?_
 show wpAny _ A.in1 (updateSeq s.heap.objs.size (·.push .none) >>= fun _ => updateSeq s.heap.objs.size (·.pop)) _ _ _
 refine wpAny_bind (wpAny_updateSeq hSh rfl ?_)
 have hS2 := Heap.get?_update_self (Obj.mapSeq (·.push Value.none)) hSh rfl
 refine wpAny_updateSeq hS2 rfl ?_
 have hS3 := Heap.get?_update_self (Obj.mapSeq (·.pop)) hS2 rfl
 have oth : ∀ b o,b ≠ s.heap.objs.size -> h'.get? b = some o -> ((h'.update s.heap.objs.size (Obj.mapSeq (·.push Value.none))).update s.heap.objs.size (Obj.mapSeq (·.pop))).get? b = some o :=
  fun b o hb e => (Heap.get?_update_other _ _ (Ne.symm hb)).trans ((Heap.get?_update_other _ _ (Ne.symm hb)).trans e)
 have nI : a ≠ I := Nat.ne_of_lt (Nat.lt_trans alt hSz)
 have W : Walks prog w A.in1 I [I,a,T] [I] es.size (fun i v => ord[i]? = some v) (WSt w I a T ob es ep t ord) := walk (A := A.in1) hh hd hf ld nI nT
 have st2 := W.frame 0 _ ((h'.update s.heap.objs.size (Obj.mapSeq (·.push Value.none))).update s.heap.objs.size (Obj.mapSeq (·.pop))) st fun b hb' o e => oth b o (fun q => hSf (q ▸ hb')) e
 refine wpAny_pure ⟨plainId_quiet F.plain_extend_loop _,codeAny_extend_loopS W.toS hn _ hSf _ es.size 0 _ _ _ rfl (Nat.zero_le _) st2 hS3 (ItemsOf.nil _) fun s' acc c mv hS' items => ?_⟩
 show wpAny _ A (load s.heap.objs.size >>= _) _ _ s'
 refine wpAny_bind (wpAny_load hS' ?_)
 refine wpAny_pure ?_
 have eacc : acc.toList = ord := by
  apply List.ext_getElem?
  intro k
  rw [Array.getElem?_toList]
  by_cases c : k < es.size
  ·have lt : k < acc.size := by rw [items.1]; exact c
   have q := items.2 k acc[k] (Array.getElem?_eq_getElem lt)
   rw [q]; exact Array.getElem?_eq_getElem lt
  ·obtain ⟨_,f,_,m,_⟩ := st
   rw [Array.getElem?_eq_none (by rw [items.1]; omega),List.getElem?_eq_none (by rw [m.len]; omega)]
 rw [eacc]
 have all : ∀ v ∈ ord,∃ n t,v = .int n t := by
  intro v hv
  have := po.mem_iff.mp hv
  rw [List.mem_map] at this
  obtain ⟨e,he,rfl⟩ := this
  obtain ⟨t,e2,_⟩ := elem_int hel he
  exact ⟨_,t,e2⟩
 have pk : (ord.map vInt).Perm ks := by
  have := po.map vInt
  rw [List.map_map] at this
  rw [ek]; exact this
 have eS : s' = { s with heap := s'.heap,drawn := s'.drawn,toks := s'.toks } := by
  have g := mv.gens
  have o := mv.os
  cases s'
  dsimp only at g o
  subst g; subst o; rfl
 rw [eS]
 refine hQ s'.heap s'.drawn s'.toks ord _ (Heap.lt_size hS') (fun b o e => ?_) (ints_of ord all) pk
 have lb : b < s.heap.objs.size := Heap.lt_size e
 refine mv.heap b o ?_ (oth b o (Nat.ne_of_lt lb) (keep0 b o e))
 simp only [List.mem_cons,List.not_mem_nil,or_false,not_or]
 exact ⟨Nat.ne_of_lt lb,Nat.ne_of_lt (Nat.lt_trans lb hSz)⟩
end
end SI
set_option maxRecDepth 100000
namespace SI
open PySem PySem.SetTable PyProof.Rows
section
variable {prog : Program} {w : World} {A : Around} {R : Result -> Shared -> Prop} {I : Addr} {fp wr : List Addr} {G : Array GenState -> Array GenState -> Prop} {n : Nat} {P : Nat -> Value -> Prop} {St : Nat -> Shared -> Prop}
theorem fill (W : WalksS prog w A.in1 I fp wr G n P St) (S : Addr) (hSf : S ∉ fp) (val : Nat -> Int) (hval : ∀ i v,P i v -> ∃ t,v = .int (val i) t) (hb : n + 1 < scanBound) :
  ∀ (k i : Nat) (s : Shared) (ks : List Int),n - i = k -> i <= n -> St i s -> SetK prog w s.heap S ks -> ks.length <= i -> (∀ x,x ∈ ks ↔ ∃ j,j < i /\ val j = x) →
   (∀ s' ks',Moved (S :: wr) G s s' -> SetK prog w s'.heap S ks' -> (∀ x,x ∈ ks' ↔ ∃ j,j < n /\ val j = x) -> R (.ok (.ret .none)) s') →
   codeAny (model prog w) A (.builtin "set.update.loop" ⟨[.ref S,.ref I],[]⟩) R s := by
 have nw : S ∉ wr := fun h => hSf (W.sub _ h)
 have sub2 : ∀ b ∈ wr,b ∈ S :: wr := fun b hb => List.mem_cons_of_mem _ hb
 intro k
 induction k with
 | zero =>
  intro i s ks hk hi st K hl hm hR
  obtain rfl : i = n := by omega
  refine codeAny_builtin F.entry_set_update_loop ?_
  rw [Around.under_plainId F.plain_set_update_loop _]
  show wpAny _ A.in1 (pyNext (.ref I) >>= _) _ _ s
  refine wpAny_bind (W.done s _ _ st fun s' mv => ?_)
  exact wpAny_pure (hR s' ks (mv.mono sub2) (K.keep fun o e => mv.heap S o nw e) hm)
 | succ k ih =>
  intro i s ks hk hi st K hl hm hR
  have lt : i < n := by omega
  refine codeAny_builtin F.entry_set_update_loop ?_
  rw [Around.under_plainId F.plain_set_update_loop _]
  show wpAny _ A.in1 (pyNext (.ref I) >>= _) _ _ s
  refine wpAny_bind (W.item i s _ _ lt st fun v s' hP st' mv => ?_)
  obtain ⟨t,rfl⟩ := hval i v hP
  have K' := K.keep (h' := s'.heap) fun o e => mv.heap S o nw e
  show wpAny _ A.in1 (holding [Value.int (val i) t] (setAdd S (.int (val i) t)) >>= _) _ _ s'
  refine wpAny_bind (wpAny_holding ?_)
  unfold setAdd
  refine wpAny_holding (wpAny_bind ((intKind prog w).pyHash (k := val i) (intKind_is _ _ _ _) ?_))
  refine add_int (s := { s' with toks := s'.toks + 1 }) K' (by omega) fun h' ks' sb K2 l2 m2 b => ?_
  refine wpAny_pure ⟨plainId_quiet F.plain_set_update_loop _,ih (i + 1) _ ks' (by omega) lt (W.frame _ s' _ _ st' (Nat.le_succ _) fun c hc o e => ?_) K2 (by omega) (fun x => ?_) fun s'' ks'' mv2 K3 m3 => ?_⟩
  ·rw [sb.2 c (fun q : c = S => hSf (by rw [<- q]; exact hc))]; exact e
  ·rw [m2,hm]
   constructor
   ·rintro (⟨j,hj,e⟩ | e)
    ·exact ⟨j,by omega,e⟩
    ·exact ⟨i,by omega,e.symm⟩
   ·rintro ⟨j,hj,e⟩
    rcases Nat.lt_or_ge j i with q | q
    ·exact .inl ⟨j,q,e⟩
    ·obtain rfl : j = i := by omega
     exact .inr e.symm
  ·refine hR s'' ks'' (Moved.trans W.gtrans ((mv.mono sub2).then_heap (Nat.le_succ _) fun c o hc e => ?_) mv2) K3 m3
   rw [sb.2 c (fun q : c = S => hc (by rw [q]; exact List.mem_cons_self))]; exact e
end
section
variable {prog : Program} {w : World} {A : Around} {E : Value -> Shared -> Prop} {s : Shared}
def freshSet (w : World) : Obj := { cls := .type "set",dict := none,data := .set #[] 0 (.fresh 0 0 (!byText w)) }
theorem fresh_ok {h : Heap} {a : Addr} (e : h.get? a = some (freshSet w)) : SetK prog w h a [] :=
 ⟨_,#[],0,_,e,⟨rfl,rfl,rfl⟩,rfl,fun e he => by simp at he,rfl,.nil,by decide,rfl,ld_fresh _ _ _⟩
theorem new_set (a : Value) {Q₁ : Value -> Shared -> Prop} (h : Q₁ (.ref s.heap.objs.size) { s with heap := s.heap.push (freshSet w) }) :
  codeAny (model prog w) A (.call (.builtin "set.__new__") ⟨[.type "set",a],[]⟩) (wants Q₁ E) s := by
 refine codeAny_of_tree ?_
 show wpAny _ A.in1 (do checkBuiltinCall "set.__new__" ⟨[.type "set",a],[]⟩; again (.builtin "set.__new__" ⟨[.type "set",a],[]⟩)) _ _ s
 refine wpAny_bind (wpAny_of_eq (F.newCall_set_1 a) (wpAny_pure ⟨plainId_quiet F.plain_set_new _,codeAny_builtin F.entry_set_new ?_⟩))
 rw [Around.under_plainId F.plain_set_new _]
 unfold Builtin.«set.__new__» Builtin.Frozenset.newClass
 have hsub := sub_set_self
 obtain ⟨hp,g,d,tk,os⟩ := s
 dsimp only
 wp_walk
 refine wpAny_askSetting (wpAny_pure ?_)
 dsimp only
 simp only [newObj]
 refine wpAny_bind (wpAny_alloc (wpAny_pure ?_))
 exact wpAny_pure h
end
end SI
set_option maxRecDepth 100000
namespace SI
open PySem PySem.SetTable PyProof.Rows
section
variable {prog : Program} {w : World} {A : Around} {E : Value -> Shared -> Prop} {s : Shared}
theorem ints_mem : ∀ {vs : List Value} {ns : List Int},IntsAre vs ns -> ∀ x,(∃ j,j < vs.length /\ ns.getD j 0 = x) ↔ x ∈ ns
 | _,_,.nil,x => by simp
 | _,_,.cons n t r,x => by
  rw [List.mem_cons,← ints_mem r x]
  constructor
  ·rintro ⟨j,hj,e⟩
   cases j with
   | zero => exact .inl e.symm
   | succ j => exact .inr ⟨j,Nat.lt_of_succ_lt_succ hj,e⟩
  ·rintro (e | ⟨j,hj,e⟩)
   ·exact ⟨0,Nat.zero_lt_succ _,e.symm⟩
   ·exact ⟨j + 1,Nat.succ_lt_succ hj,e⟩
set_option maxHeartbeats 3200000 in
theorem call_set {l : Addr} {items : Array Value} {ns : List Int} {Q : Value -> Shared -> Prop} (hh : A.handled = none) (hl : s.heap.IsList l items) (hi : IntsAre items.toList ns) (hb : items.size + 1 < scanBound)
  (h : ∀ (h' : Heap) (tk : Nat) (ks : List Int),SetK prog w h' s.heap.objs.size ks -> (∀ x,x ∈ ks ↔ x ∈ ns) -> (∀ b o,b < s.heap.objs.size -> s.heap.get? b = some o -> h'.get? b = some o) -> Q (.ref s.heap.objs.size) { s with heap := h',toks := tk }) :
  wpAny (model prog w) A (call (.type "set") [.ref l]) Q E s := by
 obtain ⟨c,tl,hmro⟩ := F.called_set.mro
 have hmade := F.called_set.made
 have hsub := F.called_set.sub
 refine wpAny_call (codeAny_of_tree ?_)
 show wpAny _ _ (callAny (.type "set") _) _ _ _
 refine wpAny_pure ⟨Code.quiet_builtin _ (by decide +kernel),codeAny_builtin F.entry_type_call ?_⟩
 rw [Around.under_plain (weight_type_call_type "set" [.ref l] []) rfl]
 have h1 := F.called_set.notType
 have h2 := F.called_set.canCreate
 have hct := F.typeCall_set_1 (.ref l)
 repeat (any_goals (first | assumption | wp_step))
 refine codeAny_mono (new_set (.ref l) (E := E) (Q₁ := fun obj s₁ => obj = .ref s.heap.objs.size /\ s₁ = { s with heap := s.heap.push (freshSet w) }) ⟨rfl,rfl⟩) fun r s₁ hr => ?_
 cases r with
 | error e => exact hr
 | ok fl =>
  cases fl with
  | ret obj =>
   obtain ⟨rfl,rfl⟩ := hr
   have hS : (s.heap.push (freshSet w)).get? s.heap.objs.size = some (freshSet w) := Heap.get?_push_size _ rfl
   have hT : Shared.TypeIs { s with heap := s.heap.push (freshSet w) } (.ref s.heap.objs.size) "set" := ⟨_,hS,rfl⟩
   have hli := F.called_set.init.lookup
   have hbi := F.called_set.init.bind (.ref s.heap.objs.size)
   repeat (any_goals (first | assumption | wp_step))
   refine codeAny_mono (codeAny_call_builtin (R := wants (fun r s₂ => r = .none /\ ∃ h' tk ks,s₂ = { s with heap := h',toks := tk } /\ SetK prog w h' s.heap.objs.size ks /\ (∀ x,x ∈ ks ↔ x ∈ ns) ∧
     (∀ b o,b < s.heap.objs.size -> s.heap.get? b = some o -> h'.get? b = some o)) E) F.called_set.init.plain F.entry_set_init (check_set_init_1 hT ?_)) fun r₂ s₂ hr₂ => ?_
   ·obtain ⟨ol,hol,hcl,nl,hdl⟩ := hl
    obtain ⟨ocls,odict,odata,oslots⟩ := ol
    simp only at hcl hdl
    subst hcl; subst hdl
    have hol' : (s.heap.push (freshSet w)).get? l = some { cls := .type "list",dict := odict,data := .seq items nl,slots := oslots } := Heap.get?_push_of_some _ hol
    have hsls := F.sub_list_set
    have hslf := F.sub_list_frozenset
    have hne : (Value.type "list" == Value.type "dict") = false := by decide
    have hl1 : (s.heap.push (freshSet w)).IsList l items := ⟨_,hol',rfl,nl,rfl⟩
    unfold Builtin.«set.__init__» noKeywords Builtin.Frozenset.updateFrom
    generalize hPI : pyIter = PI
    wp_walk
    subst hPI
    refine wpAny_pyIter_list hl1 (wpAny_bind (wpAny_runValue ?_))
    have hlS : l < s.heap.objs.size := Heap.lt_size hol
    have hh3 : A.in1.in1.in1.handled = none := by simp [hh]
    have hneI : l ≠ (s.heap.push (freshSet w)).objs.size := by
     rw [Heap.size_push]; exact Nat.ne_of_lt (Nat.lt_succ_of_lt hlS)
    have hSf : s.heap.objs.size ∉ [(s.heap.push (freshSet w)).objs.size,l] := by
     rw [Heap.size_push]; simp only [List.mem_cons,List.mem_singleton,List.not_mem_nil,or_false,not_or]
     exact ⟨Nat.ne_of_lt (Nat.lt_succ_self _),Nat.ne_of_gt hlS⟩
    refine fill ((Walks.list hh3 _ l hneI items).toS) s.heap.objs.size hSf (fun i => ns.getD i 0) (fun i v hv => IntsAre.int_at hi i v (by rw [Array.getElem?_toList]; exact hv)) hb (items.size - 0) 0 _ [] (by omega) (Nat.zero_le _)
     ⟨⟨_,Heap.get?_push_size _ rfl,rfl,rfl⟩,(hl1.push _)⟩ (fresh_ok (Heap.get?_push_of_some _ hS)) (Nat.zero_le _) (by simp) ?hR
    intro s' ks mv K hm
    obtain ⟨h',g',d',tk',os'⟩ := s'
    have eg : g' = s.gens := mv.gens
    have ed : d' = s.drawn := mv.drawn
    have eo : os' = s.os := mv.os
    subst eg; subst ed; subst eo
    show wpAny _ _ _ _ _ _
    refine wpAny_pure ?_
    show wpAny _ _ (ret Value.none) _ _ _
    refine wpAny_pure ⟨rfl,h',tk',ks,rfl,K,fun x => (hm x).trans (by have z := ints_mem hi x; rw [Array.length_toList] at z; exact z),fun b o hb e => ?_⟩
    refine mv.heap b o ?_ (Heap.get?_push_of_some _ (Heap.get?_push_of_some _ e))
    simp only [List.mem_cons,List.mem_singleton,List.not_mem_nil,or_false,not_or]
    refine ⟨Nat.ne_of_lt hb,?_⟩
    rw [Heap.size_push]; exact Nat.ne_of_lt (Nat.lt_succ_of_lt hb)
   ·cases r₂ with
    | error e => exact hr₂
    | ok fl₂ =>
     cases fl₂ with
     | ret r =>
      obtain ⟨rfl,h',tk,ks,rfl,K,hm,hk⟩ := hr₂
      repeat (any_goals (first | assumption | wp_step))
      exact h _ _ _ K hm hk
     | _ => exact hr₂.elim
  | _ => exact hr.elim
end
end SI
namespace VM
open Vbedai
abbrev Inc (l : List Nat) : Prop := l.Pairwise (· < ·)
theorem rising_mem (x y : Nat) : ∀ l : List Nat,y ∈ rising x l ↔ y = x ∨ y ∈ l
 | [] => by simp [rising]
 | z :: r => by
  unfold rising
  split
  ·simp
  ·split
   ·rename_i h; subst h; simp
   ·rw [List.mem_cons,rising_mem x y r,List.mem_cons]
    constructor
    ·rintro (h | h | h)
     ·exact .inr (.inl h)
     ·exact .inl h
     ·exact .inr (.inr h)
    ·rintro (h | h | h)
     ·exact .inr (.inl h)
     ·exact .inl h
     ·exact .inr (.inr h)
theorem rising_inc (x : Nat) : ∀ l : List Nat,Inc l -> Inc (rising x l)
 | [],_ => by simp [rising]
 | z :: r,h => by
  unfold rising
  cases h with
  | cons h1 h2 =>
   split
   ·rename_i c
    refine .cons (fun y hy => ?_) (.cons h1 h2)
    rcases List.mem_cons.mp hy with e | e
    ·rw [e]; exact c
    ·exact Nat.lt_trans c (h1 y e)
   ·split
    ·exact .cons h1 h2
    ·refine .cons (fun y hy => ?_) (rising_inc x r h2)
     rcases (rising_mem x y r).mp hy with e | e
     ·omega
     ·exact h1 y e
theorem fold_inc : ∀ (l m : List Nat),Inc m -> Inc (l.foldl (fun l t => rising t l) m)
 | [],_,h => h
 | x :: r,m,h => fold_inc r _ (rising_inc x m h)
theorem fold_mem (y : Nat) : ∀ (l m : List Nat),y ∈ l.foldl (fun l t => rising t l) m ↔ y ∈ l ∨ y ∈ m
 | [],m => by simp
 | x :: r,m => by
  rw [List.foldl_cons,fold_mem y r,rising_mem,List.mem_cons]
  constructor
  ·rintro (h | h | h)
   ·exact .inl (.inr h)
   ·exact .inl (.inl h)
   ·exact .inr h
  ·rintro ((h | h) | h)
   ·exact .inr (.inl h)
   ·exact .inl h
   ·exact .inr (.inr h)
theorem inc_unique : ∀ {l m : List Nat},Inc l -> Inc m -> (∀ x,x ∈ l ↔ x ∈ m) -> l = m
 | [],[],_,_,_ => rfl
 | [],y :: m,_,_,h => absurd ((h y).mpr (by simp)) (by simp)
 | x :: l,[],_,_,h => absurd ((h x).mp (by simp)) (by simp)
 | x :: l,y :: m,hl,hm,h => by
  cases hl with
  | cons a1 a2 =>
   cases hm with
   | cons b1 b2 =>
    have e : x = y := by
     rcases List.mem_cons.mp ((h x).mp (by simp)) with q | q
     ·exact q
     ·have := b1 x q
      rcases List.mem_cons.mp ((h y).mpr (by simp)) with r | r
      ·exact r.symm
      ·have := a1 y r; omega
    subst e
    rw [inc_unique a2 b2 fun z => ?_]
    constructor
    ·intro hz
     rcases List.mem_cons.mp ((h z).mp (by simp [hz])) with q | q
     ·have := a1 z hz; omega
     ·exact q
    ·intro hz
     rcases List.mem_cons.mp ((h z).mpr (by simp [hz])) with q | q
     ·have := b1 z hz; omega
     ·exact q
theorem points_inc (s : State) : Inc (points s) := fold_inc _ _ .nil
theorem points_mem (s : State) (t : Nat) : t ∈ points s ↔ t < s.horizon /\ (t = 0 ∨ (∃ c ∈ s.changes,c.time = t) ∨ ∃ x ∈ s.shifts,x.a = t ∨ x.b = t) := by
 unfold points
 rw [fold_mem,List.mem_filter]
 simp only [List.cons_append,List.mem_cons,List.mem_append,List.mem_map,List.mem_flatMap,decide_eq_true_eq,List.not_mem_nil,or_false]
 constructor
 ·rintro ⟨h | h | ⟨x,hx,h⟩,lt⟩
  ·exact ⟨lt,.inl h⟩
  ·exact ⟨lt,.inr (.inl h)⟩
  ·exact ⟨lt,.inr (.inr ⟨x,hx,by rcases h with h | h <;> simp [h]⟩)⟩
 ·rintro ⟨lt,h | h | ⟨x,hx,h⟩⟩
  ·exact ⟨.inl h,lt⟩
  ·exact ⟨.inr (.inl h),lt⟩
  ·exact ⟨.inr (.inr ⟨x,hx,by rcases h with h | h <;> simp [h]⟩),lt⟩
theorem sorted_inc (l : List Nat) : Inc (sorted l) := fold_inc _ _ .nil
theorem sorted_mem (l : List Nat) (t : Nat) : t ∈ sorted l ↔ t ∈ l := by
 unfold sorted
 rw [fold_mem]; simp
theorem total_go (x : Crews) : ∀ n,x.foldl (fun n p => n + p.2) n = n + (x.map (·.2)).sum := by
 induction x with
 | nil => intro n; simp
 | cons p r ih =>
  intro n
  rw [List.foldl_cons,ih,List.map_cons,List.sum_cons]
  omega
theorem total_sum (x : Crews) : total x = (x.map (·.2)).sum := by
 unfold total
 rw [total_go]; omega
theorem total_cons (p : Nat × Nat) (x : Crews) : total (p :: x) = p.2 + total x := by
 rw [total_sum,total_sum]; simp
theorem total_append (x y : Crews) : total (x ++ y) = total x + total y := by
 rw [total_sum,total_sum,total_sum]; simp
def onJ (x : Crews) (j : Nat) : Nat := total (x.filter fun p => p.1 == j)
theorem onJ_append (x y : Crews) (j : Nat) : onJ (x ++ y) j = onJ x j + onJ y j := by
 unfold onJ; rw [List.filter_append,total_append]
theorem onJ_one (j k n : Nat) : onJ [(k,n)] j = if k = j then n else 0 := by
 unfold onJ
 by_cases h : k = j
 ·subst h; simp [total]
 ·simp [h,total]
theorem sum_onJ (q : Nat -> Bool) (n : Nat) : ∀ x : Crews,(∀ p ∈ x,p.1 < n) -> (((List.range n).filter q).map (onJ x)).sum = total (x.filter fun p => q p.1)
 | [],_ => by
  have : ∀ l : List Nat,(l.map (onJ [])).sum = 0 := by
   intro l
   induction l with
   | nil => rfl
   | cons a r ih => rw [List.map_cons,List.sum_cons,ih]; rfl
  rw [this]; rfl
 | (k,m) :: r,h => by
  have hk : k < n := h (k,m) (by simp)
  have ih := sum_onJ q n r fun p hp => h p (by simp [hp])
  have e : ∀ l : List Nat,l.Nodup -> (l.map (onJ ((k,m) :: r))).sum = (l.map (onJ r)).sum + if k ∈ l then m else 0 := by
   intro l
   induction l with
   | nil => intro _; rfl
   | cons a l ih2 =>
    intro nd
    have nd' := List.nodup_cons.mp nd
    rw [List.map_cons,List.sum_cons,ih2 nd'.2,List.map_cons,List.sum_cons]
    have z : onJ ((k,m) :: r) a = onJ r a + if k = a then m else 0 := by
     rw [show (k,m) :: r = [(k,m)] ++ r from rfl,onJ_append,onJ_one]; omega
    rw [z]
    by_cases c : k = a
    ·subst c
     rw [if_pos rfl,if_neg nd'.1,if_pos (by simp)]; omega
    ·rw [if_neg c]
     by_cases d : k ∈ l
     ·rw [if_pos d,if_pos (by simp [d])]; omega
     ·rw [if_neg d,if_neg (by simp [c,d])]; omega
  rw [e _ (List.Pairwise.filter q List.nodup_range),ih]
  by_cases c : q k = true
  ·rw [if_pos (by simp [hk,c]),List.filter_cons,if_pos c,total_cons]; omega
  ·rw [if_neg (by simp [c]),List.filter_cons,if_neg c]; omega
theorem total_onJ (n : Nat) (x : Crews) (h : ∀ p ∈ x,p.1 < n) : ((List.range n).map (onJ x)).sum = total x := by
 have z := sum_onJ (fun _ => true) n x h
 have e1 : (List.range n).filter (fun _ => true) = List.range n := List.filter_eq_self.mpr fun _ _ => rfl
 have e2 : x.filter (fun _ => true) = x := List.filter_eq_self.mpr fun _ _ => rfl
 rw [e1,e2] at z
 exact z
theorem there_onJ (s : State) (x : Crews) (t : Nat) (h : ∀ p ∈ x,p.1 < s.shifts.length) : there s x t = (((numbers s).filter fun j => on s j t).map (onJ x)).sum := by
 unfold there numbers
 rw [sum_onJ (fun j => on s j t) _ x h]
end VM
namespace VM
open Vbedai
structure Wf (s : State) : Prop where
 h1 : 1 <= s.horizon
 h2 : s.horizon <= 1000000
 r : s.rest <= 1000000
 cl : s.changes.length <= 100
 ct : ∀ c ∈ s.changes,c.time < s.horizon /\ c.level <= 1000
 cs : s.changes.Pairwise fun a b => a.time < b.time
 sl : s.shifts.length <= 60
 sv : ∀ x ∈ s.shifts,x.a < x.b /\ x.b <= s.horizon
theorem wf_start : Wf start := ⟨by decide,by decide,by decide,by decide,by simp [start],by simp [start],by decide,by simp [start]⟩
theorem level_late (t : Nat) : ∀ (l : List Change) (now : Nat),(∀ c ∈ l,t < c.time) -> l.foldl (fun n c => if c.time <= t then c.level else n) now = now
 | [],now,_ => rfl
 | c :: r,now,h => by
  rw [List.foldl_cons,if_neg (by have := h c (by simp); omega)]
  exact level_late t r now fun d hd => h d (by simp [hd])
theorem level_fold (t : Nat) : ∀ (l : List Change) (now : Nat),(l.Pairwise fun a b => a.time < b.time) -> levelAt l t now = l.foldl (fun n c => if c.time <= t then c.level else n) now
 | [],now,_ => rfl
 | c :: r,now,h => by
  cases h with
  | cons h1 h2 =>
   unfold levelAt
   rw [List.foldl_cons]
   by_cases q : c.time <= t
   ·rw [if_pos q,if_pos q]; exact level_fold t r _ h2
   ·rw [if_neg q,if_neg q]
    exact (level_late t r now fun d hd => by have := h1 d hd; omega).symm
def lastStep (s : State) : Option Nat -> Nat -> Option Nat
 | none,j => some j
 | some k,j => if (shiftOf s k).b < (shiftOf s j).b then some j else some k
def firstStep (s : State) : Option Nat -> Nat -> Option Nat
 | none,j => some j
 | some k,j => if (shiftOf s j).a < (shiftOf s k).a then some j else some k
theorem last_go (s : State) : ∀ (l : List Nat) (k : Nat),l.foldl (lastStep s) (some k) = lastEnd s (k :: l)
 | [],k => rfl
 | j :: r,k => by
  rw [List.foldl_cons]
  show r.foldl (lastStep s) (if (shiftOf s k).b < (shiftOf s j).b then some j else some k) = _
  by_cases q : (shiftOf s k).b < (shiftOf s j).b
  ·rw [if_pos q,last_go s r j]
   show _ = (match lastEnd s (j :: r) with | none => some k | some m => if (shiftOf s k).b < (shiftOf s m).b then some m else some k)
   cases e : lastEnd s r with
   | none =>
    have e2 : lastEnd s (j :: r) = some j := by unfold lastEnd; rw [e]
    rw [e2]; simp [q]
   | some m =>
    by_cases w : (shiftOf s j).b < (shiftOf s m).b
    ·have e2 : lastEnd s (j :: r) = some m := by unfold lastEnd; rw [e]; simp [w]
     rw [e2]; simp [Nat.lt_trans q w]
    ·have e2 : lastEnd s (j :: r) = some j := by unfold lastEnd; rw [e]; simp [w]
     rw [e2]; simp [q]
  ·rw [if_neg q,last_go s r k]
   show (match lastEnd s r with | none => some k | some m => if (shiftOf s k).b < (shiftOf s m).b then some m else some k) = (match lastEnd s (j :: r) with | none => some k | some m => if (shiftOf s k).b < (shiftOf s m).b then some m else some k)
   cases e : lastEnd s r with
   | none =>
    have e2 : lastEnd s (j :: r) = some j := by unfold lastEnd; rw [e]
    rw [e2]; simp [q]
   | some m =>
    by_cases w : (shiftOf s j).b < (shiftOf s m).b
    ·have e2 : lastEnd s (j :: r) = some m := by unfold lastEnd; rw [e]; simp [w]
     rw [e2]
    ·have e2 : lastEnd s (j :: r) = some j := by unfold lastEnd; rw [e]; simp [w]
     rw [e2]
     have : ¬ (shiftOf s k).b < (shiftOf s m).b := by omega
     simp [q,this]
theorem last_fold (s : State) : ∀ l : List Nat,l.foldl (lastStep s) none = lastEnd s l
 | [] => rfl
 | j :: r => last_go s r j
theorem first_go (s : State) : ∀ (l : List Nat) (k : Nat),l.foldl (firstStep s) (some k) = firstStart s (k :: l)
 | [],k => rfl
 | j :: r,k => by
  rw [List.foldl_cons]
  show r.foldl (firstStep s) (if (shiftOf s j).a < (shiftOf s k).a then some j else some k) = _
  by_cases q : (shiftOf s j).a < (shiftOf s k).a
  ·rw [if_pos q,first_go s r j]
   show _ = (match firstStart s (j :: r) with | none => some k | some m => if (shiftOf s m).a < (shiftOf s k).a then some m else some k)
   cases e : firstStart s r with
   | none =>
    have e2 : firstStart s (j :: r) = some j := by unfold firstStart; rw [e]
    rw [e2]; simp [q]
   | some m =>
    by_cases w : (shiftOf s m).a < (shiftOf s j).a
    ·have e2 : firstStart s (j :: r) = some m := by unfold firstStart; rw [e]; simp [w]
     rw [e2]; simp [Nat.lt_trans w q]
    ·have e2 : firstStart s (j :: r) = some j := by unfold firstStart; rw [e]; simp [w]
     rw [e2]; simp [q]
  ·rw [if_neg q,first_go s r k]
   show (match firstStart s r with | none => some k | some m => if (shiftOf s m).a < (shiftOf s k).a then some m else some k) = (match firstStart s (j :: r) with | none => some k | some m => if (shiftOf s m).a < (shiftOf s k).a then some m else some k)
   cases e : firstStart s r with
   | none =>
    have e2 : firstStart s (j :: r) = some j := by unfold firstStart; rw [e]
    rw [e2]; simp [q]
   | some m =>
    by_cases w : (shiftOf s m).a < (shiftOf s j).a
    ·have e2 : firstStart s (j :: r) = some m := by unfold firstStart; rw [e]; simp [w]
     rw [e2]
    ·have e2 : firstStart s (j :: r) = some j := by unfold firstStart; rw [e]; simp [w]
     rw [e2]
     have : ¬ (shiftOf s m).a < (shiftOf s k).a := by omega
     simp [q,this]
theorem first_fold (s : State) : ∀ l : List Nat,l.foldl (firstStep s) none = firstStart s l
 | [] => rfl
 | j :: r => first_go s r j
theorem lastEnd_none (s : State) : ∀ l : List Nat,lastEnd s l = none ↔ l = []
 | [] => by simp [lastEnd]
 | j :: r => by
  unfold lastEnd
  cases lastEnd s r with
  | none => simp
  | some k => by_cases q : (shiftOf s j).b < (shiftOf s k).b <;> simp [q]
theorem firstStart_none (s : State) : ∀ l : List Nat,firstStart s l = none ↔ l = []
 | [] => by simp [firstStart]
 | j :: r => by
  unfold firstStart
  cases firstStart s r with
  | none => simp
  | some k => by_cases q : (shiftOf s k).a < (shiftOf s j).a <;> simp [q]
theorem lastEnd_mem (s : State) : ∀ (l : List Nat) (k : Nat),lastEnd s l = some k -> k ∈ l
 | [],k,h => by simp [lastEnd] at h
 | j :: r,k,h => by
  unfold lastEnd at h
  cases e : lastEnd s r with
  | none => rw [e] at h; simp at h; simp [h]
  | some m =>
   rw [e] at h
   have ih := lastEnd_mem s r m e
   by_cases q : (shiftOf s j).b < (shiftOf s m).b
   ·simp [q] at h; subst h; simp [ih]
   ·simp [q] at h; simp [h]
theorem firstStart_mem (s : State) : ∀ (l : List Nat) (k : Nat),firstStart s l = some k -> k ∈ l
 | [],k,h => by simp [firstStart] at h
 | j :: r,k,h => by
  unfold firstStart at h
  cases e : firstStart s r with
  | none => rw [e] at h; simp at h; simp [h]
  | some m =>
   rw [e] at h
   have ih := firstStart_mem s r m e
   by_cases q : (shiftOf s m).a < (shiftOf s j).a
   ·simp [q] at h; subst h; simp [ih]
   ·simp [q] at h; simp [h]
end VM
namespace VM
open Vbedai
def take1 (s : State) (l : List Nat) (p : Nat × Nat) : List Nat := if (l.any fun u => on s p.2 u) = true then l else l ++ [p.1]
theorem any_rev (f : Nat -> Bool) (l : List Nat) : (l.reverse).any f = l.any f := by
 rw [Bool.eq_iff_iff,List.any_eq_true,List.any_eq_true]; simp
theorem chosen_fold (s : State) : ∀ (ps : List (Nat × Nat)) (l : List Nat),(chosen s ps l).reverse = ps.foldl (take1 s) l.reverse
 | [],l => rfl
 | (t,j) :: r,l => by
  unfold chosen
  rw [List.foldl_cons]
  unfold take1
  rw [any_rev]
  by_cases c : (l.any fun u => on s j u) = true
  ·rw [if_pos c,if_pos c]; exact chosen_fold s r l
  ·rw [if_neg c,if_neg c,chosen_fold s r (t :: l),List.reverse_cons]; rfl
theorem take1_sub (s : State) : ∀ (ps : List (Nat × Nat)) (l : List Nat),((ps.map (·.1)) ++ l).Nodup -> (ps.foldl (take1 s) l).Nodup
 | [],l,h => h
 | (t,j) :: r,l,h => by
  rw [List.foldl_cons]
  have h' : (t :: (r.map (·.1) ++ l)).Nodup := h
  have h2 := List.nodup_cons.mp h'
  unfold take1
  by_cases c : (l.any fun u => on s j u) = true
  ·rw [if_pos c]; exact take1_sub s r l h2.2
  ·rw [if_neg c]
   refine take1_sub s r _ ?_
   rw [<- List.append_assoc,List.nodup_append]
   refine ⟨h2.2,by simp,?_⟩
   intro a ha b hb e
   rw [List.mem_singleton] at hb
   subst hb; subst e; exact h2.1 ha
theorem gathered_eq (s : State) (x : Crews) : gathered s x = ((numbers s).map fun j => (j,onJ x j)).filter fun p => p.2 != 0 := rfl
theorem total_filter0 : ∀ x : Crews,total (x.filter fun p => p.2 != 0) = total x
 | [] => rfl
 | p :: r => by
  rw [List.filter_cons]
  by_cases c : p.2 = 0
  ·rw [if_neg (by simp [c]),total_cons,total_filter0 r,c]; omega
  ·rw [if_pos (by simpa using c),total_cons,total_cons,total_filter0 r]
theorem total_gathered (s : State) (x : Crews) (h : ∀ p ∈ x,p.1 < s.shifts.length) : total (gathered s x) = total x := by
 rw [gathered_eq,total_filter0,total_sum,List.map_map]
 exact total_onJ _ x h
end VM
namespace VM
open Vbedai
def flat (x : Crews) : List Int := x.flatMap fun p => [nat p.1,nat p.2]
theorem flat_cons (p : Nat × Nat) (x : Crews) : flat (p :: x) = nat p.1 :: nat p.2 :: flat x := rfl
theorem flat_append (x y : Crews) : flat (x ++ y) = flat x ++ flat y := by unfold flat; rw [List.flatMap_append]
theorem flat_len (x : Crews) : (flat x).length = 2 * x.length := by
 induction x with
 | nil => rfl
 | cons p r ih => rw [flat_cons,List.length_cons,List.length_cons,ih,List.length_cons]; omega
theorem inR_iff (x lo hi : Int) : inR x lo hi = true ↔ lo <= x /\ x <= hi := by unfold inR; simp
theorem nat_toNat {x : Int} (h : 0 <= x) : nat x.toNat = x := Int.toNat_of_nonneg h
structure IsCrews (s : State) (l : List Int) (x : Crews) : Prop where
 eq : l = flat x
 ok : ∀ p ∈ x,p.1 < s.shifts.length /\ p.2 <= 1000
 nd : (x.map (·.1)).Nodup
theorem any_fst (l : Crews) (j : Nat) : (l.any fun p => p.1 == j) = false ↔ j ∉ l.map (·.1) := by
 rw [List.any_eq_false,List.mem_map]
 constructor
 ·rintro h ⟨p,hp,e⟩; exact h p hp (by simp [e])
 ·intro h p hp e; exact h ⟨p,hp,by simpa using e⟩
theorem crewsIn_ok (s : State) : ∀ (l : List Int) (x : Crews),crewsIn s l = some x ↔ IsCrews s l x
 | [],x => by
  unfold crewsIn
  constructor
  ·intro h; cases h; exact ⟨rfl,by simp,by simp⟩
  ·intro h
   cases x with
   | nil => rfl
   | cons p r => have := h.eq; rw [flat_cons] at this; cases this
 | [a],x => by
  unfold crewsIn
  constructor
  ·intro h; cases h
  ·intro h
   have := congrArg List.length h.eq
   rw [flat_len] at this
   simp at this; omega
 | j :: k :: r,x => by
  unfold crewsIn
  have ih := crewsIn_ok s r
  cases e : crewsIn s r with
  | none =>
   constructor
   ·intro h; cases h
   ·intro h
    cases x with
    | nil => have := h.eq; cases this
    | cons p y =>
     have he := h.eq
     rw [flat_cons] at he
     injection he with h1 he
     injection he with h2 h3
     have := (ih y).mpr ⟨h3,fun q hq => h.ok q (by simp [hq]),(List.nodup_cons.mp h.nd).2⟩
     rw [e] at this; cases this
  | some y =>
   have iy := (ih y).mp e
   dsimp only
   constructor
   ·intro h
    split at h
    ·rename_i c
     cases h
     obtain ⟨c1,c2⟩ := c
     rw [Bool.and_eq_true] at c1
     unfold okJ at c1
     rw [inR_iff,inR_iff] at c1
     have e1 : nat s.shifts.length = (s.shifts.length : Int) := rfl
     rw [e1] at c1
     refine ⟨?_,?_,?_⟩
     ·rw [flat_cons,← iy.eq,nat_toNat c1.1.1,nat_toNat c1.2.1]
     ·intro p hp
      rcases List.mem_cons.mp hp with q | q
      ·subst q; dsimp only; omega
      ·exact iy.ok p q
     ·rw [List.map_cons,List.nodup_cons]
      exact ⟨(any_fst y _).mp c2,iy.nd⟩
    ·cases h
   ·intro h
    cases x with
    | nil => have := h.eq; cases this
    | cons p z =>
     have he := h.eq
     rw [flat_cons] at he
     injection he with h1 he
     injection he with h2 h3
     have hz := (ih z).mpr ⟨h3,fun q hq => h.ok q (by simp [hq]),(List.nodup_cons.mp h.nd).2⟩
     rw [e] at hz
     cases hz
     have hp := h.ok p (by simp)
     have e1 : j.toNat = p.1 := by rw [h1]; rfl
     have e2 : k.toNat = p.2 := by rw [h2]; rfl
     have e3 : nat s.shifts.length = (s.shifts.length : Int) := rfl
     have e4 : nat p.1 = (p.1 : Int) := rfl
     have e5 : nat p.2 = (p.2 : Int) := rfl
     have c1 : (okJ s j && inR k 0 1000) = true := by
      rw [Bool.and_eq_true]
      unfold okJ
      rw [inR_iff,inR_iff,h1,h2,e3,e4,e5]
      omega
     have c2 : (y.any fun p => p.1 == j.toNat) = false := by
      rw [e1]; exact (any_fst _ _).mpr (List.nodup_cons.mp h.nd).1
     rw [if_pos ⟨c1,c2⟩,e1,e2]
theorem minutesIn_ok (s : State) : ∀ (l : List Int) (x : List Nat),minutesIn s l = some x ↔ l = x.map nat /\ (∀ t ∈ x,t < s.horizon) /\ x.Nodup
 | [],x => by
  unfold minutesIn
  constructor
  ·intro h; cases h; exact ⟨rfl,by simp,.nil⟩
  ·rintro ⟨h,_⟩
   cases x with
   | nil => rfl
   | cons p r => cases h
 | t :: r,x => by
  unfold minutesIn
  have ih := minutesIn_ok s r
  cases e : minutesIn s r with
  | none =>
   constructor
   ·intro h; cases h
   ·rintro ⟨h,h2,h3⟩
    cases x with
    | nil => cases h
    | cons p y =>
     injection h with h4 h5
     have := (ih y).mpr ⟨h5,fun q hq => h2 q (by simp [hq]),(List.nodup_cons.mp h3).2⟩
     rw [e] at this; cases this
  | some y =>
   obtain ⟨i1,i2,i3⟩ := (ih y).mp e
   dsimp only
   have e3 : nat s.horizon = (s.horizon : Int) := rfl
   constructor
   ·intro h
    split at h
    ·rename_i c
     cases h
     obtain ⟨c1,c2⟩ := c
     unfold okT at c1
     rw [inR_iff,e3] at c1
     refine ⟨by rw [List.map_cons,← i1,nat_toNat c1.1],?_,?_⟩
     ·intro u hu
      rcases List.mem_cons.mp hu with q | q
      ·subst q; omega
      ·exact i2 u q
     ·rw [List.nodup_cons]
      refine ⟨fun q => ?_,i3⟩
      rw [List.contains_iff_mem.mpr q] at c2; cases c2
    ·cases h
   ·rintro ⟨h,h2,h3⟩
    cases x with
    | nil => cases h
    | cons p z =>
     injection h with h4 h5
     have hz := (ih z).mpr ⟨h5,fun q hq => h2 q (by simp [hq]),(List.nodup_cons.mp h3).2⟩
     rw [e] at hz
     cases hz
     have e1 : t.toNat = p := by rw [h4]; rfl
     have e4 : nat p = (p : Int) := rfl
     have := h2 p (by simp)
     have c1 : okT s t = true := by
      unfold okT
      rw [inR_iff,e3,h4,e4]; omega
     have c2 : y.contains t.toNat = false := by
      rw [e1]
      cases q : y.contains p with
      | false => rfl
      | true => exact absurd (List.contains_iff_mem.mp q) (List.nodup_cons.mp h3).1
     rw [if_pos ⟨c1,c2⟩,e1]
def flatC (x : List Change) : List Int := x.flatMap fun c => [nat c.time,nat c.level]
theorem flatC_cons (p : Change) (x : List Change) : flatC (p :: x) = nat p.time :: nat p.level :: flatC x := rfl
theorem flatC_append (x y : List Change) : flatC (x ++ y) = flatC x ++ flatC y := by unfold flatC; rw [List.flatMap_append]
theorem flatC_len (x : List Change) : (flatC x).length = 2 * x.length := by
 induction x with
 | nil => rfl
 | cons p r ih => rw [flatC_cons,List.length_cons,List.length_cons,ih,List.length_cons]; omega
theorem changesIn_ok (s : State) : ∀ (l : List Int) (last : Int) (x : List Change),-1 <= last -> (changesIn s last l = some x ↔ l = flatC x /\ (∀ c ∈ x,c.time < s.horizon /\ c.level <= 1000 /\ last < c.time) /\ (x.Pairwise fun a b => a.time < b.time))
 | [],last,x,_ => by
  unfold changesIn
  constructor
  ·intro h; cases h; exact ⟨rfl,by simp,.nil⟩
  ·rintro ⟨h,_⟩
   cases x with
   | nil => rfl
   | cons p r => cases h
 | [a],last,x,_ => by
  unfold changesIn
  constructor
  ·intro h; cases h
  ·rintro ⟨h,_⟩
   have := congrArg List.length h
   rw [flatC_len] at this
   simp at this; omega
 | t :: v :: r,last,x,hl => by
  unfold changesIn
  have e3 : nat s.horizon = (s.horizon : Int) := rfl
  have key : (okT s t && (decide (last < t) && inR v 0 1000)) = true ↔ (0 <= t /\ t < s.horizon) /\ last < t /\ 0 <= v /\ v <= 1000 := by
   unfold okT
   rw [Bool.and_eq_true,Bool.and_eq_true,inR_iff,inR_iff,decide_eq_true_eq,e3]
   omega
  by_cases c : (okT s t && (decide (last < t) && inR v 0 1000)) = true
  ·rw [if_neg (by rw [c]; simp)]
   obtain ⟨⟨k1,k2⟩,k3,k4,k5⟩ := key.mp c
   have ih := changesIn_ok s r t
   constructor
   ·intro h
    rw [Option.map_eq_some_iff] at h
    obtain ⟨y,hy,rfl⟩ := h
    obtain ⟨i1,i2,i3⟩ := (ih y (by omega)).mp hy
    refine ⟨?_,?_,?_⟩
    ·rw [flatC_cons,← i1,nat_toNat k1,nat_toNat k4]
    ·intro c hc
     rcases List.mem_cons.mp hc with q | q
     ·subst q; dsimp only; omega
     ·have := i2 c q; omega
    ·refine .cons (fun c hc => ?_) i3
     have := i2 c hc
     dsimp only; omega
   ·rintro ⟨h1,h2,h3⟩
    cases x with
    | nil => cases h1
    | cons p y =>
     rw [flatC_cons] at h1
     injection h1 with a1 h1
     injection h1 with a2 h1
     cases h3 with
     | cons b1 b2 =>
      have e1 : t.toNat = p.time := by rw [a1]; rfl
      have e2 : v.toNat = p.level := by rw [a2]; rfl
      have e4 : nat p.time = (p.time : Int) := rfl
      have := (ih y (by omega)).mpr ⟨h1,fun c hc => by
       have q1 := h2 c (by simp [hc])
       have q2 := b1 c hc
       rw [a1,e4]; omega,b2⟩
      rw [this,Option.map_some,e1,e2]
  ·rw [if_pos (by simpa using c)]
   constructor
   ·intro h; cases h
   ·rintro ⟨h1,h2,h3⟩
    exfalso
    cases x with
    | nil => cases h1
    | cons p y =>
     rw [flatC_cons] at h1
     injection h1 with a1 h1
     injection h1 with a2 h1
     have e4 : nat p.time = (p.time : Int) := rfl
     have e5 : nat p.level = (p.level : Int) := rfl
     have q1 := h2 p (by simp)
     refine c (key.mpr ?_)
     rw [a1,a2,e4,e5]; omega
end VM
namespace VM
open Vbedai
abbrev Sh := List (Nat × Nat × Nat)
def cr (a : Sh) : Crews := a.map fun q => (q.2.1,q.2.2)
def tj (a : Sh) : List (Nat × Nat) := a.map fun q => (q.1,q.2.1)
def having (s : State) (t : Nat) : List Nat := (numbers s).filter fun j => on s j t
def shStep (s : State) (wanted : Nat -> Nat) (pick : List Nat -> Option Nat) (a : Sh) (t : Nat) : Sh :=
 if wanted t <= there s (cr a) t then a else match pick (having s t) with
  | none => a
  | some j => a ++ [(t,j,wanted t - there s (cr a) t)]
def shorts (s : State) (wanted : Nat -> Nat) (pick : List Nat -> Option Nat) (ts : List Nat) : Sh := ts.foldl (shStep s wanted pick) []
theorem cr_snoc (a : Sh) (t j n : Nat) : cr (a ++ [(t,j,n)]) = cr a ++ [(j,n)] := by unfold cr; rw [List.map_append]; rfl
theorem tj_snoc (a : Sh) (t j n : Nat) : tj (a ++ [(t,j,n)]) = tj a ++ [(t,j)] := by unfold tj; rw [List.map_append]; rfl
theorem goOn_sh (s : State) (wanted : Nat -> Nat) (pick : List Nat -> Option Nat) : ∀ (ts : List Nat) (a : Sh),
  goOn s wanted pick ts (cr a) (tj a).reverse = (cr (ts.foldl (shStep s wanted pick) a),(tj (ts.foldl (shStep s wanted pick) a)).reverse)
 | [],a => rfl
 | t :: r,a => by
  rw [List.foldl_cons]
  unfold goOn shStep
  by_cases c : wanted t <= there s (cr a) t
  ·rw [if_pos c,if_pos c]
   exact goOn_sh s wanted pick r a
  ·rw [if_neg c,if_neg c]
   show (match pick (having s t) with
    | none => goOn s wanted pick r (cr a) (tj a).reverse
    | some j => goOn s wanted pick r (cr a ++ [(j,wanted t - there s (cr a) t)]) ((t,j) :: (tj a).reverse)) = _
   cases e : pick (having s t) with
   | none => exact goOn_sh s wanted pick r a
   | some j =>
    have q := goOn_sh s wanted pick r (a ++ [(t,j,wanted t - there s (cr a) t)])
    rw [cr_snoc,tj_snoc,List.reverse_append] at q
    exact q
theorem goOn_shorts (s : State) (wanted : Nat -> Nat) (pick : List Nat -> Option Nat) (ts : List Nat) :
  goOn s wanted pick ts [] [] = (cr (shorts s wanted pick ts),(tj (shorts s wanted pick ts)).reverse) := goOn_sh s wanted pick ts []
theorem sh_sub (s : State) (wanted : Nat -> Nat) (pick : List Nat -> Option Nat) : ∀ (ts : List Nat) (a : Sh),
  ∃ l,(ts.foldl (shStep s wanted pick) a).map (·.1) = a.map (·.1) ++ l /\ l.Sublist ts
 | [],a => ⟨[],by simp,.slnil⟩
 | t :: r,a => by
  rw [List.foldl_cons]
  obtain ⟨l,e,h⟩ := sh_sub s wanted pick r (shStep s wanted pick a t)
  rw [e]
  unfold shStep
  split
  ·exact ⟨l,rfl,h.cons _⟩
  ·split
   ·exact ⟨l,rfl,h.cons _⟩
   ·refine ⟨t :: l,?_,h.cons_cons _⟩
    rw [List.map_append,List.append_assoc]; rfl
theorem shorts_nodup {s : State} {wanted : Nat -> Nat} {pick : List Nat -> Option Nat} {ts : List Nat} (h : ts.Nodup) : ((shorts s wanted pick ts).map (·.1)).Nodup := by
 obtain ⟨l,e,q⟩ := sh_sub s wanted pick ts []
 unfold shorts
 rw [e]
 simpa using h.sublist q
def InN (n : Nat) (x : Crews) : Prop := ∀ p ∈ x,p.1 < n
theorem having_lt {s : State} {t j : Nat} (h : j ∈ having s t) : j < s.shifts.length := by
 unfold having numbers at h
 rw [List.mem_filter,List.mem_range] at h
 exact h.1
structure Pick (p : List Nat -> Option Nat) : Prop where
 no : ∀ l,p l = none ↔ l = []
 mem : ∀ l k,p l = some k -> k ∈ l
theorem pick_last (s : State) : Pick (lastEnd s) := ⟨lastEnd_none s,lastEnd_mem s⟩
theorem pick_first (s : State) : Pick (firstStart s) := ⟨firstStart_none s,firstStart_mem s⟩
theorem sh_in {s : State} {wanted : Nat -> Nat} {pick : List Nat -> Option Nat} (hp : Pick pick) {a : Sh} (t : Nat) (h : InN s.shifts.length (cr a)) : InN s.shifts.length (cr (shStep s wanted pick a t)) := by
 unfold shStep
 split
 ·exact h
 ·split
  ·exact h
  ·rename_i j e
   rw [cr_snoc]
   intro p hm
   rcases List.mem_append.mp hm with z | z
   ·exact h p z
   ·rw [List.mem_singleton] at z
    subst z
    exact having_lt (hp.mem _ _ e)
theorem shs_in {s : State} {wanted : Nat -> Nat} {pick : List Nat -> Option Nat} (hp : Pick pick) : ∀ (ts : List Nat) (a : Sh),InN s.shifts.length (cr a) -> InN s.shifts.length (cr (ts.foldl (shStep s wanted pick) a))
 | [],_,h => h
 | t :: r,a,h => shs_in hp r _ (sh_in hp t h)
theorem shorts_in {s : State} {wanted : Nat -> Nat} {pick : List Nat -> Option Nat} (hp : Pick pick) (ts : List Nat) : InN s.shifts.length (cr (shorts s wanted pick ts)) := shs_in hp ts [] (by intro p h; cases h)
def wit (s : State) (a : Sh) : List Nat := (tj a).reverse.foldl (take1 s) []
theorem wit_chosen (s : State) (a : Sh) : (chosen s (tj a).reverse []).reverse = wit s a := chosen_fold s _ []
theorem wit_mem (s : State) (a : Sh) (t : Nat) : t ∈ wit s a ↔ t ∈ chosen s (tj a).reverse [] := by rw [<- wit_chosen,List.mem_reverse]
theorem tj_fst (a : Sh) : (tj a).map (·.1) = a.map (·.1) := by unfold tj; rw [List.map_map]; rfl
theorem wit_nodup {s : State} {a : Sh} (h : (a.map (·.1)).Nodup) : (wit s a).Nodup := by
 refine take1_sub s _ [] ?_
 rw [List.append_nil,List.map_reverse,tj_fst]
 exact List.pairwise_reverse.mpr (h.imp fun q => Ne.symm q)
theorem wit_sorted {s : State} {a : Sh} (h : (a.map (·.1)).Nodup) {l : List Nat} (hp : l.Perm (wit s a)) (hs : l.Pairwise (· <= ·)) : l = sorted (chosen s (tj a).reverse []) := by
 refine inc_unique ?_ (sorted_inc _) fun x => ?_
 ·have nd : l.Nodup := hp.nodup_iff.mpr (wit_nodup h)
  exact (hs.and nd).imp fun z => Nat.lt_of_le_of_ne z.1 z.2
 ·rw [sorted_mem,hp.mem_iff,wit_mem]
theorem told_least {s : State} {wanted : Nat -> Nat} {pick : List Nat -> Option Nat} (hp : Pick pick) (ts : List Nat) :
  let y := goOn s wanted pick ts [] []
  told (gathered s y.1,sorted (chosen s y.2 [])) = nat (total (cr (shorts s wanted pick ts))) :: (pairsOut (gathered s (cr (shorts s wanted pick ts))) ++ listed (sorted (chosen s (tj (shorts s wanted pick ts)).reverse []))) := by
 intro y
 have e : y = _ := goOn_shorts s wanted pick ts
 rw [e]
 unfold told
 rw [total_gathered s _ (shorts_in hp ts)]
def gapAt (s : State) (wanted : Nat -> Nat) (pick : List Nat -> Option Nat) (t : Nat) : Bool := decide (0 < wanted t) && (pick (having s t)).isNone
theorem any_filter (f : Nat -> Bool) : ∀ l : List Nat,(l.any f) = !(l.filter f).isEmpty
 | [] => rfl
 | x :: r => by
  rw [List.any_cons,List.filter_cons,any_filter f r]
  cases f x <;> simp
theorem gap_bare {s : State} {wanted : Nat -> Nat} {pick : List Nat -> Option Nat} (hp : Pick pick) (t : Nat) : gapAt s wanted pick t = (decide (0 < wanted t) && !(numbers s).any fun j => on s j t) := by
 unfold gapAt
 congr 1
 rw [any_filter,Bool.not_not]
 show _ = (having s t).isEmpty
 cases e : having s t with
 | nil => rw [(hp.no []).mpr rfl]; rfl
 | cons x r =>
  cases q : pick (x :: r) with
  | none => exact absurd ((hp.no _).mp q) (by simp)
  | some j => rfl
theorem find_bare {s : State} {wanted : Nat -> Nat} {pick : List Nat -> Option Nat} (hp : Pick pick) : (points s).find? (gapAt s wanted pick) = bare s wanted := by
 unfold bare
 congr 1
 funext t
 exact gap_bare hp t
theorem find_back {s : State} {wanted : Nat -> Nat} {pick : List Nat -> Option Nat} (hp : Pick pick) : ((points s).reverse.find? (gapAt s wanted pick)).isSome = (bare s wanted).isSome := by
 rw [<- find_bare hp,Bool.eq_iff_iff,List.find?_isSome,List.find?_isSome]
 simp
theorem leastK_more (s : State) (n : Nat) : ∀ (f lo hi : Nat),hi - lo < 2 ^ f -> leastK s n f lo hi = leastK s n (f + 1) lo hi
 | 0,lo,hi,h => by
  show lo = if hi <= lo then lo else _
  rw [if_pos (by simp at h; omega)]
 | f + 1,lo,hi,h => by
  rw [leastK,leastK]
  by_cases c : hi <= lo
  ·rw [if_pos c,if_pos c]
  ·rw [if_neg c,if_neg c]
   have p : 2 ^ (f + 1) = 2 ^ f + 2 ^ f := by rw [Nat.pow_succ]; omega
   simp only
   rw [<- leastK_more s n f lo ((lo + hi) / 2) (by omega),← leastK_more s n f ((lo + hi) / 2 + 1) hi (by omega)]
theorem leastK_step (s : State) (n f lo hi : Nat) (h : hi - lo < 2 ^ f) (c : lo < hi) : leastK s n f lo hi = if does s n ((lo + hi) / 2) = true then leastK s n f lo ((lo + hi) / 2) else leastK s n f ((lo + hi) / 2 + 1) hi := by
 rw [leastK_more s n f lo hi h]
 show (if hi <= lo then lo else _) = _
 rw [if_neg (by omega)]
theorem leastK_end (s : State) (n f lo hi : Nat) (c : ¬ lo < hi) : leastK s n f lo hi = lo := by
 cases f with
 | zero => rfl
 | succ f => show (if hi <= lo then lo else _) = _; rw [if_pos (by omega)]
end VM
namespace VM
open Vbedai
theorem flat_take : ∀ (x : Crews) (i : Nat),(flat x).take (2 * i) = flat (x.take i)
 | [],i => by simp [flat]
 | p :: r,0 => by simp [flat]
 | p :: r,i + 1 => by
  rw [flat_cons,show 2 * (i + 1) = 2 * i + 1 + 1 by omega,List.take_succ_cons,List.take_succ_cons,flat_take r i,List.take_succ_cons,flat_cons]
theorem flat_fst : ∀ (x : Crews) (i : Nat),(flat x)[2 * i]? = (x[i]?).map fun p => nat p.1
 | [],i => by simp [flat]
 | p :: r,0 => by simp [flat]
 | p :: r,i + 1 => by
  rw [flat_cons,show 2 * (i + 1) = 2 * i + 1 + 1 by omega,List.getElem?_cons_succ,List.getElem?_cons_succ,flat_fst r i,List.getElem?_cons_succ]
theorem flat_snd : ∀ (x : Crews) (i : Nat),(flat x)[2 * i + 1]? = (x[i]?).map fun p => nat p.2
 | [],i => by simp [flat]
 | p :: r,0 => by simp [flat]
 | p :: r,i + 1 => by
  rw [flat_cons,show 2 * (i + 1) + 1 = 2 * i + 1 + 1 + 1 by omega,List.getElem?_cons_succ,List.getElem?_cons_succ,flat_snd r i,List.getElem?_cons_succ]
theorem nat_inj {a b : Nat} (h : nat a = nat b) : a = b := Int.ofNat.inj h
theorem flat_inj : ∀ {x y : Crews},flat x = flat y -> x = y
 | [],[],_ => rfl
 | [],q :: r,h => by rw [flat_cons] at h; cases h
 | p :: r,[],h => by rw [flat_cons] at h; cases h
 | p :: r,q :: t,h => by
  rw [flat_cons,flat_cons] at h
  injection h with h1 h2
  injection h2 with h2 h3
  rw [flat_inj h3,show p = q from Prod.ext (nat_inj h1) (nat_inj h2)]
theorem take_two {l : List Int} {i : Nat} {a b : Int} (h1 : l[2 * i]? = some a) (h2 : l[2 * i + 1]? = some b) : l.take (2 * (i + 1)) = l.take (2 * i) ++ [a,b] := by
 rw [show 2 * (i + 1) = 2 * i + 1 + 1 by omega,List.take_add_one,List.take_add_one,h1,h2,List.append_assoc]
 rfl
theorem isCrews_nil (s : State) (l : List Int) : IsCrews s (l.take (2 * 0)) [] := ⟨by simp [flat],by simp,by simp⟩
theorem isCrews_more {s : State} {l : List Int} {i : Nat} {x : Crews} {j k : Int} (h : IsCrews s (l.take (2 * i)) x) (h1 : l[2 * i]? = some j) (h2 : l[2 * i + 1]? = some k) (oj : okJ s j = true) (ok : inR k 0 1000 = true) (nw : j.toNat ∉ x.map (·.1)) :
  IsCrews s (l.take (2 * (i + 1))) (x ++ [(j.toNat,k.toNat)]) := by
 unfold okJ at oj
 rw [inR_iff] at oj ok
 refine ⟨?_,?_,?_⟩
 ·rw [take_two h1 h2,h.eq,flat_append]
  show _ ++ _ = _ ++ [nat j.toNat,nat k.toNat]
  rw [nat_toNat oj.1,nat_toNat ok.1]
 ·intro p hp
  rcases List.mem_append.mp hp with z | z
  ·exact h.ok p z
  ·rw [List.mem_singleton] at z
   subst z
   simp only [nat,Int.ofNat_eq_natCast] at oj
   exact ⟨by show j.toNat < _; omega,by show k.toNat <= _; omega⟩
 ·rw [List.map_append,List.nodup_append]
  refine ⟨h.nd,by simp,?_⟩
  intro a ha b hb e
  simp at hb
  subst hb
  exact nw (e ▸ ha)
theorem isCrews_at {s : State} {l : List Int} {i : Nat} {x y : Crews} {j k : Int} (h : IsCrews s (l.take (2 * i)) x) (hy : IsCrews s l y) (h1 : l[2 * i]? = some j) (h2 : l[2 * i + 1]? = some k) :
  okJ s j = true /\ inR k 0 1000 = true /\ j.toNat ∉ x.map (·.1) := by
 have e1 := hy.eq
 rw [e1,flat_fst] at h1
 rw [e1,flat_snd] at h2
 cases q : y[i]? with
 | none => rw [q] at h1; cases h1
 | some p =>
  rw [q] at h1 h2
  have ej : nat p.1 = j := Option.some.inj h1
  have ek : nat p.2 = k := Option.some.inj h2
  subst ej; subst ek
  have ep := hy.ok p (List.mem_of_getElem? q)
  have ex : y.take i = x := flat_inj (by rw [<- flat_take,← e1]; exact h.eq)
  refine ⟨?_,?_,?_⟩
  ·unfold okJ; rw [inR_iff]; simp only [nat,Int.ofNat_eq_natCast]; omega
  ·rw [inR_iff]; simp only [nat,Int.ofNat_eq_natCast]; omega
  ·rw [<- ex]
   show p.1 ∉ _
   intro hm
   rw [List.map_take] at hm
   obtain ⟨m,hm1,hm2⟩ := List.mem_take_iff_getElem.mp hm
   have hi : i < (y.map (·.1)).length := by
    rw [List.length_map]
    obtain ⟨z,_⟩ := List.getElem?_eq_some_iff.mp q
    exact z
   have e3 : (y.map (·.1))[i] = p.1 := by
    rw [List.getElem_map]
    obtain ⟨z,e⟩ := List.getElem?_eq_some_iff.mp q
    rw [e]
   have := (List.getElem_inj (h₀ := by omega) (h₁ := hi) hy.nd).mp (hm2.trans e3.symm)
   omega
theorem isCrews_end {s : State} {l : List Int} {i : Nat} {x : Crews} (h : IsCrews s (l.take (2 * i)) x) (e : l.length = 2 * i) : crewsIn s l = some x := by
 rw [crewsIn_ok]
 rw [<- e,List.take_length] at h
 exact h
theorem crewsIn_bad {s : State} {l : List Int} {i : Nat} {x : Crews} {j k : Int} (h : IsCrews s (l.take (2 * i)) x) (h1 : l[2 * i]? = some j) (h2 : l[2 * i + 1]? = some k)
  (b : okJ s j = false ∨ inR k 0 1000 = false ∨ j.toNat ∈ x.map (·.1)) : crewsIn s l = none := by
 cases q : crewsIn s l with
 | none => rfl
 | some y =>
  obtain ⟨z1,z2,z3⟩ := isCrews_at h ((crewsIn_ok s l y).mp q) h1 h2
  rcases b with b | b | b
  ·rw [b] at z1; cases z1
  ·rw [b] at z2; cases z2
  ·exact absurd b z3
theorem crewsIn_odd {s : State} {l : List Int} (h : l.length % 2 ≠ 0) : crewsIn s l = none := by
 cases q : crewsIn s l with
 | none => rfl
 | some y =>
  have e := ((crewsIn_ok s l y).mp q).eq
  rw [e,flat_len] at h
  omega
def onAll (s : State) (x : Crews) : List Int := (numbers s).map fun j => nat (onJ x j)
theorem onAll_len (s : State) (x : Crews) : (onAll s x).length = s.shifts.length := by unfold onAll numbers; simp
theorem onAll_get {s : State} {x : Crews} {j : Nat} (h : j < s.shifts.length) : (onAll s x)[j]? = some (nat (onJ x j)) := by
 unfold onAll numbers
 rw [List.getElem?_map,List.getElem?_range h]; rfl
theorem isCrews_in {s : State} {l : List Int} {x : Crews} (h : IsCrews s l x) : InN s.shifts.length x := fun p hp => (h.ok p hp).1
theorem onJ_none {x : Crews} {j : Nat} (h : j ∉ x.map (·.1)) : onJ x j = 0 := by
 unfold onJ
 rw [List.filter_eq_nil_iff.mpr fun p hp e => h (List.mem_map.mpr ⟨p,hp,by simpa using e⟩)]
 rfl
theorem onJ_cons (p : Nat × Nat) (x : Crews) (j : Nat) : onJ (p :: x) j = (if p.1 = j then p.2 else 0) + onJ x j := by
 rw [show p :: x = [p] ++ x from rfl,onJ_append,onJ_one]
theorem onJ_find : ∀ (x : Crews) (j : Nat),(x.map (·.1)).Nodup -> onJ x j = ((x.find? fun p => p.1 == j).map (·.2)).getD 0
 | [],j,_ => rfl
 | p :: r,j,h => by
  rw [onJ_cons,List.find?_cons]
  rw [List.map_cons,List.nodup_cons] at h
  by_cases c : p.1 = j
  ·subst c
   rw [onJ_none h.1]; simp
  ·rw [if_neg c,onJ_find r j h.2,show (p.1 == j) = false from beq_eq_false_iff_ne.mpr c]
   simp
theorem onJ_le {s : State} {l : List Int} {x : Crews} (h : IsCrews s l x) (j : Nat) : onJ x j <= 1000 := by
 rw [onJ_find x j h.nd]
 cases q : x.find? fun p => p.1 == j with
 | none => simp
 | some p => exact (h.ok p (List.mem_of_find?_eq_some q)).2
theorem sum_nat : ∀ l : List Nat,(l.map nat).sum = nat l.sum
 | [] => rfl
 | a :: r => by
  rw [List.map_cons,List.sum_cons,List.sum_cons,sum_nat r]; rfl
theorem sum_cast (l : List Nat) (f : Nat -> Nat) : (l.map fun j => nat (f j)).sum = nat (l.map f).sum := by
 rw [<- sum_nat,List.map_map]; rfl
theorem onAll_sum {s : State} {x : Crews} (h : InN s.shifts.length x) : (onAll s x).sum = nat (total x) := by
 unfold onAll
 rw [sum_cast,show (numbers s).map (fun j => onJ x j) = (List.range s.shifts.length).map (onJ x) from rfl,total_onJ _ x h]
theorem there_sum {s : State} {x : Crews} (h : InN s.shifts.length x) (t : Nat) : ((having s t).map fun j => nat (onJ x j)).sum = nat (there s x t) := by
 rw [sum_cast,there_onJ s x t h]; rfl
theorem engaged_sum {s : State} {x : Crews} (h : InN s.shifts.length x) (t : Nat) :
  (((numbers s).filter fun j => decide ((shiftOf s j).a <= t) && decide (t < (shiftOf s j).b + s.rest)).map fun j => nat (onJ x j)).sum = nat (engaged s x t) := by
 rw [sum_cast]
 unfold engaged numbers
 rw [sum_onJ (fun j => decide ((shiftOf s j).a <= t) && decide (t < (shiftOf s j).b + s.rest)) _ x h]
theorem sum_add (l : List Nat) (f g : Nat -> Int) : (l.map fun j => f j + g j).sum = (l.map f).sum + (l.map g).sum := by
 induction l with
 | nil => rfl
 | cons a r ih => rw [List.map_cons,List.sum_cons,ih,List.map_cons,List.sum_cons,List.map_cons,List.sum_cons]; omega
theorem sum_pick (k : Nat) (v : Int) : ∀ l : List Nat,l.Nodup -> (l.map fun j => if k = j then v else 0).sum = if k ∈ l then v else 0
 | [],_ => rfl
 | a :: r,h => by
  rw [List.nodup_cons] at h
  rw [List.map_cons,List.sum_cons,sum_pick k v r h.2]
  by_cases c : k = a
  ·subst c; rw [if_pos rfl,if_neg h.1,if_pos (by simp)]; omega
  ·rw [if_neg c]
   by_cases d : k ∈ r
   ·rw [if_pos d,if_pos (by simp [d])]; omega
   ·rw [if_neg d,if_neg (by simp [c,d])]; omega
theorem hours_sum (n : Nat) (f : Nat -> Int) : ∀ x : Crews,InN n x -> ((List.range n).map fun j => nat (onJ x j) * f j).sum = (x.map fun p => nat p.2 * f p.1).sum
 | [],_ => by
  have : ∀ l : List Nat,(l.map fun j => nat (onJ [] j) * f j).sum = 0 := by
   intro l
   induction l with
   | nil => rfl
   | cons a r ih => rw [List.map_cons,List.sum_cons,ih,show onJ [] a = 0 from rfl]; simp [nat]
  rw [this]; rfl
 | p :: r,h => by
  have hp := h p (by simp)
  have e : (fun j => nat (onJ (p :: r) j) * f j) = fun j => (if p.1 = j then nat p.2 * f p.1 else 0) + nat (onJ r j) * f j := by
   funext j
   rw [onJ_cons]
   by_cases c : p.1 = j
   ·subst c; rw [if_pos rfl,if_pos rfl]; simp only [nat,Int.ofNat_eq_natCast]; rw [Int.natCast_add,Int.add_mul]
   ·rw [if_neg c,if_neg c]; simp
  rw [e,sum_add,sum_pick _ _ _ List.nodup_range,if_pos (List.mem_range.mpr hp),hours_sum n f r fun q hq => h q (by simp [hq])]
  rw [List.map_cons,List.sum_cons]
theorem fold_sum (f : Nat × Nat -> Int) : ∀ (x : Crews) (z : Int),x.foldl (fun n p => n + f p) z = z + (x.map f).sum
 | [],z => by simp
 | p :: r,z => by rw [List.foldl_cons,fold_sum f r,List.map_cons,List.sum_cons]; omega
theorem hours_eq {s : State} {x : Crews} (h : InN s.shifts.length x) :
  ((numbers s).map fun j => nat (onJ x j) * (nat (shiftOf s j).b - nat (shiftOf s j).a)).sum = x.foldl (fun n p => n + nat p.2 * (nat (shiftOf s p.1).b - nat (shiftOf s p.1).a)) 0 := by
 rw [fold_sum (fun p => nat p.2 * (nat (shiftOf s p.1).b - nat (shiftOf s p.1).a)),show numbers s = List.range s.shifts.length from rfl,
  hours_sum _ (fun j => nat (shiftOf s j).b - nat (shiftOf s j).a) x h]
 omega
def illed (x : Crews) (j k : Nat) : Crews := x.map fun p => if p.1 = j then (p.1,p.2 - k) else p
theorem illed_fst (x : Crews) (j k : Nat) : (illed x j k).map (·.1) = x.map (·.1) := by
 unfold illed
 rw [List.map_map]
 congr 1
 funext p
 show (if p.1 = j then (p.1,p.2 - k) else p).1 = p.1
 split <;> rfl
theorem illed_in {n : Nat} {x : Crews} (h : InN n x) (j k : Nat) : InN n (illed x j k) := by
 intro p hp
 have : p.1 ∈ (illed x j k).map (·.1) := List.mem_map.mpr ⟨p,hp,rfl⟩
 rw [illed_fst] at this
 obtain ⟨q,hq,e⟩ := List.mem_map.mp this
 rw [<- e]; exact h q hq
theorem illed_on : ∀ (x : Crews) (j k i : Nat),(x.map (·.1)).Nodup -> onJ (illed x j k) i = if i = j then onJ x j - k else onJ x i
 | [],j,k,i,_ => by
  show onJ [] i = _
  rw [show onJ [] i = 0 from rfl,show onJ [] j = 0 from rfl]; simp
 | p :: r,j,k,i,h => by
  rw [List.map_cons,List.nodup_cons] at h
  show onJ ((if p.1 = j then (p.1,p.2 - k) else p) :: illed r j k) i = _
  rw [onJ_cons,illed_on r j k i h.2,onJ_cons,onJ_cons]
  by_cases c : p.1 = j
  ·rw [if_pos c,if_pos c,onJ_none (j := j) (by rw [<- c]; exact h.1)]
   by_cases d : i = j
   ·subst d; rw [if_pos c,if_pos rfl,if_pos rfl]; simp
   ·rw [if_neg d,if_neg d,if_neg (by rw [c]; exact fun q => d q.symm),if_neg (by rw [c]; exact fun q => d q.symm)]
  ·rw [if_neg c,if_neg c]
   by_cases d : i = j
   ·subst d; rw [if_neg c,if_pos rfl,if_pos rfl]; omega
   ·rw [if_neg d,if_neg d]
end VM
namespace VM
open Vbedai
theorem flatC_take : ∀ (x : List Change) (i : Nat),(flatC x).take (2 * i) = flatC (x.take i)
 | [],i => by simp [flatC]
 | p :: r,0 => by simp [flatC]
 | p :: r,i + 1 => by
  rw [flatC_cons,show 2 * (i + 1) = 2 * i + 1 + 1 by omega,List.take_succ_cons,List.take_succ_cons,flatC_take r i,List.take_succ_cons,flatC_cons]
theorem flatC_fst : ∀ (x : List Change) (i : Nat),(flatC x)[2 * i]? = (x[i]?).map fun p => nat p.time
 | [],i => by simp [flatC]
 | p :: r,0 => by simp [flatC]
 | p :: r,i + 1 => by
  rw [flatC_cons,show 2 * (i + 1) = 2 * i + 1 + 1 by omega,List.getElem?_cons_succ,List.getElem?_cons_succ,flatC_fst r i,List.getElem?_cons_succ]
theorem flatC_snd : ∀ (x : List Change) (i : Nat),(flatC x)[2 * i + 1]? = (x[i]?).map fun p => nat p.level
 | [],i => by simp [flatC]
 | p :: r,0 => by simp [flatC]
 | p :: r,i + 1 => by
  rw [flatC_cons,show 2 * (i + 1) + 1 = 2 * i + 1 + 1 + 1 by omega,List.getElem?_cons_succ,List.getElem?_cons_succ,flatC_snd r i,List.getElem?_cons_succ]
theorem flatC_inj : ∀ {x y : List Change},flatC x = flatC y -> x = y
 | [],[],_ => rfl
 | [],q :: r,h => by rw [flatC_cons] at h; cases h
 | p :: r,[],h => by rw [flatC_cons] at h; cases h
 | p :: r,q :: t,h => by
  rw [flatC_cons,flatC_cons] at h
  injection h with h1 h2
  injection h2 with h2 h3
  obtain ⟨a,b⟩ := p
  obtain ⟨c,d⟩ := q
  have e1 : a = c := nat_inj h1
  have e2 : b = d := nat_inj h2
  subst e1; subst e2
  rw [flatC_inj h3]
structure IsCh (s : State) (l : List Int) (x : List Change) : Prop where
 eq : l = flatC x
 ok : ∀ c ∈ x,c.time < s.horizon /\ c.level <= 1000
 inc : x.Pairwise fun a b => a.time < b.time
theorem isCh_iff (s : State) (l : List Int) (x : List Change) : changesIn s (-1) l = some x ↔ IsCh s l x := by
 rw [changesIn_ok s l (-1) x (by omega)]
 constructor
 ·rintro ⟨a,b,c⟩; exact ⟨a,fun d hd => ⟨(b d hd).1,(b d hd).2.1⟩,c⟩
 ·rintro ⟨a,b,c⟩; exact ⟨a,fun d hd => ⟨(b d hd).1,(b d hd).2,by omega⟩,c⟩
def Early (x : List Change) (e : Int) : Prop := (∀ c ∈ x,nat c.time < e) /\ (e = 0 ∨ ∃ c ∈ x,e = nat c.time + 1)
theorem early_nil : Early [] 0 := ⟨by simp,.inl rfl⟩
theorem isCh_nil (s : State) (l : List Int) : IsCh s (l.take (2 * 0)) [] := ⟨by simp [flatC],by simp,.nil⟩
theorem isCh_more {s : State} {l : List Int} {i : Nat} {x : List Change} {t v e : Int} (h : IsCh s (l.take (2 * i)) x) (he : Early x e) (h1 : l[2 * i]? = some t) (h2 : l[2 * i + 1]? = some v)
  (ot : e <= t /\ t <= nat s.horizon - 1) (ov : 0 <= v /\ v <= 1000) : IsCh s (l.take (2 * (i + 1))) (x ++ [⟨t.toNat,v.toNat⟩]) /\ Early (x ++ [⟨t.toNat,v.toNat⟩]) (t + 1) := by
 have e0 : 0 <= e := by
  rcases he.2 with z | ⟨c,_,z⟩
  ·omega
  ·rw [z]; simp only [nat,Int.ofNat_eq_natCast]; omega
 have t0 : 0 <= t := by omega
 have et : nat t.toNat = t := nat_toNat t0
 simp only [nat,Int.ofNat_eq_natCast] at ot
 refine ⟨⟨?_,?_,?_⟩,?_,.inr ⟨⟨t.toNat,v.toNat⟩,by simp,?_⟩⟩
 ·rw [take_two h1 h2,h.eq,flatC_append]
  show _ ++ _ = _ ++ [nat t.toNat,nat v.toNat]
  rw [et,nat_toNat ov.1]
 ·intro c hc
  rcases List.mem_append.mp hc with z | z
  ·exact h.ok c z
  ·rw [List.mem_singleton] at z
   subst z
   exact ⟨by show t.toNat < _; omega,by show v.toNat <= _; omega⟩
 ·rw [List.pairwise_append]
  refine ⟨h.inc,by simp,fun a ha b hb => ?_⟩
  rw [List.mem_singleton] at hb
  subst hb
  have := he.1 a ha
  simp only [nat,Int.ofNat_eq_natCast] at this
  show a.time < t.toNat
  omega
 ·intro c hc
  rcases List.mem_append.mp hc with z | z
  ·have := he.1 c z; omega
  ·rw [List.mem_singleton] at z
   subst z
   show nat t.toNat < _
   omega
 ·show _ = nat t.toNat + 1
  omega
theorem changesIn_bad {s : State} {l : List Int} {i : Nat} {x : List Change} {t v e : Int} (h : IsCh s (l.take (2 * i)) x) (he : Early x e) (h1 : l[2 * i]? = some t) (h2 : l[2 * i + 1]? = some v)
  (b : ¬ ((e <= t /\ t <= nat s.horizon - 1) /\ 0 <= v /\ v <= 1000)) : changesIn s (-1) l = none := by
 cases q : changesIn s (-1) l with
 | none => rfl
 | some y =>
  exfalso
  apply b
  have hy := (isCh_iff s l y).mp q
  have e1 := hy.eq
  rw [e1,flatC_fst] at h1
  rw [e1,flatC_snd] at h2
  cases q2 : y[i]? with
  | none => rw [q2] at h1; cases h1
  | some p =>
   rw [q2] at h1 h2
   have ej : nat p.time = t := Option.some.inj h1
   have ek : nat p.level = v := Option.some.inj h2
   subst ej; subst ek
   have ep := hy.ok p (List.mem_of_getElem? q2)
   have ex : y.take i = x := flatC_inj (by rw [<- flatC_take,← e1]; exact h.eq)
   obtain ⟨hi,ep2⟩ := List.getElem?_eq_some_iff.mp q2
   refine ⟨⟨?_,?_⟩,?_,?_⟩
   ·rcases he.2 with z | ⟨c,hc,z⟩
    ·rw [z]; simp only [nat,Int.ofNat_eq_natCast]; omega
    ·rw [<- ex] at hc
     obtain ⟨m,hm1,hm2⟩ := List.mem_take_iff_getElem.mp hc
     have := List.pairwise_iff_getElem.mp hy.inc m i (by omega) hi (by omega)
     rw [hm2,ep2] at this
     rw [z]; simp only [nat,Int.ofNat_eq_natCast]; omega
   ·simp only [nat,Int.ofNat_eq_natCast]; omega
   ·simp only [nat,Int.ofNat_eq_natCast]; omega
   ·simp only [nat,Int.ofNat_eq_natCast]; omega
theorem isCh_end {s : State} {l : List Int} {i : Nat} {x : List Change} (h : IsCh s (l.take (2 * i)) x) (e : l.length = 2 * i) : changesIn s (-1) l = some x := by
 rw [isCh_iff]
 rw [<- e,List.take_length] at h
 exact h
theorem changesIn_odd {s : State} {l : List Int} (h : l.length % 2 ≠ 0) : changesIn s (-1) l = none := by
 cases q : changesIn s (-1) l with
 | none => rfl
 | some y =>
  have e := ((isCh_iff s l y).mp q).eq
  rw [e,flatC_len] at h
  omega
structure IsMin (s : State) (l : List Int) (x : List Nat) : Prop where
 eq : l = x.map nat
 ok : ∀ t ∈ x,t < s.horizon
 nd : x.Nodup
theorem isMin_iff (s : State) (l : List Int) (x : List Nat) : minutesIn s l = some x ↔ IsMin s l x := by
 rw [minutesIn_ok]
 exact ⟨fun ⟨a,b,c⟩ => ⟨a,b,c⟩,fun ⟨a,b,c⟩ => ⟨a,b,c⟩⟩
theorem isMin_nil (s : State) (l : List Int) : IsMin s (l.take 0) [] := ⟨by simp,by simp,.nil⟩
theorem isMin_more {s : State} {l : List Int} {i : Nat} {x : List Nat} {t : Int} (h : IsMin s (l.take i) x) (h1 : l[i]? = some t) (ot : okT s t = true) (nw : t ∉ l.take i) : IsMin s (l.take (i + 1)) (x ++ [t.toNat]) := by
 unfold okT at ot
 rw [inR_iff] at ot
 have et := nat_toNat ot.1
 refine ⟨?_,?_,?_⟩
 ·rw [List.take_add_one,h1,h.eq,List.map_append]
  show _ ++ [t] = _ ++ [nat t.toNat]
  rw [et]
 ·intro c hc
  rcases List.mem_append.mp hc with z | z
  ·exact h.ok c z
  ·rw [List.mem_singleton] at z
   subst z
   simp only [nat,Int.ofNat_eq_natCast] at ot
   omega
 ·rw [List.nodup_append]
  refine ⟨h.nd,by simp,?_⟩
  intro a ha b hb e
  rw [List.mem_singleton] at hb
  subst hb; subst e
  apply nw
  rw [h.eq]
  exact List.mem_map.mpr ⟨_,ha,et⟩
theorem minutesIn_bad {s : State} {l : List Int} {i : Nat} {t : Int} (h1 : l[i]? = some t) (b : okT s t = false ∨ t ∈ l.take i) : minutesIn s l = none := by
 cases q : minutesIn s l with
 | none => rfl
 | some y =>
  exfalso
  have hy := (isMin_iff s l y).mp q
  have e1 := hy.eq
  have h1' := h1
  rw [e1,List.getElem?_map] at h1
  cases q2 : y[i]? with
  | none => rw [q2] at h1; cases h1
  | some p =>
   rw [q2] at h1
   have ej : nat p = t := Option.some.inj h1
   subst ej
   rcases b with b | b
   ·have := hy.ok p (List.mem_of_getElem? q2)
    have z : okT s (nat p) = true := by unfold okT; rw [inR_iff]; simp only [nat,Int.ofNat_eq_natCast]; omega
    rw [z] at b; cases b
   ·rw [e1,← List.map_take] at b
    obtain ⟨m,hm,em⟩ := List.mem_map.mp b
    have := nat_inj em
    subst this
    obtain ⟨k,hk1,hk2⟩ := List.mem_take_iff_getElem.mp hm
    obtain ⟨hi,ep2⟩ := List.getElem?_eq_some_iff.mp q2
    have := (List.getElem_inj (h₀ := by omega) (h₁ := hi) hy.nd).mp (hk2.trans ep2.symm)
    omega
theorem rowsIn_eq (s : State) : ∀ rows : List (List Int),rowsIn s rows = if (rows.all fun l => l.all (okJ s)) = true then some (rows.map fun l => l.map Int.toNat) else none
 | [] => rfl
 | l :: r => by
  unfold rowsIn
  rw [rowsIn_eq s r]
  unfold shiftsIn
  rw [List.all_cons]
  by_cases c : l.all (okJ s) = true
  ·rw [if_pos c]
   by_cases d : (r.all fun l => l.all (okJ s)) = true
   ·rw [if_pos d,if_pos (by rw [c,d]; rfl)]; rfl
   ·rw [if_neg d,if_neg (by rw [c]; simpa using d)]
  ·have d : l.all (okJ s) = false := by simpa using c
   rw [d,Bool.false_and,if_neg (show ¬ (false = true) by simp),if_neg (show ¬ (false = true) by simp)]
def okAt (s : State) (l : List Nat) (m : Nat) : Prop := (shiftOf s (l.getD (m - 1) 0)).b + s.rest <= (shiftOf s (l.getD m 0)).a
theorem wrong_some (s : State) : ∀ (l : List Nat) (i k : Nat),1 <= k -> k < l.length -> (∀ m,1 <= m -> m < k -> okAt s l m) -> ¬ okAt s l k -> wrongAt s i l = some (i + k)
 | [],i,k,_,h,_,_ => by simp at h
 | [x],i,k,h1,h,_,_ => by simp at h; omega
 | x :: y :: r,i,k,h1,h,ok,bad => by
  unfold wrongAt
  by_cases c : k = 1
  ·subst c
   rw [if_neg (show ¬ (shiftOf s x).b + s.rest <= (shiftOf s y).a from bad)]
  ·rw [if_pos (show (shiftOf s x).b + s.rest <= (shiftOf s y).a from ok 1 (by omega) (by omega))]
   have q := wrong_some s (y :: r) (i + 1) (k - 1) (by omega) (by simp at h ⊢; omega) (fun m hm1 hm2 => ?_) ?_
   ·rw [q]; congr 1; omega
   ·have := ok (m + 1) (by omega) (by omega)
    unfold okAt at this ⊢
    obtain ⟨m,rfl⟩ : ∃ m',m = m' + 1 := ⟨m - 1,by omega⟩
    exact this
   ·intro z
    apply bad
    obtain ⟨m,rfl⟩ : ∃ m',k = m' + 2 := ⟨k - 2,by omega⟩
    exact z
theorem wrong_none (s : State) : ∀ (l : List Nat) (i : Nat),(∀ m,1 <= m -> m < l.length -> okAt s l m) -> wrongAt s i l = none
 | [],i,_ => rfl
 | [x],i,_ => rfl
 | x :: y :: r,i,ok => by
  unfold wrongAt
  rw [if_pos (show (shiftOf s x).b + s.rest <= (shiftOf s y).a from ok 1 (by omega) (by simp))]
  refine wrong_none s (y :: r) (i + 1) fun m hm1 hm2 => ?_
  have := ok (m + 1) (by omega) (by simp at hm2 ⊢; omega)
  unfold okAt at this ⊢
  obtain ⟨m,rfl⟩ : ∃ m',m = m' + 1 := ⟨m - 1,by omega⟩
  exact this
theorem firstWrong_some (s : State) : ∀ (rows : List (List Nat)) (i p k : Nat) (l : List Nat),rows[p]? = some l -> (∀ m l',m < p -> rows[m]? = some l' -> wrongAt s 0 l' = none) -> wrongAt s 0 l = some k -> firstWrong s i rows = some (i + p,k)
 | [],i,p,k,l,h,_,_ => by simp at h
 | r :: rs,i,0,k,l,h,_,w => by
  have e : r = l := Option.some.inj h
  subst e
  unfold firstWrong
  rw [w]; rfl
 | r :: rs,i,p + 1,k,l,h,ok,w => by
  unfold firstWrong
  rw [ok 0 r (by omega) rfl]
  show firstWrong s (i + 1) rs = _
  rw [firstWrong_some s rs (i + 1) p k l h (fun m l' hm e => ok (m + 1) l' (by omega) e) w]
  congr 2; omega
theorem firstWrong_none (s : State) : ∀ (rows : List (List Nat)) (i : Nat),(∀ l ∈ rows,wrongAt s 0 l = none) -> firstWrong s i rows = none
 | [],i,_ => rfl
 | r :: rs,i,ok => by
  unfold firstWrong
  rw [ok r (by simp)]
  exact firstWrong_none s rs (i + 1) fun l hl => ok l (by simp [hl])
def cnt (l : List Nat) (j : Nat) : Nat := (l.filter fun k => k == j).length
def cnts (s : State) (l : List Nat) : List Int := (numbers s).map fun j => nat (cnt l j)
theorem cnts_nil (s : State) : cnts s [] = (numbers s).map fun _ => (0 : Int) := rfl
theorem cnt_snoc (l : List Nat) (k j : Nat) : cnt (l ++ [k]) j = cnt l j + if k = j then 1 else 0 := by
 unfold cnt
 rw [List.filter_append,List.length_append]
 by_cases c : k = j
 ·subst c; simp
 ·simp [c]
theorem cnts_len (s : State) (l : List Nat) : (cnts s l).length = s.shifts.length := by unfold cnts numbers; simp
theorem cnts_get {s : State} {l : List Nat} {j : Nat} (h : j < s.shifts.length) : (cnts s l)[j]? = some (nat (cnt l j)) := by
 unfold cnts numbers
 rw [List.getElem?_map,List.getElem?_range h]; rfl
theorem cnts_set {s : State} {l : List Nat} {k : Nat} (h : k < s.shifts.length) : (cnts s l).set k (nat (cnt l k) + 1) = cnts s (l ++ [k]) := by
 apply List.ext_getElem?
 intro i
 rw [List.getElem?_set,cnts_len]
 by_cases c : k = i
 ·subst c
  rw [if_pos rfl,if_pos h,cnts_get h,cnt_snoc,if_pos rfl]; rfl
 ·rw [if_neg c]
  by_cases d : i < s.shifts.length
  ·rw [cnts_get d,cnts_get d,cnt_snoc,if_neg c]; rfl
  ·rw [List.getElem?_eq_none (by rw [cnts_len]; omega),List.getElem?_eq_none (by rw [cnts_len]; omega)]
end VM
namespace VM
open Vbedai
def Rr (s : State) (a b : Nat) : Prop := sooner s b a = false
theorem rr_iff (s : State) (a b : Nat) : Rr s a b ↔ (shiftOf s a).a < (shiftOf s b).a ∨ ((shiftOf s a).a = (shiftOf s b).a /\ a <= b) := by
 unfold Rr sooner
 simp only [Bool.or_eq_false_iff,Bool.and_eq_false_iff,decide_eq_false_iff_not]
 omega
theorem rr_refl (s : State) (a : Nat) : Rr s a a := by rw [rr_iff]; omega
theorem rr_trans {s : State} {a b c : Nat} (h : Rr s a b) (g : Rr s b c) : Rr s a c := by rw [rr_iff] at *; omega
theorem rr_anti {s : State} {a b : Nat} (h : Rr s a b) (g : Rr s b a) : a = b := by rw [rr_iff] at *; omega
theorem put_perm (s : State) (j : Nat) : ∀ l : List Nat,(putCrew s j l).Perm (j :: l)
 | [] => .refl _
 | k :: r => by
  unfold putCrew
  split
  ·exact .refl _
  ·exact ((put_perm s j r).cons k).trans (.swap _ _ _)
theorem put_sorted (s : State) (j : Nat) : ∀ l : List Nat,l.Pairwise (Rr s) -> (putCrew s j l).Pairwise (Rr s)
 | [],_ => by simp [putCrew]
 | k :: r,h => by
  unfold putCrew
  rw [List.pairwise_cons] at h
  split
  ·rename_i c
   have jk : Rr s j k := by
    rw [rr_iff]
    unfold sooner at c
    simp only [Bool.or_eq_true,Bool.and_eq_true,decide_eq_true_eq] at c
    omega
   refine List.pairwise_cons.mpr ⟨fun b hb => ?_,List.pairwise_cons.mpr h⟩
   rcases List.mem_cons.mp hb with rfl | hb
   ·exact jk
   ·exact rr_trans jk (h.1 b hb)
  ·rename_i c
   refine List.pairwise_cons.mpr ⟨fun b hb => ?_,put_sorted s j r h.2⟩
   rcases List.mem_cons.mp ((put_perm s j r).mem_iff.mp hb) with rfl | hb
   ·show sooner s b k = false
    simpa using c
   ·exact h.1 b hb
theorem puts_perm (s : State) : ∀ (l m : List Nat),(l.foldl (fun l j => putCrew s j l) m).Perm (l ++ m)
 | [],m => .refl _
 | j :: r,m => by
  rw [List.foldl_cons]
  refine (puts_perm s r _).trans ?_
  exact ((put_perm s j m).append_left r).trans List.perm_middle
theorem puts_sorted (s : State) : ∀ (l m : List Nat),m.Pairwise (Rr s) -> (l.foldl (fun l j => putCrew s j l) m).Pairwise (Rr s)
 | [],m,h => h
 | j :: r,m,h => puts_sorted s r _ (put_sorted s j m h)
theorem sorted_one {s : State} : ∀ {l m : List Nat},l.Perm m -> l.Pairwise (Rr s) -> m.Pairwise (Rr s) -> l = m
 | [],m,p,_,_ => by rw [List.Perm.eq_nil p.symm]
 | a :: l,[],p,_,_ => absurd (p.mem_iff.mp (List.mem_cons_self)) (by simp)
 | a :: l,b :: m,p,h,g => by
  rw [List.pairwise_cons] at h g
  have e : a = b := by
   have ha : a ∈ b :: m := p.mem_iff.mp List.mem_cons_self
   have hb : b ∈ a :: l := p.mem_iff.mpr List.mem_cons_self
   rcases List.mem_cons.mp ha with z | z
   ·exact z
   ·rcases List.mem_cons.mp hb with y | y
    ·exact y.symm
    ·exact rr_anti (h.1 b y) (g.1 a z)
  subst e
  rw [sorted_one (List.Perm.cons_inv p) h.2 g.2]
theorem count_rep (k j n : Nat) : (List.replicate n j).count k = if j = k then n else 0 := by
 rw [List.count_replicate]
 by_cases c : j = k
 ·subst c; simp
 ·simp [c]
theorem count_x (k : Nat) : ∀ x : Crews,(x.flatMap fun p => List.replicate p.2 p.1).count k = onJ x k
 | [] => rfl
 | p :: r => by
  rw [List.flatMap_cons,List.count_append,count_x k r,onJ_cons,count_rep]
theorem count_js (f : Nat -> Nat) (k : Nat) : ∀ js : List Nat,js.Nodup -> (js.flatMap fun j => List.replicate (f j) j).count k = if k ∈ js then f k else 0
 | [],_ => rfl
 | j :: r,h => by
  rw [List.nodup_cons] at h
  rw [List.flatMap_cons,List.count_append,count_js f k r h.2,count_rep]
  by_cases c : j = k
  ·subst c; rw [if_pos rfl,if_neg h.1,if_pos (by simp)]; omega
  ·rw [if_neg c]
   by_cases d : k ∈ r
   ·rw [if_pos d,if_pos (by simp [d])]; omega
   ·rw [if_neg d,if_neg (by simp [d]; exact fun q => c q.symm)]
theorem rep_sorted {s : State} (f : Nat -> Nat) : ∀ js : List Nat,js.Pairwise (Rr s) -> (js.flatMap fun j => List.replicate (f j) j).Pairwise (Rr s)
 | [],_ => .nil
 | j :: r,h => by
  rw [List.pairwise_cons] at h
  rw [List.flatMap_cons,List.pairwise_append]
  refine ⟨List.pairwise_replicate.mpr (.inr (rr_refl s j)),rep_sorted f r h.2,fun a ha b hb => ?_⟩
  have ea := List.eq_of_mem_replicate ha
  obtain ⟨i,hi,hb⟩ := List.mem_flatMap.mp hb
  have eb := List.eq_of_mem_replicate hb
  rw [ea,eb]
  exact h.1 i hi
theorem each_eq {s : State} {x : Crews} (hx : InN s.shifts.length x) {js : List Nat} (hp : js.Perm (numbers s)) (hs : js.Pairwise (Rr s)) : each s x = js.flatMap fun j => List.replicate (onJ x j) j := by
 unfold each
 refine sorted_one (s := s) ?_ (puts_sorted s _ [] .nil) (rep_sorted _ js hs)
 refine (puts_perm s _ []).trans ?_
 rw [List.append_nil,List.perm_iff_count]
 intro k
 have nd : js.Nodup := hp.nodup_iff.mpr List.nodup_range
 rw [count_x,count_js _ _ _ nd]
 by_cases c : k ∈ js
 ·rw [if_pos c]
 ·rw [if_neg c]
  refine onJ_none fun hm => ?_
  obtain ⟨p,hp',e⟩ := List.mem_map.mp hm
  apply c
  rw [hp.mem_iff]
  exact List.mem_range.mpr (e ▸ hx p hp')
theorem each_len {s : State} {x : Crews} : (each s x).length = total x := by
 unfold each
 rw [(puts_perm s _ []).length_eq,List.append_nil,total_sum,List.length_flatMap]
 congr 1
 exact List.map_congr_left fun p _ => List.length_replicate ..
theorem each_lt {s : State} {x : Crews} (hx : InN s.shifts.length x) : ∀ j ∈ each s x,j < s.shifts.length := by
 intro j hj
 unfold each at hj
 have := (puts_perm s _ []).mem_iff.mp hj
 rw [List.append_nil] at this
 obtain ⟨p,hp,q⟩ := List.mem_flatMap.mp this
 rw [List.eq_of_mem_replicate q]
 exact hx p hp
def Full (m : Roster) : Prop := ∀ l ∈ m,l ≠ []
def freeOf (s : State) (l : List Nat) : Nat := (shiftOf s (l.headD 0)).b + s.rest
theorem rested_iff {s : State} {l : List Nat} (h : l ≠ []) (j : Nat) : rested s l j = decide (freeOf s l <= (shiftOf s j).a) := by
 cases l with
 | nil => exact absurd rfl h
 | cons k r => rfl
theorem give_none {s : State} {j : Nat} : ∀ {m : Roster},(∀ l ∈ m,rested s l j = false) -> give s j m = m ++ [[j]]
 | [],_ => rfl
 | l :: r,h => by
  unfold give
  rw [if_neg (by rw [h l (by simp)]; simp),give_none fun q hq => h q (by simp [hq])]
  rfl
theorem give_some {s : State} {j : Nat} : ∀ {m : Roster} {p : Nat} {l : List Nat},m[p]? = some l -> rested s l j = true -> (∀ i l',i < p -> m[i]? = some l' -> rested s l' j = false) -> give s j m = m.set p (j :: l)
 | [],p,l,h,_,_ => by simp at h
 | q :: r,0,l,h,y,_ => by
  have e : q = l := Option.some.inj h
  subst e
  unfold give
  rw [if_pos y]; rfl
 | q :: r,p + 1,l,h,y,n => by
  unfold give
  rw [if_neg (by rw [n 0 q (by omega) rfl]; simp),give_some (m := r) (p := p) (l := l) h y fun i l' hi e => n (i + 1) l' (by omega) e]
  rfl
theorem give_full {s : State} {j : Nat} : ∀ {m : Roster},Full m -> Full (give s j m)
 | [],_ => by intro l hl; simp [give] at hl; rw [hl]; simp
 | l :: r,h => by
  unfold give
  split
  ·intro q hq
   rcases List.mem_cons.mp hq with rfl | hq
   ·simp
   ·exact h q (by simp [hq])
  ·intro q hq
   rcases List.mem_cons.mp hq with rfl | hq
   ·exact h q (by simp)
   ·exact give_full (m := r) (fun z hz => h z (by simp [hz])) q hq
def tOf (s : State) (m : Roster) : Nat := match m.getLast? with
 | none => 0
 | some l => (shiftOf s (l.getLastD 0)).a
theorem give_t {s : State} {j : Nat} : ∀ {m : Roster},Full m -> tOf s (give s j m) = if m.length < (give s j m).length then (shiftOf s j).a else tOf s m
 | [],_ => by simp [give,tOf]
 | l :: r,h => by
  unfold give
  split
  ·rw [if_neg (by simp)]
   unfold tOf
   cases r with
   | nil =>
    have hl : l ≠ [] := h l (by simp)
    cases l with
    | nil => exact absurd rfl hl
    | cons k t => rfl
   | cons q t => rfl
  ·have ih := give_t (s := s) (j := j) (m := r) fun z hz => h z (by simp [hz])
   have e1 : tOf s (l :: give s j r) = tOf s (give s j r) := by
    unfold tOf
    cases q : give s j r with
    | nil =>
     exfalso
     cases r with
     | nil => simp [give] at q
     | cons a t => unfold give at q; split at q <;> cases q
    | cons a t => rfl
   rw [e1,ih]
   cases r with
   | nil => simp [give]
   | cons a t =>
    have e2 : tOf s (l :: a :: t) = tOf s (a :: t) := rfl
    rw [e2]
    simp only [List.length_cons,Nat.add_lt_add_iff_right]
theorem whenLast_t (s : State) : ∀ (l : List Nat) (m : Roster),Full m -> whenLast s l m (tOf s m) = tOf s (l.foldl (fun m j => give s j m) m)
 | [],m,_ => rfl
 | j :: r,m,h => by
  unfold whenLast
  simp only
  rw [<- give_t h,List.foldl_cons]
  exact whenLast_t s r _ (give_full h)
theorem people_eq (s : State) (x : Crews) : people s x = ((rosterOf s (each s x)).map fun m => m.reverse,tOf s (rosterOf s (each s x))) := by
 unfold people rosterOf
 simp only
 rw [show whenLast s (each s x) [] 0 = whenLast s (each s x) [] (tOf s []) from rfl,whenLast_t s (each s x) [] (by intro l hl; cases hl)]
theorem give_len {s : State} {j : Nat} : ∀ (m : Roster),(give s j m).flatten.length = m.flatten.length + 1
 | [] => rfl
 | l :: r => by
  unfold give
  split
  ·simp only [List.flatten_cons,List.length_append,List.length_cons]; omega
  ·rw [List.flatten_cons,List.length_append,give_len r,List.flatten_cons,List.length_append]; omega
theorem gives_len (s : State) : ∀ (l : List Nat) (m : Roster),(l.foldl (fun m j => give s j m) m).flatten.length = m.flatten.length + l.length
 | [],m => rfl
 | j :: r,m => by rw [List.foldl_cons,gives_len s r,give_len,List.length_cons]; omega
theorem full_len : ∀ {m : Roster},Full m -> m.length <= m.flatten.length
 | [],_ => Nat.le_refl _
 | l :: r,h => by
  have := full_len (m := r) fun z hz => h z (by simp [hz])
  have h1 : 0 < l.length := List.length_pos_iff.mpr (h l (by simp))
  rw [List.flatten_cons,List.length_append,List.length_cons]; omega
theorem gives_full {s : State} : ∀ (l : List Nat) {m : Roster},Full m -> Full (l.foldl (fun m j => give s j m) m)
 | [],_,h => h
 | _ :: r,_,h => gives_full r (give_full h)
end VM
namespace VM
open Vbedai
def flatR : List (List Int) -> List Int
 | [] => []
 | x :: r => (x.length : Int) :: (x ++ flatR r)
theorem row_eq {r x t : List Int} (h : PyFlat.row r = some (x,t)) : r = (x.length : Int) :: (x ++ t) := by
 cases r with
 | nil => cases h
 | cons n r =>
  unfold PyFlat.row at h
  by_cases c : 0 <= n /\ n.toNat <= r.length
  ·simp only [if_pos c] at h
   cases h
   rw [List.length_take,Nat.min_eq_left c.2,List.take_append_drop]
   congr 1
   omega
  ·simp only [if_neg c] at h
   cases h
theorem rows_eq : ∀ (k : Nat) {r t : List Int} {xs : List (List Int)},PyFlat.rows k r = some (xs,t) -> xs.length = k /\ r = flatR xs ++ t
 | 0,r,t,xs,h => by cases h; exact ⟨rfl,rfl⟩
 | k + 1,r,t,xs,h => by
  unfold PyFlat.rows at h
  cases e : PyFlat.row r with
  | none => rw [e] at h; cases h
  | some q =>
   obtain ⟨x,u⟩ := q
   rw [e] at h
   simp only at h
   cases e2 : PyFlat.rows k u with
   | none => rw [e2] at h; cases h
   | some q2 =>
    obtain ⟨ys,v⟩ := q2
    rw [e2] at h
    cases h
    obtain ⟨a,b⟩ := rows_eq k e2
    refine ⟨by rw [List.length_cons,a],?_⟩
    rw [row_eq e,b]
    show _ = (x.length : Int) :: (x ++ flatR ys) ++ t
    rw [List.cons_append,List.append_assoc]
theorem call_eq {l u : List Int} {c : List (List Int)} (h : PyWide.call l = some (c,u)) : ∃ (p : Int) (ns : List Int) (xs : List (List Int)),c = (p :: ns) :: xs /\ l = p :: (ns.length : Int) :: (ns ++ (xs.length : Int) :: (flatR xs ++ u)) := by
 cases l with
 | nil => cases h
 | cons p r =>
  simp only [PyWide.call] at h
  cases e : PyFlat.row r with
  | none => rw [e] at h; cases h
  | some q =>
   obtain ⟨ns,t⟩ := q
   rw [e] at h
   cases t with
   | nil => cases h
   | cons k t =>
    simp only at h
    by_cases c0 : 0 <= k
    ·rw [if_pos c0] at h
     cases e2 : PyFlat.rows k.toNat t with
     | none => rw [e2] at h; cases h
     | some q2 =>
      obtain ⟨xs,v⟩ := q2
      rw [e2] at h
      cases h
      obtain ⟨a,b⟩ := rows_eq _ e2
      refine ⟨p,ns,xs,rfl,?_⟩
      rw [row_eq e,b,a]
      congr 4
      omega
    ·rw [if_neg c0] at h; cases h
theorem calls_eq {f : Nat} {l : List Int} {cs : List (List (List Int))} (h : PyWide.calls f l = some cs) : (l = [] /\ cs = []) ∨
  ∃ (f' : Nat) (p : Int) (ns : List Int) (xs : List (List Int)) (u : List Int) (cs' : List (List (List Int))),cs = ((p :: ns) :: xs) :: cs' /\ l = p :: (ns.length : Int) :: (ns ++ (xs.length : Int) :: (flatR xs ++ u)) /\ PyWide.calls f' u = some cs' := by
 cases l with
 | nil => unfold PyWide.calls at h; cases h; exact .inl ⟨rfl,rfl⟩
 | cons p r =>
  cases f with
  | zero => cases h
  | succ f =>
   unfold PyWide.calls at h
   cases e : PyWide.call (p :: r) with
   | none => rw [e] at h; cases h
   | some q =>
    obtain ⟨c,u⟩ := q
    rw [e] at h
    simp only at h
    cases e2 : PyWide.calls f u with
    | none => rw [e2] at h; cases h
    | some cs' =>
     rw [e2] at h
     cases h
     obtain ⟨p',ns,xs,rfl,b⟩ := call_eq e
     exact .inr ⟨f,p',ns,xs,u,cs',rfl,b,e2⟩
theorem flatR_append : ∀ (x y : List (List Int)),flatR (x ++ y) = flatR x ++ flatR y
 | [],y => rfl
 | a :: r,y => by
  show (a.length : Int) :: (a ++ flatR (r ++ y)) = (a.length : Int) :: (a ++ flatR r) ++ flatR y
  rw [flatR_append r y,List.cons_append,List.append_assoc]
theorem told_cons (a : List Int) (l : List (List Int)) : PyFlat.told (a :: l) = (a.length : Int) :: a ++ PyFlat.told l := rfl
theorem wf_step {s : State} (wf : Wf s) (c : List (List Int)) : Wf (step s c).1 := by
 unfold step
 split
 ·rename_i n r
  split
  ·exact wf
  ·rename_i h
   have h' : (inR n 1 1000000 && inR r 0 1000000) = true := by simpa using h
   rw [Bool.and_eq_true,inR_iff,inR_iff] at h'
   exact ⟨by show 1 <= n.toNat; omega,by show n.toNat <= _; omega,by show r.toNat <= _; omega,by show 0 <= 100; omega,by simp,by simp,by show 0 <= 60; omega,by simp⟩
 ·split
  ·exact wf
  ·rename_i hl
   split
   ·exact wf
   ·rename_i x e
    have q := (isCh_iff s _ x).mp e
    refine ⟨wf.h1,wf.h2,wf.r,?_,q.ok,q.inc,wf.sl,wf.sv⟩
    have := flatC_len x
    rw [<- q.eq] at this
    show x.length <= 100
    omega
 ·rename_i a b
  split
  ·exact wf
  ·rename_i h
   have h' : (inR a 0 (nat s.horizon) && inR b 0 (nat s.horizon)) = true := by simpa using h
   rw [Bool.and_eq_true,inR_iff,inR_iff] at h'
   split
   ·exact wf
   ·split
    ·exact wf
    ·rename_i h1 h2
     refine ⟨wf.h1,wf.h2,wf.r,wf.cl,wf.ct,wf.cs,?_,?_⟩
     ·show (s.shifts ++ [_]).length <= 60
      rw [List.length_append,List.length_singleton]
      omega
     ·intro x hx
      rcases List.mem_append.mp hx with z | z
      ·exact wf.sv x z
      ·rw [List.mem_singleton] at z
       subst z
       simp only [nat,Int.ofNat_eq_natCast] at h'
       show a.toNat < b.toNat /\ b.toNat <= s.horizon
       omega
 ·rename_i r
  split
  ·exact wf
  ·rename_i h
   have h' : inR r 0 1000000 = true := by simpa using h
   rw [inR_iff] at h'
   exact ⟨wf.h1,wf.h2,by show r.toNat <= _; omega,wf.cl,wf.ct,wf.cs,wf.sl,wf.sv⟩
 all_goals first
  | exact wf
  | (unfold ifServed; split <;> exact wf)
  | (unfold withCrews; split <;> exact wf)
  | (split <;> exact wf)
  | (split <;> first | exact wf | (split <;> exact wf))
  | (split <;> first | exact wf | (unfold withCrews; split <;> exact wf))
  | (split <;> first | exact wf | (split <;> first | exact wf | (split <;> first | exact wf | (simp only; split <;> exact wf))))
theorem fold_len : ∀ (l m : List Nat),(l.foldl (fun l t => rising t l) m).length <= m.length + l.length
 | [],m => by simp
 | x :: r,m => by
  rw [List.foldl_cons]
  have := fold_len r (rising x m)
  have h : ∀ l : List Nat,(rising x l).length <= l.length + 1 := by
   intro l
   induction l with
   | nil => simp [rising]
   | cons y r ih =>
    unfold rising
    split
    ·simp
    ·split
     ·simp
     ·simp; omega
  have := h m
  rw [List.length_cons]; omega
theorem points_len {s : State} (wf : Wf s) : (points s).length <= 221 := by
 unfold points
 refine Nat.le_trans (fold_len _ _) ?_
 rw [List.length_nil,Nat.zero_add]
 refine Nat.le_trans (List.length_filter_le _ _) ?_
 rw [List.length_append,List.length_cons,List.length_map,List.length_flatMap]
 have e : (s.shifts.map fun x => ([x.a,x.b] : List Nat).length).sum = 2 * s.shifts.length := by
  generalize s.shifts = l
  induction l with
  | nil => rfl
  | cons a r ih => rw [List.map_cons,List.sum_cons,ih,List.length_cons]; simp; omega
 rw [e]
 have := wf.cl
 have := wf.sl
 omega
end VM
namespace VM
open Vbedai
theorem pairsOut_len (x : Crews) : (pairsOut x).length = 1 + 2 * x.length := by
 unfold pairsOut
 rw [List.length_cons,List.length_flatMap]
 have e : (x.map fun p => ([nat p.1,nat p.2] : List Int).length).sum = 2 * x.length := by
  induction x with
  | nil => rfl
  | cons a r ih => rw [List.map_cons,List.sum_cons,ih,List.length_cons]; simp; omega
 rw [e]; omega
theorem gathered_len (s : State) (x : Crews) : (gathered s x).length <= s.shifts.length := by
 unfold gathered numbers
 refine Nat.le_trans (List.length_filter_le _ _) ?_
 simp
theorem listed_len (l : List Nat) : (listed l).length = 1 + l.length := by unfold listed; simp; omega
theorem chosen_len (s : State) : ∀ (ps : List (Nat × Nat)) (l : List Nat),(chosen s ps l).length <= ps.length + l.length
 | [],l => by simp [chosen]
 | (t,j) :: r,l => by
  unfold chosen
  split
  ·have := chosen_len s r l; rw [List.length_cons]; omega
  ·have := chosen_len s r (t :: l); rw [List.length_cons] at *; omega
theorem shorts_len (s : State) (wanted : Nat -> Nat) (pick : List Nat -> Option Nat) : ∀ (ts : List Nat) (a : Sh),(ts.foldl (shStep s wanted pick) a).length <= a.length + ts.length
 | [],a => by simp
 | t :: r,a => by
  rw [List.foldl_cons]
  have := shorts_len s wanted pick r (shStep s wanted pick a t)
  have h : (shStep s wanted pick a t).length <= a.length + 1 := by
   unfold shStep
   split
   ·omega
   ·split
    ·omega
    ·simp
  rw [List.length_cons]; omega
theorem sorted_len (l : List Nat) : (sorted l).length <= l.length := by
 have := fold_len l []
 unfold sorted
 simpa using this
theorem wit_len (s : State) (wanted : Nat -> Nat) (pick : List Nat -> Option Nat) (ts : List Nat) : (sorted (chosen s (tj (shorts s wanted pick ts)).reverse [])).length <= ts.length := by
 refine Nat.le_trans (sorted_len _) (Nat.le_trans (chosen_len _ _ _) ?_)
 have := shorts_len s wanted pick ts []
 rw [List.length_reverse]
 unfold tj
 rw [List.length_map]
 unfold shorts
 simpa using this
end VM
namespace Cs
open Vbedai (State need points shiftOf on numbers there total gathered lastEnd firstStart bare eased does leastK missing crewsIn changesIn minutesIn okJ okT inR)
open VM
def shP (s : State) : List (List Int) := s.shifts.map fun x => [(x.a : Int),(x.b : Int)]
def hasI (p : List Int) (m : Int) : Bool := decide (p.getD 0 0 <= m) && decide (m < p.getD 1 0)
def thereI (ps : List (List Int)) (cs : List Int) (m : Int) : Int := (((List.range ps.length).filter fun j => hasI (ps.getD j []) m).map fun j => cs.getD j 0).sum
theorem shP_at {s : State} {j : Nat} (h : j < s.shifts.length) : (shP s)[j]? = some [((shiftOf s j).a : Int),((shiftOf s j).b : Int)] := by
 unfold shP shiftOf
 rw [List.getElem?_map,List.getElem?_eq_getElem h,List.getD_eq_getElem?_getD,List.getElem?_eq_getElem h]
 rfl
theorem shP_len (s : State) : (shP s).length = s.shifts.length := List.length_map ..
theorem shP_getD {s : State} {j : Nat} (h : j < s.shifts.length) : (shP s).getD j [] = [((shiftOf s j).a : Int),((shiftOf s j).b : Int)] := by
 rw [List.getD_eq_getElem?_getD,shP_at h]; rfl
theorem hasI_on {s : State} {j : Nat} (h : j < s.shifts.length) (t : Nat) : hasI ((shP s).getD j []) t = on s j t := by
 rw [shP_getD h]
 unfold hasI Vbedai.on
 simp only [List.getD_cons_zero,List.getD_cons_succ]
 congr 1
 ·simp
 ·simp
theorem onAll_getD {s : State} {x : Vbedai.Crews} {j : Nat} (h : j < s.shifts.length) : (onAll s x).getD j 0 = (onJ x j : Int) := by
 rw [List.getD_eq_getElem?_getD,onAll_get h]; rfl
theorem filter_congr' {p q : Nat -> Bool} {n : Nat} (h : ∀ j,j < n -> p j = q j) : (List.range n).filter p = (List.range n).filter q := by
 apply List.filter_congr
 intro j hj
 exact h j (List.mem_range.mp hj)
theorem map_filter_congr {p : Nat -> Bool} {f g : Nat -> Int} {n : Nat} (h : ∀ j,j < n -> f j = g j) : ((List.range n).filter p).map f = ((List.range n).filter p).map g := by
 apply List.map_congr_left
 intro j hj
 exact h j (List.mem_range.mp (List.mem_filter.mp hj).1)
theorem thereI_eq {s : State} {x : Vbedai.Crews} (hx : InN s.shifts.length x) (t : Nat) : thereI (shP s) (onAll s x) t = (there s x t : Int) := by
 unfold thereI
 rw [shP_len,filter_congr' (q := fun j => on s j t) fun j hj => hasI_on hj t,map_filter_congr (g := fun j => Vbedai.nat (onJ x j)) fun j hj => onAll_getD hj]
 exact there_sum hx t
def restP (s : State) : List (List Int) := s.shifts.map fun x => [(x.a : Int),(x.b : Int) + (s.rest : Int)]
theorem restP_len (s : State) : (restP s).length = s.shifts.length := List.length_map ..
theorem restP_getD {s : State} {j : Nat} (h : j < s.shifts.length) : (restP s).getD j [] = [((shiftOf s j).a : Int),((shiftOf s j).b : Int) + (s.rest : Int)] := by
 unfold restP shiftOf
 rw [List.getD_eq_getElem?_getD,List.getElem?_map,List.getElem?_eq_getElem h,List.getD_eq_getElem?_getD,List.getElem?_eq_getElem h]
 rfl
theorem engagedI_eq {s : State} {x : Vbedai.Crews} (hx : InN s.shifts.length x) (t : Nat) : thereI (restP s) (onAll s x) t = (Vbedai.engaged s x t : Int) := by
 unfold thereI
 rw [restP_len,filter_congr' (q := fun j => decide ((shiftOf s j).a <= t) && decide (t < (shiftOf s j).b + s.rest)) fun j hj => ?_,map_filter_congr (g := fun j => Vbedai.nat (onJ x j)) fun j hj => onAll_getD hj]
 ·exact engaged_sum hx t
 ·rw [restP_getD hj]
  unfold hasI
  simp only [List.getD_cons_zero,List.getD_cons_succ]
  congr 1
  ·simp
  ·simp only [decide_eq_decide]; omega
theorem missing_int (s : State) (x : Vbedai.Crews) (t : Nat) : (if (need s t : Int) - (there s x t : Int) > 0 then (need s t : Int) - (there s x t : Int) else 0) = (missing s x t : Int) := by
 unfold missing
 split <;> omega
def ansOf (s : State) (c : List (List Int)) : List Int := (Vbedai.step s c).2
def stOf (s : State) (c : List (List Int)) : State := (Vbedai.step s c).1
theorem ans6 (s : State) (l : List Int) : ansOf s [[6],l] = match crewsIn s l with
  | none => [-2]
  | some x => (match (points s).find? fun t => decide (there s x t < need s t) with | none => [0,(total x : Int)] | some t => [1,(t : Int),(missing s x t : Int)]) := by
 show (Vbedai.withCrews s l _).2 = _
 unfold Vbedai.withCrews
 cases crewsIn s l <;> rfl
theorem ans7 (s : State) (l : List Int) : ansOf s [[7],l] = match minutesIn s l with
  | none => [-2]
  | some x => (match Vbedai.both s x with | none => [0,(total (x.map fun t => (t,need s t)) : Int)] | some y => 1 :: (y.1 : Int) :: y.2.map Vbedai.nat) := by
 show (match minutesIn s l with | none => _ | some x => _ : State × List Int).2 = _
 cases minutesIn s l <;> rfl
theorem ans8 (s : State) (l : List Int) : ansOf s [[8],l] = match crewsIn s l with
  | none => [-2]
  | some x => if 300 < total x then [-11] else ((Vbedai.people s x).1.length : Int) :: ((Vbedai.people s x).2 : Int) :: (Vbedai.people s x).1.flatMap Vbedai.listed := by
 show (match crewsIn s l with | none => _ | some x => _ : State × List Int).2 = _
 cases crewsIn s l with
 | none => rfl
 | some x => simp only; split <;> rfl
theorem ans9 (s : State) (rows : List (List Int)) : ansOf s ([9] :: rows) = match Vbedai.rowsIn s rows with
  | none => [-2]
  | some x => (match Vbedai.firstWrong s 0 x with | none => 0 :: (x.length : Int) :: cnts s x.flatten | some y => [1,(y.1 : Int),(y.2 : Int)]) := by
 show (match Vbedai.rowsIn s rows with | none => _ | some x => _ : State × List Int).2 = _
 cases Vbedai.rowsIn s rows <;> rfl
theorem ans10 (s : State) (t : Int) : ansOf s [[10,t]] = if okT s t = false then [-1] else [(need s t.toNat : Int)] := by
 show (if okT s t = false then _ else _ : State × List Int).2 = _
 split <;> rfl
theorem ans11 (s : State) (t : Int) (l : List Int) : ansOf s [[11,t],l] = if okT s t = false then [-1] else match crewsIn s l with
  | none => [-2]
  | some x => [(there s x t.toNat : Int),(Vbedai.engaged s x t.toNat : Int)] := by
 show (if okT s t = false then _ else Vbedai.withCrews s l _ : State × List Int).2 = _
 unfold Vbedai.withCrews
 split
 ·rfl
 ·cases crewsIn s l <;> rfl
theorem ans12 (s : State) (n : Int) : ansOf s [[12,n]] = if inR n 0 100000 = false then [-1] else (Vbedai.shortage s n.toNat : Int) :: (if Vbedai.shortage s n.toNat = 0 then [0] else match bare s (eased s (Vbedai.shortage s n.toNat - 1)) with
   | some t => Vbedai.listed [t]
   | none => Vbedai.listed (Vbedai.least s (eased s (Vbedai.shortage s n.toNat - 1))).2) := by
 show (if inR n 0 100000 = false then _ else _ : State × List Int).2 = _
 split <;> rfl
theorem ans13 (s : State) (j k : Int) (l : List Int) : ansOf s [[13,j,k],l] = if (okJ s j && inR k 1 1000) = false then [-1] else match crewsIn s l with
  | none => [-2]
  | some x => if onJ x j.toNat < k.toNat then [-3] else if (bare s (missing s (illed x j.toNat k.toNat))).isSome = true then [-7] else Vbedai.told (Vbedai.least s (missing s (illed x j.toNat k.toNat))) := by
 show (if (okJ s j && inR k 1 1000) = false then _ else _ : State × List Int).2 = _
 split
 ·rfl
 ·cases crewsIn s l with
  | none => rfl
  | some x =>
   show (if onJ x j.toNat < k.toNat then _ else _ : State × List Int).2 = (if onJ x j.toNat < k.toNat then _ else _)
   split
   ·rfl
   ·show (if (bare s (missing s (illed x j.toNat k.toNat))).isSome = true then _ else _ : State × List Int).2 = _
    split <;> rfl
theorem ans14 (s : State) (l : List Int) : ansOf s [[14],l] = match crewsIn s l with
  | none => [-2]
  | some x => [x.foldl (fun n p => n + Vbedai.nat p.2 * (Vbedai.nat (shiftOf s p.1).b - Vbedai.nat (shiftOf s p.1).a)) 0] := by
 show (Vbedai.withCrews s l _).2 = _
 unfold Vbedai.withCrews
 cases crewsIn s l <;> rfl
theorem ans4 (s : State) : ansOf s [[4]] = if (bare s (need s)).isSome = true then [-7] else Vbedai.told (Vbedai.least s (need s)) := by
 show (Vbedai.ifServed s _).2 = _
 unfold Vbedai.ifServed
 split <;> rfl
theorem ans5 (s : State) : ansOf s [[5]] = if (bare s (need s)).isSome = true then [-7] else Vbedai.told (Vbedai.leastBack s (need s)) := by
 show (Vbedai.ifServed s _).2 = _
 unfold Vbedai.ifServed
 split <;> rfl
theorem ans15 (s : State) : ansOf s [[15]] = (s.horizon : Int) :: (s.rest : Int) :: (s.changes.length : Int) :: (s.changes.flatMap fun c => [(c.time : Int),(c.level : Int)]) ++ ((s.shifts.length : Int) :: s.shifts.flatMap fun x => [(x.a : Int),(x.b : Int)]) := rfl
theorem st_same {s : State} {c : List (List Int)} (p : Int) (ns : List Int) (xs : List (List Int)) (e : c = (p :: ns) :: xs) (h : p ≠ 0 /\ p ≠ 1 /\ p ≠ 2 /\ p ≠ 3) : stOf s c = s := by
 subst e
 unfold stOf Vbedai.step
 split
 all_goals first
  | rfl
  | (exfalso; simp_all; done)
  | (unfold Vbedai.ifServed; split <;> rfl)
  | (unfold Vbedai.withCrews; split <;> rfl)
  | (split <;> rfl)
  | (split <;> first | rfl | (split <;> rfl))
  | (split <;> first | rfl | (unfold Vbedai.withCrews; split <;> rfl))
  | (split <;> first | rfl | (split <;> first | rfl | (split <;> first | rfl | (simp only; split <;> rfl))))
theorem step1 (s : State) (l : List Int) : Vbedai.step s [[1],l] = match (if 200 < l.length then none else changesIn s (-1) l) with
  | none => (s,[-2])
  | some x => (⟨s.horizon,x,s.shifts,s.rest⟩,[0]) := by
 show (if 200 < l.length then _ else _ : State × List Int) = _
 split
 ·rfl
 ·cases changesIn s (-1) l <;> rfl
theorem step2 (s : State) (a b : Int) : Vbedai.step s [[2,a,b]] = if (inR a 0 (s.horizon : Int) && inR b 0 (s.horizon : Int)) = false then (s,[-1]) else if b <= a then (s,[-4]) else if 60 <= s.shifts.length then (s,[-6]) else
  (⟨s.horizon,s.changes,s.shifts ++ [⟨a.toNat,b.toNat⟩],s.rest⟩,[(s.shifts.length : Int)]) := rfl
def formOf (p : Int) : Option (Nat × Nat × Nat) :=
 if p = 0 then some (2,0,0) else if p = 1 then some (0,1,1) else if p = 2 then some (2,0,0) else if p = 3 then some (1,0,0) else if p = 4 then some (0,0,0) else if p = 5 then some (0,0,0)
 else if p = 6 then some (0,1,1) else if p = 7 then some (0,1,1) else if p = 8 then some (0,1,1) else if p = 9 then some (0,0,199) else if p = 10 then some (1,0,0) else if p = 11 then some (1,1,1)
 else if p = 12 then some (1,0,0) else if p = 13 then some (2,1,1) else if p = 14 then some (0,1,1) else if p = 15 then some (0,0,0) else none
def formOk (p : Int) (n m : Nat) : Bool := match formOf p with
 | none => false
 | some (a,b,c) => decide (n = a) && (decide (b <= m) && decide (m <= c))
theorem noform {s : State} {p : Int} {ns : List Int} {xs : List (List Int)} (h : formOk p ns.length xs.length = false) (h9 : p = 9 -> ns = [] -> xs.length <= 199) : Vbedai.step s ((p :: ns) :: xs) = (s,[-9]) := by
 unfold Vbedai.step
 split
 all_goals first
  | rfl
  | (exfalso; rename_i e; simp only [List.cons.injEq] at e; obtain ⟨⟨rfl,rfl⟩,rfl⟩ := e; first | (simp [formOk,formOf] at h; done) | (have z := h9 rfl rfl; simp [formOk,formOf] at h; omega))
theorem asked9 {ns : List Int} {xs : List (List Int)} (h : VbedaiNeutral.asked1 ((9 :: ns) :: xs) = true) (e : ns = []) : xs.length <= 199 := by
 subst e
 have : (decide (xs.length <= 199) && _) = true := h
 rw [Bool.and_eq_true,decide_eq_true_eq] at this
 exact this.1
end Cs
namespace Cs
open Vbedai (State need points shiftOf on numbers there total gathered lastEnd firstStart bare eased does leastK missing crewsIn changesIn minutesIn okJ okT inR)
open VM
def witOf (s : State) (a : Sh) : List Nat := Vbedai.sorted (Vbedai.chosen s (tj a).reverse [])
def fewestA (s : State) (wanted : Nat -> Nat) (pick : List Nat -> Option Nat) (ms : List Nat) : List Int :=
 if (ms.find? (gapAt s wanted pick)).isSome = true then [-7] else
  Vbedai.nat (total (cr (shorts s wanted pick ms))) :: (Vbedai.pairsOut (gathered s (cr (shorts s wanted pick ms))) ++ Vbedai.listed (witOf s (shorts s wanted pick ms)))
theorem told_l (s : State) (wanted : Nat -> Nat) : Vbedai.told (Vbedai.least s wanted) =
  Vbedai.nat (total (cr (shorts s wanted (lastEnd s) (points s)))) :: (Vbedai.pairsOut (gathered s (cr (shorts s wanted (lastEnd s) (points s)))) ++ Vbedai.listed (witOf s (shorts s wanted (lastEnd s) (points s)))) :=
 told_least (pick_last s) (points s)
theorem told_b (s : State) (wanted : Nat -> Nat) : Vbedai.told (Vbedai.leastBack s wanted) =
  Vbedai.nat (total (cr (shorts s wanted (firstStart s) (points s).reverse))) :: (Vbedai.pairsOut (gathered s (cr (shorts s wanted (firstStart s) (points s).reverse))) ++ Vbedai.listed (witOf s (shorts s wanted (firstStart s) (points s).reverse))) :=
 told_least (pick_first s) (points s).reverse
theorem ans4' (s : State) : ansOf s [[4]] = fewestA s (need s) (lastEnd s) (points s) := by
 rw [ans4,told_l]
 unfold fewestA
 rw [find_bare (pick_last s)]
theorem ans5' (s : State) : ansOf s [[5]] = fewestA s (need s) (firstStart s) (points s).reverse := by
 rw [ans5,told_b]
 unfold fewestA
 rw [find_back (pick_first s)]
theorem least1 (s : State) (wanted : Nat -> Nat) : total (Vbedai.least s wanted).1 = total (cr (shorts s wanted (lastEnd s) (points s))) := by
 show total (gathered s (Vbedai.goOn s wanted (lastEnd s) (points s) [] []).1) = _
 rw [goOn_shorts,total_gathered s _ (shorts_in (pick_last s) (points s))]
theorem least2 (s : State) (wanted : Nat -> Nat) : (Vbedai.least s wanted).2 = witOf s (shorts s wanted (lastEnd s) (points s)) := by
 show Vbedai.sorted (Vbedai.chosen s (Vbedai.goOn s wanted (lastEnd s) (points s) [] []).2 []) = _
 rw [goOn_shorts]; rfl
theorem does_eq (s : State) (n k : Nat) : does s n k = (((points s).find? (gapAt s (eased s k) (lastEnd s))).isNone && decide (total (cr (shorts s (eased s k) (lastEnd s) (points s))) <= n)) := by
 unfold does
 rw [find_bare (pick_last s),least1]
theorem ans12' {s : State} {n : Int} (h : inR n 0 100000 = true) (k : Nat) (hk : Vbedai.shortage s n.toNat = k) : ansOf s [[12,n]] = if k = 0 then [0,0] else (k : Int) :: Vbedai.listed (match bare s (eased s (k - 1)) with | some t => [t] | none => witOf s (shorts s (eased s (k - 1)) (lastEnd s) (points s))) := by
 rw [ans12,if_neg (by rw [h]; simp),hk]
 by_cases c : k = 0
 ·subst c; rfl
 ·rw [if_neg c,if_neg c]
  cases bare s (eased s (k - 1)) with
  | none => simp only; rw [least2]
  | some t => rfl
theorem ans13' {s : State} {j k : Int} {l : List Int} {x : Vbedai.Crews} (h : (okJ s j && inR k 1 1000) = true) (hx : crewsIn s l = some x) (h3 : ¬ onJ x j.toNat < k.toNat) :
  ansOf s [[13,j,k],l] = fewestA s (missing s (illed x j.toNat k.toNat)) (lastEnd s) (points s) := by
 rw [ans13,if_neg (by rw [h]; simp),hx]
 simp only
 rw [if_neg h3,told_l]
 unfold fewestA
 rw [find_bare (pick_last s)]
end Cs
namespace Cs
open Vbedai (State need points shiftOf on numbers there total gathered lastEnd firstStart bare eased does leastK missing crewsIn changesIn minutesIn okJ okT inR)
open VM
theorem fm_len (l : List (List Nat)) : (l.flatMap Vbedai.listed).length = l.length + l.flatten.length := by
 induction l with
 | nil => rfl
 | cons a r ih => rw [List.flatMap_cons,List.length_append,ih,listed_len,List.flatten_cons,List.length_append,List.length_cons]; omega
theorem flat2 {α : Type} (l : List α) (f g : α -> Int) : (l.flatMap fun c => [f c,g c]).length = 2 * l.length := by
 induction l with
 | nil => rfl
 | cons a r ih => rw [List.flatMap_cons,List.length_append,ih]; simp; omega
theorem flatten_rev (l : List (List Nat)) : (l.map fun m => m.reverse).flatten.length = l.flatten.length := by
 induction l with
 | nil => rfl
 | cons a r ih => rw [List.map_cons,List.flatten_cons,List.length_append,ih,List.flatten_cons,List.length_append,List.length_reverse]
theorem roster_len (s : State) (x : Vbedai.Crews) : (Vbedai.rosterOf s (Vbedai.each s x)).flatten.length = total x /\ (Vbedai.rosterOf s (Vbedai.each s x)).length <= total x := by
 have h1 : (Vbedai.rosterOf s (Vbedai.each s x)).flatten.length = total x := by
  unfold Vbedai.rosterOf
  rw [gives_len,each_len]; simp
 refine ⟨h1,?_⟩
 rw [<- h1]
 exact full_len (gives_full _ (by intro l hl; cases hl))
theorem ans_len {s : State} (wf : Wf s) (c : List (List Int)) : (ansOf s c).length <= 1000 := by
 have hl : ∀ w,(Vbedai.told (Vbedai.least s w)).length <= 1000 := fun w => by
  rw [told_l,List.length_cons,List.length_append,pairsOut_len,listed_len]
  have h1 := gathered_len s (cr (shorts s w (lastEnd s) (points s)))
  have h2 := wit_len s w (lastEnd s) (points s)
  have h3 := wf.sl
  have h4 := points_len wf
  unfold witOf
  omega
 have hb : ∀ w,(Vbedai.told (Vbedai.leastBack s w)).length <= 1000 := fun w => by
  rw [told_b,List.length_cons,List.length_append,pairsOut_len,listed_len]
  have h1 := gathered_len s (cr (shorts s w (firstStart s) (points s).reverse))
  have h2 := wit_len s w (firstStart s) (points s).reverse
  have h3 := wf.sl
  have h4 := points_len wf
  rw [List.length_reverse] at h2
  unfold witOf
  omega
 have one : ∀ z : Int,([z] : List Int).length <= 1000 := fun z => by simp
 have hw : ∀ w,(Vbedai.least s w).2.length <= 221 := fun w => by
  rw [least2]
  exact Nat.le_trans (wit_len s w (lastEnd s) (points s)) (points_len wf)
 unfold ansOf Vbedai.step
 split
 ·split <;> exact one _
 ·split
  ·exact one _
  ·split <;> exact one _
 ·split
  ·exact one _
  ·split
   ·exact one _
   ·split <;> exact one _
 ·split <;> exact one _
 ·unfold Vbedai.ifServed
  split
  ·exact one _
  ·exact hl _
 ·unfold Vbedai.ifServed
  split
  ·exact one _
  ·exact hb _
 ·unfold Vbedai.withCrews
  split
  ·exact one _
  ·simp only [Vbedai.ans]
   split <;> simp
 ·split
  ·exact one _
  ·simp only [Vbedai.ans]
   split
   ·simp
   ·rename_i y e
    unfold Vbedai.both at e
    split at e
    ·cases e
    ·cases e
     simp only [List.length_cons,List.length_map,List.length_take]
     omega
 ·split
  ·exact one _
  ·rename_i x e
   split
   ·exact one _
   ·simp only [Vbedai.ans]
    rw [people_eq]
    simp only [List.length_cons]
    rw [fm_len,List.length_map,flatten_rev]
    have := roster_len s x
    omega
 ·split
  ·exact one _
  ·simp only [Vbedai.ans]
   split
   ·simp only [List.length_cons,List.length_map]
    unfold numbers
    rw [List.length_range]
    have := wf.sl
    omega
   ·simp
 ·split <;> exact one _
 ·split
  ·exact one _
  ·unfold Vbedai.withCrews
   split
   ·exact one _
   ·simp [Vbedai.ans]
 ·split
  ·exact one _
  ·simp only [Vbedai.ans,List.length_cons]
   split
   ·simp
   ·split
    ·rw [listed_len]; simp
    ·rw [listed_len]
     have := hw (eased s (Vbedai.shortage s (Int.toNat ‹_›) - 1))
     omega
 ·split
  ·exact one _
  ·split
   ·exact one _
   ·split
    ·exact one _
    ·simp only
     split
     ·exact one _
     ·exact hl _
 ·unfold Vbedai.withCrews
  split
  ·exact one _
  ·simp [Vbedai.ans]
 ·simp only [Vbedai.ans,List.length_cons,List.length_append,List.cons_append]
  rw [flat2,flat2]
  have := wf.sl
  have := wf.cl
  omega
 ·exact one _
end Cs
set_option Elab.async false
set_option linter.all false
set_option maxRecDepth 100000
namespace L2
open PySem PySem.Spec PyProof.Rows
abbrev Key := Sum Int Str
def keyIs : Key -> Value -> Bool
 | .inl k,v => Value.isInt k v
 | .inr x,v => Value.isStrOf x v
def keyH (w : World) : Key -> Int
 | .inl k => hashInt k
 | .inr x => hashStr w x
theorem keyIs_shape : ∀ {k : Key} {v : Value},keyIs k v = true -> (∃ i t,k = Sum.inl i /\ v = Value.int i t) ∨ (∃ x t,k = Sum.inr x /\ v = Value.str x t)
 | .inl i,v,h => by
  obtain ⟨t,e⟩ := Value.isInt_shape (k := i) (v := v) h
  exact .inl ⟨i,t,rfl,e⟩
 | .inr x,v,h => by
  obtain ⟨t,e⟩ := Value.isStrOf_shape (x := x) (v := v) h
  exact .inr ⟨x,t,rfl,e⟩
theorem keyIs_int (i : Int) (t : Tok) : keyIs (.inl i) (.int i t) = true := by simp [keyIs,Value.isInt]
theorem keyIs_str (x : Str) (t : Tok) : keyIs (.inr x) (.str x t) = true := by simp [keyIs,Value.isStrOf]
theorem key_ll (a b : Int) : decide ((Sum.inl a : Key) = Sum.inl b) = (a == b) := by
 by_cases e : a = b
 ·subst e; simp
 ·have h : ¬ (Sum.inl a : Key) = Sum.inl b := fun q => e (Sum.inl.inj q)
  rw [decide_eq_false h]
  exact (beq_eq_false_iff_ne.mpr e).symm
theorem key_rr (a b : Str) : decide ((Sum.inr a : Key) = Sum.inr b) = decide (a = b) := by
 by_cases e : a = b
 ·subst e; simp
 ·have h : ¬ (Sum.inr a : Key) = Sum.inr b := fun q => e (Sum.inr.inj q)
  rw [decide_eq_false h,decide_eq_false e]
theorem key_lr (a : Int) (b : Str) : decide ((Sum.inl a : Key) = Sum.inr b) = false := decide_eq_false (fun q => nomatch q)
theorem key_rl (a : Str) (b : Int) : decide ((Sum.inr a : Key) = Sum.inl b) = false := decide_eq_false (fun q => nomatch q)
def mixKind (prog : Program) (w : World) : PySem.KeyKind prog w Key where
 is := keyIs
 hash := keyH w
 inj := fun v a b ha hb => by
  rcases keyIs_shape ha with ⟨i,t,rfl,rfl⟩ | ⟨x,t,rfl,rfl⟩
  ·rcases keyIs_shape hb with ⟨j,u,rfl,e⟩ | ⟨y,u,rfl,e⟩
   ·injection e with e1 _; rw [e1]
   ·exact nomatch e
  ·rcases keyIs_shape hb with ⟨j,u,rfl,e⟩ | ⟨y,u,rfl,e⟩
   ·exact nomatch e
   ·injection e with e1 _; rw [e1]
 byValue := fun k v h => by
  rcases keyIs_shape h with ⟨i,t,rfl,rfl⟩ | ⟨x,t,rfl,rfl⟩ <;> rfl
 pyHash := fun hv h => by
  rcases keyIs_shape hv with ⟨i,t,rfl,rfl⟩ | ⟨x,t,rfl,rfl⟩
  ·exact wpAny_pyHash_int h
  ·exact wpAny_pyHash_str h
 eqBool := fun hu hv h => by
  rcases keyIs_shape hu with ⟨i,t,rfl,rfl⟩ | ⟨x,t,rfl,rfl⟩
  ·rcases keyIs_shape hv with ⟨j,u,rfl,rfl⟩ | ⟨y,u,rfl,rfl⟩
   ·rw [key_ll] at h; exact wpAny_eqBool_int h
   ·rw [key_lr] at h; exact SeqAt.EqAt.int_str i t y u _ _ _ _ h
  ·rcases keyIs_shape hv with ⟨j,u,rfl,rfl⟩ | ⟨y,u,rfl,rfl⟩
   ·rw [key_rl] at h; exact SeqAt.EqAt.str_int x t j u _ _ _ _ h
   ·rw [key_rr] at h; exact wpAny_eqBool_str h
 «strs» := fun k x t v h => by
  rcases keyIs_shape h with ⟨i,u,rfl,e⟩ | ⟨y,u,rfl,e⟩
  ·exact nomatch e
  ·injection e with e1 _
   subst e1
   cases v <;> rfl
theorem mixKind_int (prog : Program) (w : World) (i : Int) (t : Tok) : (mixKind prog w).is (.inl i) (.int i t) = true := keyIs_int i t
theorem mixKind_str (prog : Program) (w : World) (x : Str) (t : Tok) : (mixKind prog w).is (.inr x) (.str x t) = true := keyIs_str x t
end L2
namespace L2
open PySem PySem.Spec PyProof.Rows
inductive V where
 | non | bl (b : Bool) | int (i : Int) | str (x : Str) | byt (b : Array UInt8) | flt (b : UInt64) | ref (a : Addr) | ty (n : String)
 deriving DecidableEq
def RelV : V -> Value -> Prop
 | .non,u => u = Value.none
 | .bl b,u => u = Value.bool b
 | .int i,u => ∃ t,u = Value.int i t
 | .str x,u => ∃ t,u = Value.str x t
 | .byt b,u => ∃ t,u = Value.bytes b t
 | .flt b,u => ∃ t,u = Value.float b t
 | .ref a,u => u = Value.ref a
 | .ty n,u => u = Value.type n
abbrev Vals : List V -> List Value -> Prop := Paired RelV
theorem Vals.length {xs : List V} {us : List Value} (r : Vals xs us) : xs.length = us.length := Paired.length r
theorem Vals.get : ∀ {xs : List V} {us : List Value} {i : Nat} {x : V},Vals xs us -> xs[i]? = some x -> ∃ u,us[i]? = some u /\ RelV x u
 | _,_,_,_,.nil,e => by simp at e
 | _,_,0,_,.cons r _,e => by simp at e; subst e; exact ⟨_,rfl,r⟩
 | _,_,i + 1,x,.cons _ t,e => by
  obtain ⟨u,h1,h2⟩ := Vals.get (i := i) (x := x) t (by simpa using e)
  exact ⟨u,by simpa using h1,h2⟩
theorem Vals.set {x : V} {u : Value} (r : RelV x u) : ∀ {xs : List V} {us : List Value} (i : Nat),Vals xs us -> Vals (xs.set i x) (us.set i u)
 | _,_,_,.nil => .nil
 | _,_,0,.cons _ t => .cons r t
 | _,_,i + 1,.cons q t => .cons q (Vals.set r i t)
theorem Vals.append : ∀ {xs ys : List V} {us ws : List Value},Vals xs us -> Vals ys ws -> Vals (xs ++ ys) (us ++ ws)
 | _,_,_,_,.nil,s => s
 | _,_,_,_,.cons r t,s => .cons r (Vals.append t s)
theorem Vals.take : ∀ {xs : List V} {us : List Value} (n : Nat),Vals xs us -> Vals (xs.take n) (us.take n)
 | _,_,0,_ => .nil
 | _,_,_ + 1,.nil => .nil
 | _,_,n + 1,.cons r t => .cons r (Vals.take n t)
theorem Vals.drop : ∀ {xs : List V} {us : List Value} (n : Nat),Vals xs us -> Vals (xs.drop n) (us.drop n)
 | _,_,0,r => r
 | _,_,_ + 1,.nil => .nil
 | _,_,n + 1,.cons _ t => Vals.drop n t
def RelO : Option V -> Option Value -> Prop
 | some v,some u => RelV v u
 | none,none => True
 | _,_ => False
def KV {κ : Type} : List (κ × V) -> List (κ × Value) -> Prop := Paired fun (p : κ × V) (q : κ × Value) => p.1 = q.1 /\ RelV p.2 q.2
def kV : Key -> V
 | .inl i => .int i
 | .inr x => .str x
inductive HO where
 | lst (xs : List V)
 | tup (xs : List V)
 | dK (kvs : List (Key × V)) | dT (kvs : List (List Key × V))
 | set (S : Int -> Bool) (n : Nat)
 | ins (C dx : Addr) (fs : List (Str × V))
 | own (x : Addr)
 | xd (fs : List (Str × V))
 | met (f x : Addr)
 | rng (lo hi : Int)
 | frz (o : Obj) (u : HO)
 | tbl (ps : Array Value)
 | ext (φ : Heap -> Prop)
abbrev Hp := Addr -> Option HO
def upd (H : Hp) (a : Addr) (o : HO) : Hp := fun b => if b = a then some o else H b
theorem upd_same {H : Hp} {a : Addr} {o : HO} : upd H a o a = some o := by unfold upd; rw [if_pos rfl]
theorem upd_ne {H : Hp} {a b : Addr} {o : HO} (h : b ≠ a) : upd H a o b = H b := by unfold upd; rw [if_neg h]
theorem upd_upd {H : Hp} {a : Addr} {o u : HO} : upd (upd H a o) a u = upd H a u := by
 funext b; unfold upd; split <;> rfl
theorem ne_of {H : Hp} {a b : Addr} {o u : HO} (h : H a = some o) (h' : H b = some u) (d : o ≠ u) : a ≠ b := by
 intro e; subst e; rw [h] at h'; exact d (Option.some.inj h')
theorem ne_of_none {H : Hp} {a b : Addr} {o : HO} (h : H a = some o) (h' : H b = none) : a ≠ b := by
 intro e; subst e; rw [h] at h'; cases h'
section
variable (P : Program) (w : World)
def ObjOk (H : Hp) (h : Heap) (a : Addr) : HO -> Prop
 | .lst xs => xs.length <= sizeLine /\ ∃ (its : List Value) (n : Nat),Vals xs its /\ h.get? a = some { cls := .type "list",data := .seq its.toArray n }
 | .tup xs => xs.length <= sizeLine /\ ∃ its : List Value,Vals xs its /\ IsTup h a its.toArray
 | .dK kvs => kvs.length <= sizeLine /\ (a == sysModules) = false /\ ∃ vs,KV kvs vs /\ h.DictOf (mixKind P w) a vs
 | .dT kvs => kvs.length <= sizeLine /\ (a == sysModules) = false /\ ∃ xs : List (List Key × Addr × Value),
   Paired (fun (p : List Key × V) (q : List Key × Addr × Value) => p.1 = q.1 /\ H q.2.1 = some (.tup (p.1.map kV)) /\ RelV p.2 q.2.2) kvs xs ∧
   ∃ o es ep,h.get? a = some o /\ o.ExactDict /\ o.data = .dict es ep /\ es.toList = xs.map (entryOfKey (tupleKind (mixKind P w))) /\ (xs.map (·.1)).Nodup
 | .set S n => h.SetOf (intKind P w) a S n
 | .ins C dx fs => H dx = some (.own a) /\ fs.length <= 1000 /\ dx ≠ a /\ h.get? a = some (W.instObj C dx) ∧
   ∃ mA,h.Ns1 dx mA /\ (∀ f,RelO (fs.lookup f) (mA f)) /\ PySem.Within mA (fs.map (·.1))
 | .own _ => ∃ o,h.get? a = some o
 | .xd fs => ∃ mA,h.Ns1 a mA /\ ∀ f,RelO (fs.lookup f) (mA f)
 | .rng lo hi => ∃ t u v,h.get? a = some { cls := .type "range",data := .fields #[.int lo t,.int hi u,.int 1 v] }
 | .frz o u => h.get? a = some o /\ ObjOk H h a u
 | .tbl ps => h.get? a = some { cls := .none,data := .fields ps }
 | .met f x => h.get? a = some (W.methodObj (.ref f) (.ref x))
 | .ext φ => φ h /\ (∃ o,h.get? a = some o) /\ ∀ h1 h2 : Heap,φ h1 -> (∀ o,h1.get? a = some o -> h2.get? a = some o) -> φ h2
def HOk (H : Hp) (h : Heap) : Prop := ∀ a o,H a = some o -> ObjOk P w H h a o
end
section
variable {P : Program} {w : World} {H H' : Hp} {h h' : Heap} {a : Addr} {o : HO}
theorem ObjOk.lt (x : ObjOk P w H h a o) : a < h.objs.size := by
 cases o with
 | lst xs => obtain ⟨_,_,_,_,e⟩ := x; exact Heap.lt_size e
 | tup xs => obtain ⟨_,_,_,p⟩ := x; exact p.lt
 | dK kvs => obtain ⟨_,_,_,_,o,_,_,e,_⟩ := x; exact Heap.lt_size e
 | dT kvs => obtain ⟨_,_,_,_,o,_,_,e,_⟩ := x; exact Heap.lt_size e
 | set S n => obtain ⟨o,_,_,_,e,_⟩ := x; exact Heap.lt_size e
 | ins C dx fs => obtain ⟨_,_,_,e,_⟩ := x; exact Heap.lt_size e
 | own y => obtain ⟨_,e⟩ := x; exact Heap.lt_size e
 | xd fs => obtain ⟨_,⟨_,_,_,e,_⟩,_⟩ := x; exact Heap.lt_size e
 | rng lo hi => obtain ⟨_,_,_,e⟩ := x; exact Heap.lt_size e
 | frz ob u => obtain ⟨e,_⟩ := x; exact Heap.lt_size e
 | tbl ps => exact Heap.lt_size (show h.get? a = some _ from x)
 | met f y => exact Heap.lt_size (show h.get? a = some _ from x)
 | ext φ => obtain ⟨_,⟨_,e⟩,_⟩ := x; exact Heap.lt_size e
theorem Paired.mapP {α β : Type} {F G : α -> β -> Prop} : ∀ {l₁ : List α} {l₂ : List β},Paired F l₁ l₂ -> (∀ a b,F a b -> G a b) -> Paired G l₁ l₂
 | _,_,.nil,_ => .nil
 | _,_,.cons r t,f => .cons (f _ _ r) (Paired.mapP t f)
theorem ObjOk.stay (x : ObjOk P w H h a o) (k : ∀ b u,(b = a ∨ H b = some (.own a)) -> h.get? b = some u -> h'.get? b = some u)
  (ho : ∀ b,H b = some (.own a) -> H' b = some (.own a)) (ht : ∀ b xs,H b = some (.tup xs) -> H' b = some (.tup xs)) : ObjOk P w H' h' a o := by
 induction o with
 | lst xs => obtain ⟨z,its,n,r,e⟩ := x; exact ⟨z,its,n,r,k _ _ (.inl rfl) e⟩
 | tup xs => obtain ⟨z,its,r,ob,e,c⟩ := x; exact ⟨z,its,r,ob,k _ _ (.inl rfl) e,c⟩
 | dK kvs => obtain ⟨z,y,vs,r,ob,es,ep,e,c⟩ := x; exact ⟨z,y,vs,r,ob,es,ep,k _ _ (.inl rfl) e,c⟩
 | dT kvs =>
  obtain ⟨z,y,xs,r,ob,es,ep,e,c⟩ := x
  exact ⟨z,y,xs,Paired.mapP r fun p q z => ⟨z.1,ht _ _ z.2.1,z.2.2⟩,ob,es,ep,k _ _ (.inl rfl) e,c⟩
 | set S n => obtain ⟨ob,es,ep,t,e,c⟩ := x; exact ⟨ob,es,ep,t,k _ _ (.inl rfl) e,c⟩
 | ins C dx fs =>
  obtain ⟨d,z,ne,e,mA,⟨od,es,ep,e2,c⟩,r⟩ := x
  exact ⟨ho _ d,z,ne,k _ _ (.inl rfl) e,mA,⟨od,es,ep,k _ _ (.inr d) e2,c⟩,r⟩
 | own y => obtain ⟨ob,e⟩ := x; exact ⟨ob,k _ _ (.inl rfl) e⟩
 | xd fs => obtain ⟨mA,⟨od,es,ep,e,c⟩,r⟩ := x; exact ⟨mA,⟨od,es,ep,k _ _ (.inl rfl) e,c⟩,r⟩
 | rng lo hi => obtain ⟨t,u,v,e⟩ := x; exact ⟨t,u,v,k _ _ (.inl rfl) e⟩
 | frz ob u ih => obtain ⟨e,q⟩ := x; exact ⟨k _ _ (.inl rfl) e,ih q⟩
 | tbl ps =>
  have e : h.get? a = some { cls := .none,data := .fields ps } := x
  show h'.get? a = some { cls := .none,data := .fields ps }
  exact k a _ (.inl rfl) e
 | met f y =>
  have e : h.get? a = some (W.methodObj (.ref f) (.ref y)) := x
  show h'.get? a = some (W.methodObj (.ref f) (.ref y))
  exact k a _ (.inl rfl) e
 | ext φ => obtain ⟨p,⟨o,e⟩,st⟩ := x; exact ⟨st _ _ p fun o q => k _ _ (.inl rfl) q,⟨o,k _ _ (.inl rfl) e⟩,st⟩
theorem HOk.lt (x : HOk P w H h) (e : H a = some o) : a < h.objs.size := (x a o e).lt
theorem HOk.fresh (x : HOk P w H h) (e : h.objs.size <= a) : H a = none := by
 cases q : H a with
 | none => rfl
 | some u => exact absurd (Nat.lt_of_lt_of_le (x.lt q) e) (Nat.lt_irrefl _)
theorem HOk.kept (x : HOk P w H h) (k : ∀ b u,h.get? b = some u -> h'.get? b = some u) : HOk P w H h' := fun a o e =>
 (x a o e).stay (fun b u _ q => k b u q) (fun _ q => q) fun _ _ q => q
theorem HOk.laid (x : HOk P w H h) (k : ∀ b u,h.get? b = some u -> h'.get? b = some u) (hp : h.objs.size <= a) (new : ObjOk P w (upd H a o) h' a o) : HOk P w (upd H a o) h' := fun b u e => by
 have hn := x.fresh hp
 by_cases hb : b = a
 ·subst hb; rw [upd_same] at e; cases e; exact new
 ·rw [upd_ne hb] at e
  exact (x b u e).stay (fun c v _ q => k c v q) (fun c q => by rw [upd_ne (ne_of_none q hn)]; exact q) fun c xs q => by rw [upd_ne (ne_of_none q hn)]; exact q
end
def Rd (H : Hp) (a : Addr) (u : HO) : Prop := H a = some u ∨ ∃ o,H a = some (.frz o u)
theorem Rd.ok {P : Program} {w : World} {H : Hp} {h : Heap} {a : Addr} {u : HO} (r : Rd H a u) (x : HOk P w H h) : ObjOk P w H h a u := by
 rcases r with r | ⟨o,r⟩
 ·exact x a u r
 ·obtain ⟨_,q⟩ := x a _ r
  exact q
def Mut : Option HO -> Prop
 | some (.lst _) => True
 | some (.dK _) => True
 | some (.dT _) => True
 | some (.set _ _) => True
 | some (.ins _ _ _) => True
 | some (.ext _) => True
 | _ => False
section
variable {P : Program} {w : World} {H : Hp} {h h' : Heap} {x e : Addr} {o' : HO}
theorem HOk.write (ok : HOk P w H h) (mu : Mut (H x)) (he : e = x ∨ H e = some (.own x)) (k : ∀ b u,b ≠ e -> h.get? b = some u -> h'.get? b = some u) (heo : ∃ u,h'.get? e = some u)
  (new : ObjOk P w (upd H x o') h' x o') : HOk P w (upd H x o') h' := fun b u q => by
 have nown : ∀ c y,H c = some (.own y) -> c ≠ x := fun c y r z => by subst z; rw [r] at mu; exact mu
 have ntup : ∀ c xs,H c = some (.tup xs) -> c ≠ x := fun c xs r z => by subst z; rw [r] at mu; exact mu
 by_cases hb : b = x
 ·subst hb; rw [upd_same] at q; cases q; exact new
 ·rw [upd_ne hb] at q
  by_cases hbe : b = e
  ·have q' : H b = some (.own x) := by
    rcases he with z | z
    ·exact absurd (hbe.trans z) hb
    ·rw [hbe]; exact z
   rw [q] at q'; cases q'
   obtain ⟨v,hv⟩ := heo
   exact ⟨v,by rw [hbe]; exact hv⟩
  ·refine (ok b u q).stay (fun c v hc r => k c v ?_ r) (fun c r => by rw [upd_ne (nown c b r)]; exact r) fun c xs r => by rw [upd_ne (ntup c xs r)]; exact r
   rcases hc with rfl | hc
   ·exact hbe
   ·rintro rfl
    rcases he with z | z
    ·exact nown c b hc z
    ·rw [hc] at z; cases z; exact hb rfl
end
structure Un (fs ex : List Addr) (H H' : Hp) (h h' : Heap) : Prop where
 keep : ∀ b o,h.get? b = some o -> H b = none -> b ∉ fs -> b ∉ ex -> h'.get? b = some o
 slot : ∀ b o,h.get? b = some o -> H b = none -> b ∈ fs -> b ∉ ex -> ∃ sl,h'.get? b = some { o with slots := sl }
 free : ∀ b o,h.get? b = some o -> H b = none -> b ∉ ex -> H' b = none
 there : ∀ b o,h.get? b = some o -> b ∉ ex -> ∃ o',h'.get? b = some o'
 tups : ∀ b xs,H b = some (.tup xs) -> H' b = some (.tup xs)
 frzs : ∀ b o u,H b = some (.frz o u) -> H' b = some (.frz o u)
 tbls : ∀ b ps,H b = some (.tbl ps) -> ∃ more,H' b = some (.tbl (ps ++ more))
section
variable {fs fs' ex ex' : List Addr} {H H1 H2 : Hp} {h h1 h2 h' : Heap} {a x e : Addr} {o : HO}
theorem Un.any (u : Un fs ex H H1 h h1) {b : Addr} {ob : Obj} (q : h.get? b = some ob) (n : H b = none) (hx : b ∉ ex) : ∃ sl,h1.get? b = some { ob with slots := sl } := by
 by_cases hb : b ∈ fs
 ·exact u.slot b ob q n hb hx
 ·exact ⟨ob.slots,u.keep b ob q n hb hx⟩
theorem Un.kept (k : ∀ b u,h.get? b = some u -> h'.get? b = some u) : Un fs ex H H h h' :=
 ⟨fun b ob q _ _ _ => k b ob q,fun b ob q _ _ _ => ⟨ob.slots,k b ob q⟩,fun _ _ _ n _ => n,fun b ob q _ => ⟨ob,k b ob q⟩,fun _ _ q => q,fun _ _ _ q => q,fun _ ps q => ⟨#[],by rw [q]; simp⟩⟩
theorem Un.refl : Un fs ex H H h h := Un.kept fun _ _ q => q
theorem Un.laid (k : ∀ b u,h.get? b = some u -> h'.get? b = some u) (hp : h.objs.size <= a) (hn : H a = none) : Un fs ex H (upd H a o) h h' where
 keep := fun b u q _ _ _ => k b u q
 slot := fun b u q _ _ _ => ⟨u.slots,k b u q⟩
 free := fun b u q n _ => by rw [upd_ne (Nat.ne_of_lt (Nat.lt_of_lt_of_le (Heap.lt_size q) hp))]; exact n
 there := fun b u q _ => ⟨u,k b u q⟩
 tups := fun b xs q => by rw [upd_ne (ne_of_none q hn)]; exact q
 frzs := fun b u xs q => by rw [upd_ne (ne_of_none q hn)]; exact q
 tbls := fun b ps q => ⟨#[],by rw [upd_ne (ne_of_none q hn),q]; simp⟩
theorem Un.write (mu : Mut (H x)) (he : e = x ∨ H e = some (.own x)) (k : ∀ b u,b ≠ e -> h.get? b = some u -> h'.get? b = some u) (heo : ∃ u,h'.get? e = some u) : Un fs ex H (upd H x o) h h' := by
 have hx : ∀ b,H b = none -> b ≠ x := fun b n z => by subst z; rw [n] at mu; exact mu
 have hb : ∀ b,H b = none -> b ≠ e := fun b n z => by
  subst z
  rcases he with r | r
  ·exact hx b n r
  ·rw [n] at r; cases r
 have hm : ∀ b u,H b = some u -> ¬ Mut (some u) -> b ≠ x := fun b u q nm z => by subst z; rw [q] at mu; exact nm mu
 refine ⟨fun b u q n _ _ => k b u (hb b n) q,fun b u q n _ _ => ⟨u.slots,k b u (hb b n) q⟩,fun b u q n _ => by rw [upd_ne (hx b n)]; exact n,fun b u q _ => ?_,
  fun b xs q => by rw [upd_ne (hm b _ q fun z => z)]; exact q,fun b u xs q => by rw [upd_ne (hm b _ q fun z => z)]; exact q,fun b ps q => ⟨#[],by rw [upd_ne (hm b _ q fun z => z),q]; simp⟩⟩
 by_cases hbe : b = e
 ·subst hbe; exact heo
 ·exact ⟨u,k b u hbe q⟩
end
def trk (h : Heap) (H : Hp) : List Addr := (List.range h.objs.size).filter fun a => (H a).isSome
def hidT (h : Heap) (H : Hp) : Heap := W.hideAll h (trk h H)
theorem hidT_size (h : Heap) (H : Hp) : (hidT h H).objs.size = h.objs.size := W.hideAll_size _ _
theorem hidT_get {h : Heap} {H : Hp} {b : Addr} {o : Obj} (e : h.get? b = some o) (n : H b = none) : (hidT h H).get? b = some o :=
 W.hideAll_get _ e fun hm => by
  have q : (H b).isSome = true := (List.mem_filter.mp hm).2
  rw [n] at q; simp at q
theorem of_hidT {h : Heap} {H : Hp} {b : Addr} {o : Obj} (e : (hidT h H).get? b = some o) : h.get? b = some o /\ H b = none := by
 have e' : h.get? b = some o := W.of_hideAll (trk h H) e
 refine ⟨e',?_⟩
 cases q : H b with
 | none => rfl
 | some x =>
  have hm : b ∈ trk h H := List.mem_filter.mpr ⟨List.mem_range.mpr (Heap.lt_size e'),by simp [q]⟩
  have z : (hidT h H).get? b = none := W.hideAll_none (trk h H) hm
  rw [z] at e; cases e
end L2
namespace L2
open PySem PySem.Spec PyProof.Rows
structure Mod (K : W.Frag) (mg : Str -> Option Value) (base : Heap) : Prop where
 kin : K.In base
 glob : base.Ns mainGlobals mg
 blt : ∃ mb,base.Ns builtinsNs mb /\ ∀ x : Str,x ≠ "__name__" -> mb x = bootBuiltins x
 nolimit : base.NoLimit
structure Cx where
 prog : Program
 w : World
 K : W.Frag
 mg : Str -> Option Value
 base : Heap
 A : Around
 N : List Str
 s_0 : Shared
 H_0 : Hp
 env : Env
 outer : List Env
 stack : List Env
 ex : List Addr
 fn : Str -> Bool
 calm : Bool
 pn : List (Addr × Obj)
 xe : Value -> Shared -> Prop
def frs (l : List Env) : List Addr := l.filterMap (·.frame)
abbrev Cx.fs (X : Cx) : List Addr := frs X.outer
def Vis (sc : Scope) (x : Str) : Prop := sc.names.lookup x = some .local ∨ sc.names.lookup x = some .cell ∨ sc.names.lookup x = some .free
def Loc (sc : Scope) (x : Str) : Prop := sc.names.lookup x = some .local ∨ sc.names.lookup x = some .cell
def Look (env : Env) (h : Heap) (m : Str -> Option Value) (x : Str) (u : Value) : Prop :=
 (env.kindOf x = some .local /\ m x = some u) ∨ ((env.kindOf x = some .cell ∨ env.kindOf x = some .free) /\ ∃ c,env.cells.lookup x = some c /\ h.IsCell c (some u))
structure Cx.Ok (X : Cx) : Prop where
 mod : Mod X.K X.mg X.base
 kind : X.env.scope.kind = .function
 glob : X.env.globals = mainGlobals
 blt : X.env.builtins = builtinsNs
 above : X.s_0.heap.objs.size <= X.env.locals
 inj : ∀ x y c,X.env.cells.lookup x = some c -> X.env.cells.lookup y = some c -> x = y
 has : ∀ x,(X.env.kindOf x = some .cell ∨ X.env.kindOf x = some .free) -> ∃ c,X.env.cells.lookup x = some c
 cab : ∀ x c,X.fn x = true -> X.env.cells.lookup x = some c -> X.s_0.heap.objs.size <= c
 hd : X.calm = true -> X.A.handled = none
 frames : X.A.frames = some X.stack
 stk : X.stack = X.outer ∨ (X.stack = X.env :: X.outer /\ X.env.frame = some X.env.locals)
 exf : ∀ b ∈ X.ex,b ≠ X.env.locals /\ ∀ x c,X.env.cells.lookup x = some c -> c ≠ b
 bs : ∀ b o,X.base.get? b = some o -> X.s_0.heap.get? b = some o /\ X.H_0 b = none
 bsz : X.base.objs.size <= X.s_0.heap.objs.size
 noex : ∀ b o,X.base.get? b = some o -> b ∉ X.ex
 exfs : ∀ b ∈ X.ex,b ∉ X.fs
 funs : X.s_0.heap.FunFrames X.base X.outer
 frf : ∀ b ∈ X.fs,X.H_0 b = none
structure Inv (X : Cx) (pins : List (Addr × Obj)) (σ : List (Option V)) (H : Hp) (s : Shared) : Prop where
 ok : X.Ok
 os : s.os = X.s_0.os
 bare : AllBare s.gens
 base : Un X.fs X.ex X.H_0 H X.s_0.heap s.heap
 loc : ∃ m,s.heap.Ns X.env.locals m /\ ∀ (i : Nat) (x : Str) (v : V),X.N[i]? = some x -> σ[i]? = some (some v) -> Vis X.env.scope x -> ∃ u,RelV v u /\ Look X.env s.heap m x u
 cell : ∀ x c,X.env.cells.lookup x = some c -> ∃ v,s.heap.IsCell c v
 free : H X.env.locals = none
 freeC : ∀ x c,X.env.cells.lookup x = some c -> H c = none
 pin : ∀ p ∈ X.pn ++ pins,s.heap.get? p.1 = some p.2 /\ H p.1 = none /\ p.1 ≠ X.env.locals /\ p.1 ∉ X.fs /\ ∀ v,p.2.data ≠ .cell v
 hok : HOk X.prog X.w H s.heap
 len : σ.length = X.N.length
section
variable {X : Cx} {pins : List (Addr × Obj)} {σ : List (Option V)} {H H' : Hp} {s : Shared} {h' : Heap}
theorem Cx.Ok.nofr (ok : X.Ok) {b : Addr} {o : Obj} (e : X.base.get? b = some o) : b ∉ X.fs := fun hb => by
 have := (ok.funs.mem hb).1
 rw [e] at this; cases this
theorem Inv.bs (I : Inv X pins σ H s) : ∀ b o,X.base.get? b = some o -> s.heap.get? b = some o /\ H b = none := fun b o e =>
 ⟨I.base.keep b o (I.ok.bs b o e).1 (I.ok.bs b o e).2 (I.ok.nofr e) (I.ok.noex b o e),I.base.free b o (I.ok.bs b o e).1 (I.ok.bs b o e).2 (I.ok.noex b o e)⟩
theorem Inv.bk (I : Inv X pins σ H s) : ∀ b o,X.base.get? b = some o -> s.heap.get? b = some o := fun b o e => (I.bs b o e).1
theorem Inv.mod (I : Inv X pins σ H s) : Mod X.K X.mg X.base := I.ok.mod
theorem Inv.kIn (I : Inv X pins σ H s) : X.K.In s.heap := I.ok.mod.kin.keeps I.bk
theorem Inv.fr (I : Inv X pins σ H s) : ∃ m,Fr X.base X.env.locals s.heap m :=
 let ⟨m,hn,_⟩ := I.loc
 ⟨m,hn,I.bk,Nat.le_trans I.ok.bsz I.ok.above⟩
theorem Inv.lt (I : Inv X pins σ H s) : X.env.locals < s.heap.objs.size := let ⟨_,hn,_⟩ := I.loc; hn.lt
theorem Inv.sz (I : Inv X pins σ H s) : X.s_0.heap.objs.size <= s.heap.objs.size := Nat.le_trans I.ok.above (Nat.le_of_lt I.lt)
theorem Inv.nofs (I : Inv X pins σ H s) {a : Addr} (h : s.heap.objs.size <= a) : a ∉ X.fs := fun hb => by
 obtain ⟨_,o,ho,_⟩ := I.ok.funs.mem hb
 exact absurd (Nat.lt_of_lt_of_le (Heap.lt_size ho) (Nat.le_trans I.sz h)) (Nat.lt_irrefl _)
theorem Inv.cne (I : Inv X pins σ H s) : ∀ x c,X.env.cells.lookup x = some c -> c ≠ X.env.locals := fun x c e z => by
 obtain ⟨v,o,ho,hd⟩ := I.cell x c e
 obtain ⟨m,⟨o',es,ep,ho',hd',_⟩,_⟩ := I.loc
 rw [z,ho'] at ho; cases ho; rw [hd'] at hd; cases hd
theorem Inv.funs (I : Inv X pins σ H s) : s.heap.FunFrames X.base X.outer := by
 have all : ∀ (l : List Env),(∀ b ∈ frs l,b ∈ X.fs) -> X.s_0.heap.FunFrames X.base l -> s.heap.FunFrames X.base l := by
  intro l
  induction l with
  | nil => intro _ _; trivial
  | cons env r ih =>
   intro hs hl
   obtain ⟨hk,⟨L,o,hf,hn,ho,hd⟩,hr⟩ := hl
   have hL : L ∈ X.fs := hs L (by unfold frs; rw [List.filterMap_cons,hf]; exact List.mem_cons_self)
   obtain ⟨sl,e⟩ := I.base.slot L o ho (I.ok.frf L hL) hL fun z => I.ok.exfs L z hL
   exact ⟨hk,⟨L,_,hf,hn,e,hd⟩,ih (fun b hb => hs b (by unfold frs; rw [List.filterMap_cons,hf]; exact List.mem_cons_of_mem _ hb)) hr⟩
 exact all X.outer (fun _ hb => hb) I.ok.funs
theorem Inv.stack (I : Inv X pins σ H s) : s.heap.FunFrames X.base X.stack := by
 rcases I.ok.stk with e | ⟨e,hf⟩
 ·rw [e]; exact I.funs
 ·rw [e]
  obtain ⟨m,hn,_⟩ := I.loc
  refine .cons (by rw [I.ok.kind]; decide) hf hn ?_ I.funs
  exact Heap.get?_none_of_le (Nat.le_trans I.ok.bsz I.ok.above)
theorem Inv.stkSub (I : Inv X pins σ H s) : ∀ b ∈ frs X.stack,b ∈ X.env.locals :: X.fs := fun b hb => by
 rcases I.ok.stk with e | ⟨e,hf⟩
 ·rw [e] at hb; exact List.mem_cons_of_mem _ hb
 ·rw [e] at hb
  unfold frs at hb
  rw [List.filterMap_cons,hf] at hb
  exact hb
theorem Inv.stkFree (I : Inv X pins σ H s) : ∀ b ∈ frs X.stack,H b = none := fun b hb => by
 rcases List.mem_cons.mp (I.stkSub b hb) with e | hb
 ·rw [e]; exact I.free
 ·obtain ⟨_,o,ho,_⟩ := I.ok.funs.mem hb
  exact I.base.free b o ho (I.ok.frf b hb) fun z => I.ok.exfs b z hb
theorem Inv.step {g' : Array GenState} {t' : Nat} {d' : Drawn} {ch : List Addr} (I : Inv X pins σ H s)
  (hch : ∀ b ∈ ch,(b ∈ X.ex ∨ X.s_0.heap.objs.size <= b) /\ b ≠ X.env.locals /\ (∀ x c,X.env.cells.lookup x = some c -> c ≠ b) /\ ∀ p ∈ X.pn ++ pins,p.1 ≠ b)
  (keep : ∀ b o,b ≠ X.env.locals -> b ∉ X.fs -> b ∉ ch -> s.heap.get? b = some o -> H b = none -> h'.get? b = some o)
  (slot : ∀ b o,b ≠ X.env.locals -> b ∈ X.fs -> b ∉ ch -> s.heap.get? b = some o -> H b = none -> ∃ sl,h'.get? b = some { o with slots := sl }) (free : ∀ b o,b ∉ ch -> s.heap.get? b = some o -> H b = none -> H' b = none)
  (there : ∀ b o,b ∉ ch -> s.heap.get? b = some o -> ∃ o',h'.get? b = some o')
  (tups : ∀ b xs,H b = some (.tup xs) -> H' b = some (.tup xs)) (frzs : ∀ b o u,H b = some (.frz o u) -> H' b = some (.frz o u)) (tbls : ∀ b ps,H b = some (.tbl ps) -> ∃ more,H' b = some (.tbl (ps ++ more)))
  (ns : ∀ m,s.heap.Ns X.env.locals m -> h'.Ns X.env.locals m) (hok : HOk X.prog X.w H' h') (hg : AllBare g') :
  Inv X pins σ H' { s with heap := h',gens := g',drawn := d',toks := t' } := by
 have neL : ∀ b o,X.s_0.heap.get? b = some o -> b ≠ X.env.locals := fun b o e => Nat.ne_of_lt (Nat.lt_of_lt_of_le (Heap.lt_size e) I.ok.above)
 have neC : ∀ b o,X.s_0.heap.get? b = some o -> b ∉ X.ex -> b ∉ ch := fun b o e hx hb => by
  rcases (hch b hb).1 with z | z
  ·exact hx z
  ·exact absurd (Nat.lt_of_lt_of_le (Heap.lt_size e) z) (Nat.lt_irrefl _)
 have cellK : ∀ x c,X.env.cells.lookup x = some c -> ∀ v,s.heap.IsCell c v -> h'.IsCell c v := fun x c e v ⟨o,ho,hd⟩ => by
  have nch : c ∉ ch := fun z => (hch c z).2.2.1 x c e rfl
  by_cases hc : c ∈ X.fs
  ·obtain ⟨sl,q⟩ := slot c o (I.cne x c e) hc nch ho (I.freeC x c e)
   exact ⟨_,q,hd⟩
  ·exact ⟨o,keep c o (I.cne x c e) hc nch ho (I.freeC x c e),hd⟩
 refine ⟨I.ok,I.os,hg,⟨fun b o e n hb hx => ?_,fun b o e n hb hx => ?_,fun b o e n hx => ?_,fun b o e hx => ?_,fun b xs e => tups b xs (I.base.tups b xs e),fun b o xs e => frzs b o xs (I.base.frzs b o xs e),fun b ps e => ?_⟩,?_,fun x c e => ?_,?_,fun x c e => ?_,fun p hp => ?_,hok,I.len⟩
 ·exact keep b o (neL b o e) hb (neC b o e hx) (I.base.keep b o e n hb hx) (I.base.free b o e n hx)
 ·obtain ⟨sl,e1⟩ := I.base.slot b o e n hb hx
  obtain ⟨sl',e2⟩ := slot b _ (neL b o e) hb (neC b o e hx) e1 (I.base.free b o e n hx)
  exact ⟨sl',e2⟩
 ·obtain ⟨o',e1⟩ := I.base.there b o e hx
  exact free b o' (neC b o e hx) e1 (I.base.free b o e n hx)
 ·obtain ⟨o',e1⟩ := I.base.there b o e hx
  exact there b o' (neC b o e hx) e1
 ·obtain ⟨m1,e1⟩ := I.base.tbls b ps e
  obtain ⟨m2,e2⟩ := tbls b _ e1
  exact ⟨m1 ++ m2,by rw [e2,Array.append_assoc]⟩
 ·obtain ⟨m,hn,hl⟩ := I.loc
  refine ⟨m,ns m hn,fun i x v e1 e2 e3 => ?_⟩
  obtain ⟨u,r,l⟩ := hl i x v e1 e2 e3
  refine ⟨u,r,?_⟩
  rcases l with l | ⟨k,c,e,z⟩
  ·exact .inl l
  ·exact .inr ⟨k,c,e,cellK x c e _ z⟩
 ·obtain ⟨v,z⟩ := I.cell x c e
  exact ⟨v,cellK x c e v z⟩
 ·obtain ⟨m,⟨o,_,_,ho,_⟩,_⟩ := I.loc
  exact free _ o (fun z => (hch _ z).2.1 rfl) ho I.free
 ·obtain ⟨v,o,ho,hd⟩ := I.cell x c e
  exact free c o (fun z => (hch c z).2.2.1 x c e rfl) ho (I.freeC x c e)
 ·obtain ⟨e,n,ne,nf,d⟩ := I.pin p hp
  have nch : p.1 ∉ ch := fun z => (hch p.1 z).2.2.2 p hp rfl
  exact ⟨keep p.1 p.2 ne nf nch e n,free p.1 p.2 nch e n,ne,nf,d⟩
theorem Inv.un {t' : Nat} (I : Inv X pins σ H s) (u : Un X.fs [] H H' s.heap h') (hok : HOk X.prog X.w H' h') : Inv X pins σ H' { s with heap := h',toks := t' } := by
 obtain ⟨m,⟨o,es,ep,ho,r⟩,_⟩ := id I.loc
 obtain ⟨sl,hL⟩ := u.any ho I.free (by simp)
 exact I.step (g' := s.gens) (d' := s.drawn) (ch := []) (fun _ z => nomatch z) (fun b o _ hb _ e n => u.keep b o e n hb (by simp)) (fun b o _ hb _ e n => u.slot b o e n hb (by simp)) (fun b o _ e n => u.free b o e n (by simp)) (fun b o _ e => u.there b o e (by simp)) u.tups u.frzs u.tbls (fun m' hm => by
  obtain ⟨o',es',ep',ho',r'⟩ := hm
  rw [ho] at ho'; cases ho'
  exact ⟨_,es',ep',hL,r'⟩) hok I.bare
theorem Inv.call {g' : Array GenState} {t' : Nat} {d' : Drawn} {ch : List Addr} (I : Inv X pins σ H s) (u : Un (frs X.stack) ch H H' s.heap h') (hok : HOk X.prog X.w H' h') (hg : AllBare g')
  (hch : ∀ b ∈ ch,(b ∈ X.ex ∨ X.s_0.heap.objs.size <= b) /\ b ≠ X.env.locals /\ (∀ x c,X.env.cells.lookup x = some c -> c ≠ b) /\ ∀ p ∈ X.pn ++ pins,p.1 ≠ b) :
  Inv X pins σ H' { s with heap := h',gens := g',drawn := d',toks := t' } := by
 obtain ⟨m,⟨o,es,ep,ho,r⟩,_⟩ := id I.loc
 obtain ⟨sl,hL⟩ := u.any ho I.free fun z => (hch _ z).2.1 rfl
 exact I.step (ch := ch) hch (fun b o hL hb hc e n => u.keep b o e n (fun z => (List.mem_cons.mp (I.stkSub b z)).elim hL hb) hc) (fun b o _ _ hc e n => u.any e n hc) (fun b o hc e n => u.free b o e n hc) (fun b o hc e => u.there b o e hc) u.tups u.frzs u.tbls (fun m' hm => by
  obtain ⟨o',es',ep',ho',r'⟩ := hm
  rw [ho] at ho'; cases ho'
  exact ⟨_,es',ep',hL,r'⟩) hok hg
theorem Inv.turned {t' : Nat} {it : Addr} (I : Inv X pins σ H s) (k : ∀ b o,b ≠ it -> s.heap.get? b = some o -> h'.get? b = some o) (hn : H it = none) (hL : it ≠ X.env.locals)
  (h1 : it ∈ X.ex ∨ X.s_0.heap.objs.size <= it) (h2 : ∀ x c,X.env.cells.lookup x = some c -> c ≠ it) (h3 : ∀ p ∈ X.pn ++ pins,p.1 ≠ it) : Inv X pins σ H { s with heap := h',toks := t' } := by
 have nit : ∀ b u,H b = some u -> b ≠ it := fun b u e z => by rw [z,hn] at e; cases e
 refine I.step (g' := s.gens) (d' := s.drawn) (ch := [it]) (fun b hb => ?_) (fun b o _ _ hc e _ => k b o (fun z => hc (by simp [z])) e) (fun b o _ _ hc e _ => ⟨o.slots,k b o (fun z => hc (by simp [z])) e⟩) (fun _ _ _ _ n => n)
  (fun b o hc e => ⟨o,k b o (fun z => hc (by simp [z])) e⟩) (fun _ _ e => e) (fun _ _ _ e => e) (fun b ps e => ⟨#[],by rw [e]; simp⟩) (fun m hm => ?_) (fun b u e => ?_) I.bare
 ·have e : b = it := by simpa using hb
  subst e
  exact ⟨h1,hL,h2,h3⟩
 ·obtain ⟨o,es,ep,ho,r⟩ := hm
  exact ⟨o,es,ep,k _ o (Ne.symm hL) ho,r⟩
 ·refine (I.hok b u e).stay (fun c v hc q => k c v ?_ q) (fun _ q => q) fun _ _ q => q
  rcases hc with z | z
  ·rw [z]; exact nit b u e
  ·exact nit c _ z
theorem Inv.tok (I : Inv X pins σ H s) (t : Nat) : Inv X pins σ H { s with toks := t } := I.un (h' := s.heap) (t' := t) Un.refl I.hok
theorem Inv.kept {t' : Nat} (I : Inv X pins σ H s) (k : ∀ b u,s.heap.get? b = some u -> h'.get? b = some u) : Inv X pins σ H { s with heap := h',toks := t' } := I.un (Un.kept k) (I.hok.kept k)
theorem Inv.laid {a : Addr} {o : HO} {t' : Nat} (I : Inv X pins σ H s) (k : ∀ b u,s.heap.get? b = some u -> h'.get? b = some u) (hp : s.heap.objs.size <= a) (new : ObjOk X.prog X.w (upd H a o) h' a o) :
  Inv X pins σ (upd H a o) { s with heap := h',toks := t' } := I.un (Un.laid k hp (I.hok.fresh hp)) (I.hok.laid k hp new)
theorem Inv.write {x e : Addr} {o : HO} {t' : Nat} (I : Inv X pins σ H s) (mu : Mut (H x)) (he : e = x ∨ H e = some (.own x)) (k : ∀ b u,b ≠ e -> s.heap.get? b = some u -> h'.get? b = some u) (heo : ∃ u,h'.get? e = some u)
  (new : ObjOk X.prog X.w (upd H x o) h' x o) : Inv X pins σ (upd H x o) { s with heap := h',toks := t' } := I.un (Un.write mu he k heo) (I.hok.write mu he k heo new)
theorem Inv.weak {σ' : List (Option V)} (I : Inv X pins σ H s) (hl : σ'.length = σ.length) (w : ∀ (i : Nat) v,σ'[i]? = some (some v) -> σ[i]? = some (some v)) : Inv X pins σ' H s :=
 ⟨I.ok,I.os,I.bare,I.base,let ⟨m,hn,hl'⟩ := I.loc; ⟨m,hn,fun i x v e1 e2 e3 => hl' i x v e1 (w i v e2) e3⟩,I.cell,I.free,I.freeC,I.pin,I.hok,hl.trans I.len⟩
theorem Inv.pins_of {pins' : List (Addr × Obj)} (I : Inv X pins σ H s) (h : ∀ p ∈ pins',s.heap.get? p.1 = some p.2 /\ H p.1 = none /\ p.1 ≠ X.env.locals /\ p.1 ∉ X.fs /\ ∀ v,p.2.data ≠ .cell v) : Inv X pins' σ H s :=
 ⟨I.ok,I.os,I.bare,I.base,I.loc,I.cell,I.free,I.freeC,fun p hp => (List.mem_append.mp hp).elim (fun z => I.pin p (List.mem_append_left _ z)) (h p),I.hok,I.len⟩
theorem nodup_ix {N : List Str} (hN : N.Nodup) {i j : Nat} {x : Str} (a : N[i]? = some x) (b : N[j]? = some x) : i = j := by
 obtain ⟨h1,e1⟩ := List.getElem?_eq_some_iff.mp a
 obtain ⟨h2,e2⟩ := List.getElem?_eq_some_iff.mp b
 exact (List.getElem_inj hN).mp (e1.trans e2.symm)
theorem store_ok2 {M : Model} {A : Around} {E : Value -> Shared -> Prop} {i : Nat} {x : Str} {v : V} {u : Value} {Q : Unit -> Shared -> Prop} (I : Inv X pins σ H s) (hN : X.N.Nodup) (hi : X.N[i]? = some x) (hx : Loc X.env.scope x) (r : RelV v u)
  (h : ∀ s',Inv X pins (σ.set i (some v)) H s' -> (∃ a,Heap.SameBut a s.heap s'.heap /\ (a = X.env.locals ∨ X.env.cells.lookup x = some a)) -> Q () s') (hf : X.fn x = true ∨ X.env.scope.names.lookup x = some .local := by first | exact .inl rfl | exact .inr rfl | assumption) : wpAny M A (storeName X.env x u) Q E s := by
 obtain ⟨m,hn,hl⟩ := id I.loc
 have hcls : (X.env.scope.kind == .class || (X.env.scope.kind == .module && X.env.locals != X.env.globals)) = false := by rw [I.ok.kind]; rfl
 have hiσ : i < σ.length := by rw [I.len]; exact (List.getElem?_eq_some_iff.mp hi).1
 have cne := I.cne
 have tracked : ∀ {a : Addr} {h' : Heap},(∃ o,s.heap.get? a = some o /\ H a = none) -> Heap.SameBut a s.heap h' -> HOk X.prog X.w H h' := fun {a h'} ha hs b ob e => by
  obtain ⟨_,_,hfree⟩ := ha
  refine (I.hok b ob e).stay (fun c w' hc q => (hs.2 c ?_).trans q) (fun _ q => q) fun _ _ q => q
  rintro rfl
  rcases hc with rfl | hc
  ·rw [hfree] at e; cases e
  ·rw [hfree] at hc; cases hc
 rcases hx with hk | hk
 ·refine wpAny_storeName_local hk hn (fun h' hn' hs => ?_) hcls
  obtain ⟨oL,_,_,hoL,_⟩ := id hn
  refine h _ ⟨I.ok,I.os,I.bare,⟨fun b o e n hb hx => ?_,fun b o e n hb hx => ?_,I.base.free,fun b o e hx => ?_,I.base.tups,I.base.frzs,I.base.tbls⟩,⟨_,hn',fun j y v' e1 e2 e3 => ?_⟩,fun y c e => ?_,I.free,I.freeC,fun p hp => ?_,tracked ⟨oL,hoL,I.free⟩ hs,by simpa using I.len⟩ ⟨_,hs,.inl rfl⟩
  ·exact (hs.2 b (Nat.ne_of_lt (Nat.lt_of_lt_of_le (Heap.lt_size e) I.ok.above))).trans (I.base.keep b o e n hb hx)
  ·obtain ⟨sl,e1⟩ := I.base.slot b o e n hb hx
   exact ⟨sl,(hs.2 b (Nat.ne_of_lt (Nat.lt_of_lt_of_le (Heap.lt_size e) I.ok.above))).trans e1⟩
  ·obtain ⟨o',e1⟩ := I.base.there b o e hx
   exact ⟨o',(hs.2 b (Nat.ne_of_lt (Nat.lt_of_lt_of_le (Heap.lt_size e) I.ok.above))).trans e1⟩
  ·by_cases hj : j = i
   ·subst hj
    rw [hi] at e1; cases e1
    rw [List.getElem?_set_self hiσ] at e2
    cases e2
    exact ⟨u,r,.inl ⟨hk,by simp⟩⟩
   ·rw [List.getElem?_set_ne (Ne.symm hj)] at e2
    obtain ⟨u',r',q⟩ := hl j y v' e1 e2 e3
    refine ⟨u',r',?_⟩
    rcases q with ⟨k,e⟩ | ⟨k,c,e,z⟩
    ·refine .inl ⟨k,?_⟩
     have : y ≠ x := fun e => hj (nodup_ix hN e1 (e ▸ hi))
     simp [this,e]
    ·exact .inr ⟨k,c,e,z.sameBut hs (cne y c e)⟩
  ·obtain ⟨w',z⟩ := I.cell y c e
   exact ⟨w',z.sameBut hs (cne y c e)⟩
  ·obtain ⟨e,n,ne,nf,d⟩ := I.pin p hp
   exact ⟨(hs.2 p.1 ne).trans e,n,ne,nf,d⟩
 ·have hfn : X.fn x = true := by
   rcases hf with z | z
   ·exact z
   ·rw [z] at hk; cases hk
  obtain ⟨c,hc⟩ := I.ok.has x (.inl hk)
  obtain ⟨w',z⟩ := I.cell x c hc
  refine wpAny_storeName_cell I.ok.kind hk hc z (fun h' hc' hs => ?_)
  obtain ⟨oc,hoc,hocd⟩ := id z
  refine h { s with heap := h' } ⟨I.ok,I.os,I.bare,⟨fun b o e n hb hx => ?_,fun b o e n hb hx => ?_,I.base.free,fun b o e hx => ?_,I.base.tups,I.base.frzs,I.base.tbls⟩,⟨m,hn.sameBut hs (Ne.symm (cne x c hc)),fun j y v' e1 e2 e3 => ?_⟩,fun y c' e => ?_,I.free,I.freeC,fun p hp => ?_,tracked ⟨oc,hoc,I.freeC x c hc⟩ hs,by simpa using I.len⟩ ⟨c,hs,.inr hc⟩
  ·exact (hs.2 b (Nat.ne_of_lt (Nat.lt_of_lt_of_le (Heap.lt_size e) (I.ok.cab x c hfn hc)))).trans (I.base.keep b o e n hb hx)
  ·obtain ⟨sl,e1⟩ := I.base.slot b o e n hb hx
   exact ⟨sl,(hs.2 b (Nat.ne_of_lt (Nat.lt_of_lt_of_le (Heap.lt_size e) (I.ok.cab x c hfn hc)))).trans e1⟩
  ·obtain ⟨o',e1⟩ := I.base.there b o e hx
   exact ⟨o',(hs.2 b (Nat.ne_of_lt (Nat.lt_of_lt_of_le (Heap.lt_size e) (I.ok.cab x c hfn hc)))).trans e1⟩
  ·by_cases hj : j = i
   ·subst hj
    rw [hi] at e1; cases e1
    rw [List.getElem?_set_self hiσ] at e2
    cases e2
    exact ⟨u,r,.inr ⟨.inl hk,c,hc,hc'⟩⟩
   ·rw [List.getElem?_set_ne (Ne.symm hj)] at e2
    obtain ⟨u',r',q⟩ := hl j y v' e1 e2 e3
    refine ⟨u',r',?_⟩
    rcases q with q | ⟨k,c',e,z'⟩
    ·exact .inl q
    ·refine .inr ⟨k,c',e,z'.sameBut hs ?_⟩
     rintro rfl
     exact hj (nodup_ix hN e1 (I.ok.inj _ _ _ e hc ▸ hi))
  ·by_cases hcc : c' = c
   ·subst hcc; exact ⟨_,hc'⟩
   ·obtain ⟨w2,z2⟩ := I.cell y c' e
    exact ⟨w2,z2.sameBut hs hcc⟩
  ·obtain ⟨e,n,ne,nf,d⟩ := I.pin p hp
   refine ⟨(hs.2 p.1 ?_).trans e,n,ne,nf,d⟩
   intro q
   rw [q,hoc] at e
   have q' : oc = p.2 := Option.some.inj e
   exact d w' (by rw [<- q']; exact hocd)
theorem store_ok {M : Model} {A : Around} {E : Value -> Shared -> Prop} {i : Nat} {x : Str} {v : V} {u : Value} {Q : Unit -> Shared -> Prop} (I : Inv X pins σ H s) (hN : X.N.Nodup) (hi : X.N[i]? = some x) (hx : Loc X.env.scope x) (r : RelV v u)
  (h : ∀ s',Inv X pins (σ.set i (some v)) H s' -> Q () s') (hf : X.fn x = true ∨ X.env.scope.names.lookup x = some .local := by first | exact .inl rfl | exact .inr rfl | assumption) : wpAny M A (storeName X.env x u) Q E s :=
 store_ok2 I hN hi hx r (fun s' I' _ => h s' I') hf
theorem Inv.call' {s' : Shared} {ch : List Addr} (I : Inv X pins σ H s) (ho : s'.os = s.os) (u : Un (frs X.stack) ch H H' s.heap s'.heap) (hok : HOk X.prog X.w H' s'.heap) (hg : AllBare s'.gens)
  (hch : ∀ b ∈ ch,(b ∈ X.ex ∨ X.s_0.heap.objs.size <= b) /\ b ≠ X.env.locals /\ (∀ x c,X.env.cells.lookup x = some c -> c ≠ b) /\ ∀ p ∈ X.pn ++ pins,p.1 ≠ b) : Inv X pins σ H' s' := by
 obtain ⟨h',g',d',t',o'⟩ := s'
 have e : o' = s.os := ho
 subst e
 exact I.call (g' := g') (t' := t') (d' := d') u hok hg hch
end
abbrev XK := Value -> Option Addr -> Hp -> Prop
abbrev St := List (Option V)
abbrev VK := V -> Hp -> Prop
abbrev TE := St -> Hp -> VK -> Prop
abbrev TT := St -> Hp -> (Bool -> Hp -> Prop) -> Prop
abbrev TA := St -> Hp -> (List V -> Hp -> Prop) -> Prop
structure Ends where
 nx : St -> Hp -> Prop
 rt : VK
 bk : St -> Hp -> Prop := fun _ _ => False
 ct : St -> Hp -> Prop := fun _ _ => False
abbrev TS := Ends -> St -> Hp -> Prop
def EP (X : Cx) (pins : List (Addr × Obj)) (σ : St) (Q : VK) (u : Value) (s' : Shared) : Prop := ∃ v H',Inv X pins σ H' s' /\ RelV v u /\ Q v H'
def TP (X : Cx) (pins : List (Addr × Obj)) (σ : St) (Q : Bool -> Hp -> Prop) (b : Bool) (s' : Shared) : Prop := ∃ H',Inv X pins σ H' s' /\ Q b H'
def AP (X : Cx) (pins : List (Addr × Obj)) (σ : St) (Q : List V -> Hp -> Prop) (us : List Value) (s' : Shared) : Prop := ∃ vs H',Inv X pins σ H' s' /\ Vals vs us /\ Q vs H'
def SP (X : Cx) (pins : List (Addr × Obj)) (D : Ends) (f : Flow) (s' : Shared) : Prop :=
 match f with
 | .next => ∃ σ' H',Inv X pins σ' H' s' /\ D.nx σ' H'
 | .brk => ∃ σ' H',Inv X pins σ' H' s' /\ D.bk σ' H'
 | .cont => ∃ σ' H',Inv X pins σ' H' s' /\ D.ct σ' H'
 | .ret u => ∃ v σ' H',Inv X pins σ' H' s' /\ RelV v u /\ D.rt v H'
def PE (X : Cx) (e : Expr) (t : TE) : Prop :=
 ∀ (pins : List (Addr × Obj)) (s : Shared) (σ : St) (H : Hp) (Q : VK),Inv X pins σ H s -> t σ H Q -> wpAny (model X.prog X.w) X.A (eval e X.env) (EP X pins σ Q) X.xe s
def PT (X : Cx) (e : Expr) (t : TT) : Prop :=
 ∀ (pins : List (Addr × Obj)) (s : Shared) (σ : St) (H : Hp) (Q : Bool -> Hp -> Prop),Inv X pins σ H s -> t σ H Q -> wpAny (model X.prog X.w) X.A (isTrue e X.env (eval e X.env)) (TP X pins σ Q) X.xe s
def PW (X : Cx) (e : Expr) (t : TT) : Prop :=
 ∀ (whole : Sem Value) (pins : List (Addr × Obj)) (s : Shared) (σ : St) (H : Hp) (Q : Bool -> Hp -> Prop),Inv X pins σ H s -> t σ H Q -> wpAny (model X.prog X.w) X.A (isTrue e X.env whole) (TP X pins σ Q) X.xe s
theorem PW.pt {X : Cx} {e : Expr} {t : TT} (h : PW X e t) : PT X e t := h _
def PA (X : Cx) (es : List Expr) (t : TA) : Prop :=
 ∀ (pos : Pos) (pins : List (Addr × Obj)) (s : Shared) (σ : St) (H : Hp) (Q : List V -> Hp -> Prop),Inv X pins σ H s -> t σ H Q -> wpAny (model X.prog X.w) X.A (spliced (backTo pos (starEach es X.env))) (AP X pins σ Q) X.xe s
def PS (X : Cx) (st : Stmt) (t : TS) : Prop :=
 ∀ (pins : List (Addr × Obj)) (s : Shared) (σ : St) (H : Hp) (D : Ends),Inv X pins σ H s -> t D σ H -> wpAny (model X.prog X.w) X.A (exec st X.env) (SP X pins D) X.xe s
def PSs (X : Cx) (st : List Stmt) (t : TS) : Prop :=
 ∀ (pins : List (Addr × Obj)) (s : Shared) (σ : St) (H : Hp) (D : Ends),Inv X pins σ H s -> t D σ H -> wpAny (model X.prog X.w) X.A (execs st X.env) (SP X pins D) X.xe s
theorem thn {α : Type} {t : Sem α} {Q Q' : α -> Shared -> Prop} {M : Model} {A : Around} {E : Value -> Shared -> Prop} {s : Shared} (h : wpAny M A t Q E s) (hQ : ∀ a s,Q a s -> Q' a s) : wpAny M A t Q' E s := wpAny_mono h hQ fun _ _ x => x
end L2
namespace L2
open PySem PySem.Spec PyProof.Rows
section
variable {X : Cx}
theorem bin {a b : Expr} {ta tb : TE} (ha : PE X a ta) (hb : PE X b tb) {pins : List (Addr × Obj)} {s : Shared} {σ : St} {H : Hp} {R : V -> V -> Hp -> Prop} (I : Inv X pins σ H s) (h : ta σ H fun x H1 => tb σ H1 fun y H2 => R x y H2)
  {α : Type} {Q : α -> Shared -> Prop} {f : Value -> Value -> Sem α}
  (hf : ∀ v u s2 x y H2,Inv X pins σ H2 s2 -> RelV x v -> RelV y u -> R x y H2 -> wpAny (model X.prog X.w) X.A (f v u) Q X.xe s2) :
  wpAny (model X.prog X.w) X.A (eval a X.env) (fun v s₁ => wpAny (model X.prog X.w) X.A (eval b X.env) (fun u s₂ => wpAny (model X.prog X.w) X.A (f v u) Q X.xe s₂) X.xe s₁) X.xe s := by
 refine thn (ha pins s σ H _ I h) fun v s1 ⟨x,H1,I1,r1,q1⟩ => ?_
 refine thn (hb pins s1 σ H1 _ I1 q1) fun u s2 ⟨y,H2,I2,r2,q2⟩ => ?_
 exact hf v u s2 x y H2 I2 r1 r2 q2
def tVar (i : Nat) : TE := fun σ H Q => ∃ v,σ[i]? = some (some v) /\ Q v H
def tC (v : V) : TE := fun _ H Q => Q v H
theorem pe_var {i : Nat} {x : Str} {pos : Pos} (hN : X.N[i]? = some x) (hv : Vis X.env.scope x) (hd : (x == ("__debug__" : Str)) = false := by decide) (hcd : (x == ("__classdict__" : Str)) = false := by decide) : PE X (.Name x pos) (tVar i) := by
 intro pins s σ H Q I h
 obtain ⟨v,e,h⟩ := h
 obtain ⟨m,hn,hl⟩ := I.loc
 obtain ⟨u,r,l⟩ := hl i x v hN e hv
 have fin : EP X pins σ Q u s := ⟨v,H,I,r,h⟩
 rcases l with ⟨hk,hm⟩ | ⟨hk,c,hc,hcell⟩
 ·exact wpAny_Name (wpAny_loadName_local I.ok.kind hk hn hm fin) hd
 ·rcases hk with hk | hk
  ·exact wpAny_Name (wpAny_loadName_cell I.ok.kind hk hc hcell fin) hd
  ·exact wpAny_Name (wpAny_loadName_free I.ok.kind hk hc hcell fin hcd) hd
theorem pe_int {i j pos} : PE X (.Constant (.int i) j pos) (tC (.int i)) := fun _ _ _ H _ I h => wpAny_Constant_int ⟨.int i,H,I.tok _,⟨_,rfl⟩,h⟩
theorem pe_bl {b j pos} : PE X (.Constant (.bool b) j pos) (tC (.bl b)) := fun _ _ _ H _ I h => Constant_bool ⟨.bl b,H,I,rfl,h⟩
theorem pe_non {j pos} : PE X (.Constant .none j pos) (tC .non) := fun _ _ _ H _ I h => Constant_none ⟨.non,H,I,rfl,h⟩
def Gl (X : Cx) (x : Str) : Prop := X.env.kindOf x = some .globalImplicit
theorem ld_glob {E : Value -> Shared -> Prop} {pins : List (Addr × Obj)} {s : Shared} {σ : St} {H : Hp} {x : Str} {u : Value} {pos : Pos} {Q : Value -> Shared -> Prop} (I : Inv X pins σ H s) (hg : Gl X x) (hm : X.mg x = some u) (h : Q u s)
  (hd : (x == ("__debug__" : Str)) = false := by decide) : wpAny (model X.prog X.w) X.A (eval (.Name x pos) X.env) Q E s :=
 Calls.Name_function_global I.ok.kind hg (Calls.loadGlobal_global (by rw [I.ok.glob]; exact I.mod.glob.keeps I.bk) hm h) hd
theorem ld_blt {E : Value -> Shared -> Prop} {pins : List (Addr × Obj)} {s : Shared} {σ : St} {H : Hp} {x : Str} {u : Value} {pos : Pos} {Q : Value -> Shared -> Prop} (I : Inv X pins σ H s) (hg : Gl X x) (hm : X.mg x = none) (hv : bootBuiltins x = some u) (h : Q u s)
  (hn : x ≠ "__name__" := by decide) (hd : (x == ("__debug__" : Str)) = false := by decide) : wpAny (model X.prog X.w) X.A (eval (.Name x pos) X.env) Q E s := by
 obtain ⟨mb,h1,h2⟩ := I.mod.blt
 exact Calls.Name_function_global I.ok.kind hg (Calls.loadGlobal_builtin (by rw [I.ok.glob]; exact I.mod.glob.keeps I.bk) hm (by rw [I.ok.blt]; exact h1.keeps I.bk) ((h2 x hn).trans hv) h) hd
theorem pe_glob {x : Str} {v : V} {u : Value} {pos : Pos} (hg : Gl X x) (hm : X.mg x = some u) (r : RelV v u) (hd : (x == ("__debug__" : Str)) = false := by decide) : PE X (.Name x pos) (tC v) :=
 fun _ _ _ H _ I h => ld_glob I hg hm ⟨v,H,I,r,h⟩ hd
variable {a b : Expr} {ta tb : TE} {pos : Pos}
def PC (X : Cx) (op : CmpOp) (a b : Expr) (t : TE) : Prop :=
 ∀ (pins : List (Addr × Obj)) (s : Shared) (σ : St) (H : Hp) (Q : VK),Inv X pins σ H s -> t σ H Q →
  wpAny (model X.prog X.w) X.A (eval a X.env) (fun v s₁ => wpAny (model X.prog X.w) X.A (eval b X.env) (fun u s₂ => wpAny (model X.prog X.w) X.A (compareOp op v u) (EP X pins σ Q) X.xe s₂) X.xe s₁) X.xe s
theorem nobehind (b : Expr) {op : CmpOp} (h : op ≠ .In) (h2 : op ≠ .NotIn) : behindInMarks op b = false := by
 have e1 : (op == CmpOp.In) = false := by cases op <;> first | rfl | exact absurd rfl h
 have e2 : (op == CmpOp.NotIn) = false := by cases op <;> first | rfl | exact absurd rfl h2
 cases b <;> simp [behindInMarks,e1,e2]
def tIsN (ta : TE) : TE := fun σ H Q => ta σ H fun x H1 => Q (.bl (decide (x = .non))) H1
def tNotN (ta : TE) : TE := fun σ H Q => ta σ H fun x H1 => Q (.bl (!decide (x = .non))) H1
theorem RelV.none_iff {x : V} {v : Value} (r : RelV x v) : (v == Value.none) = decide (x = .non) := by
 cases x with
 | non => cases r; rfl
 | bl _ => cases r; rfl
 | int _ => obtain ⟨t,rfl⟩ := r; rfl
 | str _ => obtain ⟨t,rfl⟩ := r; rfl
 | byt _ => obtain ⟨t,rfl⟩ := r; rfl
 | flt _ => obtain ⟨t,rfl⟩ := r; rfl
 | ref _ => cases r; rfl
 | ty _ => cases r; rfl
theorem pc_isN {j pos'} (ha : PE X a ta) : PC X .Is a (.Constant .none j pos') (tIsN ta) := by
 intro pins s σ H Q I h
 refine thn (ha pins s σ H _ I h) fun v s1 ⟨x,H1,I1,r1,q1⟩ => ?_
 exact Constant_none (is_none_gen ⟨.bl _,H1,I1,by rw [r1.none_iff]; rfl,q1⟩)
theorem pc_notN {j pos'} (ha : PE X a ta) : PC X .IsNot a (.Constant .none j pos') (tNotN ta) := by
 intro pins s σ H Q I h
 refine thn (ha pins s σ H _ I h) fun v s1 ⟨x,H1,I1,r1,q1⟩ => ?_
 exact Constant_none (isnot_none_gen ⟨.bl _,H1,I1,by rw [r1.none_iff]; rfl,q1⟩)
def tB (t : TE) : TT := fun σ H Q => t σ H fun x H1 => ∃ c,x = .bl c /\ Q c H1
theorem pe_cmp {op : CmpOp} {t : TE} (h : PC X op a b t) (h1 : behindInMarks op b = false := by first | exact nobehind _ (by decide) (by decide) | rfl) : PE X (.Compare a [op] [b] pos) t := fun pins s σ H Q I hw => wpAny_Compare1 (h pins s σ H Q I hw) h1
theorem pt_cmp {op : CmpOp} {t : TE} (h : PC X op a b t) (h1 : behindInMarks op b = false := by first | exact nobehind _ (by decide) (by decide) | rfl) : PT X (.Compare a [op] [b] pos) (tB t) := by
 intro pins s σ H Q I hw
 refine wpAny_isTrue_Compare1 (thn (h pins s σ H _ I hw) fun v s1 h1 => thn h1 fun u s2 h2 => thn h2 fun c s3 ⟨x,H1,I1,r1,q1⟩ => ?_) h1
 obtain ⟨d,rfl,q⟩ := q1
 cases r1
 exact wpAny_truthy_bool ⟨H1,I1,q⟩
theorem pt_val {e : Expr} {t : TE} (h : PE X e t) (he : ∀ whole,isTrue e X.env whole = (do let v ← whole; standAt e.pos; holding [v] (truthy v)) := by intro _; rfl) : PT X e (tB t) := by
 intro pins s σ H Q I hw
 refine isTrue_plain (thn (h pins s σ H _ I hw) fun v s1 ⟨x,H1,I1,r1,q1⟩ => ?_) (he _)
 obtain ⟨d,rfl,q⟩ := q1
 cases r1
 exact wpAny_truthy_bool ⟨H1,I1,q⟩
variable {tA tB' : TT} {rest : List Expr}
def tAnd (t u : TT) : TT := fun σ H Q => t σ H fun c H1 => if c = true then u σ H1 Q else Q false H1
def tOr (t u : TT) : TT := fun σ H Q => t σ H fun c H1 => if c = true then Q true H1 else u σ H1 Q
def tNot (t : TT) : TT := fun σ H Q => t σ H fun c H1 => Q (!c) H1
theorem pw_and1 (ha : PT X a tA) : PW X (.BoolOp .And [a] pos) tA := by
 intro wh pins s σ H Q I h
 refine isTrue_and (thn (ha pins s σ H Q I h) fun c s1 e => ?_)
 cases c with
 | true => exact isTrue_and_nil e
 | false => exact e
theorem pw_or1 (ha : PT X a tA) : PW X (.BoolOp .Or [a] pos) tA := by
 intro wh pins s σ H Q I h
 refine isTrue_or (thn (ha pins s σ H Q I h) fun c s1 e => ?_)
 cases c with
 | false => exact isTrue_or_nil e
 | true => exact e
theorem pw_and (ha : PT X a tA) (hb : PW X (.BoolOp .And (b :: rest) pos) tB') : PW X (.BoolOp .And (a :: b :: rest) pos) (tAnd tA tB') := by
 intro wh pins s σ H Q I h
 refine isTrue_and (thn (ha pins s σ H _ I h) fun c s1 ⟨H1,I1,q1⟩ => ?_)
 cases c with
 | true => exact hb wh pins s1 σ H1 Q I1 q1
 | false => exact ⟨H1,I1,q1⟩
theorem pw_or (ha : PT X a tA) (hb : PW X (.BoolOp .Or (b :: rest) pos) tB') : PW X (.BoolOp .Or (a :: b :: rest) pos) (tOr tA tB') := by
 intro wh pins s σ H Q I h
 refine isTrue_or (thn (ha pins s σ H _ I h) fun c s1 ⟨H1,I1,q1⟩ => ?_)
 cases c with
 | true => exact ⟨H1,I1,q1⟩
 | false => exact hb wh pins s1 σ H1 Q I1 q1
theorem pt_not (ha : PT X a tA) : PT X (.UnaryOp .Not a pos) (tNot tA) := by
 intro pins s σ H Q I h
 exact isTrue_not (ha pins s σ H (fun c H1 => Q (!c) H1) I h)
def tAndV (ta tb : TE) : TE := fun σ H Q => ta σ H fun x H1 => ∃ c,x = .bl c /\ if c = true then tb σ H1 Q else Q (.bl false) H1
theorem pe_one {op} {t : TE} (h : PE X a t) : PE X (.BoolOp op [a] pos) t := fun pins s σ H Q I hw => BoolOp_one (h pins s σ H Q I hw)
theorem pe_and (ha : PE X a ta) (hb : PE X (.BoolOp .And (b :: rest) pos) tb) : PE X (.BoolOp .And (a :: b :: rest) pos) (tAndV ta tb) := by
 intro pins s σ H Q I h
 refine BoolOp_and (thn (ha pins s σ H _ I h) fun v s1 ⟨x,H1,I1,r1,q1⟩ => ?_)
 obtain ⟨c,rfl,q1⟩ := q1
 cases r1
 refine wpAny_truthy_bool ?_
 cases c with
 | true => exact hb pins s1 σ H1 Q I1 q1
 | false => exact ⟨.bl false,H1,I1,rfl,q1⟩
end
end L2
namespace L2
open PySem PySem.Spec PyProof.Rows
def SqL (K : W.Frag) (H : Hp) (a : Addr) (xs : List V) : Prop :=
 Rd H a (.lst xs) ∨
  ∃ (o : Obj) (its : Array Value) (n : Nat),K.lookup a = some o /\ o.cls = .type "list" /\ o.dict = none /\ o.data = .seq its n /\ its.size <= sizeLine /\ Vals xs its.toList
def SqT (K : W.Frag) (H : Hp) (a : Addr) (xs : List V) : Prop :=
 Rd H a (.tup xs) ∨
  ∃ (o : Obj) (its : Array Value) (n : Nat),K.lookup a = some o /\ o.cls = .type "tuple" /\ o.data = .seq its n /\ its.size <= sizeLine /\ Vals xs its.toList
def absV : Value -> Option V
 | .none => some .non
 | .bool b => some (.bl b)
 | .int i _ => some (.int i)
 | .str x _ => some (.str x)
 | .bytes b _ => some (.byt b)
 | .float b _ => some (.flt b)
 | .ref a => some (.ref a)
 | .type n => some (.ty n)
 | _ => none
theorem RelV.abs {x : V} {u : Value} (r : RelV x u) : absV u = some x := by
 cases x with
 | non => cases r; rfl
 | bl _ => cases r; rfl
 | int _ => obtain ⟨t,rfl⟩ := r; rfl
 | str _ => obtain ⟨t,rfl⟩ := r; rfl
 | byt _ => obtain ⟨t,rfl⟩ := r; rfl
 | flt _ => obtain ⟨t,rfl⟩ := r; rfl
 | ref _ => cases r; rfl
 | ty _ => cases r; rfl
theorem RelV.inj {x y : V} {u : Value} (r : RelV x u) (q : RelV y u) : x = y := Option.some.inj (r.abs.symm.trans q.abs)
theorem Vals.inj : ∀ {xs ys : List V} {us : List Value},Vals xs us -> Vals ys us -> xs = ys
 | _,_,_,.nil,.nil => rfl
 | _,_,_,.cons r t,.cons r' t' => by rw [r.inj r',Vals.inj t t']
section
variable {X : Cx} {pins : List (Addr × Obj)} {σ : St} {H : Hp} {s : Shared} {a : Addr} {xs ys : List V}
theorem SqL.of {K : W.Frag} (h : H a = some (.lst xs)) : SqL K H a xs := .inl (.inl h)
theorem SqT.of {K : W.Frag} (h : H a = some (.tup xs)) : SqT K H a xs := .inl (.inl h)
theorem Inv.list (I : Inv X pins σ H s) (h : SqL X.K H a xs) : ∃ its : List Value,Vals xs its /\ PlainL s.heap a its.toArray /\ xs.length <= sizeLine := by
 rcases h with h | ⟨o,its,n,hk,hc,hd,hs,hz,r⟩
 ·obtain ⟨z,its,n,r,e⟩ := h.ok I.hok
  exact ⟨its,r,⟨_,n,e,rfl,rfl,rfl⟩,z⟩
 ·refine ⟨its.toList,r,⟨o,n,I.kIn a o hk,hc,hd,by simpa using hs⟩,?_⟩
  have e := r.length
  simp only [Array.length_toList] at e
  omega
theorem Inv.tuple (I : Inv X pins σ H s) (h : SqT X.K H a xs) : ∃ its : List Value,Vals xs its /\ IsTup s.heap a its.toArray /\ xs.length <= sizeLine := by
 rcases h with h | ⟨o,its,n,hk,hc,hs,hz,r⟩
 ·obtain ⟨z,its,r,p⟩ := h.ok I.hok
  exact ⟨its,r,p,z⟩
 ·refine ⟨its.toList,r,⟨o,I.kIn a o hk,hc,n,by simpa using hs⟩,?_⟩
  have e := r.length
  simp only [Array.length_toList] at e
  omega
theorem Inv.list_inj (I : Inv X pins σ H s) (h : SqL X.K H a xs) (h' : SqL X.K H a ys) : xs = ys := by
 obtain ⟨its,r,⟨o,n,e,_,_,d⟩,_⟩ := I.list h
 obtain ⟨its',r',⟨o',n',e',_,_,d'⟩,_⟩ := I.list h'
 rw [e] at e'; cases e'
 rw [d] at d'
 injection d' with d1 _
 have : its = its' := by simpa using congrArg Array.toList d1
 subst this
 exact r.inj r'
end
abbrev Cx.wish (X : Cx) (E : Value -> Shared -> Prop) : Cx := { X with xe := E }
abbrev Cx.nox (X : Cx) : Cx := X.wish fun _ _ => False
theorem Cx.Ok.wish {X : Cx} (ok : X.Ok) (E : Value -> Shared -> Prop) : (X.wish E).Ok :=
 ⟨ok.mod,ok.kind,ok.glob,ok.blt,ok.above,ok.inj,ok.has,ok.cab,ok.hd,ok.frames,ok.stk,ok.exf,ok.bs,ok.bsz,ok.noex,ok.exfs,ok.funs,ok.frf⟩
theorem Cx.Ok.unwish {X : Cx} {E : Value -> Shared -> Prop} (ok : (X.wish E).Ok) : X.Ok :=
 ⟨ok.mod,ok.kind,ok.glob,ok.blt,ok.above,ok.inj,ok.has,ok.cab,ok.hd,ok.frames,ok.stk,ok.exf,ok.bs,ok.bsz,ok.noex,ok.exfs,ok.funs,ok.frf⟩
section
variable {X : Cx} {pins : List (Addr × Obj)} {σ : St} {H : Hp} {s : Shared} {E : Value -> Shared -> Prop}
theorem Inv.wish (I : Inv X pins σ H s) (E : Value -> Shared -> Prop) : Inv (X.wish E) pins σ H s := ⟨I.ok.wish E,I.os,I.bare,I.base,I.loc,I.cell,I.free,I.freeC,I.pin,I.hok,I.len⟩
theorem Inv.unwish (I : Inv (X.wish E) pins σ H s) : Inv X pins σ H s := ⟨I.ok.unwish,I.os,I.bare,I.base,I.loc,I.cell,I.free,I.freeC,I.pin,I.hok,I.len⟩
theorem SP.unwish {D : Ends} {f : Flow} {s' : Shared} (h : SP (X.wish E) pins D f s') : SP X pins D f s' := by
 cases f with
 | next => obtain ⟨σ',H',I,q⟩ := h; exact ⟨σ',H',I.unwish,q⟩
 | brk => obtain ⟨σ',H',I,q⟩ := h; exact ⟨σ',H',I.unwish,q⟩
 | cont => obtain ⟨σ',H',I,q⟩ := h; exact ⟨σ',H',I.unwish,q⟩
 | ret u => obtain ⟨v,σ',H',I,r,q⟩ := h; exact ⟨v,σ',H',I.unwish,r,q⟩
theorem PSs.nox {st : List Stmt} {t : TS} (h : PSs X.nox st t) : PSs X st t := fun pins s σ H D I hw =>
 wpAny_mono (h pins s σ H D (I.wish _) hw) (fun _ _ q => q.unwish) fun _ _ z => False.elim z
end
section
variable {X : Cx} {st : Stmt} {rest : List Stmt} {t u : TS} {e : Expr} {te : TE} {pos : Pos}
def tNext : TS := fun D σ H => D.nx σ H
def tSeq (t u : TS) : TS := fun D σ H => t { D with nx := u D } σ H
theorem pss_nil : PSs X [] tNext := fun _ _ σ H _ I h => wpAny_execs_nil ⟨σ,H,I,h⟩
theorem pss_cons (h1 : PS X st t) (h2 : PSs X rest u) : PSs X (st :: rest) (tSeq t u) := by
 intro pins s σ H D I h
 refine wpAny_execs_cons (thn (h1 pins s σ H { D with nx := u D } I h) fun f s1 q => ?_)
 cases f with
 | next =>
  obtain ⟨σ',H',I',q⟩ := q
  exact h2 pins s1 σ' H' D I' q
 | ret v => exact q
 | brk => exact q
 | cont => exact q
theorem pss_one (h1 : PS X st t) : PSs X [st] t := by
 intro pins s σ H D I h
 refine wpAny_execs_cons (thn (h1 pins s σ H D I h) fun f s1 q => ?_)
 cases f with
 | next => exact wpAny_execs_nil q
 | ret v => exact q
 | brk => exact q
 | cont => exact q
theorem Inv.quiet {pins : List (Addr × Obj)} {σ : St} {H : Hp} {s : Shared} (I : Inv X pins σ H s) : interactive X.env = false := by simp [interactive,I.ok.kind]
def tDrop (te : TE) : TS := fun D σ H => te σ H fun _ H1 => D.nx σ H1
theorem ps_expr (he : PE X e te) (hs : swapsWith e none pos.line X.env = pure false := by rfl) : PS X (.Expr e pos) (tDrop te) := by
 intro pins s σ H D I h
 exact wpAny_Expr_any (thn (he pins s σ H _ I h) fun v s1 ⟨x,H1,I1,r1,q1⟩ => ⟨σ,H1,I1,q1⟩) I.quiet hs
def tRet (te : TE) : TS := fun D σ H => te σ H D.rt
theorem ps_ret (he : PE X e te) : PS X (.Return (some e) pos) (tRet te) := by
 intro pins s σ H D I h
 exact wpAny_Return_some (thn (he pins s σ H _ I h) fun v s1 ⟨x,H1,I1,r1,q1⟩ => ⟨x,σ,H1,I1,r1,q1⟩)
def tIfS (c : TT) (t u : TS) : TS := fun D σ H => c σ H fun b H1 => if b = true then t D σ H1 else u D σ H1
theorem ps_if {c : Expr} {a b : List Stmt} {tc : TT} (hc : PT X c tc) (ha : PSs X a t) (hb : PSs X b u) : PS X (.If c a b pos) (tIfS tc t u) := by
 intro pins s σ H D I h
 refine wpAny_If (thn (hc pins s σ H _ I h) fun d s1 ⟨H1,I1,q1⟩ => ?_)
 cases d with
 | true => exact ha pins s1 σ H1 D I1 q1
 | false => exact hb pins s1 σ H1 D I1 q1
end
abbrev TG := V -> St -> Hp -> (St -> Hp -> Prop) -> Prop
abbrev TGs := List V -> St -> Hp -> (St -> Hp -> Prop) -> Prop
def PG (X : Cx) (target : Expr) (t : TG) : Prop :=
 ∀ (pins : List (Addr × Obj)) (s : Shared) (σ : St) (H : Hp) (v : V) (u : Value) (Q : St -> Hp -> Prop),Inv X pins σ H s -> RelV v u -> t v σ H Q →
  wpAny (model X.prog X.w) X.A (assign target X.env u) (fun _ s' => ∃ σ' H',Inv X pins σ' H' s' /\ Q σ' H') X.xe s
def PGs (X : Cx) (ts : List Expr) (t : TGs) : Prop :=
 ∀ (pins : List (Addr × Obj)) (s : Shared) (σ : St) (H : Hp) (vs : List V) (us : List Value) (Q : St -> Hp -> Prop),Inv X pins σ H s -> Vals vs us -> t vs σ H Q →
  wpAny (model X.prog X.w) X.A (assignInOrder ((assignEach ts X.env).map (·.2)) us) (fun _ s' => ∃ σ' H',Inv X pins σ' H' s' /\ Q σ' H') X.xe s
abbrev TSet := V -> V -> V -> Hp -> (Hp -> Prop) -> Prop
def PSet (X : Cx) (t : TSet) : Prop :=
 ∀ (pins : List (Addr × Obj)) (s : Shared) (σ : St) (H : Hp) (o i v : V) (ov iv u : Value) (Q : Hp -> Prop),Inv X pins σ H s -> RelV o ov -> RelV i iv -> RelV v u -> t o i v H Q →
  wpAny (model X.prog X.w) X.A (setItem ov iv u) (fun _ s' => ∃ H',Inv X pins σ H' s' /\ Q H') X.xe s
abbrev TIp := V -> V -> Hp -> VK -> Prop
def PIp (X : Cx) (op : Operator) (t : TIp) : Prop :=
 ∀ (pins : List (Addr × Obj)) (s : Shared) (σ : St) (H : Hp) (x y : V) (v u : Value) (Q : VK),Inv X pins σ H s -> RelV x v -> RelV y u -> t x y H Q →
  wpAny (model X.prog X.w) X.A (inplaceOp op v u) (EP X pins σ Q) X.xe s
section
variable {X : Cx} {pos : Pos}
def gName (i : Nat) : TG := fun v σ H Q => Q (σ.set i (some v)) H
theorem pg_name {i : Nat} {x : Str} (hN : X.N.Nodup) (hi : X.N[i]? = some x) (hx : Loc X.env.scope x) (hf : X.fn x = true ∨ X.env.scope.names.lookup x = some .local := by first | exact .inl rfl | exact .inr rfl | assumption) : PG X (.Name x pos) (gName i) := by
 intro pins s σ H v u Q I r h
 exact wpAny_assign_Name (store_ok I hN hi hx r (fun s' I' => ⟨_,H,I',h⟩) hf)
def gNil : TGs := fun vs σ H Q => vs = [] /\ Q σ H
def gCons (t : TG) (u : TGs) : TGs := fun vs σ H Q => ∃ v r,vs = v :: r /\ t v σ H fun σ' H' => u r σ' H' Q
theorem pgs_nil : PGs X [] gNil := by
 intro pins s σ H vs us Q I r h
 obtain ⟨e,h⟩ := h
 subst e
 cases r
 exact assignInOrder_nil ⟨σ,H,I,h⟩
theorem pgs_cons {e : Expr} {es : List Expr} {t : TG} {u : TGs} (h1 : PG X e t) (h2 : PGs X es u)
  (hs : (assignEach (e :: es) X.env).map (·.2) = assign e X.env :: (assignEach es X.env).map (·.2) := by rfl) : PGs X (e :: es) (gCons t u) := by
 intro pins s σ H vs us Q I r h
 obtain ⟨v,vr,e1,h⟩ := h
 subst e1
 cases r with
 | cons r rr =>
  rw [hs]
  refine assignInOrder_cons (thn (h1 pins s σ H _ _ _ I r h) fun _ s1 ⟨σ1,H1,I1,q1⟩ => ?_)
  exact h2 pins s1 σ1 H1 _ _ Q I1 rr q1
def gTup (K : W.Frag) (n : Nat) (t : TGs) : TG := fun v σ H Q => ∃ a xs,v = .ref a /\ SqT K H a xs /\ xs.length = n /\ t xs σ H Q
theorem pg_tup {es : List Expr} {k : Nat} {t : TGs} {n : Nat} (hc : X.calm = true) (h : PGs X es t)
  (hn : (assignEach es X.env).length = n := by rfl) (hst : (assignEach es X.env).findIdx? (·.1) = none := by rfl) : PG X (.Tuple es k pos) (gTup X.K n t) := by
 intro pins s σ H v u Q I r hw
 obtain ⟨a,xs,e1,hq,hl,hw⟩ := hw
 subst e1
 cases r
 obtain ⟨its,rv,ht,hz⟩ := I.tuple hq
 refine assign_Tuple_tuple (I.ok.hd hc) ht (by simp [hn,← hl,rv.length]) hst fun h' hx => ?_
 have I1 : Inv X pins σ H { s with heap := h' } := I.kept (t' := s.toks) fun b o e => hx b o (Nat.ne_of_lt (Heap.lt_size e)) e
 exact h pins _ σ H xs _ Q I1 (by simpa using rv) hw
def gSub (to ti : TE) (t : TSet) : TG := fun v σ H Q => to σ H fun o H1 => ti σ H1 fun i H2 => t o i v H2 fun H3 => Q σ H3
theorem pg_sub {o i : Expr} {to ti : TE} {t : TSet} (ho : PE X o to) (hi : PE X i ti) (hs : PSet X t)
  (ha : ∀ v,assign (.Subscript o i pos) X.env v = (do
   let ov ← holding [v] (eval o X.env)
   let iv ← holding [v,ov] (eval i X.env)
   standAt pos
   holding [v,ov,iv] (setItem ov iv v)
   release [v,ov,iv] []) := by intro _; rfl) : PG X (.Subscript o i pos) (gSub to ti t) := by
 intro pins s σ H v u Q I r h
 rw [ha]
 refine wpAny_bind (wpAny_holding (thn (ho pins s σ H _ I h) fun ov s1 ⟨x,H1,I1,r1,q1⟩ => ?_))
 refine wpAny_bind (wpAny_holding (thn (hi pins s1 σ H1 _ I1 q1) fun iv s2 ⟨y,H2,I2,r2,q2⟩ => ?_))
 refine wpAny_bind (wpAny_standAt (wpAny_bind (wpAny_holding (thn (hs pins s2 σ H2 x y v ov iv u _ I2 r1 r2 r q2) fun _ s3 ⟨H3,I3,q3⟩ => ?_))))
 exact wpAny_release ⟨σ,H3,I3,q3⟩
def tAsg (te : TE) (g : TG) : TS := fun D σ H => te σ H fun x H1 => g x σ H1 D.nx
theorem ps_asg {tg e : Expr} {te : TE} {g : TG} (he : PE X e te) (hg : PG X tg g) (hs : swapsWithSole [tg] e pos.line X.env = pure false := by rfl) (hw : swappedStores [tg] e X.env = pure none := by rfl)
  (h1 : (assignEach [tg] X.env).map (·.2) = [assign tg X.env] := by rfl) : PS X (.Assign [tg] e pos) (tAsg te g) := by
 intro pins s σ H D I h
 refine wpAny_Assign_stores (thn (he pins s σ H _ I h) fun v s1 ⟨x,H1,I1,r1,q1⟩ => ?_) hs hw
 rw [h1]
 exact thn (hg pins s1 σ H1 x v _ I1 r1 q1) fun _ s2 q => q
theorem ps_set {i : Nat} {x : Str} {e : Expr} {te : TE} {pos' : Pos} (hN : X.N.Nodup) (hi : X.N[i]? = some x) (hx : Loc X.env.scope x) (he : PE X e te) (hs : swapsWith e (some (.Name x pos')) pos.line X.env = pure false := by rfl) (hf : X.fn x = true ∨ X.env.scope.names.lookup x = some .local := by first | exact .inl rfl | exact .inr rfl | assumption) :
  PS X (.Assign [.Name x pos'] e pos) (tAsg te (gName i)) := by
 intro pins s σ H D I h
 refine wpAny_Assign_Name (thn (he pins s σ H _ I h) fun v s1 ⟨y,H1,I1,r1,q1⟩ => ?_) hs
 exact store_ok I1 hN hi hx r1 (fun s2 I2 => ⟨_,H1,I2,q1⟩) hf
def tAugS (to ti te : TE) (tget : V -> V -> Hp -> VK -> Prop) (tip : TIp) (tset : TSet) : TS := fun D σ H => to σ H fun o H1 => ti σ H1 fun i H2 => tget o i H2 fun x H3 => te σ H3 fun y H4 => tip x y H4 fun z H5 => tset o i z H5 fun H6 => D.nx σ H6
def PGet (X : Cx) (t : V -> V -> Hp -> VK -> Prop) : Prop :=
 ∀ (pins : List (Addr × Obj)) (s : Shared) (σ : St) (H : Hp) (o i : V) (ov iv : Value) (Q : VK),Inv X pins σ H s -> RelV o ov -> RelV i iv -> t o i H Q →
  wpAny (model X.prog X.w) X.A (getItem ov iv) (EP X pins σ Q) X.xe s
theorem ps_augS {o i e : Expr} {to ti te : TE} {tget : V -> V -> Hp -> VK -> Prop} {tip : TIp} {tset : TSet} {op : Operator} {tpos : Pos} (ho : PE X o to) (hi : PE X i ti) (hg : PGet X tget) (he : PE X e te) (hp : PIp X op tip) (hs : PSet X tset)
  (ha : ∀ ov iv new,augStore i ov iv new = (do holding [new,ov,iv] (setItem ov iv new); release [new,ov,iv] []; pure .next) := by intros; rfl) : PS X (.AugAssign (.Subscript o i tpos) op e pos) (tAugS to ti te tget tip tset) := by
 intro pins s σ H D I h
 refine wpAny_AugAssign_SubscriptAny (thn (ho pins s σ H _ I h) fun ov s1 ⟨x1,H1,I1,r1,q1⟩ => ?_) ha
 refine thn (hi pins s1 σ H1 _ I1 q1) fun iv s2 ⟨x2,H2,I2,r2,q2⟩ => ?_
 refine thn (hg pins s2 σ H2 x1 x2 ov iv _ I2 r1 r2 q2) fun old s3 ⟨x3,H3,I3,r3,q3⟩ => ?_
 refine thn (he pins s3 σ H3 _ I3 q3) fun v s4 ⟨x4,H4,I4,r4,q4⟩ => ?_
 refine thn (hp pins s4 σ H4 x3 x4 old v _ I4 r3 r4 q4) fun new s5 ⟨x5,H5,I5,r5,q5⟩ => ?_
 exact thn (hs pins s5 σ H5 x1 x2 x5 ov iv new _ I5 r1 r2 r5 q5) fun _ s6 ⟨H6,I6,q6⟩ => ⟨σ,H6,I6,q6⟩
def ipI (f : Int -> Int -> Int) : TIp := fun x y H Q => ∃ i j,x = .int i /\ y = .int j /\ Q (.int (f i j)) H
theorem ip_add : PIp X .Add (ipI fun i j => i + j) := by
 intro pins s σ H x y v u Q I r1 r2 h
 obtain ⟨i,j,e1,e2,q⟩ := h
 subst e1; subst e2
 obtain ⟨t,rfl⟩ := r1
 obtain ⟨t',rfl⟩ := r2
 exact iadd_int ⟨.int _,H,I.tok _,⟨_,rfl⟩,q⟩
theorem ip_sub : PIp X .Sub (ipI fun i j => i - j) := by
 intro pins s σ H x y v u Q I r1 r2 h
 obtain ⟨i,j,e1,e2,q⟩ := h
 subst e1; subst e2
 obtain ⟨t,rfl⟩ := r1
 obtain ⟨t',rfl⟩ := r2
 exact isub_int ⟨.int _,H,I.tok _,⟨_,rfl⟩,q⟩
end
section
variable {X : Cx} {pos : Pos}
def tWhile (c : TT) (tb : TS) : TS := fun D σ H => ∃ W : Nat -> St -> Hp -> Prop,(∃ m,W m σ H) /\ ∀ m σ H,W m σ H →
 c σ H fun b H1 => if b = true then ∃ N : St -> Hp -> Prop,(∀ σ' H',N σ' H' -> ∃ m',m' < m /\ W m' σ' H') /\ tb { D with nx := N,ct := N,bk := D.nx } σ H1 else D.nx σ H1
theorem ps_while {c : Expr} {body : List Stmt} {tc : TT} {tb : TS} (hp : PassesOwn (model X.prog X.w) X.A X.env X.xe) (hc : PT X c tc) (hb : PSs X body tb) : PS X (.While c body [] pos) (tWhile tc tb) := by
 intro pins s σ H D I h
 obtain ⟨W,⟨m0,w0⟩,turn⟩ := h
 refine wpAny_While (codeAny_whileLoop (fun n s' => ∃ σ' H',Inv X pins σ' H' s' /\ W n σ' H') ?_ m0 ⟨σ,H,I,w0⟩)
 rintro n s1 ⟨σ1,H1,I1,w1⟩
 refine wpAny_passesOwn hp (thn (hc pins s1 σ1 H1 _ I1 (turn n σ1 H1 w1)) fun b s2 ⟨H2,I2,q2⟩ => ?_)
 cases b with
 | true =>
  obtain ⟨N,hN,q2⟩ := q2
  rw [if_pos rfl]
  refine wpAny_passesOwn hp (thn (hb pins s2 σ1 H2 _ I2 q2) fun f s3 q3 => ?_)
  cases f with
  | next =>
   obtain ⟨σ3,H3,I3,n3⟩ := q3
   obtain ⟨m',hm,w3⟩ := hN σ3 H3 n3
   exact ⟨m',hm,σ3,H3,I3,w3⟩
  | cont =>
   obtain ⟨σ3,H3,I3,n3⟩ := q3
   obtain ⟨m',hm,w3⟩ := hN σ3 H3 n3
   exact ⟨m',hm,σ3,H3,I3,w3⟩
  | brk => exact q3
  | ret v => exact q3
 | false =>
  rw [if_neg Bool.false_ne_true]
  exact wpAny_execs_nil ⟨σ1,H2,I2,q2⟩
end
structure It where
 go : Nat -> Hp -> Prop
 yld : Nat -> Hp -> V -> Hp -> Prop
 stop : Nat -> Hp -> Prop
def FpOk (X : Cx) (pins : List (Addr × Obj)) (H : Hp) (b : Addr) : Prop :=
 H b = none /\ b ≠ X.env.locals /\ b ∉ X.fs /\ (b ∈ X.ex ∨ X.s_0.heap.objs.size <= b) /\ (∀ x c,X.env.cells.lookup x = some c -> c ≠ b) /\ ∀ p ∈ X.pn ++ pins,p.1 ≠ b
theorem Inv.fpOk {X : Cx} {pins : List (Addr × Obj)} {σ : St} {H H' : Hp} {s : Shared} {b : Addr} (I : Inv X pins σ H s) (hb : s.heap.objs.size <= b) (hn : H' b = none) : FpOk X pins H' b := by
 refine ⟨hn,Nat.ne_of_gt (Nat.lt_of_lt_of_le I.lt hb),I.nofs hb,.inr (Nat.le_trans I.sz hb),fun x c e z => ?_,fun p hp z => ?_⟩
 ·obtain ⟨v,q⟩ := I.cell x c e
  exact absurd (Nat.lt_of_lt_of_le q.lt (by rw [z]; exact hb)) (Nat.lt_irrefl _)
 ·exact absurd (Nat.lt_of_lt_of_le (Heap.lt_size (I.pin p hp).1) (by rw [z]; exact hb)) (Nat.lt_irrefl _)
structure Turn (P : Program) (w : World) (K : W.Frag) (tg : Expr) (J : It) (fp : List Addr) (it : Addr) (tn : Nat -> Heap -> Prop) : Prop where
 mem : it ∈ fp
 obj : ∀ i h,tn i h -> ∀ b ∈ fp,∃ o,h.get? b = some o /\ ∀ v,o.data ≠ .cell v
 keep : ∀ i h h',tn i h -> (∀ b ∈ fp,∀ o,h.get? b = some o -> h'.get? b = some o) -> tn i h'
 item : ∀ (X : Cx),X.prog = P -> X.w = w -> X.K = K -> X.calm = true -> ∀ (i : Nat) (pins : List (Addr × Obj)) (s : Shared) (σ : St) (H : Hp) (E : Value -> Shared -> Prop),Inv X pins σ H s -> (∀ b ∈ fp,FpOk X pins H b) -> tn i s.heap -> J.go i H →
  wpAny (model P w) X.A (pyNext (.ref it)) (fun r s1 => ∃ u,r = some u ∧
   wpAny (model P w) X.A (letOwnedTupleGo tg (.ref it) u) (fun _ s2 => ∃ x H',Inv X pins σ H' s2 /\ RelV x u /\ J.yld i H x H' /\ tn (i + 1) s2.heap /\ ∀ b ∈ fp,H' b = none) E s1) E s
 done : ∀ (X : Cx),X.prog = P -> X.w = w -> X.K = K -> X.calm = true -> ∀ (i : Nat) (pins : List (Addr × Obj)) (s : Shared) (σ : St) (H : Hp) (E : Value -> Shared -> Prop),Inv X pins σ H s -> (∀ b ∈ fp,FpOk X pins H b) -> tn i s.heap -> J.stop i H →
  wpAny (model P w) X.A (pyNext (.ref it)) (fun r s1 => r = none /\ Inv X pins σ H s1) E s
 self : ∀ (A : Around) (i : Nat) (s : Shared) (Q : Value -> Shared -> Prop) (E : Value -> Shared -> Prop),tn i s.heap -> Q (.ref it) s -> wpAny (model P w) A (pyIter (.ref it)) Q E s
abbrev TI := St -> Hp -> (It -> Hp -> Prop) -> Prop
def PIE (X : Cx) (pins : List (Addr × Obj)) (σ : St) (tg : Expr) (R : It -> Hp -> Prop) (itv : Value) (s2 : Shared) : Prop :=
 ∃ (it : Addr) (fp : List Addr) (tn : Nat -> Heap -> Prop) (J : It) (H' : Hp),itv = .ref it /\ Inv X pins σ H' s2 /\ Turn X.prog X.w X.K tg J fp it tn /\ tn 0 s2.heap /\ (∀ b ∈ fp,FpOk X pins H' b) /\ R J H'
def PI (X : Cx) (tg iter : Expr) (wi : TI) : Prop :=
 ∀ (pins : List (Addr × Obj)) (s : Shared) (σ : St) (H : Hp) (R : It -> Hp -> Prop),Inv X pins σ H s -> wi σ H R →
  wpAny (model X.prog X.w) X.A (eval iter X.env) (fun v s1 => wpAny (model X.prog X.w) X.A (pyIter v) (PIE X pins σ tg R) X.xe s1) X.xe s
theorem go_of {M : Model} {A : Around} {E : Value -> Shared -> Prop} {s : Shared} {tg : Expr} {it : Addr} {u : Value} {o : Obj} {n : String} {vs : Array Value} {Q : Unit -> Shared -> Prop} (ho : s.heap.get? it = some o) (hc : o.cls = .type n) (hd : o.data = .fields vs)
  (hn : ["enumerate", "zip", "dict_itemiterator", "dict_reverseitemiterator", "odict_iterator", "itertools.zip_longest", "itertools.pairwise"].contains n = false) (hQ : Q () s) : wpAny M A (letOwnedTupleGo tg (.ref it) u) Q E s := by
 unfold letOwnedTupleGo
 cases tg <;> first
  | exact wpAny_pure hQ
  | (cases u <;> first
    | exact wpAny_pure hQ
    | (refine wpAny_bind (wpAny_load ho ?_); rw [hc,hd]; show wpAny M A (if (["enumerate", "zip", "dict_itemiterator", "dict_reverseitemiterator", "odict_iterator", "itertools.zip_longest", "itertools.pairwise"].contains n && vs[0]? == some (rawInt _)) = true then _ else _) Q E s; rw [if_neg (by intro h; rw [hn,Bool.false_and] at h; cases h)]; exact wpAny_pure hQ))
def Itl (K : W.Frag) (a : Addr) : It :=
 ⟨fun i H => ∃ xs x,SqL K H a xs /\ xs[i]? = some x,fun i H x H' => H' = H /\ ∀ xs,SqL K H a xs -> xs[i]? = some x,fun i H => ∃ xs,SqL K H a xs /\ xs.length <= i⟩
def Itr (lo : Int) (n : Nat) : It := ⟨fun i _ => i < n,fun i H x H' => H' = H /\ x = .int (lo + i),fun i _ => n <= i⟩
theorem turn_list {P : Program} {w : World} {K : W.Frag} {tg : Expr} (a it : Addr) : Turn P w K tg (Itl K a) [it] it (fun i h => h.IsListIter it a i) where
 mem := by simp
 obj := fun i h st b hb => by
  have e : b = it := by simpa using hb
  subst e
  obtain ⟨o,e,c,d⟩ := st
  exact ⟨o,e,fun v z => by rw [d] at z; cases z⟩
 keep := fun i h h' st k => st.at fun o e => k it (by simp) o e
 item := by
  intro X hP hw hK hc i pins s σ H E I hf st hg
  subst hP hw hK
  obtain ⟨xs,x,hq,hx⟩ := hg
  obtain ⟨its,rv,p,hz⟩ := I.list hq
  obtain ⟨u,hu,ru⟩ := rv.get hx
  obtain ⟨f0,f1,f2,f3,f4,f5⟩ := hf it (by simp)
  refine wpAny_pyNext_list_item st p.isList (x := u) (by simpa using hu) fun h' st' sb => ?_
  have I1 : Inv X pins σ H { s with heap := h' } := I.turned (t' := s.toks) (fun b o hb e => (sb.2 b hb).trans e) f0 f1 f3 f4 f5
  obtain ⟨o,e,c,d⟩ := id st'
  exact ⟨u,rfl,go_of (s := { s with heap := h' }) e c d (by decide) ⟨x,H,I1,ru,⟨rfl,fun ys hy => by rw [I.list_inj hy hq]; exact hx⟩,st',fun b hb => (hf b hb).1⟩⟩
 done := by
  intro X hP hw hK hc i pins s σ H E I hf st hg
  subst hP hw hK
  obtain ⟨xs,hq,hx⟩ := hg
  obtain ⟨its,rv,p,hz⟩ := I.list hq
  obtain ⟨f0,f1,f2,f3,f4,f5⟩ := hf it (by simp)
  have hl := rv.length
  exact wpAny_pyNext_list_end (I.ok.hd hc) st p.isList (by simp; omega) fun h' eb => ⟨rfl,I.turned (t' := s.toks) (fun b o hb e => eb b o hb e) f0 f1 f3 f4 f5⟩
 self := fun _ _ _ _ _ st h => wpAny_pyIter_listiter st h
theorem turn_range {P : Program} {w : World} {K : W.Frag} {tg : Expr} (it : Addr) (lo : Int) (n : Nat) : Turn P w K tg (Itr lo n) [it] it (fun i h => IsRangeIter h it (lo + (i : Nat) * 1) ((n : Int) - (i : Nat)) 1) where
 mem := by simp
 obj := fun i h st b hb => by
  have e : b = it := by simpa using hb
  subst e
  exact ⟨_,st,fun v z => by
   have z' : Data.fields _ = Data.cell v := z
   cases z'⟩
 keep := fun i h h' st k => k it (by simp) _ st
 item := by
  intro X hP hw hK hc i pins s σ H E I hf st hg
  subst hP hw hK
  obtain ⟨f0,f1,f2,f3,f4,f5⟩ := hf it (by simp)
  have W := Walks.range (prog := X.prog) (w := X.w) (I.ok.hd hc) it lo 1 n
  refine W.item i s _ _ hg st fun v h' tk hv st' kk => ?_
  obtain ⟨t,rfl⟩ := hv
  have I1 : Inv X pins σ H { s with heap := h',toks := tk } := I.turned (fun b o hb e => kk b o (by simpa using hb) e) f0 f1 f3 f4 f5
  refine ⟨_,rfl,go_of (s := { s with heap := h',toks := tk }) (n := "range_iterator") st' rfl rfl (by decide) ⟨.int (lo + i),H,I1,⟨t,?_⟩,⟨rfl,rfl⟩,st',fun b hb => (hf b hb).1⟩⟩
  rw [Int.mul_one]
 done := by
  intro X hP hw hK hc i pins s σ H E I hf st hg
  subst hP hw hK
  obtain ⟨f0,f1,f2,f3,f4,f5⟩ := hf it (by simp)
  exact wpAny_pyNext_range_end (I.ok.hd hc) st (by have : n <= i := hg; omega) fun h' eb => ⟨rfl,I.turned (t' := s.toks) (fun b o hb e => eb b o hb e) f0 f1 f3 f4 f5⟩
 self := fun _ _ _ _ _ st h => wpAny_pyIter_rangeiter st h
end L2
namespace L2
open PySem PySem.Spec PyProof.Rows
section
variable {X : Cx} {tg : Expr}
def iList (K : W.Frag) (tl : TE) : TI := fun σ H R => tl σ H fun x H1 => ∃ a,x = .ref a /\ (∃ xs,SqL K H1 a xs) /\ R (Itl K a) H1
theorem pi_list {l : Expr} {tl : TE} (hl : PE X l tl) : PI X tg l (iList X.K tl) := by
 intro pins s σ H R I h
 refine thn (hl pins s σ H _ I h) fun v s1 ⟨x,H1,I1,r1,q1⟩ => ?_
 obtain ⟨a,e,⟨xs,hq⟩,q⟩ := q1
 subst e
 cases r1
 obtain ⟨its,rv,p,hz⟩ := I1.list hq
 refine wpAny_pyIter_list p.isList ?_
 refine ⟨s1.heap.objs.size,[s1.heap.objs.size],_,_,H1,rfl,I1.kept (t' := s1.toks) fun b o e => Heap.get?_push_of_some _ e,turn_list a _,⟨_,Heap.get?_push_size _ rfl,rfl,rfl⟩,fun b hb => ?_,q⟩
 have e : b = s1.heap.objs.size := by simpa using hb
 subst e
 exact I1.fpOk (Nat.le_refl _) (I1.hok.fresh (Nat.le_refl _))
theorem range_it {pins : List (Addr × Obj)} {σ : St} {H : Hp} {s : Shared} {R : It -> Hp -> Prop} {E : Value -> Shared -> Prop} {lo hi : Int} {t u v : Tok} {tk : Nat} (I : Inv X pins σ H s) (h1 : -(2 ^ 62) <= lo) (h2 : lo < 2 ^ 62) (h3 : -(2 ^ 62) <= hi) (h4 : hi < 2 ^ 62)
  (q : R (Itr lo (hi - lo).toNat) H) : wpAny (model X.prog X.w) X.A (pyIter (.ref s.heap.objs.size)) (PIE X pins σ tg R) E { s with heap := s.heap.push { cls := .type "range",data := .fields #[.int lo t,.int hi u,.int 1 v] },toks := tk } := by
 refine wpAny_pyIter_range (IsRange.new ..) (small_one h1 h2 h3 h4) ?_
 have I1 : Inv X pins σ H { s with heap := s.heap.push { cls := .type "range",data := .fields #[.int lo t,.int hi u,.int 1 v] },toks := tk } := I.kept fun b o e => Heap.get?_push_of_some _ e
 refine ⟨(s.heap.push { cls := .type "range",data := .fields #[.int lo t,.int hi u,.int 1 v] }).objs.size,[(s.heap.push { cls := .type "range",data := .fields #[.int lo t,.int hi u,.int 1 v] }).objs.size],_,_,H,rfl,
  I1.kept (t' := tk) fun b o e => Heap.get?_push_of_some _ e,turn_range _ lo (hi - lo).toNat,?_,fun b hb => ?_,q⟩
 ·have e1 : lo + ((0 : Nat) : Int) * 1 = lo := by simp
  have e2 : (((hi - lo).toNat : Nat) : Int) - ((0 : Nat) : Int) = Builtin.Range.rangeSize lo hi 1 := by rw [rangeSize_one]; split <;> omega
  show IsRangeIter _ _ (lo + ((0 : Nat) : Int) * 1) ((((hi - lo).toNat : Nat) : Int) - ((0 : Nat) : Int)) 1
  rw [e1,e2]
  exact Heap.get?_push_size _ rfl
 ·have e : b = (s.heap.push { cls := .type "range",data := .fields #[.int lo t,.int hi u,.int 1 v] }).objs.size := by simpa using hb
  subst e
  exact I1.fpOk (Nat.le_refl _) (I1.hok.fresh (Nat.le_refl _))
def iRng1 (ta : TA) : TI := fun σ H R => ta σ H fun vs H1 => ∃ j : Int,vs = [.int j] /\ -(2 ^ 62) <= j /\ j < 2 ^ 62 /\ R (Itr 0 j.toNat) H1
def iRng2 (ta : TA) : TI := fun σ H R => ta σ H fun vs H1 => ∃ i j : Int,vs = [.int i,.int j] /\ (-(2 ^ 62) <= i /\ i < 2 ^ 62 /\ -(2 ^ 62) <= j /\ j < 2 ^ 62) /\ R (Itr i (j - i).toNat) H1
theorem pi_range1 {a : Expr} {ta : TA} {p pos : Pos} (hg : Gl X "range") (hm : X.mg "range" = none) (ha : PA X [a] ta) (hs : starEach [a] X.env = [(false,eval a X.env)] := by rfl) : PI X tg (.Call (.Name "range" p) [a] [] pos) (iRng1 ta) := by
 intro pins s σ H R I h
 refine Call_ (ld_blt I hg hm boot_range (PyProof.Rows.callWith_type1 (thn (ha pos pins s σ H _ I h) fun us s1 ⟨vs,H1,I1,r1,q1⟩ => ?_) hs rfl))
 obtain ⟨j,e,q1,q2,q⟩ := q1
 subst e
 cases r1 with
 | cons r rr =>
  cases rr
  obtain ⟨t,rfl⟩ := r
  exact call_range_1 (range_it I1 (by omega) (by omega) q1 q2 (by simpa using q))
theorem pi_range2 {a b : Expr} {ta : TA} {p pos : Pos} (hg : Gl X "range") (hm : X.mg "range" = none) (ha : PA X [a,b] ta) (hs : starEach [a,b] X.env = [(false,eval a X.env),(false,eval b X.env)] := by rfl) (hs2 : starEach [b] X.env = [(false,eval b X.env)] := by rfl) :
  PI X tg (.Call (.Name "range" p) [a,b] [] pos) (iRng2 ta) := by
 intro pins s σ H R I h
 refine Call_ (ld_blt I hg hm boot_range (PyProof.Rows.callWith_type1 (thn (ha pos pins s σ H _ I h) fun us s1 ⟨vs,H1,I1,r1,q1⟩ => ?_) (by rw [hs,hs2]) (by rw [hs2]; rfl)))
 obtain ⟨i,j,e,⟨q1,q2,q3,q4⟩,q⟩ := q1
 subst e
 cases r1 with
 | cons r rr =>
  cases rr with
  | cons r' rr =>
   cases rr
   obtain ⟨t,rfl⟩ := r
   obtain ⟨t',rfl⟩ := r'
   exact call_range_2 (range_it I1 q1 q2 q3 q4 q)
def tFor (wi : TI) (g : TG) (tb : TS) : TS := fun D σ H => wi σ H fun J H1 => ∃ W : Nat -> Nat -> St -> Hp -> Prop,(∃ m,W 0 m σ H1) /\ ∀ i m σ H,W i m σ H →
 (J.stop i H /\ D.nx σ H) ∨ (J.go i H /\ ∃ N : St -> Hp -> Prop,(∀ σ' H',N σ' H' -> ∃ m',m' < m /\ W (i + 1) m' σ' H') /\ ∀ x H',J.yld i H x H' -> g x σ H' fun σ2 H2 => tb { D with nx := N,ct := N,bk := D.nx } σ2 H2)
def pinsAt (fp : List Addr) (h : Heap) : List (Addr × Obj) := fp.filterMap fun b => (h.get? b).map fun o => (b,o)
theorem mem_pinsAt {fp : List Addr} {h : Heap} {b : Addr} {o : Obj} (hb : b ∈ fp) (e : h.get? b = some o) : (b,o) ∈ pinsAt fp h := List.mem_filterMap.mpr ⟨b,hb,by rw [e]; rfl⟩
theorem of_pinsAt {fp : List Addr} {h : Heap} {p : Addr × Obj} (hp : p ∈ pinsAt fp h) : p.1 ∈ fp /\ h.get? p.1 = some p.2 := by
 obtain ⟨b,hb,e⟩ := List.mem_filterMap.mp hp
 cases q : h.get? b with
 | none => rw [q] at e; cases e
 | some o =>
  rw [q] at e
  have e' : (b,o) = p := Option.some.inj e
  subst e'
  exact ⟨hb,q⟩
theorem Inv.pinned {pins : List (Addr × Obj)} {σ : St} {H : Hp} {s : Shared} {fp : List Addr} (I : Inv X pins σ H s) (hf : ∀ b ∈ fp,FpOk X pins H b) (ho : ∀ b ∈ fp,∃ o,s.heap.get? b = some o /\ ∀ v,o.data ≠ .cell v) : Inv X (pins ++ pinsAt fp s.heap) σ H s :=
 I.pins_of fun p hp => (List.mem_append.mp hp).elim (fun z => I.pin p (List.mem_append_right _ z)) fun z => by
  obtain ⟨hb,e⟩ := of_pinsAt z
  obtain ⟨f0,f1,f2,_⟩ := hf p.1 hb
  obtain ⟨o,e',d⟩ := ho p.1 hb
  rw [e] at e'; cases e'
  exact ⟨e,f0,f1,f2,d⟩
theorem Inv.unpinned {pins pl : List (Addr × Obj)} {σ : St} {H : Hp} {s : Shared} (I : Inv X (pins ++ pl) σ H s) : Inv X pins σ H s := I.pins_of fun p hp => I.pin p (List.mem_append_right _ (List.mem_append_left _ hp))
theorem ps_for {iter : Expr} {body : List Stmt} {wi : TI} {g : TG} {tb : TS} {pos : Pos} (hp : PassesOwn (model X.prog X.w) X.A X.env X.xe) (hc : X.calm = true) (hi : PI X tg iter wi) (hg : PG X tg g) (hb : PSs X body tb)
  (hs : ∀ x,foldedSetIterable iter X.env x = pure x := by intro _; rfl) : PS X (.For tg iter body [] pos) (tFor wi g tb) := by
 intro pins s σ H D I h
 refine wpAny_For (thn (hi pins s σ H _ I h) fun v s1 h1 => thn h1 fun itv s2 h2 => ?_) hs
 obtain ⟨it,fp,tn,J,H2,e,I2,T,st2,f2,W,⟨m0,w0⟩,turn⟩ := h2
 subst e
 have stat : ∀ {H' : Hp},(∀ b ∈ fp,H' b = none) -> ∀ b ∈ fp,FpOk X pins H' b := fun hn b hb => ⟨hn b hb,(f2 b hb).2⟩
 refine codeAny_forLoop_any (fun n s' => ∃ i σ' H',Inv X pins σ' H' s' /\ tn i s'.heap /\ (∀ b ∈ fp,H' b = none) /\ W i n σ' H') ?_ m0 ⟨0,σ,H2,I2,st2,fun b hb => (f2 b hb).1,w0⟩
 rintro n s3 ⟨i,σ3,H3,I3,st3,fr3,w3⟩
 rcases turn i n σ3 H3 w3 with ⟨stop,qn⟩ | ⟨go,N,hN,step⟩
 ·refine wpAny_passesOwn hp (thn (T.done X rfl rfl rfl hc i pins s3 σ3 H3 X.xe I3 (stat fr3) st3 stop) fun r s4 ⟨hr,I4⟩ => ?_)
  subst hr
  exact wpAny_execs_nil ⟨σ3,H3,I4,qn⟩
 ·refine wpAny_passesOwn hp (thn (T.item X rfl rfl rfl hc i pins s3 σ3 H3 X.xe I3 (stat fr3) st3 go) fun r s4 ⟨u,hr,h4⟩ => ?_)
  subst hr
  refine wpAny_passesOwn hp (thn h4 fun _ s5 ⟨x,H5,I5,r5,y5,st5,fr5⟩ => ?_)
  have I5' := I5.pinned (stat fr5) (T.obj _ _ st5)
  refine wpAny_passesOwn hp (thn (hg _ s5 σ3 H5 x u _ I5' r5 (step x H5 y5)) fun _ s6 ⟨σ6,H6,I6,q6⟩ => ?_)
  refine wpAny_passesOwn hp (thn (hb _ s6 σ6 H6 _ I6 q6) fun f s7 q7 => ?_)
  have again : ∀ {σ7 : St} {H7 : Hp},Inv X (pins ++ pinsAt fp s5.heap) σ7 H7 s7 -> N σ7 H7 -> ∃ m,m < n /\ ∃ i σ' H',Inv X pins σ' H' s7 /\ tn i s7.heap /\ (∀ b ∈ fp,H' b = none) /\ W i m σ' H' := fun {σ7 H7} I7 n7 => by
   obtain ⟨m',hm,w7⟩ := hN σ7 H7 n7
   refine ⟨m',hm,i + 1,σ7,H7,I7.unpinned,T.keep _ _ _ st5 fun b hb o e => (I7.pin (b,o) (List.mem_append_right _ (List.mem_append_right _ (mem_pinsAt hb e)))).1,fun b hb => ?_,w7⟩
   obtain ⟨o,e,d⟩ := T.obj _ _ st5 b hb
   exact (I7.pin (b,o) (List.mem_append_right _ (List.mem_append_right _ (mem_pinsAt hb e)))).2.1
  cases f with
  | next => obtain ⟨σ7,H7,I7,n7⟩ := q7; exact again I7 n7
  | cont => obtain ⟨σ7,H7,I7,n7⟩ := q7; exact again I7 n7
  | brk => obtain ⟨σ7,H7,I7,q7⟩ := q7; exact ⟨σ7,H7,I7.unpinned,q7⟩
  | ret v => obtain ⟨x7,σ7,H7,I7,r7,q7⟩ := q7; exact ⟨x7,σ7,H7,I7.unpinned,r7,q7⟩
end
theorem for_list {K : W.Frag} {a : Addr} {xs : List V} {g : TG} {tb : TS} {D : Ends} {σ : St} {H : Hp} (Pv : Nat -> St -> Hp -> Prop) (h0 : Pv 0 σ H) (hl : ∀ i σ H,i <= xs.length -> Pv i σ H -> SqL K H a xs)
  (hs : ∀ i x σ H,xs[i]? = some x -> Pv i σ H -> g x σ H fun σ2 H2 => tb { D with nx := Pv (i + 1),ct := Pv (i + 1),bk := D.nx } σ2 H2) (hd : ∀ σ H,Pv xs.length σ H -> D.nx σ H) :
  ∃ W : Nat -> Nat -> St -> Hp -> Prop,(∃ m,W 0 m σ H) /\ ∀ i m σ H,W i m σ H →
   ((Itl K a).stop i H /\ D.nx σ H) ∨ ((Itl K a).go i H /\ ∃ N : St -> Hp -> Prop,(∀ σ' H',N σ' H' -> ∃ m',m' < m /\ W (i + 1) m' σ' H') /\ ∀ x H',(Itl K a).yld i H x H' -> g x σ H' fun σ2 H2 => tb { D with nx := N,ct := N,bk := D.nx } σ2 H2) := by
 refine ⟨fun i m σ H => m = xs.length - i /\ i <= xs.length /\ Pv i σ H,⟨xs.length,by simp,Nat.zero_le _,h0⟩,?_⟩
 rintro i m σ H ⟨rfl,hi,p⟩
 have q := hl i σ H hi p
 by_cases hlt : i < xs.length
 ·refine .inr ⟨⟨xs,xs[i],q,by simp [hlt]⟩,Pv (i + 1),fun σ' H' p' => ⟨xs.length - (i + 1),by omega,rfl,hlt,p'⟩,fun x H' y => ?_⟩
  obtain ⟨e,y⟩ := y
  subst e
  exact hs i x σ _ (y xs q) p
 ·have e : i = xs.length := by omega
  subst e
  exact .inl ⟨⟨xs,q,Nat.le_refl _⟩,hd σ H p⟩
theorem for_range {lo : Int} {n : Nat} {g : TG} {tb : TS} {D : Ends} {σ : St} {H : Hp} (Pv : Nat -> St -> Hp -> Prop) (h0 : Pv 0 σ H)
  (hs : ∀ i σ H,i < n -> Pv i σ H -> g (.int (lo + i)) σ H fun σ2 H2 => tb { D with nx := Pv (i + 1),ct := Pv (i + 1),bk := D.nx } σ2 H2) (hd : ∀ σ H,Pv n σ H -> D.nx σ H) :
  ∃ W : Nat -> Nat -> St -> Hp -> Prop,(∃ m,W 0 m σ H) /\ ∀ i m σ H,W i m σ H →
   ((Itr lo n).stop i H /\ D.nx σ H) ∨ ((Itr lo n).go i H /\ ∃ N : St -> Hp -> Prop,(∀ σ' H',N σ' H' -> ∃ m',m' < m /\ W (i + 1) m' σ' H') /\ ∀ x H',(Itr lo n).yld i H x H' -> g x σ H' fun σ2 H2 => tb { D with nx := N,ct := N,bk := D.nx } σ2 H2) := by
 refine ⟨fun i m σ H => m = n - i /\ i <= n /\ Pv i σ H,⟨n,by simp,Nat.zero_le _,h0⟩,?_⟩
 rintro i m σ H ⟨rfl,hi,p⟩
 by_cases hlt : i < n
 ·refine .inr ⟨hlt,Pv (i + 1),fun σ' H' p' => ⟨n - (i + 1),by omega,rfl,hlt,p'⟩,fun x H' y => ?_⟩
  obtain ⟨e,y⟩ := y
  subst e y
  exact hs i σ _ hlt p
 ·have e : i = n := by omega
  subst e
  exact .inl ⟨Nat.le_refl _,hd σ H p⟩
theorem while_by {c : TT} {tb : TS} {D : Ends} {σ : St} {H : Hp} (Pv : St -> Hp -> Prop) (μ : St -> Hp -> Nat) (h0 : Pv σ H)
  (hs : ∀ σ H,Pv σ H -> c σ H fun b H1 => if b = true then tb { D with nx := fun σ' H' => Pv σ' H' /\ μ σ' H' < μ σ H,ct := fun σ' H' => Pv σ' H' /\ μ σ' H' < μ σ H,bk := D.nx } σ H1 else D.nx σ H1)
  (mono : ∀ σ H Q Q',(∀ b H1,Q b H1 -> Q' b H1) -> c σ H Q -> c σ H Q') : tWhile c tb D σ H := by
 refine ⟨fun m σ H => m = μ σ H /\ Pv σ H,⟨_,rfl,h0⟩,?_⟩
 rintro m σ H ⟨rfl,p⟩
 refine mono σ H _ _ (fun b H1 q => ?_) (hs σ H p)
 cases b with
 | true => exact ⟨_,fun σ' H' ⟨p',l⟩ => ⟨_,l,rfl,p'⟩,q⟩
 | false => exact q
end L2
namespace L2
open PySem PySem.Spec PyProof.Rows
abbrev R2 := V -> V -> Hp -> VK -> Prop
def OpR (X : Cx) (f : Value -> Value -> Sem Value) (r : R2) : Prop :=
 ∀ (pins : List (Addr × Obj)) (s : Shared) (σ : St) (H : Hp) (x y : V) (v u : Value) (Q : VK),Inv X pins σ H s -> RelV x v -> RelV y u -> r x y H Q →
  wpAny (model X.prog X.w) X.A (f v u) (EP X pins σ Q) X.xe s
def CallR (X : Cx) (f : Value) (r : List V -> Hp -> VK -> Prop) : Prop :=
 ∀ (pins : List (Addr × Obj)) (s : Shared) (σ : St) (H : Hp) (xs : List V) (us : List Value) (Q : VK),Inv X pins σ H s -> Vals xs us -> r xs H Q →
  wpAny (model X.prog X.w) X.A (call f us) (EP X pins σ Q) X.xe s
def tOp (r : R2) (ta tb : TE) : TE := fun σ H Q => ta σ H fun x H1 => tb σ H1 fun y H2 => r x y H2 Q
def rI (C : Int -> Int -> Prop) (g : Int -> Int -> V) : R2 := fun x y H Q => ∃ i j,x = .int i /\ y = .int j /\ C i j /\ Q (g i j) H
def rI0 (g : Int -> Int -> V) : R2 := fun x y H Q => ∃ i j,x = .int i /\ y = .int j /\ Q (g i j) H
section
variable {X : Cx} {a b c : Expr} {ta tb tc : TE} {pos : Pos}
theorem binT (ha : PE X a ta) (hb : PE X b tb) {pins : List (Addr × Obj)} {s : Shared} {σ : St} {H : Hp} {R : V -> V -> Hp -> Prop} (I : Inv X pins σ H s)
  (h : ta σ H fun x H1 => tb σ H1 fun y H2 => R x y H2) {Q : Value -> Shared -> Prop} {f : Value -> Value -> Sem Value}
  (hf : ∀ v u s2 x y H2,Inv X pins σ H2 s2 -> RelV x v -> RelV y u -> R x y H2 -> wpAny (model X.prog X.w) X.A (f v u) Q X.xe s2) :
  wpAny (model X.prog X.w) X.A (eval a X.env) (fun v s₁ => wpAny (model X.prog X.w) X.A (eval b X.env) (fun u s₂ => wpAny (model X.prog X.w) X.A (f v u) Q X.xe s₂) X.xe s₁) X.xe s := by
 refine thn (ha pins s σ H _ I h) fun v s1 ⟨x,H1,I1,r1,q1⟩ => ?_
 refine thn (hb pins s1 σ H1 _ I1 q1) fun u s2 ⟨y,H2,I2,r2,q2⟩ => ?_
 exact hf v u s2 x y H2 I2 r1 r2 q2
theorem pe_op {op : Operator} {r : R2} (ho : OpR X (binaryOp op) r) (ha : PE X a ta) (hb : PE X b tb) : PE X (.BinOp a op b pos) (tOp r ta tb) := by
 intro pins s σ H Q I h
 exact wpAny_BinOp (binT ha hb I h fun v u s2 x y H2 I2 rx ry q => ho pins s2 σ H2 x y v u Q I2 rx ry q)
theorem opI {f : Value -> Value -> Sem Value} {C : Int -> Int -> Prop} {g : Int -> Int -> Int}
  (rule : ∀ (i j : Int) (t u : Tok) (s : Shared) (Q : Value -> Shared -> Prop) (E : Value -> Shared -> Prop),C i j -> Q (.int (g i j) s.toks) { s with toks := s.toks + 1 } -> wpAny (model X.prog X.w) X.A (f (.int i t) (.int j u)) Q E s) :
  OpR X f (rI C fun i j => .int (g i j)) := by
 intro pins s σ H x y v u Q I rx ry h
 obtain ⟨i,j,rfl,rfl,hc,q⟩ := h
 obtain ⟨t,rfl⟩ := rx
 obtain ⟨t',rfl⟩ := ry
 exact rule i j t t' s _ _ hc ⟨.int (g i j),H,I.tok _,⟨_,rfl⟩,q⟩
theorem opI0 {f : Value -> Value -> Sem Value} {g : Int -> Int -> Int}
  (rule : ∀ (i j : Int) (t u : Tok) (s : Shared) (Q : Value -> Shared -> Prop) (E : Value -> Shared -> Prop),Q (.int (g i j) s.toks) { s with toks := s.toks + 1 } -> wpAny (model X.prog X.w) X.A (f (.int i t) (.int j u)) Q E s) :
  OpR X f (rI0 fun i j => .int (g i j)) := by
 intro pins s σ H x y v u Q I rx ry h
 obtain ⟨i,j,rfl,rfl,q⟩ := h
 obtain ⟨t,rfl⟩ := rx
 obtain ⟨t',rfl⟩ := ry
 exact rule i j t t' s _ _ ⟨.int (g i j),H,I.tok _,⟨_,rfl⟩,q⟩
theorem opB0 {f : Value -> Value -> Sem Value} {g : Int -> Int -> Bool}
  (rule : ∀ (i j : Int) (t u : Tok) (s : Shared) (Q : Value -> Shared -> Prop) (E : Value -> Shared -> Prop),Q (.bool (g i j)) s -> wpAny (model X.prog X.w) X.A (f (.int i t) (.int j u)) Q E s) :
  OpR X f (rI0 fun i j => .bl (g i j)) := by
 intro pins s σ H x y v u Q I rx ry h
 obtain ⟨i,j,rfl,rfl,q⟩ := h
 obtain ⟨t,rfl⟩ := rx
 obtain ⟨t',rfl⟩ := ry
 exact rule i j t t' s _ _ ⟨.bl (g i j),H,I,rfl,q⟩
def CDiv (i j : Int) : Prop := 0 < j /\ j < 1073741824
def CMul (i j : Int) : Prop := (-(2 ^ 64) < i /\ i < 2 ^ 64) ∨ (-(2 ^ 64) < j /\ j < 2 ^ 64)
theorem CMul.ok {i j : Int} (h : CMul i j) : IntMulOk i j := by
 rcases h with ⟨h1,h2⟩ | ⟨h1,h2⟩
 ·exact .of_left (intBits_le_64 h1 h2)
 ·exact .of_right (intBits_le_64 h1 h2)
theorem op_add : OpR X (binaryOp .Add) (rI0 fun i j => .int (i + j)) := opI0 fun _ _ _ _ _ _ _ q => add_int q
theorem op_sub : OpR X (binaryOp .Sub) (rI0 fun i j => .int (i - j)) := opI0 fun _ _ _ _ _ _ _ q => sub_int q
theorem op_mul : OpR X (binaryOp .Mult) (rI CMul fun i j => .int (i * j)) := opI fun _ _ _ _ _ _ _ hc q => mul_int q hc.ok
theorem op_fdiv : OpR X (binaryOp .FloorDiv) (rI CDiv fun i j => .int (i / j)) := opI fun i j _ _ _ _ _ hc q => by
 have h1 : (0 : Int) < j := hc.1
 have h2 : j < 1073741824 := hc.2
 exact floordiv_int (by omega) (by rw [Int.fdiv_eq_ediv_of_nonneg i (by omega)]; exact q) (.inl (PyProof.noPylong_small (by omega)))
theorem op_mod : OpR X (binaryOp .Mod) (rI (fun _ j => 0 < j) fun i j => .int (i % j)) := opI fun i j _ _ _ _ _ hc q => by
 have h1 : (0 : Int) < j := hc
 exact mod_int' (by omega) (by rw [Int.fmod_eq_emod_of_nonneg i (by omega)]; exact q)
end
def scal : V -> V -> Bool
 | .non,.non => true | .non,.int _ => true | .int _,.non => true | .non,.bl _ => true | .bl _,.non => true | .non,.str _ => true | .str _,.non => true
 | .int _,.int _ => true | .bl _,.bl _ => true | .str _,.str _ => true | .byt _,.byt _ => true
 | .int _,.str _ => true | .str _,.int _ => true | .bl _,.str _ => true | .str _,.bl _ => true
 | _,_ => false
def rEq : R2 := fun x y H Q => scal x y = true /\ Q (.bl (decide (x = y))) H
def rNe : R2 := fun x y H Q => scal x y = true /\ Q (.bl (!decide (x = y))) H
theorem dec_int {i j : Int} : decide (V.int i = V.int j) = (i == j) := by
 rw [Bool.eq_iff_iff]
 simp
theorem dec_bl {i j : Bool} : decide (V.bl i = V.bl j) = (i == j) := by
 rw [Bool.eq_iff_iff]
 simp
theorem dec_str {i j : Str} : decide (V.str i = V.str j) = (i == j) := by
 rw [Bool.eq_iff_iff]
 simp
theorem dec_byt {i j : Array UInt8} : decide (V.byt i = V.byt j) = (i.toList == j.toList) := by
 rw [Bool.eq_iff_iff]
 cases i
 cases j
 simp
section
variable {X : Cx} {a b c : Expr} {ta tb tc : TE} {pos : Pos}
theorem fin_bl {pins : List (Addr × Obj)} {σ : St} {H : Hp} {s : Shared} {Q : VK} {k k' : Bool} (I : Inv X pins σ H s) (q : Q (.bl k) H) (e : k = k') : EP X pins σ Q (.bool k') s := by
 subst e
 exact ⟨.bl k,H,I,rfl,q⟩
theorem op_eq : OpR X (compareOp .Eq) rEq := by
 intro pins s σ H x y v u Q I rx ry h
 obtain ⟨hs,q⟩ := h
 cases x with
 | non =>
  cases rx
  cases y with
  | non => cases ry; exact PySem.EqNone.eq_none_none (fin_bl I q (by simp))
  | bl j => cases ry; exact PySem.EqNone.eq_none_bool (fin_bl I q (by simp))
  | int j => obtain ⟨t',rfl⟩ := ry; exact PySem.EqNone.eq_none_int (fin_bl I q (by simp))
  | str j => obtain ⟨t',rfl⟩ := ry; exact PySem.EqNone.eq_none_str (fin_bl I q (by simp))
  | _ => exact absurd (show false = true from hs) Bool.false_ne_true
 | bl i =>
  cases rx
  cases y with
  | non => cases ry; exact PySem.EqNone.eq_bool_none (fin_bl I q (by simp))
  | bl j => cases ry; exact eq_bool (fin_bl I q dec_bl)
  | str j => obtain ⟨t',rfl⟩ := ry; exact PySem.EqMixed.eq_bool_str (fin_bl I q (by simp))
  | _ => exact absurd (show false = true from hs) Bool.false_ne_true
 | int i =>
  obtain ⟨t,rfl⟩ := rx
  cases y with
  | non => cases ry; exact PySem.EqNone.eq_int_none (fin_bl I q (by simp))
  | int j => obtain ⟨t',rfl⟩ := ry; exact eq_int (fin_bl I q dec_int)
  | str j => obtain ⟨t',rfl⟩ := ry; exact PySem.EqMixed.eq_int_str (fin_bl I q (by simp))
  | _ => exact absurd (show false = true from hs) Bool.false_ne_true
 | str i =>
  obtain ⟨t,rfl⟩ := rx
  cases y with
  | non => cases ry; exact PySem.EqNone.eq_str_none (fin_bl I q (by simp))
  | bl j => cases ry; exact PySem.EqMixed.eq_str_bool (fin_bl I q (by simp))
  | int j => obtain ⟨t',rfl⟩ := ry; exact PySem.EqMixed.eq_str_int (fin_bl I q (by simp))
  | str j => obtain ⟨t',rfl⟩ := ry; exact eq_str (fin_bl I q dec_str)
  | _ => exact absurd (show false = true from hs) Bool.false_ne_true
 | byt i =>
  obtain ⟨t,rfl⟩ := rx
  cases y with
  | byt j => obtain ⟨t',rfl⟩ := ry; exact W.eq_bytes (fin_bl I q dec_byt)
  | _ => exact absurd (show false = true from hs) Bool.false_ne_true
 | _ => cases y <;> exact absurd (show false = true from hs) Bool.false_ne_true
theorem op_ne : OpR X (compareOp .NotEq) rNe := by
 intro pins s σ H x y v u Q I rx ry h
 obtain ⟨hs,q⟩ := h
 cases x with
 | non =>
  cases rx
  cases y with
  | non => cases ry; exact PySem.EqNone.ne_none_none (fin_bl I q (by simp))
  | bl j => cases ry; exact PySem.EqNone.ne_none_bool (fin_bl I q (by simp))
  | int j => obtain ⟨t',rfl⟩ := ry; exact PySem.EqNone.ne_none_int (fin_bl I q (by simp))
  | str j => obtain ⟨t',rfl⟩ := ry; exact PySem.EqNone.ne_none_str (fin_bl I q (by simp))
  | _ => exact absurd (show false = true from hs) Bool.false_ne_true
 | bl i =>
  cases rx
  cases y with
  | non => cases ry; exact PySem.EqNone.ne_bool_none (fin_bl I q (by simp))
  | bl j => cases ry; exact ne_bool (fin_bl I q (congrArg not dec_bl))
  | str j => obtain ⟨t',rfl⟩ := ry; exact PySem.EqMixed.ne_bool_str (fin_bl I q (by simp))
  | _ => exact absurd (show false = true from hs) Bool.false_ne_true
 | int i =>
  obtain ⟨t,rfl⟩ := rx
  cases y with
  | non => cases ry; exact PySem.EqNone.ne_int_none (fin_bl I q (by simp))
  | int j => obtain ⟨t',rfl⟩ := ry; exact ne_int (fin_bl I q (congrArg not dec_int))
  | str j => obtain ⟨t',rfl⟩ := ry; exact PySem.EqMixed.ne_int_str (fin_bl I q (by simp))
  | _ => exact absurd (show false = true from hs) Bool.false_ne_true
 | str i =>
  obtain ⟨t,rfl⟩ := rx
  cases y with
  | non => cases ry; exact PySem.EqNone.ne_str_none (fin_bl I q (by simp))
  | bl j => cases ry; exact PySem.EqMixed.ne_str_bool (fin_bl I q (by simp))
  | int j => obtain ⟨t',rfl⟩ := ry; exact PySem.EqMixed.ne_str_int (fin_bl I q (by simp))
  | str j => obtain ⟨t',rfl⟩ := ry; exact ne_str (fin_bl I q (congrArg not dec_str))
  | _ => exact absurd (show false = true from hs) Bool.false_ne_true
 | byt i =>
  obtain ⟨t,rfl⟩ := rx
  cases y with
  | byt j => obtain ⟨t',rfl⟩ := ry; exact W.ne_bytes (fin_bl I q (congrArg not dec_byt))
  | _ => exact absurd (show false = true from hs) Bool.false_ne_true
 | _ => cases y <;> exact absurd (show false = true from hs) Bool.false_ne_true
theorem op_lt : OpR X (compareOp .Lt) (rI0 fun i j => .bl (decide (i < j))) := opB0 fun _ _ _ _ _ _ _ q => lt_int q
theorem op_le : OpR X (compareOp .LtE) (rI0 fun i j => .bl (decide (i <= j))) := opB0 fun _ _ _ _ _ _ _ q => le_int q
theorem op_gt : OpR X (compareOp .Gt) (rI0 fun i j => .bl (decide (j < i))) := opB0 fun _ _ _ _ _ _ _ q => gt_int q
theorem op_ge : OpR X (compareOp .GtE) (rI0 fun i j => .bl (decide (j <= i))) := opB0 fun _ _ _ _ _ _ _ q => ge_int q
theorem nomark (b : Expr) {op : CmpOp} (h : op ≠ .In := by decide) (h2 : op ≠ .NotIn := by decide) : behindInMarks op b = false := by
 have e1 : (op == CmpOp.In) = false := by cases op <;> first | rfl | exact absurd rfl h
 have e2 : (op == CmpOp.NotIn) = false := by cases op <;> first | rfl | exact absurd rfl h2
 cases b <;> simp [behindInMarks,e1,e2]
theorem pe_cmpR {op : CmpOp} {r : R2} (ho : OpR X (compareOp op) r) (ha : PE X a ta) (hb : PE X b tb) (hm : behindInMarks op b = false) : PE X (.Compare a [op] [b] pos) (tOp r ta tb) := by
 intro pins s σ H Q I h
 exact wpAny_Compare1 (binT ha hb I h fun v u s2 x y H2 I2 rx ry q => ho pins s2 σ H2 x y v u Q I2 rx ry q) hm
def tTest (t : TE) : TT := fun σ H Q => t σ H fun x H' => ∃ k,x = .bl k /\ Q k H'
theorem pt_cmpR {op : CmpOp} {r : R2} (ho : OpR X (compareOp op) r) (ha : PE X a ta) (hb : PE X b tb) (hm : behindInMarks op b = false) : PT X (.Compare a [op] [b] pos) (tTest (tOp r ta tb)) := by
 intro pins s σ H Q I h
 refine wpAny_isTrue_Compare1 (thn (ha pins s σ H _ I h) fun v s1 ⟨x,H1,I1,r1,q1⟩ => thn (hb pins s1 σ H1 _ I1 q1) fun u s2 ⟨y,H2,I2,r2,q2⟩ =>
  thn (ho pins s2 σ H2 x y v u _ I2 r1 r2 q2) fun c s3 ⟨z,H3,I3,r3,k,e,q3⟩ => ?_) hm
 subst e
 cases r3
 exact wpAny_truthy_bool ⟨H3,I3,q3⟩
theorem line63 : (sizeLine : Nat) < 2 ^ 63 := by rw [sizeLine_eq]; decide
theorem vals1 {x : V} {us : List Value} (r : Vals [x] us) : ∃ u,us = [u] /\ RelV x u := by
 cases r with
 | cons r1 r2 => cases r2; exact ⟨_,rfl,r1⟩
theorem vals2 {x y : V} {us : List Value} (r : Vals [x,y] us) : ∃ u w',us = [u,w'] /\ RelV x u /\ RelV y w' := by
 cases r with
 | cons r1 r2 =>
  cases r2 with
  | cons r3 r4 => cases r4; exact ⟨_,_,rfl,r1,r3⟩
theorem call_max2 (hc : X.calm = true) : CallR X (.builtin "max") (fun xs H Q => ∃ i j,xs = [.int i,.int j] /\ Q (.int (if j > i then j else i)) H) := by
 intro pins s σ H xs us Q I r h
 obtain ⟨i,j,rfl,q⟩ := h
 obtain ⟨u,w',rfl,⟨t,rfl⟩,⟨t',rfl⟩⟩ := vals2 r
 refine max_two_ints (I.ok.hd hc) fun h' tk k => ⟨_,H,I.kept k,?_,q⟩
 by_cases hj : j > i
 ·rw [if_pos hj,if_pos hj]; exact ⟨_,rfl⟩
 ·rw [if_neg hj,if_neg hj]; exact ⟨_,rfl⟩
end
end L2
namespace L2
open PySem PySem.Spec PyProof.Rows
structure ObjM (h : Heap) (x dx C : Addr) (mA : Str -> Option Value) : Prop where
 obj : h.get? x = some (W.instObj C dx)
 ns : h.Ns1 dx mA
 ne : dx ≠ x
theorem lookIn_ns {h : Heap} {dx : Addr} {mA : Str -> Option Value} (n : h.Ns1 dx mA) : ∃ od,h.get? dx = some od /\ ∀ name,W.lookIn name od = some (mA name) := by
 obtain ⟨o,es,ep,ho,hd,hk,_,hm⟩ := n
 refine ⟨o,ho,fun name => ?_⟩
 have e := hm name
 unfold nsFind findBy at e
 rw [<- Array.find?_toList] at e
 unfold W.lookIn
 rw [hd]
 dsimp only
 split
 ·rename_i y q
  rw [q] at e
  exact congrArg some e
 ·rename_i q
  rw [q] at e
  have a : es.toList.any (·.refKey) = false := by
   rw [List.any_eq_false]
   intro y hy
   obtain ⟨z,t,hkey⟩ := hk y (Array.mem_toList_iff.mp hy)
   simp [DictEntry.refKey,hkey]
  have a' : ¬ es.toList.any (·.refKey) = true := by rw [a]; exact Bool.false_ne_true
  rw [if_neg a']
  exact congrArg some e
theorem ObjM.look {h : Heap} {x dx C : Addr} {mA : Str -> Option Value} (I : ObjM h x dx C mA) : ∃ od,W.InstAt h x (W.instObj C dx) C (some od) /\ ∀ name,W.lookIn name od = some (mA name) :=
 let ⟨od,ho,hl⟩ := lookIn_ns I.ns
 ⟨od,⟨I.obj,rfl,rfl,ho⟩,hl⟩
section
variable {prog : Program} {w : World} {A : Around} {E : Value -> Shared -> Prop} {s : Shared} {K : W.Frag} {x dx C f : Addr} {mA : Str -> Option Value} {name : Str} {v : Value}
theorem get_map {expr : Bool} {Q : Value -> Shared -> Prop} (X : K.In s.heap) (I : ObjM s.heap x dx C mA) (hg : W.plainGet K C name = true) (hh : W.hasDictIn K C = true)
  (ha : W.findIn K (.ref C) name = some none) (hv : mA name = some v) (hv' : W.handedIn v = true) (h : Q v { s with toks := s.toks + 1 }) :
  wpAny (model prog w) A (getAttr (.ref x) name expr) Q E s := by
 obtain ⟨od,J,hl⟩ := I.look
 exact W.get_value X J (W.plainGet_of hg).1 (W.findObj_own hh ha rfl (by rw [hl,hv])) hv' h
theorem set_map {ns : List Str} {Q : Unit -> Shared -> Prop} (X : K.In s.heap) (I : ObjM s.heap x dx C mA)
  (hs : W.findIn K (.ref C) "__setattr__" = some (some (.builtin "object.__setattr__"))) (hp : W.plainOver K C = true) (ht : W.takerIn K C name = some none) (hh : W.hasDictIn K C = true)
  (hw : PySem.Within mA ns) (hsz : ns.length <= sizeLine)
  (h : ∀ h',ObjM h' x dx C (fun y => if y = name then some v else mA y) -> Heap.SameBut dx s.heap h' -> Q () { s with heap := h',toks := s.toks + 2 }) :
  wpAny (model prog w) A (setAttr (.ref x) name v) Q E s := by
 obtain ⟨od,J,hl⟩ := I.look
 refine W.set_plain X J hs (W.osa_open (s := { s with toks := s.toks + 1 }) (r := none) X J hp ht fun b => ?_)
 obtain ⟨cd,hc,hd'⟩ := W.any_some hh
 have hx : s.heap.get? x = some ⟨.ref C,some dx,.plain,#[]⟩ := I.obj
 refine wpAny_bind (wpAny_pure (wpAny_bind (wpAny_bind (wpAny_loadPart hx (wpAny_bind (W.Looks.here (s := { s with toks := s.toks + 1 }) (W.looks_clsIn X hc) ?_))))))
 rw [hd']
 refine wpAny_pure (a := some dx) (wpAny_bind (wpAny_pure (wpAny_bind ?_)))
 refine wpAny_nsSet1 (s := { s with toks := s.toks + 1 }) I.ns fun h' hn2 hs2 => ?_
 obtain ⟨oD,esD,epD,hoD,hdD,hcD⟩ := hn2.count (PySem.Within.cons name v hw)
 refine wpAny_bind (wpAny_lookBehind hoD (by rw [hdD]; exact pastItsLine_dict (Nat.le_trans hcD (by rw [List.length_cons]; omega))) ?_)
 exact wpAny_pure (h _ ⟨(hs2.2 _ (Ne.symm I.ne)).trans I.obj,hn2,I.ne⟩ hs2)
theorem make_map {R : Result -> Shared -> Prop} {vs : List Value} {kw : List (Str × Value)} (X : K.In s.heap) (hm : W.makesIn K C = true)
  (hi : W.findIn K (.ref C) "__init__" = some (some (.ref f))) (hf : W.typeIn K (.ref f) = some (.type "function"))
  (h : codeAny (model prog w) (A.under (.builtin "type.__call__" ⟨.ref C :: vs,kw⟩)) (.call (.ref f) ⟨.ref (s.heap.objs.size + 1) :: vs,kw⟩) (W.InitBack (s.heap.objs.size + 1) R)
   { s with heap := (s.heap.push W.emptyDict).push (W.instObj C s.heap.objs.size) }) :
  codeAny (model prog w) A (.call (.ref C) ⟨vs,kw⟩) R s := by
 obtain ⟨hh,g,d,t,os⟩ := s
 exact W.make_core (W.makes_of X hm) (W.looks_findIn X hi) (fun self => W.bind_fn X self hf) (.inl rfl) h
end
def putF (f : Str) (v : V) : List (Str × V) -> List (Str × V)
 | [] => [(f,v)]
 | (g,x) :: r => if g = f then (g,v) :: r else (g,x) :: putF f v r
theorem lookup_putF (f g : Str) (v : V) : ∀ fs : List (Str × V),(putF f v fs).lookup g = if g = f then some v else fs.lookup g
 | [] => by
  show List.lookup g [(f,v)] = _
  by_cases h : g = f
  ·have hb : (g == f) = true := beq_iff_eq.mpr h
   simp only [List.lookup,hb,if_pos h]
  ·have hb : (g == f) = false := beq_eq_false_iff_ne.mpr h
   simp only [List.lookup,hb,if_neg h]
 | (k,x) :: r => by
  have ih := lookup_putF f g v r
  rw [show putF f v ((k,x) :: r) = (if k = f then (k,v) :: r else (k,x) :: putF f v r) from rfl]
  by_cases hk : k = f
  ·rw [if_pos hk]
   by_cases h : g = k
   ·have hb : (g == k) = true := beq_iff_eq.mpr h
    simp only [List.lookup,hb,if_pos (h.trans hk)]
   ·have hb : (g == k) = false := beq_eq_false_iff_ne.mpr h
    simp only [List.lookup,hb,if_neg (fun e : g = f => h (e.trans hk.symm))]
  ·rw [if_neg hk]
   by_cases h : g = k
   ·have hb : (g == k) = true := beq_iff_eq.mpr h
    simp only [List.lookup,hb,if_neg (fun e : g = f => hk (h.symm.trans e))]
   ·have hb : (g == k) = false := beq_eq_false_iff_ne.mpr h
    simp only [List.lookup,hb]
    exact ih
theorem keys_putF (f : Str) (v : V) : ∀ fs : List (Str × V),f ∈ (putF f v fs).map (·.1) /\ ∀ g,g ∈ fs.map (·.1) -> g ∈ (putF f v fs).map (·.1)
 | [] => ⟨by simp [putF],fun g h => by simp at h⟩
 | (k,x) :: r => by
  obtain ⟨i1,i2⟩ := keys_putF f v r
  rw [show putF f v ((k,x) :: r) = (if k = f then (k,v) :: r else (k,x) :: putF f v r) from rfl]
  by_cases hk : k = f
  ·rw [if_pos hk]
   subst hk
   exact ⟨by simp,fun g h => by simpa using h⟩
  ·rw [if_neg hk]
   refine ⟨?_,fun g h => ?_⟩
   ·rw [List.map_cons]
    exact List.mem_cons_of_mem _ i1
   ·rw [List.map_cons] at h ⊢
    rcases List.mem_cons.mp h with e | e
    ·exact List.mem_cons.mpr (.inl e)
    ·exact List.mem_cons_of_mem _ (i2 g e)
theorem length_putF (f : Str) (v : V) : ∀ fs : List (Str × V),(putF f v fs).length <= fs.length + 1
 | [] => by simp [putF]
 | (k,x) :: r => by
  have ih := length_putF f v r
  rw [show putF f v ((k,x) :: r) = (if k = f then (k,v) :: r else (k,x) :: putF f v r) from rfl]
  by_cases hk : k = f
  ·rw [if_pos hk,List.length_cons,List.length_cons]; omega
  ·rw [if_neg hk,List.length_cons,List.length_cons]; omega
theorem RelO.some_of {v : V} {o : Option Value} (r : RelO (some v) o) : ∃ u,o = some u /\ RelV v u := by
 cases o with
 | none => exact (show False from r).elim
 | some u => exact ⟨u,rfl,r⟩
theorem handed_of {v : V} {u : Value} (r : RelV v u) : W.handedIn u = true := by
 cases v with
 | non => cases (show u = Value.none from r); rfl
 | bl b => cases (show u = Value.bool b from r); rfl
 | int i => obtain ⟨t,e⟩ := (show ∃ t,u = Value.int i t from r); cases e; rfl
 | str x => obtain ⟨t,e⟩ := (show ∃ t,u = Value.str x t from r); cases e; rfl
 | byt b => obtain ⟨t,e⟩ := (show ∃ t,u = Value.bytes b t from r); cases e; rfl
 | flt b => obtain ⟨t,e⟩ := (show ∃ t,u = Value.float b t from r); cases e; rfl
 | ref a => cases (show u = Value.ref a from r); rfl
 | ty n => cases (show u = Value.type n from r); rfl
section
variable {P : Program} {w : World} {H H' : Hp} {h h' : Heap} {a C dx : Addr} {fs fs' : List (Str × V)}
theorem ins_get (hok : HOk P w H h) (e : H a = some (.ins C dx fs)) : ∃ mA,ObjM h a dx C mA /\ (∀ f,RelO (fs.lookup f) (mA f)) /\ PySem.Within mA (fs.map (·.1)) /\ fs.length <= 1000 /\ H dx = some (.own a) := by
 obtain ⟨d,z,ne,ob,mA,n,r,q⟩ := (show ObjOk P w H h a (.ins C dx fs) from hok a _ e)
 exact ⟨mA,⟨ob,n,ne⟩,r,q,z,d⟩
end
structure Cls (K : W.Frag) (C : Addr) : Prop where
 pg : W.plainGet K C Str.empty = true
 hd : W.hasDictIn K C = true
 po : W.plainOver K C = true
 sa : W.findIn K (.ref C) "__setattr__" = some (some (.builtin "object.__setattr__"))
theorem Cls.get {K : W.Frag} {C : Addr} (c : Cls K C) (f : Str) : W.plainGet K C f = true := c.pg
def NoAttr (K : W.Frag) (C : Addr) (f : Str) : Prop := W.findIn K (.ref C) f = some none
theorem NoAttr.taker {K : W.Frag} {C : Addr} {f : Str} (n : NoAttr K C f) : W.takerIn K C f = some none := by
 unfold W.takerIn
 rw [show W.findIn K (.ref C) f = some none from n]
 rfl
section
variable {X : Cx} {pins : List (Addr × Obj)} {σ : St} {H : Hp} {s : Shared} {a C dx : Addr} {fs : List (Str × V)} {f : Str} {v : V} {A : Around} {E : Value -> Shared -> Prop}
theorem getattr_ok {b : Bool} {Q : Value -> Shared -> Prop} (I : Inv X pins σ H s) (e : H a = some (.ins C dx fs)) (c : Cls X.K C) (n : NoAttr X.K C f) (l : fs.lookup f = some v)
  (h : ∀ u s',Inv X pins σ H s' -> RelV v u -> Q u s') : wpAny (model X.prog X.w) A (getAttr (.ref a) f b) Q E s := by
 obtain ⟨mA,O,r,_,_,_⟩ := ins_get I.hok e
 obtain ⟨u,hu,ru⟩ := RelO.some_of (v := v) (o := mA f) (by rw [<- l]; exact r f)
 exact get_map I.kIn O (c.get f) c.hd n hu (handed_of ru) (h u _ (I.tok _) ru)
theorem setattr_ok {y : V} {u : Value} {Q : Unit -> Shared -> Prop} (I : Inv X pins σ H s) (e : H a = some (.ins C dx fs)) (c : Cls X.K C) (n : NoAttr X.K C f) (hl : fs.length < 1000) (ry : RelV y u)
  (h : ∀ s',Inv X pins σ (upd H a (.ins C dx (putF f y fs))) s' -> Q () s') : wpAny (model X.prog X.w) A (setAttr (.ref a) f u) Q E s := by
 obtain ⟨mA,O,r,wi,_,ho⟩ := ins_get I.hok e
 have hz : (fs.map (·.1)).length <= sizeLine := by rw [List.length_map,sizeLine_eq]; omega
 refine set_map I.kIn O c.sa c.po n.taker c.hd wi hz fun h' O' sb => h _ ?_
 have hd : ∃ o,h'.get? dx = some o := let ⟨o,_,_,e',_⟩ := O'.ns; ⟨o,e'⟩
 refine I.write (x := a) (e := dx) (by rw [e]; exact True.intro) (.inr ho) (fun b q hb z => (sb.2 b hb).trans z) hd ?_
 refine ⟨by rw [upd_ne O.ne]; exact ho,?_,O.ne,O'.obj,_,O'.ns,fun g => ?_,fun g hg => ?_⟩
 ·have := length_putF f y fs; omega
 ·show RelO ((putF f y fs).lookup g) (if g = f then some u else mA g)
  rw [lookup_putF]
  by_cases q : g = f
  ·rw [if_pos q,if_pos q]; exact ry
  ·rw [if_neg q,if_neg q]; exact r g
 ·by_cases q : g = f
  ·rw [q]; exact (keys_putF f y fs).1
  ·refine (keys_putF f y fs).2 g (wi g fun z => hg ?_)
   show (if g = f then some u else mA g) = none
   rw [if_neg q]; exact z
theorem Inv.made (I : Inv X pins σ H s) : Inv X pins σ (upd (upd H s.heap.objs.size (.own (s.heap.objs.size + 1))) (s.heap.objs.size + 1) (.ins C s.heap.objs.size []))
  { s with heap := (s.heap.push W.emptyDict).push (W.instObj C s.heap.objs.size) } := by
 have e1 : (s.heap.push W.emptyDict).get? s.heap.objs.size = some W.emptyDict := Heap.get?_push_size s.heap rfl
 have e2 : ((s.heap.push W.emptyDict).push (W.instObj C s.heap.objs.size)).get? (s.heap.objs.size + 1) = some (W.instObj C s.heap.objs.size) := by
  have := Heap.get?_push_size (s.heap.push W.emptyDict) (o := W.instObj C s.heap.objs.size) rfl
  rwa [Heap.size_push] at this
 have e3 : (s.heap.push W.emptyDict).Ns s.heap.objs.size (fun _ => none) := ⟨W.emptyDict,#[],_,e1,rfl,(fun e he => absurd he (by simp)),fun _ => rfl⟩
 have I1 := I.laid (a := s.heap.objs.size) (o := .own (s.heap.objs.size + 1)) (h' := s.heap.push W.emptyDict) (t' := s.toks) (fun b u q => Heap.get?_push_of_some _ q) (Nat.le_refl _) ⟨_,e1⟩
 refine I1.laid (a := s.heap.objs.size + 1) (o := .ins C s.heap.objs.size []) (t' := s.toks) (fun b u q => Heap.get?_push_of_some _ q) (Nat.le_of_eq (Heap.size_push _ _)) ?_
 have ne : s.heap.objs.size ≠ s.heap.objs.size + 1 := Nat.ne_of_lt (Nat.lt_succ_self _)
 refine ⟨by rw [upd_ne ne,upd_same],Nat.zero_le _,ne,e2,fun _ => none,(Heap.Ns1.of_empty e3).at fun o q => Heap.get?_push_of_some _ q,fun _ => True.intro,fun y hy => absurd rfl hy⟩
theorem attr_of {prog : Program} {w : World} {env : Env} {e : Expr} {f : Str} {pos : Pos} {s : Shared} {Q : Value -> Shared -> Prop} (hb : attributeBase e f env (eval e env) = eval e env)
  (h : wpAny (model prog w) A (eval e env) (fun o s₁ => wpAny (model prog w) A (getAttr o f true) Q E s₁) E s) : wpAny (model prog w) A (eval (.Attribute e f pos) env) Q E s :=
 Attribute_any_ h (by rw [arm_eval_Attribute,hb])
end
def tFld (K : W.Frag) (ta : TE) (f : Str) : TE := fun σ H Q => ta σ H fun x H1 => ∃ a C dx fs v,x = .ref a /\ H1 a = some (.ins C dx fs) /\ Cls K C /\ NoAttr K C f /\ fs.lookup f = some v /\ Q v H1
def sFld (K : W.Frag) (ta tv : TE) (f : Str) : TS := fun D σ H => tv σ H fun y H1 => ta σ H1 fun x H2 => ∃ a C dx fs,x = .ref a /\ H2 a = some (.ins C dx fs) /\ Cls K C /\ NoAttr K C f /\ fs.length < 1000 ∧
 D.nx σ (upd H2 a (.ins C dx (putF f y fs)))
section
variable {X : Cx} {o e value : Expr} {f : Str} {pos pos' tpos : Pos} {ta tv : TE}
theorem pe_fld (he : PE X e ta) (hb : attributeBase e f X.env (eval e X.env) = eval e X.env) : PE X (.Attribute e f pos) (tFld X.K ta f) := by
 intro pins s σ H Q I h
 refine attr_of hb (thn (he pins s σ H _ I h) fun u s1 ⟨x,H1,I1,rx,a,C,dx,fs,v,ex,ea,c,n,l,q⟩ => ?_)
 subst ex
 obtain rfl : u = Value.ref a := rx
 exact getattr_ok I1 ea c n l fun u' s2 I2 ru => ⟨v,H1,I2,ru,q⟩
theorem ps_fld (ha : PE X o ta) (hv : PE X value tv) (hs : swapsWith value (some (.Attribute o f pos')) pos.line X.env = pure false) : PS X (.Assign [.Attribute o f pos'] value pos) (sFld X.K ta tv f) := by
 intro pins s σ H D I h
 refine plainObj_wpAny_Assign_Attribute (thn (hv pins s σ H _ I h) fun u s1 ⟨y,H1,I1,ry,q⟩ => thn (ha pins s1 σ H1 _ I1 q) fun ov s2 ⟨x,H2,I2,rx,a,C,dx,fs,ex,ea,c,n,l,q2⟩ => ?_) hs
 subst ex
 obtain rfl : ov = Value.ref a := rx
 exact setattr_ok I2 ea c n l ry fun s3 I3 => ⟨σ,_,I3,q2⟩
end
end L2
namespace L2
open PySem PySem.Spec PyProof.Rows
structure Room (k : Nat) (A : Around) : Prop where
 hd : A.handled = none
 dp : A.depth + 3 * k + 5 < recursionLimit
 un : A.units + 16 * k + 200 < cLine
theorem Room.mono {j k : Nat} {A : Around} (r : Room k A) (h : j <= k) : Room j A := ⟨r.hd,by have := r.dp; omega,by have := r.un; omega⟩
theorem Room.deeper {k : Nat} {A : Around} (r : Room (k + 1) A) (env : Env) : Room k (A.deeper env) :=
 ⟨r.hd,by have := r.dp; show A.depth + 1 + 3 * k + 5 < _; omega,by have := r.un; show A.units + 3 + 16 * k + 200 < _; omega⟩
theorem Room.in1 {k : Nat} {A : Around} (r : Room (k + 1) A) : Room k A.in1 :=
 ⟨r.hd,by have := r.dp; show A.depth + 3 * k + 5 < _; omega,by have := r.un; show A.units + 1 + 16 * k + 200 < _; omega⟩
theorem make_depth {A : Around} {C : Addr} {us : List Value} {kw : List (Str × Value)} : (A.under (.builtin "type.__call__" ⟨.ref C :: us,kw⟩)).depth = A.depth + 1 := by
 first | rfl | simp [Around.under,Code.weight,Code.isCreation,Code.isGuard,Code.isCaller,Code.frames,Code.isFrame,guardIds]
theorem make_units {A : Around} {C : Addr} {us : List Value} {kw : List (Str × Value)} : (A.under (.builtin "type.__call__" ⟨.ref C :: us,kw⟩)).units = A.units + 1 := by
 first | rfl | simp [Around.under,Code.cUnits,Code.frames,Code.isFrame]
theorem Room.make {k : Nat} {A : Around} (r : Room (k + 1) A) (C : Addr) (us : List Value) (kw : List (Str × Value)) : Room k (A.under (.builtin "type.__call__" ⟨.ref C :: us,kw⟩)) :=
 ⟨r.hd,by have := r.dp; rw [make_depth]; omega,by have := r.un; rw [make_units]; omega⟩
theorem Room.depth {k : Nat} {A : Around} (r : Room k A) : A.depth < recursionLimit := by have := r.dp; omega
theorem Room.units {k : Nat} {A : Around} (r : Room k A) : A.units + 64 < cLine := by have := r.un; omega
def tNil : TA := fun _ H Q => Q [] H
def tCons (ta : TE) (tr : TA) : TA := fun σ H Q => ta σ H fun x H1 => tr σ H1 fun xs H2 => Q (x :: xs) H2
section
variable {X : Cx} {e : Expr} {es : List Expr} {te : TE} {t : TA} {pos : Pos}
theorem pa_nil : PA X [] tNil := fun _ _ _ _ H Q I h => Calls.spliced_nil ⟨[],H,I,.nil,h⟩
theorem pa_cons (ha : PE X e te) (hr : PA X es t) (hs : starEach (e :: es) X.env = (false,eval e X.env) :: starEach es X.env := by rfl) : PA X (e :: es) (tCons te t) := by
 intro pos pins s σ H Q I h
 rw [hs]
 show wpAny _ _ (spliced ((false,eval e X.env) :: backTo pos (starEach es X.env))) _ _ s
 refine Calls.spliced_cons (thn (ha pins s σ H _ I h) fun u s1 ⟨x,H1,I1,r1,q1⟩ => ?_)
 exact thn (hr pos pins s1 σ H1 _ I1 q1) fun us s2 ⟨xs,H2,I2,r2,q2⟩ => ⟨x :: xs,H2,I2,.cons r1 r2,q2⟩
def tTup (t : TA) : TE := fun σ H Q => t σ H fun xs H1 => xs.length <= sizeLine /\ ∀ p,H1 p = none -> Q (.ref p) (upd H1 p (.tup xs))
def tLst (t : TA) : TE := fun σ H Q => t σ H fun xs H1 => xs.length <= sizeLine /\ ∀ p,H1 p = none -> Q (.ref p) (upd H1 p (.lst xs))
theorem pe_tup {x1} (h : PA X es t) : PE X (.Tuple es x1 pos) (tTup t) := by
 intro pins s σ H Q I hq
 refine wpAny_Tuple_spliced (thn (h pos pins s σ H _ I hq) fun us s1 ⟨xs,H1,I1,r,z,q⟩ => ⟨by rw [<- r.length]; exact z,?_⟩)
 have hf : H1 s1.heap.objs.size = none := I1.hok.fresh (Nat.le_refl _)
 refine ⟨.ref s1.heap.objs.size,upd H1 s1.heap.objs.size (.tup xs),I1.laid (t' := s1.toks) (fun b u e => Heap.get?_push_of_some _ e) (Nat.le_refl _) ?_,rfl,q _ hf⟩
 exact ⟨z,us,r,⟨_,Heap.get?_push_size _ rfl,rfl,_,rfl⟩⟩
theorem pe_lst (h : PA X es t) : PE X (.List es pos) (tLst t) := by
 intro pins s σ H Q I hq
 refine wpAny_List_spliced (thn (h pos pins s σ H _ I hq) fun us s1 ⟨xs,H1,I1,r,z,q⟩ => ⟨by rw [<- r.length]; exact z,?_⟩)
 have hf : H1 s1.heap.objs.size = none := I1.hok.fresh (Nat.le_refl _)
 refine ⟨.ref s1.heap.objs.size,upd H1 s1.heap.objs.size (.lst xs),I1.laid (t' := s1.toks) (fun b u e => Heap.get?_push_of_some _ e) (Nat.le_refl _) ?_,rfl,q _ hf⟩
 exact ⟨z,us,0,r,Heap.get?_push_size _ rfl⟩
end
abbrev Sp := List V -> Hp -> VK -> XK -> Prop
abbrev CXT := List Env -> Hp -> Shared -> XK -> Value -> Shared -> Prop
structure Env0 (P : Program) (w : World) (K : W.Frag) (mg : Str -> Option Value) (base : Heap) (A : Around) (outer : List Env) (s : Shared) (H : Hp) : Prop where
 frames : A.frames = some outer
 mod : Mod K mg base
 bs : ∀ b o,base.get? b = some o -> s.heap.get? b = some o /\ H b = none
 bsz : base.objs.size <= s.heap.objs.size
 funs : s.heap.FunFrames base outer
 frf : ∀ b ∈ frs outer,H b = none
 hok : HOk P w H s.heap
 bare : AllBare s.gens
def CE (outer : List Env) (P : Program) (w : World) (H : Hp) (s : Shared) (Q : VK) (u : Value) (s' : Shared) : Prop :=
 ∃ v H',s'.os = s.os /\ AllBare s'.gens /\ Un (frs outer) [] H H' s.heap s'.heap /\ HOk P w H' s'.heap /\ RelV v u /\ Q v H'
def CR (CX : CXT) (outer : List Env) (P : Program) (w : World) (H : Hp) (s : Shared) (Q : VK) (E : XK) (r : Result) (s' : Shared) : Prop :=
 match r with
 | .ok (.ret u) => CE outer P w H s Q u s'
 | .ok _ => False
 | .error e => CX outer H s E e s'
structure FnOk (P : Program) (w : World) (K : W.Frag) (mg : Str -> Option Value) (base : Heap) (CX : CXT) (k : Nat) (f : Addr) (fd : FuncData) (ps : List Str) (sp : Sp) : Prop where
 len : ∀ vs H Q E,sp vs H Q E -> vs.length = ps.length
 run : ∀ (A : Around) (outer : List Env) (s : Shared) (H : Hp) (args : Args) (us : List Value) (vs : List V) (Q : VK) (E : XK),Room k A -> Env0 P w K mg base A outer s H -> BindsTo s fd args (ps.zip us) -> Vals vs us -> sp vs H Q E →
  codeAny (model P w) A (.call (.ref f) args) (CR CX outer P w H s Q E) s
theorem Env0.make {P : Program} {w : World} {K : W.Frag} {mg : Str -> Option Value} {base : Heap} {A : Around} {outer : List Env} {s : Shared} {H : Hp} (e : Env0 P w K mg base A outer s H) (C : Addr) (us : List Value) (kw : List (Str × Value)) :
  Env0 P w K mg base (A.under (.builtin "type.__call__" ⟨.ref C :: us,kw⟩)) outer s H := ⟨by first | exact e.frames | (simpa [Around.under,Code.envs,Code.isFrame,pushEnvs] using e.frames),e.mod,e.bs,e.bsz,e.funs,e.frf,e.hok,e.bare⟩
theorem Env0.in1 {P : Program} {w : World} {K : W.Frag} {mg : Str -> Option Value} {base : Heap} {A : Around} {outer : List Env} {s : Shared} {H : Hp} (e : Env0 P w K mg base A outer s H) :
  Env0 P w K mg base A.in1 outer s H := ⟨e.frames,e.mod,e.bs,e.bsz,e.funs,e.frf,e.hok,e.bare⟩
section
variable {X : Cx} {pins : List (Addr × Obj)} {σ : St} {H : Hp} {s s' : Shared}
theorem Inv.env0 (I : Inv X pins σ H s) : Env0 X.prog X.w X.K X.mg X.base X.A X.stack s H :=
 ⟨I.ok.frames,I.ok.mod,I.bs,Nat.le_trans I.ok.bsz I.sz,I.stack,I.stkFree,I.hok,I.bare⟩
theorem Inv.after {Q : VK} {u : Value} (I : Inv X pins σ H s) (h : CE X.stack X.prog X.w H s Q u s') : EP X pins σ Q u s' := by
 obtain ⟨v,H',os,bare,un,hok,r,q⟩ := h
 obtain ⟨hh,g,d,t,os'⟩ := s'
 obtain rfl : os' = s.os := os
 exact ⟨v,H',I.call (h' := hh) (g' := g) (d' := d) (t' := t) (ch := []) un hok bare (fun b z => absurd z (by simp)),r,q⟩
end
def tCall (sp : Sp) (dvs : List V) (E : XK) (t : TA) : TE := fun σ H Q => t σ H fun vs H1 => sp (vs ++ dvs) H1 Q E
def tMake (C : Addr) (sp : Sp) (dvs : List V) (E : XK) (t : TA) : TE := fun σ H Q => t σ H fun vs H1 => ∀ x dx,H1 x = none -> H1 dx = none -> dx ≠ x →
 sp (.ref x :: (vs ++ dvs)) (upd (upd H1 dx (.own x)) x (.ins C dx [])) (fun v H2 => v = .non /\ Q (.ref x) H2) E
def Binds (K : W.Frag) (fd : FuncData) (ps : List Str) (ds : List Value) : Prop :=
 ∀ (s : Shared) (us : List Value),K.In s.heap -> (us ++ ds).length = ps.length -> BindsTo s fd ⟨us,[]⟩ (ps.zip (us ++ ds))
theorem Binds.all {K : W.Frag} {fd : FuncData} {ps : List Str} (h : ∀ us : List Value,us.length = ps.length -> bindArgs fd ⟨us,[]⟩ = pure (ps.zip us)) : Binds K fd ps [] := fun s us _ hl => by
 rw [List.append_nil] at hl ⊢
 exact .of_eq (h us hl)
def Passes (CX : CXT) (X : Cx) (E : XK) : Prop := ∀ (pins : List (Addr × Obj)) (σ : St) (H : Hp) (s : Shared) (e : Value) (s' : Shared),Inv X pins σ H s -> CX X.stack H s E e s' -> X.xe e s'
section
variable {X : Cx} {CX : CXT} {k : Nat} {f C : Addr} {fd : FuncData} {ps : List Str} {sp : Sp} {dvs : List V} {ds : List Value} {E : XK} {x m : Str} {p pos apos : Pos} {e o : Expr} {es : List Expr} {ta : TE} {t : TA}
theorem run_fn {pins : List (Addr × Obj)} {σ : St} {H : Hp} {s : Shared} {Q : VK} {us : List Value} {vs : List V} (F : FnOk X.prog X.w X.K X.mg X.base CX k f fd ps sp) (hr : Room k X.A) (hb : Binds X.K fd ps ds) (hd : Vals dvs ds) (hx : Passes CX X E)
  (I : Inv X pins σ H s) (r : Vals vs us) (h : sp (vs ++ dvs) H Q E) : wpAny (model X.prog X.w) X.A (call (.ref f) us) (EP X pins σ Q) X.xe s := by
 have r2 : Vals (vs ++ dvs) (us ++ ds) := r.append hd
 have hl : (us ++ ds).length = ps.length := by rw [<- r2.length]; exact F.len _ _ _ _ h
 refine wpAny_call (codeAny_mono (F.run X.A X.stack s H ⟨us,[]⟩ (us ++ ds) (vs ++ dvs) Q E hr I.env0 (hb s us I.kIn hl) r2 h) fun r s' hq => ?_)
 cases r with
 | error e => exact hx pins σ H s e s' I hq
 | ok fl =>
  cases fl with
  | ret u => exact I.after hq
  | next => exact False.elim hq
  | brk => exact False.elim hq
  | cont => exact False.elim hq
theorem pe_call (F : FnOk X.prog X.w X.K X.mg X.base CX k f fd ps sp) (hr : Room k X.A) (hg : Gl X x) (hm : X.mg x = some (.ref f)) (hk : W.keepIn X.K (.ref f) = true) (hb : Binds X.K fd ps ds) (hd : Vals dvs ds) (hx : Passes CX X E)
  (ha : PA X (e :: es) t) (hdb : (x == ("__debug__" : Str)) = false := by decide) (he : starEach (e :: es) X.env = (false,eval e X.env) :: starEach es X.env := by rfl) (hpl : (backTo pos (starEach es X.env)).any (·.1) = false := by rfl) :
  PE X (.Call (.Name x p) (e :: es) [] pos) (tCall sp dvs E t) := by
 intro pins s σ H Q I h
 refine wpAny_Call_Name_kw (ld_glob I hg hm ?_ hdb)
 refine W.callWith_K (h₀ := X.base) I.ok.mod.kin hk (thn (ha pos pins s σ H _ I h) fun us s1 ⟨vs,H1,I1,r,q⟩ => ⟨I1.kIn,?_⟩) he hpl
 exact run_fn F hr hb hd hx I1 r q
structure Mk (K : W.Frag) (C f : Addr) : Prop where
 makes : W.makesIn K C = true
 init : W.findIn K (.ref C) "__init__" = some (some (.ref f))
 fn : W.isFn K (.ref f) = true
 kp : W.keepIn K (.ref C) = true
theorem run_make {pins : List (Addr × Obj)} {σ : St} {H : Hp} {s : Shared} {Q : VK} {us : List Value} {vs : List V} (M : Mk X.K C f) (F : FnOk X.prog X.w X.K X.mg X.base CX k f fd ps sp) (hr : Room (k + 1) X.A) (hb : Binds X.K fd ps ds) (hd : Vals dvs ds)
  (hx : Passes CX X E) (I : Inv X pins σ H s) (r : Vals vs us)
  (h : ∀ x dx,H x = none -> H dx = none -> dx ≠ x -> sp (.ref x :: (vs ++ dvs)) (upd (upd H dx (.own x)) x (.ins C dx [])) (fun v H2 => v = .non /\ Q (.ref x) H2) E) :
  wpAny (model X.prog X.w) X.A (call (.ref C) us) (EP X pins σ Q) X.xe s := by
 have hq := h (s.heap.objs.size + 1) s.heap.objs.size (I.hok.fresh (Nat.le_succ _)) (I.hok.fresh (Nat.le_refl _)) (Nat.ne_of_lt (Nat.lt_succ_self _))
 have I2 := Inv.made (C := C) I
 have r2 : Vals (V.ref (s.heap.objs.size + 1) :: (vs ++ dvs)) (Value.ref (s.heap.objs.size + 1) :: (us ++ ds)) := .cons rfl (r.append hd)
 have hl : (Value.ref (s.heap.objs.size + 1) :: us ++ ds).length = ps.length := by
  have e := r2.length
  rw [F.len _ _ _ _ hq] at e
  exact e.symm
 refine wpAny_call (make_map (f := f) I.kIn M.makes M.init (beq_iff_eq.mp M.fn) (codeAny_mono (F.run _ X.stack _ _ ⟨Value.ref (s.heap.objs.size + 1) :: us,[]⟩ (Value.ref (s.heap.objs.size + 1) :: (us ++ ds)) _ _ E (hr.make C us [])
  (I2.env0.make C us []) (hb _ (Value.ref (s.heap.objs.size + 1) :: us) I2.kIn hl) r2 hq) fun r s' hq' => ?_))
 cases r with
 | error e => exact hx pins σ _ _ e s' I2 hq'
 | ok fl =>
  cases fl with
  | ret u =>
   obtain ⟨v,H',I3,rv,ev,q3⟩ := I2.after hq'
   subst ev
   exact ⟨rv,⟨V.ref (s.heap.objs.size + 1),H',I3,rfl,q3⟩⟩
  | next => exact False.elim hq'
  | brk => exact False.elim hq'
  | cont => exact False.elim hq'
theorem pe_make (M : Mk X.K C f) (F : FnOk X.prog X.w X.K X.mg X.base CX k f fd ps sp) (hr : Room (k + 1) X.A) (hg : Gl X x) (hm : X.mg x = some (.ref C)) (hb : Binds X.K fd ps ds) (hd : Vals dvs ds) (hx : Passes CX X E)
  (ha : PA X (e :: es) t) (hdb : (x == ("__debug__" : Str)) = false := by decide) (he : starEach (e :: es) X.env = (false,eval e X.env) :: starEach es X.env := by rfl) (hpl : (backTo pos (starEach es X.env)).any (·.1) = false := by rfl) :
  PE X (.Call (.Name x p) (e :: es) [] pos) (tMake C sp dvs E t) := by
 intro pins s σ H Q I h
 refine wpAny_Call_Name_kw (ld_glob I hg hm ?_ hdb)
 refine W.callWith_K (h₀ := X.base) I.ok.mod.kin M.kp (thn (ha pos pins s σ H _ I h) fun us s1 ⟨vs,H1,I1,r,q⟩ => ⟨I1.kIn,?_⟩) he hpl
 exact run_make M F hr hb hd hx I1 r q
theorem pe_make0 (M : Mk X.K C f) (F : FnOk X.prog X.w X.K X.mg X.base CX k f fd ps sp) (hr : Room (k + 1) X.A) (hg : Gl X x) (hm : X.mg x = some (.ref C)) (hb : Binds X.K fd ps ds) (hd : Vals dvs ds) (hx : Passes CX X E)
  (hdb : (x == ("__debug__" : Str)) = false := by decide) : PE X (.Call (.Name x p) [] [] pos) (tMake C sp dvs E tNil) := by
 intro pins s σ H Q I h
 refine wpAny_Call_Name_kw (ld_glob I hg hm ?_ hdb)
 exact W.callWith_K0 I.kIn M.kp (run_make (us := []) M F hr hb hd hx I .nil h)
end
def PK (X : Cx) (kws : List Keyword) (t : TA) : Prop :=
 ∀ (pos : Pos) (pins : List (Addr × Obj)) (s : Shared) (σ : St) (H : Hp) (Q : List V -> Hp -> Prop),Inv X pins σ H s -> t σ H Q -> wpAny (model X.prog X.w) X.A (evalAll ((backToKw pos (keywordEach kws X.env)).map (·.2))) (AP X pins σ Q) X.xe s
section
variable {X : Cx} {CX : CXT} {k : Nat} {f C : Addr} {fd : FuncData} {ps ks : List Str} {sp : Sp} {E : XK} {x m : Str} {p pos apos kpos : Pos} {e o : Expr} {es : List Expr} {kws : List Keyword} {te ta : TE} {t tk : TA} {nm : Option Str}
theorem pk_nil : PK X [] tNil := fun _ _ _ _ H Q I h => wpAny_evalAll_nil ⟨[],H,I,.nil,h⟩
theorem pk_cons (ha : PE X e te) (hr : PK X kws t) : PK X (⟨nm,e,kpos⟩ :: kws) (tCons te t) := by
 intro pos pins s σ H Q I h
 show wpAny _ _ (evalAll ((do let v ← eval e X.env; standAt pos; pure v) :: (backToKw pos (keywordEach kws X.env)).map (·.2))) _ _ s
 refine wpAny_evalAll_cons (wpAny_bind (thn (ha pins s σ H _ I h) fun u s1 ⟨x,H1,I1,r1,q1⟩ => wpAny_bind (wpAny_standAt (wpAny_pure ?_))))
 exact thn (hr pos pins s1 σ H1 _ I1 q1) fun us s2 ⟨xs,H2,I2,r2,q2⟩ => ⟨x :: xs,H2,I2,.cons r1 r2,q2⟩
variable {g : List Value -> List Value -> List Value} {gV : List V -> List V -> List V}
end
structure FnScope (N P : List Str) (sc : Scope) : Prop where
 kind : sc.kind = .function
 co : sc.isCoroutine = false
 gen : sc.isGenerator = false
 nd : N.Nodup
 pre : N.take P.length = P
 par : ∀ x ∈ P,sc.names.lookup x = some .local ∨ sc.names.lookup x = some .cell
 nofree : ∀ y ∈ sc.names,y.2 ≠ .free
theorem bindL_out {kindOf : Str -> Option NameKind} {x : Str} : ∀ {binds : List (Str × Value)} {m : Str -> Option Value},(∀ v,(x,v) ∉ binds) -> bindL kindOf binds m x = m x
 | [],_,_ => rfl
 | (n,v) :: r,m,h => by
  unfold bindL
  rw [bindL_out fun w hw => h w (List.mem_cons_of_mem _ hw)]
  split
  ·have : x ≠ n := by rintro rfl; exact h v List.mem_cons_self
   simp [this]
  ·rfl
theorem bindC_out {kindOf : Str -> Option NameKind} {x : Str} : ∀ {binds : List (Str × Value)} {m : Str -> Option Value},(∀ v,(x,v) ∉ binds) -> bindC kindOf binds m x = m x
 | [],_,_ => rfl
 | (n,v) :: r,m,h => by
  unfold bindC
  rw [bindC_out fun w hw => h w (List.mem_cons_of_mem _ hw)]
  split
  ·rfl
  ·have : x ≠ n := by rintro rfl; exact h v List.mem_cons_self
   simp [this]
theorem bindL_get {kindOf : Str -> Option NameKind} {x : Str} {v : Value} : ∀ {P : List Str} {vs : List Value} {i : Nat} {m : Str -> Option Value},P.Nodup -> P[i]? = some x -> vs[i]? = some v -> kindOf x = some .local →
  bindL kindOf (P.zip vs) m x = some v
 | [],_,_,_,_,h,_,_ => by simp at h
 | _ :: _,[],_,_,_,_,h,_ => by simp at h
 | p :: P,w :: vs,0,m,nd,h1,h2,hk => by
  simp at h1 h2; subst h1; subst h2
  show bindL kindOf ((p,w) :: P.zip vs) m p = _
  unfold bindL
  rw [bindL_out fun v hv => (List.nodup_cons.mp nd).1 (List.of_mem_zip hv).1,if_pos hk]
  simp
 | p :: P,w :: vs,i + 1,m,nd,h1,h2,hk => by
  show bindL kindOf ((p,w) :: P.zip vs) m x = _
  unfold bindL
  exact bindL_get (i := i) (List.nodup_cons.mp nd).2 (by simpa using h1) (by simpa using h2) hk
theorem bindC_get {kindOf : Str -> Option NameKind} {x : Str} {v : Value} : ∀ {P : List Str} {vs : List Value} {i : Nat} {m : Str -> Option Value},P.Nodup -> P[i]? = some x -> vs[i]? = some v -> kindOf x ≠ some .local →
  bindC kindOf (P.zip vs) m x = some v
 | [],_,_,_,_,h,_,_ => by simp at h
 | _ :: _,[],_,_,_,_,h,_ => by simp at h
 | p :: P,w :: vs,0,m,nd,h1,h2,hk => by
  simp at h1 h2; subst h1; subst h2
  show bindC kindOf ((p,w) :: P.zip vs) m p = _
  unfold bindC
  rw [bindC_out fun v hv => (List.nodup_cons.mp nd).1 (List.of_mem_zip hv).1,if_neg hk]
  simp
 | p :: P,w :: vs,i + 1,m,nd,h1,h2,hk => by
  show bindC kindOf ((p,w) :: P.zip vs) m x = _
  unfold bindC
  exact bindC_get (i := i) (List.nodup_cons.mp nd).2 (by simpa using h1) (by simpa using h2) hk
def start (N : List Str) (vs : List V) : St := vs.map some ++ List.replicate (N.length - vs.length) none
def cxOf (CX : CXT) (P : Program) (w : World) (K : W.Frag) (mg : Str -> Option Value) (base : Heap) (N : List Str) (qual : Str) (scope : Scope) (f : Addr) (cd : Value) (A : Around) (outer : List Env) (s : Shared) (H : Hp) (E : XK) : Cx where
 prog := P
 w := w
 K := K
 mg := mg
 base := base
 A := A.deeper (envOfC qual scope s.heap.objs.size f cd)
 N := N
 s_0 := s
 H_0 := H
 env := envOfC qual scope s.heap.objs.size f cd
 outer := outer
 stack := envOfC qual scope s.heap.objs.size f cd :: outer
 ex := []
 calm := true
 fn := fun _ => true
 pn := []
 xe := fun e s' => wpAny (model P w) (A.deeper (envOfC qual scope s.heap.objs.size f cd)) (leaving (envOfC qual scope s.heap.objs.size f cd) e) (fun _ s'' => CX outer H s E e s'') (fun e' s'' => CX outer H s E e' s'') s'
theorem cell_has {sc : Scope} {n : Nat} {x : Str} (h : sc.names.lookup x = some .cell) : ∃ c,(cellsFrom n sc.names []).lookup x = some c := by
 have q := W.cellsFrom_some sc.names n [] (.inl h)
 exact Option.isSome_iff_exists.mp q
theorem inv_start {CX : CXT} {P : Program} {w : World} {K : W.Frag} {mg : Str -> Option Value} {base : Heap} {N ps : List Str} {qual : Str} {scope : Scope} {f : Addr} {cd : Value} {A : Around} {outer : List Env} {s s1 : Shared} {H : Hp} {E : XK} {us : List Value} {vs : List V}
  (S : FnScope N ps scope) (hd : A.handled = none) (e0 : Env0 P w K mg base A outer s H) (hl : vs.length = ps.length) (r : Vals vs us)
  (x : InCallC s s.heap.objs.size (bindL (envOfC qual scope s.heap.objs.size f cd).kindOf (ps.zip us) fun _ => none) (cellsFrom (s.heap.objs.size + 1) scope.names []) (bindC (envOfC qual scope s.heap.objs.size f cd).kindOf (ps.zip us) fun _ => none) s1) :
  Inv (cxOf CX P w K mg base N qual scope f cd A outer s H E) [] (start N vs) H s1 := by
 have hpl : ps.length <= N.length := by have := congrArg List.length S.pre; rw [List.length_take] at this; omega
 obtain ⟨h1,tk,rfl,hk⟩ := x.done
 have noA : ∀ b : Addr,b ∉ (cxOf CX P w K mg base N qual scope f cd A outer s H E).ex := fun b z => absurd (show b ∈ ([] : List Addr) from z) (by simp)
 refine ⟨⟨e0.mod,S.kind,rfl,rfl,Nat.le_refl _,fun y z c h1 h2 => ?_,fun y hy => ?_,fun y c _ h => ?_,fun _ => hd,Around.frames_deeper e0.frames,.inr ⟨rfl,rfl⟩,fun b z => absurd z (noA b),e0.bs,e0.bsz,fun b _ _ => noA b,fun b z => absurd z (noA b),e0.funs,e0.frf⟩,
  rfl,e0.bare,Un.kept hk,⟨_,x.toInCall.ns,fun i y v h1 h2 h3 => ?_⟩,fun y c h => ⟨_,x.cell y c h⟩,e0.hok.fresh (Nat.le_refl _),fun y c h => ?_,fun p hp => absurd (show p ∈ ([] : List (Addr × Obj)) from hp) (by simp),e0.hok.kept hk,?_⟩
 ·exact name_of_addr x.apart (PySem.mem_of_lookup h1) (PySem.mem_of_lookup h2)
 ·have hy : scope.names.lookup y = some .cell ∨ scope.names.lookup y = some .free := hy
  rcases hy with hy | hy
  ·exact cell_has hy
  ·exact absurd rfl (S.nofree _ (PySem.mem_of_lookup hy))
 ·exact Nat.le_of_lt (x.above y c (PySem.mem_of_lookup h))
 ·have hi : i < vs.length := by
   unfold start at h2
   by_cases hi : i < vs.length
   ·exact hi
   ·rw [List.getElem?_append_right (by simpa using hi)] at h2
    rw [List.getElem?_replicate] at h2
    split at h2 <;> cases h2
  have ha : vs[i]? = some v := by
   unfold start at h2
   rw [List.getElem?_append_left (by simpa using hi),List.getElem?_map] at h2
   cases e : vs[i]? with
   | none => rw [e] at h2; cases h2
   | some a => rw [e] at h2; cases h2; rfl
  obtain ⟨u,hu,rv⟩ := r.get ha
  have hp : ps[i]? = some y := by
   rw [<- S.pre,List.getElem?_take_of_lt (by omega)]; exact h1
  have ndP : ps.Nodup := by rw [<- S.pre]; exact S.nd.sublist (List.take_sublist _ _)
  refine ⟨u,rv,?_⟩
  rcases S.par y (List.mem_of_getElem? hp) with k | k
  ·exact .inl ⟨k,bindL_get ndP hp hu k⟩
  ·obtain ⟨c,e⟩ := cell_has (n := s.heap.objs.size + 1) k
   refine .inr ⟨.inl k,c,e,?_⟩
   have q := x.cell y c e
   rw [bindC_get ndP hp hu (by show scope.names.lookup y ≠ _; rw [k]; decide)] at q
   exact q
 ·exact e0.hok.fresh (Nat.le_of_lt (x.above y c (PySem.mem_of_lookup h)))
 ·unfold start
  show _ = N.length
  rw [List.length_append,List.length_map,List.length_replicate]
  omega
theorem fn_of {CX : CXT} {P : Program} {w : World} {K : W.Frag} {mg : Str -> Option Value} {base : Heap} {k : Nat} {f : Addr} {name qual : Str} {params : Arguments} {body : List Stmt} {scope : Scope} {dV kV doc pm cdv ct oc : Value} {an od : Option Addr}
  {osl : Array (Option Value)} {N ps : List Str} {sp : Sp} (lk : K.lookup f = some ⟨oc,od,.func (W.fnOf name qual params body scope dV kV doc pm an cdv ct),osl⟩) (hcd : W.codeIn K cdv qual = true) (S : FnScope N ps scope)
  (len : ∀ vs H Q E,sp vs H Q E -> vs.length = ps.length)
  (hbody : ∀ (A : Around) (outer : List Env) (s : Shared) (H : Hp) (vs : List V) (Q : VK) (E : XK),Room k (A.deeper (envOfC qual scope s.heap.objs.size f cdv)) -> sp vs H Q E →
   ∃ t,PSs (cxOf CX P w K mg base N qual scope f cdv A outer s H E) body t /\ t { nx := fun _ H' => Q .non H',rt := Q } (start N vs) H) :
  FnOk P w K mg base CX (k + 1) f (W.fnOf name qual params body scope dV kV doc pm an cdv ct) ps sp := by
 refine ⟨len,fun A outer s H args us vs Q E hr e0 hb r hsp => ?_⟩
 have hl := len _ _ _ _ hsp
 have KX : K.In s.heap := e0.mod.kin.keeps fun b o e => (e0.bs b o e).1
 have lim : s.heap.NoLimit := e0.mod.nolimit.keeps fun b o e => (e0.bs b o e).1
 have hkind : ∀ y ∈ ps.zip us,scope.names.lookup y.1 = some .local ∨ (scope.names.lookup y.1 = some .cell /\ ((cellsFrom (s.heap.objs.size + 1) scope.names []).lookup y.1).isSome = true) := fun ⟨n,v⟩ hy => by
  rcases S.par n (List.of_mem_zip hy).1 with q | q
  ·exact .inl q
  ·exact .inr ⟨q,W.cellsFrom_some _ _ _ (.inl q)⟩
 refine codeAny_call_function hr.depth (KX _ _ lk) rfl S.co S.gen rfl (W.codeRec_of KX hcd) (hb _ _ _ _ ?_)
 refine wpAny_newFunctionEnv_cells S.kind hkind fun env he s1 x => ?_
 subst he
 refine ⟨lim.keeps x.toInCall.keep,codeAny_func ?_⟩
 obtain ⟨t,ht,hq⟩ := hbody A outer s H vs Q E (hr.deeper _) hsp
 have I : Inv (cxOf CX P w K mg base N qual scope f cdv A outer s H E) [] (start N vs) H s1 := inv_start S hr.hd e0 hl r x
 refine wpAny_mono (ht [] s1 (start N vs) H _ I hq) (fun fl s' hs => ?_) fun e s' hs => hs
 have fin : ∀ {σ' : St} {H' : Hp} {v : V} {u : Value},Inv (cxOf CX P w K mg base N qual scope f cdv A outer s H E) [] σ' H' s' -> RelV v u -> Q v H' -> CE outer P w H s Q u s' :=
  fun {σ' H' v u} J rv q => ⟨v,H',J.os,J.bare,J.base,J.hok,rv,q⟩
 cases fl with
 | ret u =>
  obtain ⟨v,σ',H',J,rv,q⟩ := hs
  exact fin J rv q
 | next =>
  obtain ⟨σ',H',J,q⟩ := hs
  exact fin (v := V.non) (u := Value.none) J rfl q
 | brk =>
  obtain ⟨_,_,_,q⟩ := hs
  exact False.elim q
 | cont =>
  obtain ⟨_,_,_,q⟩ := hs
  exact False.elim q
end L2
namespace L2
open PySem PySem.Spec PyProof.Rows
section
variable {X : Cx} {x : Str} {p pos : Pos} {e : Expr} {es : List Expr} {t : TA} {id T : String} {r : List V -> Hp -> VK -> Prop}
def tCB (r : List V -> Hp -> VK -> Prop) (t : TA) : TE := fun σ H Q => t σ H fun vs H1 => r vs H1 Q
theorem pe_callB (hc : CallR X (.builtin id) r) (hg : Gl X x) (hm : X.mg x = none) (hv : bootBuiltins x = some (.builtin id)) (ha : PA X (e :: es) t) (hn : x ≠ "__name__" := by decide) (hdb : (x == ("__debug__" : Str)) = false := by decide)
  (he : starEach (e :: es) X.env = (false,eval e X.env) :: starEach es X.env := by rfl) (hpl : (backTo pos (starEach es X.env)).any (·.1) = false := by rfl) : PE X (.Call (.Name x p) (e :: es) [] pos) (tCB r t) := by
 intro pins s σ H Q I h
 refine wpAny_Call_Name_kw (ld_blt I hg hm hv ?_ hn hdb)
 exact PyProof.Rows.callWith_builtin1 (thn (ha pos pins s σ H _ I h) fun us s1 ⟨vs,H1,I1,r1,q1⟩ => hc pins s1 σ H1 vs us Q I1 r1 q1) he hpl
theorem pe_callTy (hc : CallR X (.type T) r) (hg : Gl X x) (hm : X.mg x = none) (hv : bootBuiltins x = some (.type T)) (ha : PA X (e :: es) t) (hn : x ≠ "__name__" := by decide) (hdb : (x == ("__debug__" : Str)) = false := by decide)
  (he : starEach (e :: es) X.env = (false,eval e X.env) :: starEach es X.env := by rfl) (hpl : (backTo pos (starEach es X.env)).any (·.1) = false := by rfl) : PE X (.Call (.Name x p) (e :: es) [] pos) (tCB r t) := by
 intro pins s σ H Q I h
 refine wpAny_Call_Name_kw (ld_blt I hg hm hv ?_ hn hdb)
 exact PyProof.Rows.callWith_type1 (thn (ha pos pins s σ H _ I h) fun us s1 ⟨vs,H1,I1,r1,q1⟩ => hc pins s1 σ H1 vs us Q I1 r1 q1) he hpl
end
end L2
namespace HT
open PySem PyProof.Rows
section
variable {prog : Program} {w : World} {A : Around} {E : Value -> Shared -> Prop} {s : Shared}
def sIx (n d : Nat) : Option Int -> Nat
 | none => d
 | some v => if v < 0 then (v + (n : Int)).toNat else min v.toNat n
theorem sIx_nat (n d k : Nat) : sIx n d (some (k : Int)) = min k n := by
 show (if (k : Int) < 0 then ((k : Int) + (n : Int)).toNat else min (k : Int).toNat n) = min k n
 rw [if_neg (by omega),Int.toNat_natCast]
end
end HT
namespace L2
open PySem PySem.Spec PyProof.Rows
abbrev TO := St -> Hp -> (Option Int -> Hp -> Prop) -> Prop
def PO (X : Cx) (e : Option Expr) (t : TO) : Prop :=
 ∀ (pins : List (Addr × Obj)) (s : Shared) (σ : St) (H : Hp) (Q : Option Int -> Hp -> Prop),Inv X pins σ H s -> t σ H Q →
  wpAny (model X.prog X.w) X.A (evalPart e X.env) (fun u s' => ∃ o H',Inv X pins σ H' s' /\ IsPart u o /\ Q o H') X.xe s
def tPart (t : TE) : TO := fun σ H Q => t σ H fun x H1 => ∃ i,x = .int i /\ Q (some i) H1
section
variable {X : Cx} {e : Expr} {te : TE} {lo hi : Option Expr} {tl th : TO} {pos p2 : Pos}
theorem po_some (h : PE X e te) : PO X (some e) (tPart te) := by
 intro pins s σ H Q I hw
 rw [evalPart_some]
 refine thn (h pins s σ H _ I hw) fun u s1 ⟨x,H1,I1,r1,q1⟩ => ?_
 obtain ⟨i,rfl,q⟩ := q1
 obtain ⟨t,rfl⟩ := r1
 exact ⟨some i,H1,I1,.int i t,q⟩
def SlR (X : Cx) (r : V -> Option Int -> Option Int -> Hp -> VK -> Prop) : Prop :=
 ∀ (pins : List (Addr × Obj)) (s : Shared) (σ : St) (H : Hp) (x : V) (v vl vu : Value) (lo hi : Option Int) (sl : Addr) (Q : VK),Inv X pins σ H s -> RelV x v -> s.heap.IsSliceOf sl vl vu .none -> IsPart vl lo -> IsPart vu hi -> r x lo hi H Q →
  ∃ T id,typeLookup (.type T) "__getitem__" = pure (some (.builtin id)) /\ s.TypeIs v T /\ wpAny (model X.prog X.w) X.A (getItem v (.ref sl)) (EP X pins σ Q) X.xe s
def tSl (r : V -> Option Int -> Option Int -> Hp -> VK -> Prop) (te : TE) (tl th : TO) : TE := fun σ H Q => te σ H fun x H1 => tl σ H1 fun l H2 => th σ H2 fun u H3 => r x l u H3 Q
theorem pe_slice {r : V -> Option Int -> Option Int -> Hp -> VK -> Prop} (hr : SlR X r) (he : PE X e te) (hl : PO X lo tl) (hu : PO X hi th) : PE X (.Subscript e (.Slice lo hi none p2) pos) (tSl r te tl th) := by
 intro pins s σ H Q I h
 refine Subscript_ (thn (he pins s σ H _ I h) fun v s1 ⟨x,H1,I1,r1,q1⟩ => ?_)
 refine wpAny_Slice (thn (hl pins s1 σ H1 _ I1 q1) fun vl s2 ⟨l,H2,I2,pl,q2⟩ => thn (hu pins s2 σ H2 _ I2 q2) fun vu s3 ⟨u,H3,I3,pu,q3⟩ => ?_)
 rw [evalPart_none]
 refine wpAny_pure ?_
 have I4 : Inv X pins σ H3 { s3 with heap := s3.heap.push { cls := .type "slice",data := .fields #[vl,vu,.none] } } := I3.kept (t' := s3.toks) fun b ob q => Heap.get?_push_of_some _ q
 obtain ⟨T,id,hT,ht,hg⟩ := hr pins { s3 with heap := s3.heap.push { cls := .type "slice",data := .fields #[vl,vu,.none] } } σ H3 x v vl vu l u s3.heap.objs.size Q I4 r1 (Heap.IsSliceOf.new ..) pl pu q3
 show wpAny (model X.prog X.w) X.A (subscriptTail e (.Slice lo hi none p2) v (.ref s3.heap.objs.size)) (EP X pins σ Q) X.xe { s3 with heap := s3.heap.push { cls := .type "slice",data := .fields #[vl,vu,.none] } }
 exact tail_any (ops := [.ref s3.heap.objs.size,v]) ht hT hg (by with_unfolding_all rfl)
def cutV (xs : List V) (lo hi : Option Int) : List V := (xs.drop (HT.sIx xs.length 0 lo)).take (HT.sIx xs.length xs.length hi - HT.sIx xs.length 0 lo)
theorem cutV_length (xs : List V) (lo hi : Option Int) : (cutV xs lo hi).length <= xs.length := by
 unfold cutV
 rw [List.length_take,List.length_drop]
 omega
end
end L2
namespace L2
open PySem PySem.Spec PyProof.Rows
def ixN (n : Nat) (i : Int) : Option Nat := if 0 <= i then (if i < n then some i.toNat else none) else if -(n : Int) <= i then some (i + n).toNat else none
def atI {α : Type} (xs : List α) (i : Int) : Option α := (ixN xs.length i).bind fun j => xs[j]?
theorem ixN_seq {n : Nat} {i : Int} {j : Nat} (h : ixN n i = some j) : seqIndex? i n = some j /\ j < n /\ -(n : Int) <= i /\ i < n := by
 unfold ixN at h
 by_cases h0 : 0 <= i
 ·rw [if_pos h0] at h
  by_cases h1 : i < n
  ·rw [if_pos h1] at h
   have e : i.toNat = j := Option.some.inj h
   exact ⟨by rw [seqIndex_of h0 h1,e],by omega,by omega,h1⟩
  ·rw [if_neg h1] at h; cases h
 ·rw [if_neg h0] at h
  by_cases h1 : -(n : Int) <= i
  ·rw [if_pos h1] at h
   have e : (i + n).toNat = j := Option.some.inj h
   exact ⟨by rw [seqIndex_neg (by omega) h1,e],by omega,h1,by omega⟩
  ·rw [if_neg h1] at h; cases h
theorem atI_get {α : Type} {xs : List α} {i : Int} {v : α} (h : atI xs i = some v) : ∃ j,seqIndex? i xs.length = some j /\ xs[j]? = some v /\ j < xs.length /\ -(xs.length : Int) <= i /\ i < xs.length := by
 unfold atI at h
 cases e : ixN xs.length i with
 | none => rw [e] at h; cases h
 | some j =>
  rw [e] at h
  obtain ⟨h1,h2,h3,h4⟩ := ixN_seq e
  exact ⟨j,h1,h,h2,h3,h4⟩
theorem atI_nat {α : Type} {xs : List α} {j : Nat} {v : α} (h : xs[j]? = some v) : atI xs (j : Int) = some v := by
 have hj : j < xs.length := (List.getElem?_eq_some_iff.mp h).1
 have e : ixN xs.length (j : Int) = some j := by
  unfold ixN
  rw [if_pos (by omega),if_pos (by omega)]; simp
 unfold atI; rw [e]; exact h
def PlainIx (b : Expr) : Prop := ∀ o i,subscripted b false o i = operate [o,i] (getItem o i)
def IxR (X : Cx) (r : R2) : Prop :=
 ∀ (value slice : Expr) (pins : List (Addr × Obj)) (s : Shared) (σ : St) (H : Hp) (x y : V) (v u : Value) (Q : VK),Inv X pins σ H s -> RelV x v -> RelV y u -> r x y H Q →
  subscripted slice false v u = operate [v,u] (getItem v u) -> wpAny (model X.prog X.w) X.A (subscriptTail value slice v u) (EP X pins σ Q) X.xe s
def MtR (X : Cx) (id : String) (r : V -> List V -> Hp -> VK -> Prop) : Prop :=
 ∀ (pins : List (Addr × Obj)) (s : Shared) (σ : St) (H : Hp) (x : V) (xs : List V) (v : Value) (us : List Value) (Q : VK),Inv X pins σ H s -> RelV x v -> Vals xs us -> r x xs H Q →
  wpAny (model X.prog X.w) X.A (call (.builtin id) (v :: us)) (EP X pins σ Q) X.xe s
section
variable {X : Cx} {a b : Expr} {ta tb : TE} {pos : Pos}
theorem pe_ix {r : R2} (hr : IxR X r) (ha : PE X a ta) (hb : PE X b tb) (hs : PlainIx b) : PE X (.Subscript a b pos) (tOp r ta tb) := by
 intro pins s σ H Q I h
 exact Subscript_ (binT ha hb I h fun v u s2 x y H2 I2 rx ry q => hr a b pins s2 σ H2 x y v u Q I2 rx ry q (hs _ _))
def rIxL (K : W.Frag) : R2 := fun x y H Q => ∃ p xs i v,x = .ref p /\ y = .int i /\ SqL K H p xs /\ atI xs i = some v /\ Q v H
def rIxT (K : W.Frag) : R2 := fun x y H Q => ∃ p xs i v,x = .ref p /\ y = .int i /\ SqT K H p xs /\ atI xs i = some v /\ Q v H
theorem ix_list : IxR X (rIxL X.K) := by
 intro value slice pins s σ H x y v u Q I rx ry h hs
 obtain ⟨p,xs,i,z,rfl,rfl,hq,he,q⟩ := h
 cases rx
 obtain ⟨t,rfl⟩ := ry
 obtain ⟨its,r,pl,hz⟩ := I.list hq
 obtain ⟨j,h1,h2,h3,h4,h5⟩ := atI_get he
 obtain ⟨w,ew,rw'⟩ := r.get h2
 have hl := r.length
 have hn := line63
 have fin : EP X pins σ Q w s := ⟨z,H,I,rw',q⟩
 by_cases h0 : 0 <= i
 ·have hj : i.toNat = j := by
   rw [seqIndex_of h0 h5] at h1
   exact Option.some.inj h1
  exact item_listR pl.isList h0 (by omega) (by rw [hj]; simpa using ew) fin hs
 ·have hj : (i + (its.toArray.size : Int)).toNat = j := by
   rw [seqIndex_neg (by omega) h4] at h1
   rw [List.size_toArray,← hl]
   exact Option.some.inj h1
  exact subscriptTail_builtinR (x := w) pl.isList.typeIs slot_list_getitem.lookup
   (wpAny_getItem_list_neg (Q := fun r s' => r = w /\ EP X pins σ Q r s') pl.isList (by omega) (by rw [List.size_toArray] <;> omega) (by omega) (by rw [hj]; simpa using ew) ⟨rfl,fin⟩) hs
theorem ix_tup : IxR X (rIxT X.K) := by
 intro value slice pins s σ H x y v u Q I rx ry h hs
 obtain ⟨p,xs,i,z,rfl,rfl,hq,he,q⟩ := h
 cases rx
 obtain ⟨t,rfl⟩ := ry
 obtain ⟨its,r,pl,hz⟩ := I.tuple hq
 obtain ⟨j,h1,h2,h3,h4,h5⟩ := atI_get he
 obtain ⟨w,ew,rw'⟩ := r.get h2
 have hl := r.length
 have hn := line63
 have fin : EP X pins σ Q w s := ⟨z,H,I,rw',q⟩
 exact subscriptTail_builtinR (x := w) pl.typeIs slot_tuple_getitem.lookup
  (getItem_tuple (j := j) (Q := fun r s' => r = w /\ EP X pins σ Q r s') pl (by omega) (by omega) (by rw [List.size_toArray,← hl]; exact h1) (by simpa using ew) ⟨rfl,fin⟩) hs
theorem mapSeq_set (its : List Value) (n j : Nat) (u : Value) : Obj.mapSeq (·.setIfInBounds j u) { cls := .type "list",data := .seq its.toArray n } = { cls := .type "list",data := .seq (its.set j u).toArray n } := by
 simp [Obj.mapSeq]
theorem Inv.lst {pins : List (Addr × Obj)} {σ : St} {H : Hp} {s : Shared} {p : Addr} {xs : List V} (I : Inv X pins σ H s) (h : H p = some (.lst xs)) :
  ∃ (its : List Value) (n : Nat),Vals xs its /\ s.heap.get? p = some { cls := .type "list",data := .seq its.toArray n } /\ xs.length <= sizeLine := by
 obtain ⟨z,its,n,r,e⟩ := I.hok p _ h
 exact ⟨its,n,r,e,z⟩
theorem Inv.lstUpd {pins : List (Addr × Obj)} {σ : St} {H : Hp} {s : Shared} {p : Addr} {xs ys : List V} {its its' : List Value} {n n' : Nat} {f : Obj -> Obj} (I : Inv X pins σ H s) (h : H p = some (.lst xs))
  (ho : s.heap.get? p = some { cls := .type "list",data := .seq its.toArray n }) (hf : f { cls := .type "list",data := .seq its.toArray n } = { cls := .type "list",data := .seq its'.toArray n' }) (r : Vals ys its') (hz : ys.length <= sizeLine) (t : Nat) :
  Inv X pins σ (upd H p (.lst ys)) { s with heap := s.heap.update p f,toks := t } := by
 have e : (s.heap.update p f).get? p = some { cls := .type "list",data := .seq its'.toArray n' } := by
  rw [Heap.get?_update_self f ho (by rw [hf] <;> rfl),hf]
 refine I.write (x := p) (e := p) (by rw [h]; trivial) (.inl rfl) (fun b u hb q => (Heap.get?_update_other _ _ (Ne.symm hb)).trans q) ⟨_,e⟩ ?_
 exact ⟨hz,its',n',r,e⟩
def rSetL : V -> V -> V -> Hp -> (Hp -> Prop) -> Prop := fun o i v H Q => ∃ p xs k j,o = .ref p /\ i = .int k /\ H p = some (.lst xs) /\ ixN xs.length k = some j /\ Q (upd H p (.lst (xs.set j v)))
theorem set_list : PSet X rSetL := by
 intro pins s σ H o i v ov iv u Q I ro ri rv h
 obtain ⟨p,xs,k,j,rfl,rfl,hp,hj,q⟩ := h
 cases ro
 obtain ⟨t,rfl⟩ := ri
 obtain ⟨its,n,r,ho,hz⟩ := I.lst hp
 obtain ⟨h1,h2,h3,h4⟩ := ixN_seq hj
 have hl := r.length
 have hn := line63
 have I' : Inv X pins σ (upd H p (.lst (xs.set j v))) { s with heap := s.heap.update p (Obj.mapSeq (·.setIfInBounds j u)) } :=
  I.lstUpd hp ho (mapSeq_set its n j u) (r.set rv j) (by rw [List.length_set]; exact hz) s.toks
 by_cases h0 : 0 <= k
 ·have hk : k.toNat = j := by
   rw [seqIndex_of h0 h4] at h1
   exact Option.some.inj h1
  exact W.ki_setAt ho h0 (by omega) (by rw [List.size_toArray,← hl]; exact h4) (by rw [hk]; exact ⟨_,I',q⟩)
 ·have hk : (k + (its.toArray.size : Int)).toNat = j := by
   rw [seqIndex_neg (by omega) h3] at h1
   rw [List.size_toArray,← hl]
   exact Option.some.inj h1
  exact W.ki_setBack ho (by omega) (by rw [List.size_toArray,← hl]; exact h3) (by omega) (by rw [hk]; exact ⟨_,I',q⟩)
theorem slice_bounds (lo hi : Option Int) (n : Nat) : (sliceBounds lo hi none n).1 = ((HT.sIx n 0 lo : Nat) : Int) /\ (sliceBounds lo hi none n).2.1 = ((HT.sIx n n hi : Nat) : Int) /\ (sliceBounds lo hi none n).2.2 = 1 := by
 refine ⟨?_,?_,rfl⟩
 ·cases lo with
  | none => simp [sliceBounds,HT.sIx]
  | some i =>
   simp only [sliceBounds,HT.sIx,Option.getD_none,show (1 : Int) > 0 by decide,if_true]
   by_cases h : i < 0
   ·simp only [h,if_true] <;> omega
   ·simp only [h,if_false] <;> omega
 ·cases hi with
  | none => simp [sliceBounds,HT.sIx]
  | some i =>
   simp only [sliceBounds,HT.sIx,Option.getD_none,show (1 : Int) > 0 by decide,if_true]
   by_cases h : i < 0
   ·simp only [h,if_true] <;> omega
   ·simp only [h,if_false] <;> omega
theorem slicePick_cut (its : List Value) (lo hi : Option Int) : slicePick its.toArray lo hi none = ((its.drop (HT.sIx its.length 0 lo)).take (HT.sIx its.length its.length hi - HT.sIx its.length 0 lo)).toArray := by
 obtain ⟨h1,h2,h3⟩ := slice_bounds lo hi its.toArray.size
 unfold slicePick
 rw [h1,h2,h3]
 simp only [sliceRange_one,pick_run,List.size_toArray] <;> rfl
def rSlL (K : W.Frag) : V -> Option Int -> Option Int -> Hp -> VK -> Prop := fun x lo hi H Q => ∃ a xs,x = .ref a /\ SqL K H a xs /\ ∀ p,H p = none -> Q (.ref p) (upd H p (.lst (cutV xs lo hi)))
theorem sl_list : SlR X (rSlL X.K) := by
 intro pins s σ H x v vl vu lo hi sl Q I rx hs pl pu h
 obtain ⟨a,xs,rfl,hx,q⟩ := h
 cases rx
 obtain ⟨its,r,ht,hz⟩ := I.list hx
 have hlen := r.length
 refine ⟨"list",_,slot_list_getitem.lookup,ht.isList.typeIs,?_⟩
 refine wpAny_getItem_list_slice ht.isList hs pl pu .none (by simp) ?_ (by rw [List.size_toArray] <;> omega)
 rw [slicePick_cut,← hlen]
 refine ⟨.ref s.heap.objs.size,_,I.laid (t' := s.toks) (o := .lst (cutV xs lo hi)) (fun b ob q => Heap.get?_push_of_some _ q) (Nat.le_refl _) ?_,rfl,q _ (I.hok.fresh (Nat.le_refl _))⟩
 exact ⟨Nat.le_trans (cutV_length xs lo hi) hz,_,0,(r.drop (HT.sIx xs.length 0 lo)).take (HT.sIx xs.length xs.length hi - HT.sIx xs.length 0 lo),Heap.get?_push_size _ rfl⟩
theorem call_len_seq : CallR X (.builtin "len") (fun xs H Q => ∃ p ys,xs = [.ref p] /\ (SqL X.K H p ys ∨ SqT X.K H p ys) /\ Q (.int ys.length) H) := by
 intro pins s σ H xs us Q I r h
 obtain ⟨p,ys,rfl,hq,q⟩ := h
 obtain ⟨u,rfl,rx⟩ := vals1 r
 cases rx
 have hn := line63
 rcases hq with hq | hq
 ·obtain ⟨its,r',pl,hz⟩ := I.list hq
  have hlen := r'.length
  exact Calls.call_len_list pl.isList (by simp only [List.size_toArray] <;> omega) ⟨.int ys.length,H,I.tok _,⟨s.toks + 1,by rw [List.size_toArray,hlen]⟩,q⟩
 ·obtain ⟨its,r',pl,hz⟩ := I.tuple hq
  have hlen := r'.length
  exact len_tuple pl (by simp only [List.size_toArray] <;> omega) ⟨.int ys.length,H,I.tok _,⟨s.toks + 1,by rw [List.size_toArray,hlen]⟩,q⟩
def tyV (K : W.Frag) (T : String) (x : V) (H : Hp) : Prop := match x with
 | .str _ => T = "str"
 | .int _ => T = "int"
 | .ref p => (T = "list" /\ ∃ xs,SqL K H p xs) ∨ (T = "tuple" /\ ∃ o,K.lookup p = some o /\ o.cls = .type "tuple" /\ o.dict = none) ∨
   (T = "dict" /\ ((∃ kvs,H p = some (.dK kvs)) ∨ ∃ kvs,H p = some (.dT kvs))) ∨ (T = "set" /\ ∃ S n,H p = some (.set S n))
 | _ => False
theorem tyV_is {pins : List (Addr × Obj)} {σ : St} {H : Hp} {s : Shared} {T : String} {x : V} {v : Value} (I : Inv X pins σ H s) (r : RelV x v) (ty : tyV X.K T x H) :
  s.TypeIs v T /\ ∀ a,v = .ref a -> ∃ ob,s.heap.get? a = some ob /\ ob.dict = none := by
 cases x with
 | str z =>
  obtain ⟨t,rfl⟩ := r
  cases (show T = "str" from ty)
  exact ⟨typeIs_str s z t,fun _ e => nomatch e⟩
 | int i =>
  obtain ⟨t,rfl⟩ := r
  cases (show T = "int" from ty)
  exact ⟨typeIs_int s i t,fun _ e => nomatch e⟩
 | ref p =>
  cases r
  rcases ty with ⟨rfl,xs,hq⟩ | ⟨rfl,o,hk,hc,hd⟩ | ⟨rfl,hk⟩ | ⟨rfl,S,n,hk⟩
  ·obtain ⟨its,_,pl,_⟩ := I.list hq
   refine ⟨pl.isList.typeIs,fun a e => ?_⟩
   cases e
   obtain ⟨o,n,e,c,hd,_⟩ := pl
   exact ⟨o,e,hd⟩
  ·refine ⟨⟨o,I.kIn p o hk,hc⟩,fun a e => ?_⟩
   cases e
   exact ⟨o,I.kIn _ o hk,hd⟩
  ·have z : ∃ o,s.heap.get? p = some o /\ o.ExactDict := by
    rcases hk with ⟨kvs,hk⟩ | ⟨kvs,hk⟩
    ·obtain ⟨_,_,_,_,o,_,_,e,ex,_⟩ := I.hok p _ hk
     exact ⟨o,e,ex⟩
    ·obtain ⟨_,_,_,_,o,_,_,e,ex,_⟩ := I.hok p _ hk
     exact ⟨o,e,ex⟩
   obtain ⟨o,e,ex⟩ := z
   refine ⟨⟨o,e,ex.1⟩,fun a e2 => ?_⟩
   cases e2
   exact ⟨o,e,ex.2.1⟩
  ·obtain ⟨o,_,_,_,e,ex,_⟩ := I.hok p _ hk
   refine ⟨⟨o,e,ex.1⟩,fun a e2 => ?_⟩
   cases e2
   exact ⟨o,e,ex.2.1⟩
 | _ => exact False.elim ty
def tBM (K : W.Frag) (T : String) (r : V -> List V -> Hp -> VK -> Prop) (to : TE) (t : TA) : TE := fun σ H Q => to σ H fun x H1 => tyV K T x H1 /\ t σ H1 fun xs H2 => r x xs H2 Q
variable {o e : Expr} {es : List Expr} {to : TE} {t : TA} {name : Str} {apos cpos : Pos} {T id : String} {r : V -> List V -> Hp -> VK -> Prop}
theorem pe_bm (pa : PlainAttrs T) (slot : Slot T name id) (hty : typeOf (.builtin id) = pure (.type "method_descriptor")) (hm : MtR X id r) (ho : PE X o to) (ha : PA X (e :: es) t)
  (hbase : attributeBase o name X.env (eval o X.env) = eval o X.env := by rfl)
  (hfew : ((backTo cpos (starEach (e :: es) X.env)).all (fun x => !x.1) && (backToKw cpos (keywordEach [] X.env)).all (fun x => x.1.isSome)
   && decide ((e :: es).length + ([] : List Keyword).length + (if ([] : List Keyword).isEmpty then 0 else 1) < 30)) = true := by rfl)
  (hline : (apos.endLine == cpos.line) = true := by rfl) (hs : starEach (e :: es) X.env = (false,eval e X.env) :: starEach es X.env := by rfl) (hplain : (backTo cpos (starEach es X.env)).any (·.1) = false := by rfl) :
  PE X (.Call (.Attribute o name apos) (e :: es) [] cpos) (tBM X.K T r to t) := by
 intro pins s σ H Q I h
 refine wpAny_Call_method_late hbase hfew hline rfl (thn (ho pins s σ H _ I h) fun v s1 ⟨x,H1,I1,r1,ty,q1⟩ => ?_)
 obtain ⟨h1,h2⟩ := tyV_is I1 r1 ty
 refine ⟨T,id,pa,slot,hty,h1,h2,?_⟩
 have hA := ha cpos pins s1 σ H1 _ I1 q1
 rw [hs] at hA ⊢
 refine Calls.callWith_builtin (by show (false || (backTo cpos (starEach es X.env)).any (·.1)) = false; rw [hplain] <;> rfl) (Calls.evalArgs_plain ?_)
 exact thn hA fun us s2 ⟨vs,H2,I2,r2,q2⟩ => hm pins s2 σ H2 x vs v us Q I2 r1 r2 q2
end
end L2
namespace L2
open PySem PySem.Spec PyProof.Rows
def MtM (X : Cx) (id : String) (r : V -> List V -> Hp -> VK -> Prop) : Prop :=
 ∀ (pins : List (Addr × Obj)) (s : Shared) (σ : St) (H : Hp) (x : V) (xs : List V) (v : Value) (us : List Value) (Q : VK),Inv X pins σ H s -> RelV x v -> Vals xs us -> r x xs H Q →
  wpAny (model X.prog X.w) X.A (call (.builtin id) (v :: us)) (EP X pins σ Q) X.xe s
theorem Vals.one : ∀ {x : V} {us : List Value},Vals [x] us -> ∃ u,us = [u] /\ RelV x u
 | _,_,.cons r .nil => ⟨_,rfl,r⟩
theorem Vals.two : ∀ {x y : V} {us : List Value},Vals [x,y] us -> ∃ u v,us = [u,v] /\ RelV x u /\ RelV y v
 | _,_,_,.cons r (.cons q .nil) => ⟨_,_,rfl,r,q⟩
theorem Vals.reverse {xs : List V} {us : List Value} (h : Vals xs us) : Vals xs.reverse us.reverse := by
 induction h with
 | nil => exact .nil
 | cons r t ih => rw [List.reverse_cons,List.reverse_cons]; exact Vals.append ih (.cons r .nil)
theorem Vals.rep {xs : List V} {us : List Value} (h : Vals xs us) : ∀ k : Nat,Vals (List.replicate k xs).flatten (List.replicate k us).flatten
 | 0 => .nil
 | k + 1 => by
  rw [List.replicate_succ,List.replicate_succ,List.flatten_cons,List.flatten_cons]
  exact Vals.append h (Vals.rep h k)
theorem foldl_rep (its : List Value) : ∀ (k : Nat) (acc : List Value),
  List.foldl (fun x1 x2 => x1 ++ x2) acc.toArray (List.replicate k its.toArray) = (acc ++ (List.replicate k its).flatten).toArray
 | 0,acc => by simp
 | k + 1,acc => by
  have e : acc.toArray ++ its.toArray = (acc ++ its).toArray := by simp
  have e2 : (acc ++ its) ++ (List.replicate k its).flatten = acc ++ (List.replicate (k + 1) its).flatten := by
   rw [List.replicate_succ,List.flatten_cons,List.append_assoc]
  rw [<- e2,← foldl_rep its k (acc ++ its),← e,List.replicate_succ,List.foldl_cons]
section
variable {X : Cx} {pins : List (Addr × Obj)} {σ : St} {H : Hp} {s : Shared} {l b : Addr} {xs ys zs : List V}
theorem Inv.lset {its its' : List Value} {n : Nat} {f : Array Value -> Array Value} {t' : Nat} (I : Inv X pins σ H s) (hH : H l = some (.lst xs))
  (e : s.heap.get? l = some { cls := .type "list",data := .seq its.toArray n }) (hf : f its.toArray = its'.toArray) (hv : Vals ys its') (hz : ys.length <= sizeLine) :
  Inv X pins σ (upd H l (.lst ys)) { s with heap := s.heap.update l (Obj.mapSeq f),toks := t' } := by
 have q := PySem.IsL.update e f
 rw [hf] at q
 refine I.write (x := l) (e := l) (by rw [hH]; exact trivial) (.inl rfl) (fun b' u hb hu => (Heap.get?_update_other s.heap (Obj.mapSeq f) (Ne.symm hb)).trans hu) ⟨_,q⟩ ?_
 exact ⟨hz,its',_,hv,q⟩
theorem Inv.lnew {its : List Value} {t' : Nat} (I : Inv X pins σ H s) (hv : Vals ys its) (hz : ys.length <= sizeLine) :
  Inv X pins σ (upd H s.heap.objs.size (.lst ys)) { s with heap := s.heap.push { cls := .type "list",data := .seq its.toArray },toks := t' } :=
 I.laid (fun _ _ q => Heap.get?_push_of_some _ q) (Nat.le_refl _) ⟨hz,its,0,hv,Heap.get?_push_size _ rfl⟩
theorem Inv.fresh (I : Inv X pins σ H s) : H s.heap.objs.size = none := I.hok.fresh (Nat.le_refl _)
theorem Inv.lstM (I : Inv X pins σ H s) (hH : H l = some (.lst xs)) : xs.length <= sizeLine /\ ∃ (its : List Value) (n : Nat),Vals xs its /\ xs.length = its.length /\ s.heap.get? l = some { cls := .type "list",data := .seq its.toArray n } := by
 obtain ⟨z,its,n,r,e⟩ := I.hok l _ hH
 exact ⟨z,its,n,r,r.length,e⟩
theorem notLongL {n : Nat} (h : n <= sizeLine) : Builtin.List.listTooLong n = false := by
 unfold Builtin.List.listTooLong
 exact decide_eq_false (by omega)
end
section
variable {X : Cx}
def rAppend : V -> List V -> Hp -> VK -> Prop := fun x vs H Q => ∃ l xs y,x = .ref l /\ vs = [y] /\ H l = some (.lst xs) /\ xs.length < sizeLine /\ Q .non (upd H l (.lst (xs ++ [y])))
theorem mt_append : MtM X "list.append" rAppend := by
 intro pins s σ H x vs v us Q I rx rv h
 obtain ⟨l,xs,y,rfl,rfl,hH,hz,q⟩ := h
 cases rx
 obtain ⟨u,rfl,ru⟩ := rv.one
 obtain ⟨z,its,n,r,hl,e⟩ := I.lstM hH
 refine call_meets F.slot_list_append ⟨_,e,rfl⟩ F.entry_list_append (F.args_list_append_2 _ _) (PySem.list_append l its.toArray n u (by rw [List.size_toArray]; omega)) ⟨e,?_⟩
 refine ⟨.non,_,I.lset (its' := its ++ [u]) hH e (by simp) (r.append (.cons ru .nil)) ?_,rfl,q⟩
 rw [List.length_append,List.length_singleton]
 omega
def rExtend : V -> List V -> Hp -> VK -> Prop := fun x vs H Q => ∃ l b xs zs,x = .ref l /\ vs = [.ref b] /\ H l = some (.lst xs) /\ H b = some (.lst zs) /\ xs.length + zs.length <= sizeLine /\ Q .non (upd H l (.lst (xs ++ zs)))
theorem mt_extend : MtM X "list.extend" rExtend := by
 intro pins s σ H x vs v us Q I rx rv h
 obtain ⟨l,b,xs,zs,rfl,rfl,hH,hB,hz,q⟩ := h
 cases rx
 obtain ⟨u,rfl,ru⟩ := rv.one
 cases ru
 obtain ⟨z,its,n,r,hl,e⟩ := I.lstM hH
 obtain ⟨z2,its2,n2,r2,hl2,e2⟩ := I.lstM hB
 have hsz : its.toArray.size + its2.toArray.size <= sizeLine := by rw [List.size_toArray,List.size_toArray]; omega
 have hlong : ¬ (!its.toArray.isEmpty && Builtin.List.listTooLong (its.toArray.size + its2.toArray.size)) = true := by
  rw [notLongL hsz,Bool.and_false]
  exact Bool.false_ne_true
 refine call_meets F.slot_list_extend ⟨_,e,rfl⟩ F.entry_list_extend (F.args_list_extend_2 _ _)
  (AutoSeq1.list_extend_list_list_0 l its.toArray n b its2.toArray n2 hlong (by rw [List.size_toArray]; omega) (by omega)) ⟨e,e2,?_⟩
 refine ⟨.non,_,I.lset (its' := its ++ its2) hH e (by simp) (r.append r2) ?_,rfl,q⟩
 rw [List.length_append]
 omega
def rCat : R2 := fun x y H Q => ∃ l b xs zs,x = .ref l /\ y = .ref b /\ H l = some (.lst xs) /\ H b = some (.lst zs) /\ xs.length + zs.length <= sizeLine /\ ∀ p,H p = none -> Q (.ref p) (upd H p (.lst (xs ++ zs)))
theorem op_cat : OpR X (binaryOp .Add) rCat := by
 intro pins s σ H x y v u Q I rx ry h
 obtain ⟨l,b,xs,zs,rfl,rfl,hH,hB,hz,q⟩ := h
 cases rx
 cases ry
 obtain ⟨z,its,n,r,hl,e⟩ := I.lstM hH
 obtain ⟨z2,its2,n2,r2,hl2,e2⟩ := I.lstM hB
 refine PySem.P.add_list e e2 ?_ (by rw [List.size_toArray,List.size_toArray]; omega)
 have ea : its.toArray ++ its2.toArray = (its ++ its2).toArray := by simp
 rw [ea]
 exact ⟨.ref _,_,I.lnew (t' := s.toks) (r.append r2) (by rw [List.length_append]; omega),rfl,q _ I.fresh⟩
def rRep : R2 := fun x y H Q => ∃ l k xs,x = .ref l /\ y = .int k /\ H l = some (.lst xs) /\ -(2 ^ 63) <= k /\ k < 2 ^ 63 /\ xs.length * k.toNat <= sizeLine ∧
 ∀ p,H p = none -> Q (.ref p) (upd H p (.lst (List.replicate k.toNat xs).flatten))
theorem len_rep {α : Type} (xs : List α) (k : Nat) : (List.replicate k xs).flatten.length = k * xs.length := by
 induction k with
 | zero => simp
 | succ k ih => rw [List.replicate_succ,List.flatten_cons,List.length_append,ih,Nat.succ_mul,Nat.add_comm]
theorem op_rep : OpR X (binaryOp .Mult) rRep := by
 intro pins s σ H x y v u Q I rx ry h
 obtain ⟨l,k,xs,rfl,rfl,hH,h1,h2,hz,q⟩ := h
 cases rx
 obtain ⟨t,rfl⟩ := ry
 obtain ⟨z,its,n,r,hl,e⟩ := I.lstM hH
 have hlen : its.toArray.size * k.toNat <= sizeLine := by rw [List.size_toArray,← hl]; exact hz
 have hcap : ¬ its.toArray.size * k.toNat > (2 ^ 63 - 1) / 8 := by
  have : (sizeLine : Nat) <= (2 ^ 63 - 1) / 8 := by decide
  omega
 have hfit : ¬ (!Builtin.List.listFitsIndex k) = true := by
  rw [fitsIndex_both h1 h2]
  exact Bool.false_ne_true
 have hlong : ¬ Builtin.List.listTooLong (its.toArray.size * k.toNat) = true := by
  rw [notLongL hlen]
  exact Bool.false_ne_true
 have hnew : List.foldl (fun x1 x2 => x1 ++ x2) #[] (List.replicate (if its.toArray.isEmpty = true then 0 else k.toNat) its.toArray) = (List.replicate k.toNat its).flatten.toArray := by
  have f0 : ∀ m : Nat,List.foldl (fun x1 x2 => x1 ++ x2) #[] (List.replicate m its.toArray) = (List.replicate m its).flatten.toArray := fun m => by
   have := foldl_rep its m []
   rw [List.nil_append] at this
   exact this
  rw [f0]
  cases its with
  | nil => simp
  | cons a r' => rw [if_neg (by simp)]
 refine wpAny_binaryOp_repeat_ref (T := "list") (U := "int") (by decide) ⟨_,e,rfl⟩ (fun s' => typeIs_int s' k t) noFill_list_mul F.fills_int_mul F.slot_int_rmul repeat_list F.slot_int_index.lookup
  (call_meets F.slot_int_rmul (typeIs_int s k t) F.entry_int_rmul (F.args_int_rmul_2 _ _) (int___rmul___int_list k t l its.toArray n)
   ⟨e,rfl,⟨_,e,rfl⟩,call_meets F.slot_list_mul ⟨_,e,rfl⟩ F.entry_list_mul (F.args_list_mul_2 _ _) (AutoListH.list___mul___list_int_3 l its.toArray n k t hfit hcap hlong) ⟨e,?_⟩⟩)
 rw [hnew]
 exact ⟨.ref _,_,I.lnew (t' := s.toks) (r.rep k.toNat) (by rw [len_rep,Nat.mul_comm]; exact hz),rfl,q _ I.fresh⟩
end
section
variable {prog : Program} {w : World} {A : Around} {E : Value -> Shared -> Prop} {s : Shared}
set_option maxRecDepth 100000 in
end
end L2
namespace L2
open PySem PySem.Spec PyProof.Rows
theorem Vals.ints : ∀ {ns : List Int} {us : List Value},Vals (ns.map V.int) us -> IntsAre us ns
 | [],us,h => by
  rw [List.map_nil] at h
  cases h
  exact IntsAre.nil
 | n :: ns,us,h => by
  rw [List.map_cons] at h
  cases h with
  | cons r t =>
   obtain ⟨k,rfl⟩ := r
   exact IntsAre.cons n k (Vals.ints t)
theorem vals_of_ints : ∀ {us : List Value} {ns : List Int},IntsAre us ns -> Vals (ns.map V.int) us
 | _,_,.nil => by rw [List.map_nil]; exact Paired.nil
 | _,_,.cons n t h => by rw [List.map_cons]; exact Paired.cons (show RelV (V.int n) (Value.int n t) from ⟨t,rfl⟩) (vals_of_ints h)
theorem Vals.bls : ∀ {bs : List Bool} {us : List Value},Vals (bs.map V.bl) us -> us = bs.map Value.bool
 | [],us,h => by
  rw [List.map_nil] at h
  cases h
  rfl
 | b :: bs,us,h => by
  rw [List.map_cons] at h
  cases h with
  | cons r t =>
   cases r
   rw [Vals.bls t,List.map_cons]
theorem Vals.ref1 {a : Addr} {us : List Value} (r : Vals [V.ref a] us) : us = [Value.ref a] := by
 cases r with
 | cons r t =>
  cases t
  cases r
  rfl
section
variable {prog : Program} {w : World} {A : Around} {E : Value -> Shared -> Prop} {s : Shared} {l : Addr} {its : List Value} {ns : List Int} {Q : Value -> Shared -> Prop}
theorem sum_raw (hh : A.handled = none) (hl : s.heap.IsList l its.toArray) (hi : IntsAre its ns)
  (h : ∀ h' tk t',(∀ b o,s.heap.get? b = some o -> h'.get? b = some o) -> Q (.int ns.sum t') { s with heap := h',toks := tk }) : wpAny (model prog w) A (call (.builtin "sum") [.ref l]) Q E s := by
 obtain ⟨xs,e⟩ := hi.allInts.items
 have hn : numsOf (intItems xs).toList = ns := by rw [<- e]; exact hi.numsOf
 rw [nums_intItems] at hn
 rw [e] at hl
 refine PySem.sum_intListG hh hl fun h' tk t' hk => ?_
 have := h h' tk t' hk
 rw [preSum_eq,List.take_of_length_le (by simp),hn]; exact this
end
section
variable {X : Cx}
def rSum (K : W.Frag) : List V -> Hp -> VK -> Prop := fun vs H Q => ∃ (a : Addr) (ns : List Int),vs = [V.ref a] /\ SqL K H a (ns.map V.int) /\ Q (.int ns.sum) H
theorem cr_sum (hc : X.calm = true) : CallR X (.builtin "sum") (rSum X.K) := by
 intro pins s σ H vs us Q I r h
 obtain ⟨a,ns,rfl,hs,q⟩ := h
 obtain ⟨its,rv,hl,_⟩ := I.list hs
 rw [Vals.ref1 r]
 exact sum_raw (I.ok.hd hc) hl.isList rv.ints fun h' tk t' hk => ⟨.int _,H,I.kept hk,⟨_,rfl⟩,q⟩
end
theorem iter_any {prog : Program} {w : World} {A : Around} {E : Value -> Shared -> Prop} {s : Shared} {l : Addr} {items : Array Value} {Q : Value -> Shared -> Prop} (hl : s.heap.IsList l items)
  (h : ∀ s₂ : Shared,s₂ = { s with heap := s.heap.push { cls := .type "list_iterator",data := .fields #[.ref l,.int 0 0] } } →
   (s₂.heap.IsListIter s.heap.objs.size l 0 /\ s₂.heap.IsList l items) -> l ≠ s.heap.objs.size -> Q (.ref s.heap.objs.size) s₂) : wpAny (model prog w) A (pyIter (.ref l)) Q E s := by
 have hlt : l < s.heap.objs.size := by obtain ⟨_,e,_⟩ := hl; exact Heap.lt_size e
 exact wpAny_pyIter_list hl (h _ rfl ⟨⟨_,Heap.get?_push_size _ rfl,rfl,rfl⟩,hl.push _⟩ (Nat.ne_of_lt hlt))
theorem truth_bools {prog : Program} {w : World} {A : Around} {bs : List Bool} {its : List Value} (e : its = bs.map Value.bool) :
  TruthOf prog w A (fun i v => its.toArray[i]? = some v) (fun i => bs.getD i false) := fun i v s Q E hv hq => by
 have hv' : its[i]? = some v := by simpa using hv
 rw [e,List.getElem?_map] at hv'
 obtain ⟨b,hb,rfl⟩ := Option.map_eq_some_iff.mp hv'
 have hg : bs.getD i false = b := by rw [List.getD_eq_getElem?_getD,hb] <;> rfl
 have hq' : Q (bs.getD i false) s := hq
 rw [hg] at hq'
 exact wpAny_truthy_bool hq'
theorem any_range : ∀ bs : List Bool,(List.range bs.length).any (fun i => bs.getD i false) = bs.any id
 | [] => rfl
 | b :: bs => by
  rw [List.length_cons,List.range_succ_eq_map,List.any_cons,List.any_map,List.any_cons,← any_range bs]
  all_goals rfl
theorem all_range : ∀ bs : List Bool,(List.range bs.length).all (fun i => bs.getD i false) = bs.all id
 | [] => rfl
 | b :: bs => by
  rw [List.length_cons,List.range_succ_eq_map,List.all_cons,List.all_map,List.all_cons,← all_range bs]
  all_goals rfl
section
variable {X : Cx}
def rAny (K : W.Frag) : List V -> Hp -> VK -> Prop := fun vs H Q => ∃ (a : Addr) (bs : List Bool),vs = [V.ref a] /\ SqL K H a (bs.map V.bl) /\ Q (.bl (bs.any id)) H
def rAll (K : W.Frag) : List V -> Hp -> VK -> Prop := fun vs H Q => ∃ (a : Addr) (bs : List Bool),vs = [V.ref a] /\ SqL K H a (bs.map V.bl) /\ Q (.bl (bs.all id)) H
theorem cr_any (hc : X.calm = true) : CallR X (.builtin "any") (rAny X.K) := by
 intro pins s σ H vs us Q I r h
 obtain ⟨a,bs,rfl,hs,q⟩ := h
 obtain ⟨its,rv,hl,_⟩ := I.list hs
 rw [Vals.ref1 r]
 have hb := rv.bls
 refine call_any_walk (iter_any hl.isList fun s₂ e2 st hne => ?_)
 subst e2
 refine ⟨_,_,_,_,_,_,_,rfl,Walks.list (A := X.A.in1) (I.ok.hd hc) _ a hne its.toArray,st,truth_bools hb,fun h' tk hk => ?_⟩
 refine ⟨.bl _,H,I.kept fun b o eo => hk b o (fun hmem => ?_) (Heap.get?_push_of_some _ eo),?_,q⟩
 ·rcases List.mem_cons.mp hmem with e1 | hmem
  ·exact absurd (e1 ▸ Heap.lt_size eo) (Nat.lt_irrefl _)
  ·cases hmem
 ·show Value.bool _ = Value.bool _
  rw [<- any_range,hb,List.size_toArray,List.length_map]
theorem cr_all (hc : X.calm = true) : CallR X (.builtin "all") (rAll X.K) := by
 intro pins s σ H vs us Q I r h
 obtain ⟨a,bs,rfl,hs,q⟩ := h
 obtain ⟨its,rv,hl,_⟩ := I.list hs
 rw [Vals.ref1 r]
 have hb := rv.bls
 refine call_all_walk (iter_any hl.isList fun s₂ e2 st hne => ?_)
 subst e2
 refine ⟨_,_,_,_,_,_,_,rfl,Walks.list (A := X.A.in1) (I.ok.hd hc) _ a hne its.toArray,st,truth_bools hb,fun h' tk hk => ?_⟩
 refine ⟨.bl _,H,I.kept fun b o eo => hk b o (fun hmem => ?_) (Heap.get?_push_of_some _ eo),?_,q⟩
 ·rcases List.mem_cons.mp hmem with e1 | hmem
  ·exact absurd (e1 ▸ Heap.lt_size eo) (Nat.lt_irrefl _)
  ·cases hmem
 ·show Value.bool _ = Value.bool _
  rw [<- all_range,hb,List.size_toArray,List.length_map]
end
mutual
inductive Dp (K : W.Frag) (H : Hp) : V -> PyData -> Prop
 | non : Dp K H .non .none
 | bl (b : Bool) : Dp K H (.bl b) (.bool b)
 | int (i : Int) : Dp K H (.int i) (.int i)
 | str (x : Str) : Dp K H (.str x) (.str x)
 | lst {a : Addr} {xs : List V} {ds : List PyData} : SqL K H a xs -> DpAll K H xs ds -> Dp K H (.ref a) (.list ds)
 | tup {a : Addr} {xs : List V} {ds : List PyData} : SqT K H a xs -> DpAll K H xs ds -> Dp K H (.ref a) (.tuple ds)
inductive DpAll (K : W.Frag) (H : Hp) : List V -> List PyData -> Prop
 | nil : DpAll K H [] []
 | cons {v : V} {vs : List V} {d : PyData} {ds : List PyData} : Dp K H v d -> DpAll K H vs ds -> DpAll K H (v :: vs) (d :: ds)
end
section
variable {X : Cx} {pins : List (Addr × Obj)} {σ : St} {H : Hp} {s : Shared}
mutual
theorem Dp.reads (I : Inv X pins σ H s) : ∀ (d : PyData) (v : V) (u : Value),Dp X.K H v d -> RelV v u -> ∃ as,Reads s.heap u d as
 | .none,_,_,h,r => by
  cases h
  cases r
  exact ⟨_,Reads.none⟩
 | .bool b,_,_,h,r => by
  cases h
  cases r
  exact ⟨_,Reads.bool b⟩
 | .int i,_,_,h,r => by
  cases h
  obtain ⟨t,rfl⟩ := r
  exact ⟨_,Reads.int i t⟩
 | .str x,_,_,h,r => by
  cases h
  obtain ⟨t,rfl⟩ := r
  exact ⟨_,Reads.str x t⟩
 | .list ds,_,_,h,r => by
  cases h with
  | lst hs ha =>
   cases r
   obtain ⟨its,rv,⟨o,n,ho,hc,_,hd⟩,_⟩ := I.list hs
   obtain ⟨as,hr⟩ := Dp.readsAll I ds _ its ha rv
   exact ⟨_,Reads.list ho hc hd hr⟩
 | .tuple ds,_,_,h,r => by
  cases h with
  | tup hs ha =>
   cases r
   obtain ⟨its,rv,⟨o,ho,hc,n,hd⟩,_⟩ := I.tuple hs
   obtain ⟨as,hr⟩ := Dp.readsAll I ds _ its ha rv
   exact ⟨_,Reads.tuple ho hc hd hr⟩
 | .dict _,_,_,h,_ => by cases h
theorem Dp.readsAll (I : Inv X pins σ H s) : ∀ (ds : List PyData) (vs : List V) (us : List Value),DpAll X.K H vs ds -> Vals vs us -> ∃ as,ReadsAll s.heap us ds as
 | [],_,_,h,r => by
  cases h
  cases r
  exact ⟨_,ReadsAll.nil⟩
 | d :: ds,_,_,h,r => by
  cases h with
  | cons h1 h2 =>
   cases r with
   | cons r1 r2 =>
    obtain ⟨as,q1⟩ := Dp.reads I d _ _ h1 r1
    obtain ⟨bs,q2⟩ := Dp.readsAll I ds _ _ h2 r2
    exact ⟨_,ReadsAll.cons q1 q2⟩
end
end
section
variable {X : Cx}
def rEqD (K : W.Frag) : R2 := fun x y H Q => ∃ d e,Dp K H x d /\ Dp K H y e /\ SeqAt.shaped d = true /\ SeqAt.shaped e = true /\ Q (.bl (PyData.eqv d e)) H
theorem op_eqD (hu : X.A.units + 64 < cLine) : OpR X (compareOp .Eq) (rEqD X.K) := by
 intro pins s σ H x y v u Q I rx ry h
 obtain ⟨d,e,hd,he,sd,se,q⟩ := h
 obtain ⟨as,r1⟩ := Dp.reads I d x v hd rx
 obtain ⟨bs,r2⟩ := Dp.reads I e y u he ry
 exact SeqAt.compareEq_shaped r1 r2 sd se hu ⟨.bl _,H,I,rfl,q⟩
end
end L2
namespace L2
open PySem PySem.Spec PyProof.Rows
abbrev CellAt (h : Heap) (c : Addr) (v : Option Value) : Prop := h.IsCell c v
def relS (scope sc : Scope) : Scope :=
 { scope with names := scope.names.map fun (n,k) => if (k == .free && sc.kind == .function && sc.names.lookup n == some .cell) then (n,.cell) else (n,k) }
def cloFrom (cells : List (Str × Addr)) : List (Str × NameKind) -> List (Str × Addr) -> List (Str × Addr)
 | [],acc => acc
 | (n,k) :: r,acc => if k == .free then cloFrom cells r ((n,(cells.lookup n).getD 0) :: acc) else cloFrom cells r acc
theorem closure_loop (env : Env) (f : Str × NameKind -> List (Str × Addr) -> Sem (ForInStep (List (Str × Addr))))
  (hf : ∀ n k c,f (n,k) c = if k == .free then (do let a ← cellOf env n; pure (.yield ((n,a) :: c))) else pure (.yield c)) :
  ∀ (names : List (Str × NameKind)) (acc : List (Str × Addr)),(∀ y ∈ names,y.2 = .free -> ∃ c,env.cells.lookup y.1 = some c) -> forIn names acc f = pure (cloFrom env.cells names acc)
 | [],acc,_ => by rw [List.forIn_nil]; rfl
 | (n,k) :: r,acc,h => by
  rw [List.forIn_cons,hf]
  have ih := fun acc => closure_loop env f hf r acc fun y hy => h y (List.mem_cons_of_mem _ hy)
  unfold cloFrom
  by_cases hk : (k == NameKind.free) = true
  ·rw [if_pos hk,if_pos hk]
   obtain ⟨c,hc⟩ := h (n,k) List.mem_cons_self (by simpa using hk)
   have e : cellOf env n = pure c := by unfold cellOf; rw [hc]
   rw [e]
   have e2 : (env.cells.lookup n).getD 0 = c := by rw [hc]; rfl
   rw [e2]
   exact ih _
  ·rw [if_neg hk,if_neg hk]
   exact ih _
theorem closure_ok {scope : Scope} {env : Env} (h : ∀ y ∈ scope.names,y.2 = .free -> ∃ c,env.cells.lookup y.1 = some c) : closureFor scope env = pure (cloFrom env.cells scope.names []) := by
 simp only [closureFor]
 rw [closure_loop env _ (fun n k c => rfl) scope.names [] h]
 rfl
theorem mem_lookup {α : Type} : ∀ {l : List (Str × α)} {n : Str} {c : α},(n,c) ∈ l -> ∃ c',l.lookup n = some c'
 | (k,v) :: r,n,c,h => by
  rw [List.lookup_cons]
  cases hb : n == k with
  | true => exact ⟨_,rfl⟩
  | false =>
   rcases List.mem_cons.mp h with e | h
   ·cases e; simp at hb
   ·exact mem_lookup h
theorem cloFrom_mem {cells : List (Str × Addr)} : ∀ {names : List (Str × NameKind)} {acc : List (Str × Addr)} {n : Str} {c : Addr},(n,c) ∈ cloFrom cells names acc -> (n,c) ∈ acc ∨ ((n,.free) ∈ names /\ c = (cells.lookup n).getD 0)
 | [],_,_,_,h => .inl h
 | (m,k) :: r,acc,n,c,h => by
  unfold cloFrom at h
  split at h
  ·rename_i hk
   have hk : k = .free := by simpa using hk
   rcases cloFrom_mem h with h | ⟨h1,h2⟩
   ·rcases List.mem_cons.mp h with e | h
    ·cases e; exact .inr ⟨hk ▸ List.mem_cons_self,rfl⟩
    ·exact .inl h
   ·exact .inr ⟨List.mem_cons_of_mem _ h1,h2⟩
  ·rcases cloFrom_mem h with h | ⟨h1,h2⟩
   ·exact .inl h
   ·exact .inr ⟨List.mem_cons_of_mem _ h1,h2⟩
theorem cloFrom_acc {cells : List (Str × Addr)} : ∀ {names : List (Str × NameKind)} {acc : List (Str × Addr)} {p : Str × Addr},p ∈ acc -> p ∈ cloFrom cells names acc
 | [],_,_,h => h
 | (m,k) :: r,acc,p,h => by
  unfold cloFrom
  split
  ·exact cloFrom_acc (List.mem_cons_of_mem _ h)
  ·exact cloFrom_acc h
theorem cloFrom_has {cells : List (Str × Addr)} : ∀ {names : List (Str × NameKind)} {acc : List (Str × Addr)} {n : Str},(n,.free) ∈ names -> (n,(cells.lookup n).getD 0) ∈ cloFrom cells names acc
 | (m,k) :: r,acc,n,h => by
  unfold cloFrom
  rcases List.mem_cons.mp h with e | h
  ·cases e
   exact cloFrom_acc List.mem_cons_self
  ·split
   ·exact cloFrom_has h
   ·exact cloFrom_has h
theorem cells_mem : ∀ {names : List (Str × NameKind)} {h : Heap} {acc : List (Str × Addr)} {x : Str} {c : Addr},(x,c) ∈ cellsFrom h.objs.size names acc →
  (x,c) ∈ acc ∨ ((x,.cell) ∈ names /\ h.objs.size <= c /\ CellAt (pushCells h names) c none)
 | [],_,_,_,_,h => .inl h
 | (n,k) :: r,h,acc,x,c,hm => by
  unfold cellsFrom at hm
  unfold pushCells
  split at hm
  ·rename_i hk
   rw [if_pos hk]
   have hk : k = .cell := by simpa using hk
   rw [<- Heap.size_push h { cls := .type "cell",data := .cell none }] at hm
   rcases cells_mem hm with hm | ⟨h1,h2,h3⟩
   ·rcases List.mem_cons.mp hm with e | hm
    ·cases e
     exact .inr ⟨hk ▸ List.mem_cons_self,Nat.le_refl _,_,pushCells_keeps r _ _ _ (Heap.get?_push_size _ rfl),rfl⟩
    ·exact .inl hm
   ·rw [Heap.size_push] at h2
    exact .inr ⟨List.mem_cons_of_mem _ h1,Nat.le_of_succ_le h2,h3⟩
  ·rename_i hk
   rw [if_neg hk]
   rcases cells_mem hm with hm | ⟨h1,h2,h3⟩
   ·exact .inl hm
   ·exact .inr ⟨List.mem_cons_of_mem _ h1,h2,h3⟩
theorem cells_acc : ∀ {names : List (Str × NameKind)} {n : Nat} {acc : List (Str × Addr)} {p : Str × Addr},p ∈ acc -> p ∈ cellsFrom n names acc
 | [],_,_,_,h => h
 | (m,k) :: r,n,acc,p,h => by
  unfold cellsFrom
  split
  ·exact cells_acc (List.mem_cons_of_mem _ h)
  ·exact cells_acc h
theorem cells_has : ∀ {names : List (Str × NameKind)} {n : Nat} {acc : List (Str × Addr)} {x : Str},(x,.cell) ∈ names -> ∃ c,(x,c) ∈ cellsFrom n names acc
 | (m,k) :: r,n,acc,x,h => by
  unfold cellsFrom
  rcases List.mem_cons.mp h with e | h
  ·cases e
   exact ⟨n,cells_acc List.mem_cons_self⟩
  ·split
   ·exact cells_has h
   ·exact cells_has h
theorem cells_inj : ∀ {names : List (Str × NameKind)} {h : Heap} {acc : List (Str × Addr)} {x y : Str} {c : Addr},(∀ p ∈ acc,p.2 < h.objs.size) -> (∀ x y c,(x,c) ∈ acc -> (y,c) ∈ acc -> x = y) →
  (x,c) ∈ cellsFrom h.objs.size names acc -> (y,c) ∈ cellsFrom h.objs.size names acc -> x = y
 | [],_,_,_,_,_,_,hi,h1,h2 => hi _ _ _ h1 h2
 | (n,k) :: r,h,acc,x,y,c,hl,hi,h1,h2 => by
  unfold cellsFrom at h1 h2
  split at h1
  ·rename_i hk
   rw [if_pos hk] at h2
   rw [<- Heap.size_push h { cls := .type "cell",data := .cell none }] at h1 h2
   refine cells_inj (h := h.push _) (fun p hp => ?_) (fun x y c a b => ?_) h1 h2
   ·rw [Heap.size_push]
    rcases List.mem_cons.mp hp with rfl | hp
    ·exact Nat.lt_succ_self _
    ·exact Nat.lt_succ_of_lt (hl p hp)
   ·rcases List.mem_cons.mp a with e | a <;> rcases List.mem_cons.mp b with e' | b
    ·cases e; cases e'; rfl
    ·cases e; exact absurd (hl _ b) (Nat.lt_irrefl _)
    ·cases e'; exact absurd (hl _ a) (Nat.lt_irrefl _)
    ·exact hi _ _ _ a b
  ·rename_i hk
   rw [if_neg hk] at h2
   exact cells_inj hl hi h1 h2
theorem newEnv_comp {M : Model} {A : Around} {E : Value -> Shared -> Prop} {s : Shared} {scope : Scope} {globals : Addr} {closure : List (Str × Addr)} {qual : Str} {func : Option Addr} {code : Value} {around : Env} {builtins : Addr} {Q : Env -> Shared -> Prop}
  (h : Q (newEnv scope s.heap.objs.size globals (cellsFrom (s.heap.objs.size + 1) scope.names closure) qual func code (some around) builtins)
   { s with heap := pushCells (s.heap.push { cls := .type "dict",data := .dict #[] }) scope.names }) :
  wpAny M A (newFunctionEnv scope globals closure [] qual func code (some around) builtins) Q E s := by
 simp only [newFunctionEnv,Option.isSome_some,if_true]
 refine wpAny_bind (wpAny_alloc ?_)
 refine wpAny_bind (wpAny_layCells _ (fun n k c => rfl) scope.names closure _ _ ?_)
 rw [show ({ s with heap := s.heap.push { cls := .type "dict",data := .dict #[] } } : Shared).heap.objs.size = s.heap.objs.size + 1 from Heap.size_push ..]
 rw [List.forIn_nil]
 exact wpAny_bind (wpAny_pure (wpAny_pure h))
theorem lookup_relS {sc : Scope} : ∀ {names : List (Str × NameKind)} {x : Str} {k : NameKind},
  (names.map fun (n,k) => if (k == NameKind.free && sc.kind == .function && sc.names.lookup n == some .cell) then (n,NameKind.cell) else (n,k)).lookup x = some k →
  ∃ k',names.lookup x = some k' /\ (k = k' ∨ (k' = .free /\ k = .cell))
 | [],_,_,h => by simp at h
 | (n,k₀) :: r,x,k,h => by
  have ih := @lookup_relS sc r x k
  have h' : List.lookup x ((if (k₀ == NameKind.free && sc.kind == .function && sc.names.lookup n == some .cell) = true then (n,NameKind.cell) else (n,k₀)) :: (r.map _)) = some k := h
  cases hx : x == n with
  | true =>
   simp only [List.lookup_cons,hx]
   by_cases hc : (k₀ == NameKind.free && sc.kind == .function && sc.names.lookup n == some .cell) = true
   ·rw [if_pos hc] at h'
    simp only [List.lookup_cons,hx] at h'
    cases h'
    simp only [Bool.and_eq_true,beq_iff_eq] at hc
    exact ⟨k₀,rfl,.inr ⟨hc.1.1,rfl⟩⟩
   ·rw [if_neg hc] at h'
    simp only [List.lookup_cons,hx] at h'
    cases h'
    exact ⟨_,rfl,.inl rfl⟩
  | false =>
   simp only [List.lookup_cons,hx]
   by_cases hc : (k₀ == NameKind.free && sc.kind == .function && sc.names.lookup n == some .cell) = true
   ·rw [if_pos hc] at h'
    simp only [List.lookup_cons,hx] at h'
    exact ih h'
   ·rw [if_neg hc] at h'
    simp only [List.lookup_cons,hx] at h'
    exact ih h'
structure BlkOk (N : List Str) (sc scope : Scope) (own : List (Str × Nat)) : Prop where
 kind : scope.kind = .function
 uniq : ∀ y ∈ scope.names,scope.names.lookup y.1 = some y.2
 ix : ∀ p ∈ own,N[p.2]? = some p.1
 free : ∀ y ∈ scope.names,y.2 = .free -> sc.names.lookup y.1 = some .cell ∨ sc.names.lookup y.1 = some .free
 own : ∀ y ∈ scope.names,y.2 = .local ∨ y.2 = .cell -> y.1 ∈ own.map (·.1) ∨ y.1 ∉ N
def wipe (σ : St) : List Nat -> St
 | [] => σ
 | v :: vs => (wipe σ vs).set v none
theorem wipe_length (σ : St) : ∀ vs : List Nat,(wipe σ vs).length = σ.length
 | [] => rfl
 | v :: vs => by unfold wipe; rw [List.length_set,wipe_length σ vs]
theorem wipe_some {σ : St} {i : Nat} {x : V} : ∀ {vs : List Nat},(wipe σ vs)[i]? = some (some x) -> σ[i]? = some (some x) /\ i ∉ vs
 | [],h => ⟨h,by simp⟩
 | v :: vs,h => by
  unfold wipe at h
  by_cases hi : v = i
  ·subst hi
   by_cases hv : v < (wipe σ vs).length
   ·rw [List.getElem?_set_self hv] at h; cases h
   ·rw [List.getElem?_eq_none (by simpa using hv)] at h; cases h
  ·rw [List.getElem?_set_ne hi] at h
   obtain ⟨h1,h2⟩ := wipe_some h
   exact ⟨h1,by simp only [List.mem_cons,not_or]; exact ⟨fun e => hi e.symm,h2⟩⟩
abbrev Cx.blk (X : Cx) (s : Shared) (H : Hp) (scope : Scope) (cenv : Env) (fp : List Addr) : Cx := { X with s_0 := s,H_0 := H,env := cenv,outer := X.stack,ex := fp,fn := fun x => scope.names.lookup x == some .cell,pn := [],xe := fun _ _ => False }
section
variable {X : Cx} {pins : List (Addr × Obj)} {σ : St} {H : Hp} {s : Shared}
theorem block_start {scope : Scope} {own : List (Str × Nat)} {fp : List Addr} (I : Inv X pins σ H s) (ok : BlkOk X.N X.env.scope scope own) (hN : X.N.Nodup) (hfp : ∀ b ∈ fp,FpOk X pins H b /\ b < s.heap.objs.size) :
  Inv (X.blk s H scope (compEnvC scope (cellsFrom (s.heap.objs.size + 1) scope.names (cloFrom X.env.cells scope.names [])) s.heap.objs.size X.env) fp) [] (wipe σ (own.map (·.2))) H { s with heap := pushCells (s.heap.push { cls := .type "dict",data := .dict #[] }) scope.names } := by
 have hfree : ∀ y ∈ scope.names,y.2 = .free -> ∃ c,X.env.cells.lookup y.1 = some c := fun y hy e => by
  rcases ok.free y hy e with k | k
  ·exact I.ok.has _ (.inl k)
  ·exact I.ok.has _ (.inr k)
 generalize hcenv : compEnvC scope (cellsFrom (s.heap.objs.size + 1) scope.names (cloFrom X.env.cells scope.names [])) s.heap.objs.size X.env = cenv
 have kp : ∀ b o,s.heap.get? b = some o -> (pushCells (s.heap.push { cls := .type "dict",data := .dict #[] }) scope.names).get? b = some o := fun b o e => pushCells_keeps _ _ _ _ (Heap.get?_push_of_some _ e)
 have hL : cenv.locals = s.heap.objs.size := by rw [<- hcenv]; rfl
 have hcl : cenv.cells = cellsFrom (s.heap.objs.size + 1) scope.names (cloFrom X.env.cells scope.names []) := by rw [<- hcenv]; rfl
 have hsc : cenv.scope = relS scope X.env.scope := by rw [<- hcenv]; rfl
 rw [<- Heap.size_push s.heap { cls := .type "dict",data := .dict #[] }] at hcl
 have cm : ∀ {y c},(y,c) ∈ cloFrom X.env.cells scope.names [] -> X.env.cells.lookup y = some c /\ c < s.heap.objs.size := fun {y c} hm => by
  rcases cloFrom_mem hm with hm | ⟨h1,rfl⟩
  ·cases hm
  ·obtain ⟨c,hc⟩ := hfree _ h1 rfl
   rw [hc]
   obtain ⟨w,z⟩ := I.cell _ _ hc
   exact ⟨rfl,z.lt⟩
 have mem : ∀ {y c},cenv.cells.lookup y = some c -> (X.env.cells.lookup y = some c /\ c < s.heap.objs.size) ∨ (s.heap.objs.size + 1 <= c /\ CellAt (pushCells (s.heap.push { cls := .type "dict",data := .dict #[] }) scope.names) c none) := fun {y c} e => by
  rw [hcl] at e
  rcases cells_mem (PySem.mem_of_lookup e) with hm | ⟨_,h2,h3⟩
  ·exact .inl (cm hm)
  ·rw [Heap.size_push] at h2; exact .inr ⟨h2,h3⟩
 have look : ∀ {y},scope.names.lookup y = some .free -> ∃ c,cenv.cells.lookup y = some c /\ X.env.cells.lookup y = some c := fun {y} hl => by
  have hy : (y,NameKind.free) ∈ scope.names := PySem.mem_of_lookup hl
  obtain ⟨c',e'⟩ := mem_lookup (cells_acc (names := scope.names) (n := (s.heap.push { cls := .type "dict",data := .dict #[] }).objs.size) (cloFrom_has (cells := X.env.cells) (acc := []) hy))
  rw [<- hcl] at e'
  refine ⟨c',e',?_⟩
  rw [hcl] at e'
  rcases cells_mem (PySem.mem_of_lookup e') with hm | ⟨h1,_,_⟩
  ·exact (cm hm).1
  ·have := ok.uniq _ h1
   rw [hl] at this; cases this
 have okB : (X.blk s H scope cenv fp).Ok := by
  refine ⟨I.ok.mod,by show cenv.scope.kind = _; rw [hsc]; exact ok.kind,by show cenv.globals = _; rw [<- hcenv]; exact I.ok.glob,by show cenv.builtins = _; rw [<- hcenv]; exact I.ok.blt,by show s.heap.objs.size <= cenv.locals; rw [hL]; exact Nat.le_refl _,
   fun y z c e1 e2 => ?_,fun y hy => ?_,fun y c z e => ?_,I.ok.hd,I.ok.frames,.inl rfl,fun b hb => ⟨?_,fun y c e z => ?_⟩,I.bs,Nat.le_trans I.ok.bsz I.sz,fun b o e hb => ?_,fun b hb z => ?_,I.stack,I.stkFree⟩
  ·have e1 : cenv.cells.lookup y = some c := e1
   have e2 : cenv.cells.lookup z = some c := e2
   rw [hcl] at e1 e2
   refine cells_inj (fun p hp => ?_) (fun y z c a b => I.ok.inj y z c (cm a).1 (cm b).1) (PySem.mem_of_lookup e1) (PySem.mem_of_lookup e2)
   rw [Heap.size_push]
   exact Nat.lt_succ_of_lt (cm (y := p.1) (c := p.2) hp).2
  ·show ∃ c,cenv.cells.lookup y = some c
   have key : ∀ k,cenv.kindOf y = some k -> (k = .cell ∨ k = .free) -> ∃ c,cenv.cells.lookup y = some c := fun k hk hk' => by
    unfold Env.kindOf at hk
    rw [hsc] at hk
    obtain ⟨k',e,r⟩ := lookup_relS hk
    have : k' = .cell ∨ k' = .free := by
     rcases r with rfl | ⟨rfl,_⟩
     ·exact hk'
     ·exact .inr rfl
    rcases this with rfl | rfl
    ·obtain ⟨c,hm⟩ := cells_has (n := (s.heap.push { cls := .type "dict",data := .dict #[] }).objs.size) (acc := cloFrom X.env.cells scope.names []) (PySem.mem_of_lookup e)
     obtain ⟨c',e'⟩ := mem_lookup hm
     exact ⟨c',by rw [hcl]; exact e'⟩
    ·obtain ⟨c,h1,_⟩ := look e
     exact ⟨c,h1⟩
   rcases hy with hy | hy
   ·exact key _ hy (.inl rfl)
   ·exact key _ hy (.inr rfl)
  ·have z : (scope.names.lookup y == some NameKind.cell) = true := z
   have z : scope.names.lookup y = some .cell := by simpa using z
   have e : cenv.cells.lookup y = some c := e
   rw [hcl] at e
   rcases cells_mem (PySem.mem_of_lookup e) with hm | ⟨_,h2,_⟩
   ·rcases cloFrom_mem hm with hm | ⟨h1,_⟩
    ·cases hm
    ·have q := ok.uniq _ h1
     rw [z] at q; cases q
   ·rw [Heap.size_push] at h2
    exact Nat.le_of_succ_le h2
  ·show b ≠ cenv.locals
   rw [hL]; exact Nat.ne_of_lt (hfp b hb).2
  ·have e : cenv.cells.lookup y = some c := e
   rcases mem e with ⟨h1,_⟩ | ⟨h1,_⟩
   ·exact (hfp b hb).1.2.2.2.2.1 y c h1 z
   ·have h2 : s.heap.objs.size + 1 <= b := by rw [<- z]; exact h1
    exact absurd (Nat.lt_of_lt_of_le (hfp b hb).2 (Nat.le_of_succ_le h2)) (Nat.lt_irrefl _)
  ·rcases (hfp b hb).1.2.2.2.1 with z | z
   ·exact I.ok.noex b o e z
   ·exact absurd (Nat.lt_of_lt_of_le (Heap.lt_size e) (Nat.le_trans I.ok.bsz z)) (Nat.lt_irrefl _)
  ·rcases List.mem_cons.mp (I.stkSub b z) with z | z
   ·exact (hfp b hb).1.2.1 z
   ·exact (hfp b hb).1.2.2.1 z
 refine ⟨okB,rfl,I.bare,Un.kept kp,⟨fun _ => none,?_,fun i y av e1 e2 e3 => ?_⟩,fun y c e => ?_,?_,fun y c e => ?_,fun p hp => ?_,I.hok.kept kp,by rw [wipe_length]; exact I.len⟩
 ·show Heap.Ns _ cenv.locals _
  rw [hL]
  exact Heap.Ns.keeps (Heap.Ns.new ..) fun b o e => pushCells_keeps _ _ _ _ e
 ·obtain ⟨e2,hne⟩ := wipe_some e2
  have hfr : scope.names.lookup y = some .free /\ (cenv.kindOf y = some .cell ∨ cenv.kindOf y = some .free) := by
   have key : ∀ k,cenv.scope.names.lookup y = some k -> k = .local ∨ k = .cell ∨ k = .free -> scope.names.lookup y = some .free /\ (cenv.kindOf y = some .cell ∨ cenv.kindOf y = some .free) := fun k hk hk' => by
    have hk0 := hk
    rw [hsc] at hk
    obtain ⟨k',e,r⟩ := lookup_relS hk
    have no : ¬ (k' = .local ∨ k' = .cell) := fun hh => by
     rcases ok.own _ (PySem.mem_of_lookup e) hh with e' | e'
     ·obtain ⟨p,hp,hpy⟩ := List.mem_map.mp e'
      have e3 := ok.ix p hp
      have : p.1 = y := hpy
      rw [this] at e3
      exact hne (List.mem_map.mpr ⟨p,hp,nodup_ix hN e3 e1⟩)
     ·exact e' (List.mem_of_getElem? e1)
    rcases r with rfl | ⟨rfl,rfl⟩
    ·rcases hk' with rfl | rfl | rfl
     ·exact absurd (.inl rfl) no
     ·exact absurd (.inr rfl) no
     ·exact ⟨e,.inr hk0⟩
    ·exact ⟨e,.inl hk0⟩
   have e3 : Vis cenv.scope y := e3
   rcases e3 with e3 | e3 | e3
   ·exact key _ e3 (.inl rfl)
   ·exact key _ e3 (.inr (.inl rfl))
   ·exact key _ e3 (.inr (.inr rfl))
  obtain ⟨m,hn,hl⟩ := I.loc
  have hvis : Vis X.env.scope y := (ok.free _ (PySem.mem_of_lookup hfr.1) rfl).elim (fun k => .inr (.inl k)) (fun k => .inr (.inr k))
  obtain ⟨w,r,q⟩ := hl i y av e1 e2 hvis
  refine ⟨w,r,.inr ⟨hfr.2,?_⟩⟩
  obtain ⟨c,h1,h2⟩ := look hfr.1
  rcases q with ⟨k,_⟩ | ⟨_,c',e',z⟩
  ·have k : X.env.scope.names.lookup y = some .local := k
   rcases ok.free _ (PySem.mem_of_lookup hfr.1) rfl with k' | k' <;> rw [show X.env.scope.names.lookup y = _ from k'] at k <;> cases k
  ·rw [h2] at e'; cases e'
   exact ⟨c,h1,z.keeps kp⟩
 ·have e : cenv.cells.lookup y = some c := e
  rcases mem e with ⟨h1,_⟩ | ⟨_,z⟩
  ·obtain ⟨w,z⟩ := I.cell y c h1
   exact ⟨w,z.keeps kp⟩
  ·exact ⟨_,z⟩
 ·show H cenv.locals = none
  rw [hL]; exact I.hok.fresh (Nat.le_refl _)
 ·have e : cenv.cells.lookup y = some c := e
  rcases mem e with ⟨h1,_⟩ | ⟨h1,_⟩
  ·exact I.freeC y c h1
  ·exact I.hok.fresh (Nat.le_of_succ_le h1)
 ·exact absurd (show p ∈ ([] : List (Addr × Obj)) ++ [] from hp) (by simp)
theorem app_ok {E : Value -> Shared -> Prop} {D : Addr} {xs : List V} {y : V} {v : Value} {Q : Value -> Shared -> Prop} (I : Inv X pins σ H s) (hD : H D = some (.lst xs)) (hz : xs.length < sizeLine) (r : RelV y v)
  (h : ∀ s',Inv X pins σ (upd H D (.lst (xs ++ [y]))) s' -> Q .none s') : wpAny (model X.prog X.w) X.A (call (.builtin "list.append") [.ref D,v]) Q E s := by
 obtain ⟨hz',its,n,ri,e⟩ := I.hok D _ hD
 have hl := ri.length
 refine append_at (hsz := by rw [List.size_toArray]; omega) e fun h' sb ho' => ?_
 refine h { s with heap := h' } (I.write (t' := s.toks) (by rw [hD]; trivial) (.inl rfl) (fun b u hb q => (sb.2 b hb).trans q) ⟨_,ho'⟩ ⟨by rw [List.length_append]; exact hz,its ++ [v],n + 1,ri.append (.cons r .nil),?_⟩)
 rw [ho']
 simp
def PTs (X : Cx) (ifs : List Expr) (t : TT) : Prop :=
 ∀ (pins : List (Addr × Obj)) (s : Shared) (σ : St) (H : Hp) (Q : Bool -> Hp -> Prop),Inv X pins σ H s -> t σ H Q →
  wpAny (model X.prog X.w) X.A (forIn ifs true fun c r => if r = true then do let ok ← isTrue c X.env (eval c X.env); pure (ForInStep.yield ok) else pure (ForInStep.yield r)) (TP X pins σ Q) X.xe s
def tYes : TT := fun _ H Q => Q true H
theorem pts_nil : PTs X [] tYes := fun _ _ _ H _ I h => wpAny_tests_nil ⟨H,I,h⟩
theorem pts_one {c : Expr} {t : TT} (h : PT X c t) : PTs X [c] t := fun pins s σ H Q I hw => wpAny_tests_one (h pins s σ H Q I hw)
end
theorem thnF {α : Type} {t : Sem α} {Q Q' : α -> Shared -> Prop} {M : Model} {A : Around} {E : Value -> Shared -> Prop} {s : Shared} (h : wpAny M A t Q (fun _ _ => False) s) (hQ : ∀ a s,Q a s -> Q' a s) : wpAny M A t Q' E s := wpAny_mono h hQ fun _ _ z => False.elim z
theorem compLoop_any {prog : Program} {w : World} {A : Around} {R : Result -> Shared -> Prop} {s : Shared} {elt target iter : Expr} {ifs : List Expr} {scope : Scope} {pos : Pos} {it acc : Value} {env : Env} (I : Nat -> Shared -> Prop)
  (turn : ∀ n s,I n s -> wpAny (model prog w) A (pyNext it) (fun r s₁ => match r with
   | none => R (.ok .next) s₁
   | some v => wpAny (model prog w) A (letOwnedTupleGo target it v) (fun _ s₁' => wpAny (model prog w) A (assign target env v) (fun _ s₂ =>
     wpAny (model prog w) A (forIn ifs true fun c r => if r = true then do let ok ← isTrue c env (eval c env); pure (ForInStep.yield ok) else pure (ForInStep.yield r)) (fun ok s₃ =>
      if ok = true then wpAny (model prog w) A (eval elt env) (fun x s₄ =>
       wpAny (model prog w) A (call (.builtin "list.append") [acc,x]) (fun _ s₅ => ∃ m,m < n /\ I m s₅) (notedBy (model prog w) A env fun e s' => R (.error e) s') s₄) (notedBy (model prog w) A env fun e s' => R (.error e) s') s₃
      else ∃ m,m < n /\ I m s₃) (notedBy (model prog w) A env fun e s' => R (.error e) s') s₂) (notedBy (model prog w) A env fun e s' => R (.error e) s') s₁') (notedBy (model prog w) A env fun e s' => R (.error e) s') s₁) (notedBy (model prog w) A env fun e s' => R (.error e) s') s)
  (n : Nat) (h : I n s) :
  codeAny (model prog w) A (.compLoop (.ListComp elt [⟨target,iter,ifs,0⟩] scope pos) 0 it acc env) R s := by
 refine codeAny_loop rfl I (fun n s hI => ?_) n h
 show wpAny _ A ((compTurn (.ListComp elt [⟨target,iter,ifs,0⟩] scope pos) 0 it acc env).onRaise (fun x => do noteFrame x env; theTreesLotGoes x)) _ _ s
 refine wpAny_noted ?_
 rw [compTurn_list]
 refine wpAny_bind (wpAny_standAt (wpAny_bind (wpAny_mono (turn n s hI) (fun r s₁ h₁ => ?_) fun _ _ h' => h')))
 cases r with
 | none => exact wpAny_pure h₁
 | some v =>
  refine wpAny_bind (wpAny_mono h₁ (fun _ s₁' h₁' => ?_) fun _ _ h' => h')
  refine wpAny_bind (wpAny_mono h₁' (fun _ s₂ h₂ => wpAny_bind (wpAny_mono h₂ (fun ok s₃ h₃ => ?_) fun _ _ h' => h')) fun _ _ h' => h')
  cases ok with
  | false => exact wpAny_pure ⟨rfl,h₃⟩
  | true =>
   exact wpAny_bind (wpAny_bind (wpAny_mono h₃ (fun x s₄ h₄ => wpAny_bind (wpAny_mono h₄ (fun _ s₅ h₅ => wpAny_pure (wpAny_pure ⟨rfl,h₅⟩)) fun _ _ h' => h')) fun _ _ h' => h'))
section
variable {X : Cx}
def tLc (wi : TI) (g : TG) (tt : TT) (te : TE) (vs : List Nat) : TE := fun σ H Q => wi σ H fun J H1 => ∀ D,H1 D = none -> ∃ W : Nat -> Nat -> Hp -> Prop,(∃ m,W 0 m (upd H1 D (.lst []))) /\ ∀ i m H,W i m H →
 (J.stop i H /\ Q (.ref D) H) ∨ (J.go i H /\ ∃ Nx : Hp -> Prop,(∀ H',Nx H' -> ∃ m',m' < m /\ W (i + 1) m' H') /\ ∀ x H',J.yld i H x H' -> g x (wipe σ vs) H' fun σ2 H2 => wipe σ2 vs = wipe σ vs /\ tt σ2 H2 fun b H3 =>
  if b = true then te σ2 H3 fun y H4 => ∃ acc,H4 D = some (.lst acc) /\ acc.length < sizeLine /\ Nx (upd H4 D (.lst (acc ++ [y]))) else Nx H3)
theorem lc_core {pins : List (Addr × Obj)} {s : Shared} {σ : St} {H : Hp} {Q : VK} {elt tg iter : Expr} {ifs : List Expr} {scope : Scope} {own : List (Str × Nat)} {pos pos' : Pos} {wi : TI} {g : TG} {tt : TT} {te : TE} {use : Option (Value -> Sem Unit)} {Qf : Value -> Shared -> Prop}
  (hc : X.calm = true) (hN : X.N.Nodup) (I : Inv X pins σ H s) (hi : PI X tg iter wi) (ok : BlkOk X.N X.env.scope scope own)
  (hg : ∀ (s : Shared) (H : Hp) (C : Addr) (cl : List (Str × Addr)) (fp : List Addr),PG (X.blk s H scope (compEnvC scope cl C X.env) fp) tg g) (ht : ∀ (s : Shared) (H : Hp) (C : Addr) (cl : List (Str × Addr)) (fp : List Addr),PTs (X.blk s H scope (compEnvC scope cl C X.env) fp) ifs tt)
  (he : ∀ (s : Shared) (H : Hp) (C : Addr) (cl : List (Str × Addr)) (fp : List Addr),PE (X.blk s H scope (compEnvC scope cl C X.env) fp) elt te) (hs : ∀ x,foldedSetIterable iter X.env x = pure x)
  (h : tLc wi g tt te (own.map (·.2)) σ H Q)
  (hRR : ∀ D C s' m H',Inv X pins σ H' s' -> Q (.ref D) H' -> s'.heap.Ns C m -> FpOk X pins H' C -> compPost (model X.prog X.w) X.A X.xe use Qf (.ref D) C (.ok .next) s') :
  wpAny (model X.prog X.w) X.A (comprehension (.ListComp elt [⟨tg,iter,ifs,0⟩] scope pos) scope X.env pos' (newList []) false (eval iter X.env) use) Qf X.xe s := by
 have hfree : ∀ y ∈ scope.names,y.2 = .free -> ∃ c,X.env.cells.lookup y.1 = some c := fun y hy e => by
  rcases ok.free y hy e with k | k
  ·exact I.ok.has _ (.inl k)
  ·exact I.ok.has _ (.inr k)
 refine wpAny_comprehension_free (use := use) rfl hs (closure_ok hfree) ok.kind (fun y hy e => by rw [ok.uniq y hy,e])
  (thn (hi pins s σ H _ I h) fun xv s1 hx => thn hx fun itv s2 h2 => ?_)
 obtain ⟨it,fp,tn,J,H2,e,I2,T,st2,f2,q⟩ := h2
 subst e
 refine wpAny_newObj_type (newEnv_comp ?_) (by show 0 <= sizeLine; decide)
 generalize hD : s2.heap.objs.size = D
 have hDn : H2 D = none := I2.hok.fresh (Nat.le_of_eq hD)
 obtain ⟨W,⟨m0,w0⟩,turn⟩ := q D hDn
 generalize hs3 : ({ s2 with heap := s2.heap.push { cls := .type "list",data := .seq ([] : List Value).toArray } } : Shared) = s3
 have I3 : Inv X pins σ (upd H2 D (.lst [])) s3 := by
  rw [<- hs3]
  refine I2.laid (t' := s2.toks) (fun b o e => Heap.get?_push_of_some _ e) (Nat.le_of_eq hD) ⟨Nat.zero_le _,[],0,.nil,?_⟩
  rw [<- hD]
  exact Heap.get?_push_size _ rfl
 have h3 : s3.heap = s2.heap.push { cls := .type "list",data := .seq ([] : List Value).toArray } := by rw [<- hs3]
 have sz : ∀ b ∈ fp,b < s2.heap.objs.size := fun b hb => by
  obtain ⟨o,e,_⟩ := T.obj _ _ st2 b hb
  exact Heap.lt_size e
 have f3 : ∀ b ∈ fp,FpOk X pins (upd H2 D (.lst [])) b /\ b < s3.heap.objs.size := fun b hb => by
  have hlt := sz b hb
  refine ⟨⟨?_,(f2 b hb).2⟩,by rw [h3,Heap.size_push]; exact Nat.lt_succ_of_lt hlt⟩
  rw [upd_ne (by rw [<- hD]; exact Nat.ne_of_lt hlt)]
  exact (f2 b hb).1
 have st3 : tn 0 s3.heap := T.keep _ _ _ st2 fun b _ o e => by rw [h3]; exact Heap.get?_push_of_some _ e
 have I4 := block_start I3 ok hN f3
 have pg := hg s3 (upd H2 D (.lst [])) s3.heap.objs.size (cellsFrom (s3.heap.objs.size + 1) scope.names (cloFrom X.env.cells scope.names [])) fp
 have pt := ht s3 (upd H2 D (.lst [])) s3.heap.objs.size (cellsFrom (s3.heap.objs.size + 1) scope.names (cloFrom X.env.cells scope.names [])) fp
 have pe := he s3 (upd H2 D (.lst [])) s3.heap.objs.size (cellsFrom (s3.heap.objs.size + 1) scope.names (cloFrom X.env.cells scope.names [])) fp
 show codeAny _ _ (.compStart (.ListComp elt [⟨tg,iter,ifs,0⟩] scope pos) 0 (.ref it) (.ref D) (compEnvC scope (cellsFrom (s3.heap.objs.size + 1) scope.names (cloFrom X.env.cells scope.names [])) s3.heap.objs.size X.env)) (compPost (model X.prog X.w) X.A X.xe use Qf (.ref D) s3.heap.objs.size) { s3 with heap := pushCells (s3.heap.push { cls := .type "dict",data := .dict #[] }) scope.names }
 have nfp : ∀ b ∈ fp,(upd H2 D (.lst [])) b = none := fun b hb => (f3 b hb).1.1
 generalize hce : compEnvC scope (cellsFrom (s3.heap.objs.size + 1) scope.names (cloFrom X.env.cells scope.names [])) s3.heap.objs.size X.env = ce at I4 pg pt pe ⊢
 have cL : ce.locals = s3.heap.objs.size := by subst hce; rfl
 generalize hH3 : upd H2 D (.lst []) = H3 at I3 I4 pg pt pe w0 nfp f3
 generalize hs4 : ({ s3 with heap := pushCells (s3.heap.push { cls := .type "dict",data := .dict #[] }) scope.names } : Shared) = s4 at I4 ⊢
 have st4 : tn 0 s4.heap := T.keep _ _ _ st3 fun b _ o e => by rw [<- hs4]; exact pushCells_keeps _ _ _ _ (Heap.get?_push_of_some _ e)
 have stat : ∀ {σ' : St} {H' : Hp} {s' : Shared},Inv (X.blk s3 H3 scope ce fp) [] σ' H' s' -> (∀ b ∈ fp,H' b = none) -> ∀ b ∈ fp,FpOk (X.blk s3 H3 scope ce fp) [] H' b := fun {σ' H' s'} I' hn b hb =>
  ⟨hn b hb,(I'.ok.exf b hb).1,I'.ok.exfs b hb,.inl hb,fun x c e => (I'.ok.exf b hb).2 x c e,fun p hp => absurd (show p ∈ ([] : List (Addr × Obj)) ++ [] from hp) (by simp)⟩
 have loop : codeAny (model X.prog X.w) X.A (.compLoop (.ListComp elt [⟨tg,iter,ifs,0⟩] scope pos) 0 (.ref it) (.ref D) ce) (compPost (model X.prog X.w) X.A X.xe use Qf (.ref D) s3.heap.objs.size) s4 := by
  refine compLoop_any (fun n s' => ∃ i H',Inv (X.blk s3 H3 scope ce fp) [] (wipe σ (own.map (·.2))) H' s' /\ tn i s'.heap /\ (∀ b ∈ fp,H' b = none) /\ W i n H') ?_ m0 ⟨0,H3,I4,st4,nfp,w0⟩
  rintro n s5 ⟨i,H5,I5,st5,n5,w5⟩
  rcases turn i n H5 w5 with ⟨stop,qq⟩ | ⟨go,Nx,hNx,step⟩
  ·have td := T.done (X.blk s3 H3 scope ce fp) rfl rfl rfl hc i [] s5 _ H5 (fun _ _ => False) I5 (stat I5 n5) st5 stop
   refine thnF td fun r s6 ⟨hr,I6⟩ => ?_
   subst hr
   have I7 : Inv X pins σ H5 s6 := I3.call' (ch := fp) I6.os I6.base I6.hok I6.bare fun b hb => ⟨(f3 b hb).1.2.2.2.1,(f3 b hb).1.2.1,(f3 b hb).1.2.2.2.2.1,(f3 b hb).1.2.2.2.2.2⟩
   have nC : H5 s3.heap.objs.size = none := by
    have z : H5 ce.locals = none := I6.free
    rw [cL] at z
    exact z
   obtain ⟨m,hn,_⟩ := I6.loc
   have hn : s6.heap.Ns ce.locals m := hn
   rw [cL] at hn
   exact hRR D s3.heap.objs.size s6 m H5 I7 qq hn (I3.fpOk (Nat.le_refl _) nC)
  ·have ti := T.item (X.blk s3 H3 scope ce fp) rfl rfl rfl hc i [] s5 _ H5 (fun _ _ => False) I5 (stat I5 n5) st5 go
   refine thnF ti fun r s6 ⟨u,hr,h6⟩ => ?_
   subst hr
   refine thnF h6 fun _ s7 ⟨x,H7,I7,r7,y7,st7,n7⟩ => ?_
   have I7' := I7.pinned (stat I7 n7) (T.obj _ _ st7)
   refine thnF (pg _ s7 _ H7 x u _ I7' r7 (step x H7 y7)) fun _ s8 ⟨σ8,H8,I8,hw8,q8⟩ => ?_
   refine thnF (pt _ s8 σ8 H8 _ I8 q8) fun b s9 ⟨H9,I9,q9⟩ => ?_
   have fin : ∀ {s' : Shared} {H' : Hp},Inv (X.blk s3 H3 scope ce fp) ([] ++ pinsAt fp s7.heap) σ8 H' s' -> Nx H' -> ∃ m,m < n /\ ∃ i H',Inv (X.blk s3 H3 scope ce fp) [] (wipe σ (own.map (·.2))) H' s' /\ tn i s'.heap /\ (∀ b ∈ fp,H' b = none) /\ W i m H' := fun {s' H'} I' nx => by
    obtain ⟨m',hm,w'⟩ := hNx H' nx
    have pin' : ∀ b ∈ fp,∀ o,s7.heap.get? b = some o -> s'.heap.get? b = some o /\ H' b = none := fun b hb o e =>
     let z := I'.pin (b,o) (List.mem_append_right _ (List.mem_append_right _ (mem_pinsAt hb e)))
     ⟨z.1,z.2.1⟩
    have hl : (wipe σ (own.map (·.2))).length = σ8.length := by rw [<- hw8,wipe_length]
    refine ⟨m',hm,i + 1,H',(I'.unpinned (pins := [])).weak hl (fun j v e => ?_),T.keep _ _ _ st7 fun b hb o e => (pin' b hb o e).1,fun b hb => ?_,w'⟩
    ·rw [<- hw8] at e
     exact (wipe_some e).1
    ·obtain ⟨o,e,_⟩ := T.obj _ _ st7 b hb
     exact (pin' b hb o e).2
   cases b with
   | false =>
    simp only [Bool.false_eq_true,if_false] at q9 ⊢
    exact fin I9 q9
   | true =>
    simp only [if_true] at q9 ⊢
    refine thnF (pe _ s9 σ8 H9 _ I9 q9) fun z s10 ⟨yv,H10,I10,r10,acc,hD10,hz10,nx⟩ => ?_
    exact app_ok (X := X.blk s3 H3 scope ce fp) I10 hD10 hz10 r10 fun s11 I11 => fin I11 nx
 exact codeAny_compStart_list loop (T.self X.A 0 _ _ _ st4 loop)
theorem pe_lc {elt tg iter : Expr} {ifs : List Expr} {scope : Scope} {own : List (Str × Nat)} {pos : Pos} {wi : TI} {g : TG} {tt : TT} {te : TE} (hc : X.calm = true) (hN : X.N.Nodup) (hi : PI X tg iter wi) (ok : BlkOk X.N X.env.scope scope own)
  (hg : ∀ (s : Shared) (H : Hp) (C : Addr) (cl : List (Str × Addr)) (fp : List Addr),PG (X.blk s H scope (compEnvC scope cl C X.env) fp) tg g) (ht : ∀ (s : Shared) (H : Hp) (C : Addr) (cl : List (Str × Addr)) (fp : List Addr),PTs (X.blk s H scope (compEnvC scope cl C X.env) fp) ifs tt)
  (he : ∀ (s : Shared) (H : Hp) (C : Addr) (cl : List (Str × Addr)) (fp : List Addr),PE (X.blk s H scope (compEnvC scope cl C X.env) fp) elt te) (hs : ∀ x,foldedSetIterable iter X.env x = pure x := by intro _; rfl) :
  PE X (.ListComp elt [⟨tg,iter,ifs,0⟩] scope pos) (tLc wi g tt te (own.map (·.2))) := by
 intro pins s σ H Q I h
 rw [eval_ListComp]
 refine lc_core hc hN I hi ok hg ht he hs h fun D C s' m H' I' q hn f => ⟨m,hn,fun h'' sb => ?_⟩
 obtain ⟨f0,f1,f2,f3,f4,f5⟩ := f
 exact ⟨.ref D,H',I'.turned (t' := s'.toks) (fun b o hb e => (sb.2 b hb).trans e) f0 f1 f3 f4 f5,rfl,q⟩
theorem ps_setLc {i : Nat} {y : Str} {py : Pos} {elt tg iter : Expr} {ifs : List Expr} {scope : Scope} {own : List (Str × Nat)} {pos spos : Pos} {wi : TI} {g : TG} {tt : TT} {te : TE} (hc : X.calm = true) (hN : X.N.Nodup) (hy : X.N[i]? = some y) (hyl : X.env.scope.names.lookup y = some .local)
  (hsw : swapsWith (.ListComp elt [⟨tg,iter,ifs,0⟩] scope pos) (some (.Name y py)) spos.line X.env = pure true) (hi : PI X tg iter wi) (ok : BlkOk X.N X.env.scope scope own)
  (hg : ∀ (s : Shared) (H : Hp) (C : Addr) (cl : List (Str × Addr)) (fp : List Addr),PG (X.blk s H scope (compEnvC scope cl C X.env) fp) tg g) (ht : ∀ (s : Shared) (H : Hp) (C : Addr) (cl : List (Str × Addr)) (fp : List Addr),PTs (X.blk s H scope (compEnvC scope cl C X.env) fp) ifs tt)
  (he : ∀ (s : Shared) (H : Hp) (C : Addr) (cl : List (Str × Addr)) (fp : List Addr),PE (X.blk s H scope (compEnvC scope cl C X.env) fp) elt te) (hs : ∀ x,foldedSetIterable iter X.env x = pure x := by intro _; rfl) :
  PS X (.Assign [.Name y py] (.ListComp elt [⟨tg,iter,ifs,0⟩] scope pos) spos) (tAsg (tLc wi g tt te (own.map (·.2))) (gName i)) := by
 intro pins s σ H D I h
 rw [exec_Assign_Name_used _ _ _ _ hsw]
 refine wpAny_bind (wpAny_standAt (wpAny_bind ?_))
 show wpAny _ X.A (do let _ ← comprehension (.ListComp elt [⟨tg,iter,ifs,0⟩] scope pos) scope X.env (firstIterPos [⟨tg,iter,ifs,0⟩] pos) (newList []) false (eval iter X.env) (some (assign (.Name y py) X.env))) _ _ s
 have h : tLc wi g tt te (own.map (·.2)) σ H (fun x H1 => gName i x σ H1 D.nx) := h
 refine wpAny_bind (thn (lc_core (Qf := fun _ s' => SP X pins D .next s') hc hN I hi ok hg ht he hs h fun L C s' m H' I' q hn f => ?_) fun _ s' hq => wpAny_pure (wpAny_pure hq))
 show wpAny _ _ (assign (.Name y py) X.env (.ref L)) _ _ _
 refine wpAny_assign_Name (store_ok2 (v := V.ref L) I' hN hy (.inl hyl) rfl (fun s2 I2 ⟨a,sb,ha⟩ => ?_) (.inr hyl))
 obtain ⟨f0,f1,f2,f3,f4,f5⟩ := f
 have haC : C ≠ a := by
  rcases ha with z | z
  ·rw [z]; exact f1
  ·exact fun e => f4 y a z e.symm
 refine ⟨m,hn.sameBut sb haC,fun h3 sb3 => ?_⟩
 exact ⟨_,H',I2.turned (t' := s2.toks) (fun b o hb e => (sb3.2 b hb).trans e) f0 f1 f3 f4 f5,q⟩
theorem sw_true {elt : Expr} {gs : List Comprehension} {scope : Scope} {pos py : Pos} {y : Str} {l : Nat} {env : Env} (hk : env.scope.kind = .function) (hy : env.scope.names.lookup y = some .local) (hl : (py.line == pos.line) = true)
  (ha : (scope.names.any fun (n,k) => n == y && (k == .local || k == .cell)) = false) : swapsWith (.ListComp elt gs scope pos) (some (.Name y py)) l env = pure true := by
 have ky : env.kindOf y = some .local := hy
 have hb : env.blockKind = .function := by unfold Env.blockKind; rw [hk]; rfl
 unfold swapsWith
 simp only [hb,ky,ha,Expr.pos,hl]
 rfl
end
theorem lc_range {lo : Int} {n : Nat} {g : TG} {tt : TT} {te : TE} {vs : List Nat} {σ : St} {H1 : Hp} {D : Addr} {Qd : Hp -> Prop} (Pv : Nat -> Hp -> Prop) (h0 : Pv 0 (upd H1 D (.lst [])))
  (hs : ∀ i H,i < n -> Pv i H -> g (.int (lo + i)) (wipe σ vs) H fun σ2 H2 => wipe σ2 vs = wipe σ vs /\ tt σ2 H2 fun b H3 =>
   if b = true then te σ2 H3 fun y H4 => ∃ acc,H4 D = some (.lst acc) /\ acc.length < sizeLine /\ Pv (i + 1) (upd H4 D (.lst (acc ++ [y]))) else Pv (i + 1) H3) (hd : ∀ H,Pv n H -> Qd H) :
  ∃ W : Nat -> Nat -> Hp -> Prop,(∃ m,W 0 m (upd H1 D (.lst []))) /\ ∀ i m H,W i m H →
   ((Itr lo n).stop i H /\ Qd H) ∨ ((Itr lo n).go i H /\ ∃ Nx : Hp -> Prop,(∀ H',Nx H' -> ∃ m',m' < m /\ W (i + 1) m' H') /\ ∀ x H',(Itr lo n).yld i H x H' -> g x (wipe σ vs) H' fun σ2 H2 => wipe σ2 vs = wipe σ vs /\ tt σ2 H2 fun b H3 =>
    if b = true then te σ2 H3 fun y H4 => ∃ acc,H4 D = some (.lst acc) /\ acc.length < sizeLine /\ Nx (upd H4 D (.lst (acc ++ [y]))) else Nx H3) := by
 refine ⟨fun i m H => m = n - i /\ i <= n /\ Pv i H,⟨n,by simp,Nat.zero_le _,h0⟩,?_⟩
 rintro i m H ⟨rfl,hi,p⟩
 by_cases hlt : i < n
 ·refine .inr ⟨hlt,Pv (i + 1),fun H' p' => ⟨n - (i + 1),by omega,rfl,hlt,p'⟩,fun x H' y => ?_⟩
  obtain ⟨e,y⟩ := y
  subst e y
  exact hs i _ hlt p
 ·have e : i = n := by omega
  subst e
  exact .inl ⟨Nat.le_refl _,hd H p⟩
theorem lc_list {K : W.Frag} {a : Addr} {xs : List V} {g : TG} {tt : TT} {te : TE} {vs : List Nat} {σ : St} {H1 : Hp} {D : Addr} {Qd : Hp -> Prop} (Pv : Nat -> Hp -> Prop) (h0 : Pv 0 (upd H1 D (.lst []))) (hl : ∀ i H,i <= xs.length -> Pv i H -> SqL K H a xs)
  (hs : ∀ i x H,xs[i]? = some x -> Pv i H -> g x (wipe σ vs) H fun σ2 H2 => wipe σ2 vs = wipe σ vs /\ tt σ2 H2 fun b H3 =>
   if b = true then te σ2 H3 fun y H4 => ∃ acc,H4 D = some (.lst acc) /\ acc.length < sizeLine /\ Pv (i + 1) (upd H4 D (.lst (acc ++ [y]))) else Pv (i + 1) H3) (hd : ∀ H,Pv xs.length H -> Qd H) :
  ∃ W : Nat -> Nat -> Hp -> Prop,(∃ m,W 0 m (upd H1 D (.lst []))) /\ ∀ i m H,W i m H →
   ((Itl K a).stop i H /\ Qd H) ∨ ((Itl K a).go i H /\ ∃ Nx : Hp -> Prop,(∀ H',Nx H' -> ∃ m',m' < m /\ W (i + 1) m' H') /\ ∀ x H',(Itl K a).yld i H x H' -> g x (wipe σ vs) H' fun σ2 H2 => wipe σ2 vs = wipe σ vs /\ tt σ2 H2 fun b H3 =>
    if b = true then te σ2 H3 fun y H4 => ∃ acc,H4 D = some (.lst acc) /\ acc.length < sizeLine /\ Nx (upd H4 D (.lst (acc ++ [y]))) else Nx H3) := by
 refine ⟨fun i m H => m = xs.length - i /\ i <= xs.length /\ Pv i H,⟨xs.length,by simp,Nat.zero_le _,h0⟩,?_⟩
 rintro i m H ⟨rfl,hi,p⟩
 have q := hl i H hi p
 by_cases hlt : i < xs.length
 ·refine .inr ⟨⟨xs,xs[i],q,by simp [hlt]⟩,Pv (i + 1),fun H' p' => ⟨xs.length - (i + 1),by omega,rfl,hlt,p'⟩,fun x H' y => ?_⟩
  obtain ⟨e,y⟩ := y
  subst e
  exact hs i x _ (y xs q) p
 ·have e : i = xs.length := by omega
  subst e
  exact .inl ⟨⟨xs,q,Nat.le_refl _⟩,hd H p⟩
def blkC (N : List Str) (sc scope : Scope) (own : List (Str × Nat)) : Bool :=
 (match scope.kind with | .function => true | _ => false) && (scope.names.all fun y => decide (scope.names.lookup y.1 = some y.2)) && (own.all fun p => decide (N[p.2]? = some p.1)) &&
  (scope.names.all fun y => match y.2 with
   | .free => (match sc.names.lookup y.1 with | some .cell => true | some .free => true | _ => false)
   | .local => decide (y.1 ∈ own.map (·.1)) || decide (y.1 ∉ N)
   | .cell => decide (y.1 ∈ own.map (·.1)) || decide (y.1 ∉ N)
   | _ => true)
theorem blkOk_by {N : List Str} {sc scope : Scope} {own : List (Str × Nat)} (h : blkC N sc scope own = true) : BlkOk N sc scope own := by
 unfold blkC at h
 simp only [Bool.and_eq_true,List.all_eq_true,decide_eq_true_eq] at h
 obtain ⟨⟨⟨h1,h2⟩,h3⟩,h4⟩ := h
 refine ⟨?_,h2,h3,fun y hy e => ?_,fun y hy e => ?_⟩
 ·split at h1
  ·assumption
  ·cases h1
 ·have q := h4 y hy
  simp only [e] at q
  split at q <;> first | exact .inl (by assumption) | exact .inr (by assumption) | cases q
 ·have q := h4 y hy
  rcases e with e | e <;> (simp only [e,Bool.or_eq_true,decide_eq_true_eq] at q; exact q)
end L2
namespace L2
open PySem PySem.Spec PyProof.Rows
end L2
namespace L2
open PySem PySem.Spec PyProof.Rows
section
variable {κ : Type} [DecidableEq κ]
def valV (kvs : List (κ × V)) (k : κ) : Option V := (kvs.find? fun kv => decide (kv.1 = k)).map (·.2)
def putK (kvs : List (κ × V)) (k : κ) (v : V) : List (κ × V) :=
 if (kvs.any fun kv => decide (kv.1 = k)) = true then kvs.map (fun kv => if kv.1 = k then (kv.1,v) else kv) else kvs ++ [(k,v)]
theorem valV_pos {p : κ × V} {r : List (κ × V)} {k : κ} (e : p.1 = k) : valV (p :: r) k = some p.2 := by simp [valV,List.find?_cons,e]
theorem valV_neg {p : κ × V} {r : List (κ × V)} {k : κ} (e : ¬ p.1 = k) : valV (p :: r) k = valV r k := by simp [valV,List.find?_cons,e]
theorem valV_any (k : κ) : ∀ kvs : List (κ × V),(kvs.any fun kv => decide (kv.1 = k)) = (valV kvs k).isSome
 | [] => rfl
 | p :: r => by
  rw [List.any_cons]
  by_cases e : p.1 = k
  ·simp only [valV_pos e,decide_eq_true e,Bool.true_or,Option.isSome_some]
  ·rw [valV_neg e,decide_eq_false e,Bool.false_or]; exact valV_any k r
theorem length_putK (kvs : List (κ × V)) (k : κ) (v : V) : (putK kvs k v).length <= kvs.length + 1 := by
 unfold putK
 split
 ·rw [List.length_map]; omega
 ·rw [List.length_append,List.length_cons,List.length_nil]; omega
theorem putK_new {kvs : List (κ × V)} {k : κ} (v : V) (h : valV kvs k = none) : putK kvs k v = kvs ++ [(k,v)] := by
 unfold putK
 rw [valV_any,h]
 exact if_neg (by decide)
theorem RelO.isSome_eq {o : Option V} {u : Option Value} (r : RelO o u) : o.isSome = u.isSome := by
 cases o with
 | none => cases u with
  | none => rfl
  | some _ => exact (show False from r).elim
 | some _ => cases u with
  | none => exact (show False from r).elim
  | some _ => rfl
theorem RelO.getD {o : Option V} {u : Option Value} {d : V} {d' : Value} (r : RelO o u) (rd : RelV d d') : RelV (o.getD d) (u.getD d') := by
 cases o with
 | none => cases u with
  | none => exact rd
  | some _ => exact (show False from r).elim
 | some _ => cases u with
  | none => exact (show False from r).elim
  | some _ => exact r
theorem KV.val {kvs : List (κ × V)} {vs : List (κ × Value)} (r : KV kvs vs) (k : κ) : RelO (valV kvs k) (valueAt vs k) := by
 unfold KV at r
 induction r with
 | nil => exact True.intro
 | @cons p q ps qs h t ih =>
  obtain ⟨h1,h2⟩ := h
  by_cases e : p.1 = k
  ·have e' : q.1 = k := h1.symm.trans e
   have b : valueAt (q :: qs) k = some q.2 := by simp [valueAt,List.find?_cons,e']
   rw [valV_pos e,b]; exact h2
  ·have e' : ¬ q.1 = k := fun z => e (h1.trans z)
   have b : valueAt (q :: qs) k = valueAt qs k := by simp [valueAt,List.find?_cons,e']
   rw [valV_neg e,b]; exact ih
theorem KV.any {kvs : List (κ × V)} {vs : List (κ × Value)} (r : KV kvs vs) (k : κ) : (kvs.any fun kv => decide (kv.1 = k)) = vs.any fun kv => decide (kv.1 = k) := by
 unfold KV at r
 induction r with
 | nil => rfl
 | cons h t ih => rw [List.any_cons,List.any_cons,ih,h.1]
theorem KV.repl {kvs : List (κ × V)} {vs : List (κ × Value)} (r : KV kvs vs) (k : κ) {y : V} {u : Value} (ry : RelV y u) :
  KV (kvs.map fun kv => if kv.1 = k then (kv.1,y) else kv) (vs.map fun kv => if kv.1 = k then (kv.1,u) else kv) := by
 unfold KV at r ⊢
 induction r with
 | nil => exact .nil
 | @cons p q ps qs h t ih =>
  rw [List.map_cons,List.map_cons]
  refine .cons ?_ ih
  obtain ⟨h1,h2⟩ := h
  by_cases e : p.1 = k
  ·rw [if_pos e,if_pos (h1.symm.trans e)]; exact ⟨h1,ry⟩
  ·rw [if_neg e,if_neg (fun z => e (h1.trans z))]; exact ⟨h1,h2⟩
theorem KV.put {kvs : List (κ × V)} {vs : List (κ × Value)} (r : KV kvs vs) (k : κ) {y : V} {u : Value} (ry : RelV y u) : KV (putK kvs k y) (stored vs k u) := by
 unfold putK stored
 rw [r.any k]
 by_cases e : (vs.any fun kv => decide (kv.1 = k)) = true
 ·rw [if_pos e,if_pos e]; exact r.repl k ry
 ·rw [if_neg e,if_neg e]; exact Paired.snoc r ⟨rfl,ry⟩
theorem KV.length {kvs : List (κ × V)} {vs : List (κ × Value)} (r : KV kvs vs) : kvs.length = vs.length := Paired.length r
end
theorem kV_is {P : Program} {w : World} {k : Key} {u : Value} (r : RelV (kV k) u) : (mixKind P w).is k u = true := by
 cases k with
 | inl i => obtain ⟨t,e⟩ := (show ∃ t,u = Value.int i t from r); subst e; exact mixKind_int P w i t
 | inr x => obtain ⟨t,e⟩ := (show ∃ t,u = Value.str x t from r); subst e; exact mixKind_str P w x t
theorem items_are {P : Program} {w : World} : ∀ {ks : List Key} {us : List Value},Vals (ks.map kV) us -> ItemsAre (mixKind P w) ks us
 | [],_,r => by rw [List.map_nil] at r; cases r; exact .nil
 | k :: ks,_,r => by
  rw [List.map_cons] at r
  cases r with
  | cons h t => exact .cons (kV_is h) (items_are t)
abbrev KT (H : Hp) : List (List Key × V) -> List (List Key × Addr × Value) -> Prop := Paired fun p q => p.1 = q.1 /\ H q.2.1 = some (.tup (p.1.map kV)) /\ RelV p.2 q.2.2
theorem KT.val {H : Hp} {kvs : List (List Key × V)} {xs : List (List Key × Addr × Value)} (r : KT H kvs xs) (k : List Key) : RelO (valV kvs k) ((atKey xs k).map (·.2)) := by
 induction r with
 | nil => exact True.intro
 | @cons p q ps qs h t ih =>
  obtain ⟨h1,_,h2⟩ := h
  by_cases e : p.1 = k
  ·have e' : q.1 = k := h1.symm.trans e
   have b : atKey (q :: qs) k = some q.2 := by simp [atKey,List.find?_cons,e']
   rw [valV_pos e,b]; exact h2
  ·have e' : ¬ q.1 = k := fun z => e (h1.trans z)
   have b : atKey (q :: qs) k = atKey qs k := by simp [atKey,List.find?_cons,e']
   rw [valV_neg e,b]; exact ih
theorem KT.repl {H : Hp} {kvs : List (List Key × V)} {xs : List (List Key × Addr × Value)} (r : KT H kvs xs) (k : List Key) {y : V} {u : Value} (ry : RelV y u) :
  KT H (kvs.map fun kv => if kv.1 = k then (kv.1,y) else kv) (xs.map (putAt k u)) := by
 induction r with
 | nil => exact .nil
 | @cons p q ps qs h t ih =>
  rw [List.map_cons,List.map_cons]
  refine .cons ?_ ih
  obtain ⟨h1,h2,h3⟩ := h
  unfold putAt
  by_cases e : p.1 = k
  ·rw [if_pos e,if_pos (h1.symm.trans e)]; exact ⟨h1,h2,ry⟩
  ·rw [if_neg e,if_neg (fun z => e (h1.trans z))]; exact ⟨h1,h2,h3⟩
theorem KT.put {H : Hp} {kvs : List (List Key × V)} {xs : List (List Key × Addr × Value)} (r : KT H kvs xs) (k : List Key) {b : Addr} {y : V} {u : Value} (hb : H b = some (.tup (k.map kV))) (ry : RelV y u) :
  KT H (putK kvs k y) (storedH xs k b u) := by
 have e : (kvs.any fun kv => decide (kv.1 = k)) = (atKey xs k).isSome := by
  rw [valV_any,(r.val k).isSome_eq,Option.isSome_map]
 unfold putK storedH
 rw [e]
 by_cases q : (atKey xs k).isSome = true
 ·rw [if_pos q,if_pos q]; exact r.repl k ry
 ·rw [if_neg q,if_neg q]; exact Paired.snoc r ⟨rfl,hb,ry⟩
theorem KT.keeps {H H' : Hp} {kvs : List (List Key × V)} {xs : List (List Key × Addr × Value)} (r : KT H kvs xs) (ht : ∀ b ys,H b = some (.tup ys) -> H' b = some (.tup ys)) : KT H' kvs xs :=
 Paired.mapP r fun _ _ z => ⟨z.1,ht _ _ z.2.1,z.2.2⟩
section
variable {P : Program} {w : World} {H : Hp} {h : Heap} {a : Addr}
theorem rd_of {u : HO} (ok : HOk P w H h) (e : Rd H a u) : ObjOk P w H h a u := e.ok ok
theorem dk_rd {kvs : List (Key × V)} (ok : HOk P w H h) (e : Rd H a (.dK kvs)) : kvs.length <= sizeLine /\ (a == sysModules) = false /\ ∃ vs,KV kvs vs /\ h.DictOf (mixKind P w) a vs :=
 show ObjOk P w H h a (.dK kvs) from rd_of ok e
theorem dk_of {kvs : List (Key × V)} (ok : HOk P w H h) (e : H a = some (.dK kvs)) : kvs.length <= sizeLine /\ (a == sysModules) = false /\ ∃ vs,KV kvs vs /\ h.DictOf (mixKind P w) a vs := dk_rd ok (.inl e)
theorem key_of {ks : List Key} (ok : HOk P w H h) (e : H a = some (.tup (ks.map kV))) : (tupleKind (mixKind P w)).is h ks a := by
 obtain ⟨_,its,r,o,h1,h2,n,h3⟩ := (show ObjOk P w H h a (.tup (ks.map kV)) from ok a _ e)
 exact ⟨o,its.toArray,n,h1,h2,h3,by simpa using items_are r⟩
theorem dt_rd {kvs : List (List Key × V)} (ok : HOk P w H h) (e : Rd H a (.dT kvs)) : kvs.length <= sizeLine /\ (a == sysModules) = false ∧
  ∃ xs,KT H kvs xs /\ h.DictOfH (tupleKind (mixKind P w)) a xs := by
 obtain ⟨z,y,xs,r,o,es,ep,h1,h2,h3,h4,h5⟩ := (show ObjOk P w H h a (.dT kvs) from rd_of ok e)
 refine ⟨z,y,xs,r,o,es,ep,h1,h2,h3,h4,fun x hx => ?_,h5⟩
 have all : ∀ {l : List (List Key × V)} {m : List (List Key × Addr × Value)},KT H l m -> ∀ x ∈ m,(tupleKind (mixKind P w)).is h x.1 x.2.1 := by
  intro l m q
  induction q with
  | nil => intro x hx; exact nomatch hx
  | @cons p q ps qs hq t ih =>
   intro x hx
   rcases List.mem_cons.mp hx with e | hx
   ·subst e
    exact key_of ok (by rw [<- hq.1]; exact hq.2.1)
   ·exact ih x hx
 exact all r x hx
theorem dt_of {kvs : List (List Key × V)} (ok : HOk P w H h) (e : H a = some (.dT kvs)) : kvs.length <= sizeLine /\ (a == sysModules) = false ∧
  ∃ xs,KT H kvs xs /\ h.DictOfH (tupleKind (mixKind P w)) a xs := dt_rd ok (.inl e)
end
def DGet (H : Hp) (a : Addr) (y : V) (r : Option V) : Prop :=
 (∃ kvs k,Rd H a (.dK kvs) /\ y = kV k /\ r = valV kvs k) ∨ ∃ kvs k b,Rd H a (.dT kvs) /\ y = .ref b /\ H b = some (.tup (k.map kV)) /\ r = valV kvs k
def DPut (H : Hp) (a : Addr) (y v : V) (H' : Hp) : Prop :=
 (∃ kvs k,H a = some (.dK kvs) /\ y = kV k /\ kvs.length < sizeLine /\ H' = upd H a (.dK (putK kvs k v))) ∨
 ∃ kvs k b,H a = some (.dT kvs) /\ y = .ref b /\ H b = some (.tup (k.map kV)) /\ kvs.length < sizeLine /\ H' = upd H a (.dT (putK kvs k v))
theorem DGet.k {H : Hp} {a : Addr} {kvs : List (Key × V)} {k : Key} (e : H a = some (.dK kvs)) : DGet H a (kV k) (valV kvs k) := .inl ⟨kvs,k,.inl e,rfl,rfl⟩
theorem DPut.k {H : Hp} {a : Addr} {kvs : List (Key × V)} {k : Key} {v : V} (e : H a = some (.dK kvs)) (hl : kvs.length < sizeLine) : DPut H a (kV k) v (upd H a (.dK (putK kvs k v))) := .inl ⟨kvs,k,e,rfl,hl,rfl⟩
section
variable {X : Cx} {pins : List (Addr × Obj)} {σ : St} {H : Hp} {s : Shared} {a : Addr} {y v : V} {u r : Value} {o : Option V} {A : Around} {E : Value -> Shared -> Prop}
theorem Inv.big (I : Inv X pins σ H s) : sysModules < s.heap.objs.size := by
 have h : mainGlobals < s.heap.objs.size := (I.mod.glob.keeps I.bk).lt
 exact Nat.lt_trans (by decide) h
theorem d_in {Q : Value -> Shared -> Prop} (hu : A.units + 1 < cLine) (I : Inv X pins σ H s) (g : DGet H a y o) (ry : RelV y u) (h : ∀ s',Inv X pins σ H s' -> Q (.bool o.isSome) s') :
  wpAny (model X.prog X.w) A (compareOp .In u (.ref a)) Q E s := by
 rcases g with ⟨kvs,k,e,ey,l⟩ | ⟨kvs,k,b,e,ey,eb,l⟩
 ·subst ey
  obtain ⟨z,hd,vs,rel,dd⟩ := dk_rd I.hok e
  refine wpAny_in_of (kV_is ry) hd dd.mapOf ?_
  rw [<- (rel.val k).isSome_eq,← l]
  exact h _ (I.tok _)
 ·subst ey
  cases (show u = Value.ref b from ry)
  obtain ⟨z,hd,xs,rel,dd⟩ := dt_rd I.hok e
  refine wpAny_in_heap (tupleKind_room_in1 hu) (key_of I.hok eb) hd dd ?_
  have q := (rel.val k).isSome_eq
  rw [Option.isSome_map] at q
  rw [<- q,← l]
  exact h _ (I.tok _)
theorem d_write {h' : Heap} {t' : Nat} {ob : HO} (I : Inv X pins σ H s) (mu : Mut (H a)) (hs : Heap.SameBut a s.heap h') (he : ∃ q,h'.get? a = some q) (new : ObjOk X.prog X.w (upd H a ob) h' a ob) :
  Inv X pins σ (upd H a ob) { s with heap := h',toks := t' } :=
 I.write (x := a) (e := a) mu (.inl rfl) (fun b q hb z => (hs.2 b hb).trans z) he new
theorem dk_new {P : Program} {w : World} {H' : Hp} {h' : Heap} {kvs : List (Key × V)} {vs : List (Key × Value)} (z : kvs.length <= sizeLine) (hd : (a == sysModules) = false) (rel : KV kvs vs) (dd : h'.DictOf (mixKind P w) a vs) :
  ObjOk P w H' h' a (.dK kvs) := ⟨z,hd,vs,rel,dd⟩
theorem d_setItem {H' : Hp} {Q : Unit -> Shared -> Prop} (hu : A.units + 1 < cLine) (I : Inv X pins σ H s) (g : DPut H a y v H') (ry : RelV y u) (rv : RelV v r) (h : ∀ s',Inv X pins σ H' s' -> Q () s') :
  wpAny (model X.prog X.w) A (setItem (.ref a) u r) Q E s := by
 rcases g with ⟨kvs,k,e,ey,l,eH⟩ | ⟨kvs,k,b,e,ey,eb,l,eH⟩
 ·subst ey eH
  obtain ⟨z,hd,vs,rel,dd⟩ := dk_of I.hok e
  have hz : vs.length <= sizeLine := by rw [<- rel.length]; exact z
  have hl : (putK kvs k v).length <= sizeLine := by have := length_putK kvs k v; omega
  refine wpAny_setItem_pairs (hsz := hz) (kV_is ry) dd fun h' dd' hs => h _ ?_
  have he : ∃ q,h'.get? a = some q := let ⟨q,_,_,hq,_⟩ := dd'; ⟨q,hq⟩
  exact d_write I (by rw [e]; exact True.intro) hs he (dk_new hl hd (rel.put k rv) dd')
 ·subst ey eH
  cases (show u = Value.ref b from ry)
  obtain ⟨z,hd,xs,rel,dd⟩ := dt_of I.hok e
  have hz : xs.length <= sizeLine := by rw [<- Paired.length rel]; exact z
  have hl : (putK kvs k v).length <= sizeLine := by have := length_putK kvs k v; omega
  refine wpAny_setItem_heap (hsz := hz) (tupleKind_room_in1 hu) (key_of I.hok eb) dd fun h' dd' hs => h _ ?_
  obtain ⟨q,es,ep,hq,h2,h3,h4,_,h5⟩ := dd'
  refine d_write I (by rw [e]; exact True.intro) hs ⟨q,hq⟩ ⟨hl,hd,_,(rel.put k eb rv).keeps fun c ys ec => ?_,q,es,ep,hq,h2,h3,h4,h5⟩
  rw [upd_ne (ne_of ec e (fun z => nomatch z))]
  exact ec
end
def NoSl (i : Expr) : Prop := ∀ ov iv,subscripted i false ov iv = operate [ov,iv] (getItem ov iv)
theorem subD_of {prog : Program} {w : World} {A : Around} {E : Value -> Shared -> Prop} {s : Shared} {env : Env} {value slice : Expr} {pos : Pos} {T id : String} {Q : Value -> Shared -> Prop}
  (hl : typeLookup (.type T) "__getitem__" = pure (some (.builtin id))) (hs : NoSl slice)
  (h : wpAny (model prog w) A (eval value env) (fun o s₁ => wpAny (model prog w) A (eval slice env) (fun i s₂ => s₂.TypeIs o T /\ wpAny (model prog w) A (getItem o i) Q E s₂) E s₁) E s) :
  wpAny (model prog w) A (eval (.Subscript value slice pos) env) Q E s := by
 refine Subscript_ (wpAny_mono h (fun o s₁ h₁ => wpAny_mono h₁ (fun i s₂ h₂ => ?_) fun _ _ x => x) fun _ _ x => x)
 obtain ⟨hT,h₂⟩ := h₂
 unfold subscriptTail
 refine wpAny_bind ?_
 rw [getitemInPython_of_ne hT.not_modules]
 refine wpAny_bind (wpAny_specialOf hT hl ?_)
 have fin : wpAny (model prog w) A (subscripted slice false o i) (fun r s₃ => wpAny (model prog w) A (letTemporaryGo value o r >>= fun _ => pure r) Q E s₃) E s₂ := by
  rw [hs o i]
  exact wpAny_operating (wpAny_mono h₂ (fun r s₃ h₃ => wpAny_bind (wpAny_letTemporaryGo (wpAny_pure h₃))) fun _ _ x => x)
 first
  | exact wpAny_pure (wpAny_bind fin)
  | exact wpAny_bind (wpAny_pure (wpAny_bind fin))
  | exact wpAny_bind fin
def tDIn (ty td : TE) : TE := fun σ H Q => ty σ H fun y H1 => td σ H1 fun x H2 => ∃ a o,x = .ref a /\ DGet H2 a y o /\ Q (.bl o.isSome) H2
def sDPut (td ty tv : TE) : TS := fun D σ H => tv σ H fun v H1 => td σ H1 fun x H2 => ty σ H2 fun y H3 => ∃ a H4,x = .ref a /\ DPut H3 a y v H4 /\ D.nx σ H4
section
variable {X : Cx} {o i e value : Expr} {pos pos' tpos : Pos} {td ty tv : TE}
theorem pc_din (hu : X.A.units + 1 < cLine) (hi : PE X i ty) (ho : PE X o td) : PC X .In i o (tDIn ty td) := by
 intro pins s σ H Q I h
 refine thn (hi pins s σ H _ I h) fun iv s1 ⟨y,H1,I1,ry,q1⟩ => thn (ho pins s1 σ H1 _ I1 q1) fun u s2 ⟨x,H2,I2,rx,a,ov,ex,g,q2⟩ => ?_
 subst ex
 obtain rfl : u = Value.ref a := rx
 exact d_in hu I2 g ry fun s3 I3 => ⟨.bl ov.isSome,H2,I3,rfl,q2⟩
theorem ps_dput (hu : X.A.units + 1 < cLine) (ho : PE X o td) (hi : PE X i ty) (hv : PE X value tv) (hs : swapsWith value (some (.Subscript o i pos')) pos.line X.env = pure false) :
  PS X (.Assign [.Subscript o i pos'] value pos) (sDPut td ty tv) := by
 intro pins s σ H D I h
 refine wpAny_Assign_Subscript (thn (hv pins s σ H _ I h) fun r s1 ⟨v,H1,I1,rv,q1⟩ => thn (ho pins s1 σ H1 _ I1 q1) fun u s2 ⟨x,H2,I2,rx,q2⟩ => thn (hi pins s2 σ H2 _ I2 q2) fun iv s3 ⟨y,H3,I3,ry,a,H4,ex,g,q3⟩ => ?_) hs
 subst ex
 obtain rfl : u = Value.ref a := rx
 exact d_setItem hu I3 g ry rv fun s4 I4 => ⟨σ,H4,I4,q3⟩
end
theorem dk_empty {P : Program} {w : World} {H : Hp} (h : Heap) (hb : sysModules < h.objs.size) : ObjOk P w H (h.push { cls := .type "dict",data := .dict #[] }) h.objs.size (.dK []) :=
 ⟨Nat.zero_le _,beq_eq_false_iff_ne.mpr (Ne.symm (Nat.ne_of_lt hb)),[],.nil,Heap.DictOf.new h⟩
def tDNewK : TE := fun _ H Q => ∀ p,H p = none -> Q (.ref p) (upd H p (.dK []))
section
variable {X : Cx} {pos : Pos}
theorem pe_dnewK : PE X (.Dict [] [] pos) tDNewK := fun pins s σ H Q I h =>
 wpAny_Dict_empty ⟨.ref s.heap.objs.size,_,I.laid (a := s.heap.objs.size) (o := .dK []) (t' := s.toks) (fun _ _ q => Heap.get?_push_of_some _ q) (Nat.le_refl _) (dk_empty s.heap I.big),rfl,h _ (I.hok.fresh (Nat.le_refl _))⟩
end
structure M2 (X : Cx) (o : Expr) (m : Str) (apos : Pos) (e f : Expr) (cpos : Pos) : Prop where
 base : attributeBase o m X.env (eval o X.env) = eval o X.env
 few : ((backTo cpos (starEach [e,f] X.env)).all (fun x => !x.1) && (backToKw cpos (keywordEach [] X.env)).all (fun x => x.1.isSome)
  && decide (([e,f] : List Expr).length + ([] : List Keyword).length + (if ([] : List Keyword).isEmpty then 0 else 1) < 30)) = true
 line : (apos.endLine == cpos.line) = true
 trees : backTo cpos (starEach [e,f] X.env) = [(false,eval e X.env),(false,eval f X.env)]
def IsD (H : Hp) (a : Addr) : Prop := (∃ kvs,Rd H a (.dK kvs)) ∨ ∃ kvs,Rd H a (.dT kvs)
theorem isD_at {X : Cx} {pins : List (Addr × Obj)} {σ : St} {H : Hp} {s : Shared} {a : Addr} (I : Inv X pins σ H s) (d : IsD H a) :
  s.TypeIs (.ref a) "dict" /\ (∀ b,Value.ref a = .ref b -> ∃ ob,s.heap.get? b = some ob /\ ob.dict = none) /\ (a == sysModules) = false := by
 rcases d with ⟨kvs,e⟩ | ⟨kvs,e⟩
 ·obtain ⟨_,hd,vs,_,dd⟩ := dk_rd I.hok e
  refine ⟨dd.typeIs,fun b q => ?_,hd⟩
  cases q
  obtain ⟨ob,_,_,h1,h2,_⟩ := dd
  exact ⟨ob,h1,h2.2.1⟩
 ·obtain ⟨_,hd,xs,_,dd⟩ := dt_rd I.hok e
  refine ⟨dd.typeIs,fun b q => ?_,hd⟩
  cases q
  obtain ⟨ob,_,_,h1,h2,_⟩ := dd
  exact ⟨ob,h1,h2.2.1⟩
section
variable {X : Cx} {pins : List (Addr × Obj)} {σ : St} {H : Hp} {s : Shared} {a : Addr} {y d : V} {u r : Value} {o : Option V} {A : Around} {E : Value -> Shared -> Prop}
theorem d_get2 {Q : Value -> Shared -> Prop} (hu : A.units + 1 < cLine) (I : Inv X pins σ H s) (g : DGet H a y o) (ry : RelV y u) (rd : RelV d r) (h : ∀ w' s',Inv X pins σ H s' -> RelV (o.getD d) w' -> Q w' s') :
  wpAny (model X.prog X.w) A (call (.builtin "dict.get") [.ref a,u,r]) Q E s := by
 rcases g with ⟨kvs,k,e,ey,l⟩ | ⟨kvs,k,b,e,ey,eb,l⟩
 ·subst ey
  obtain ⟨z,hd,vs,rel,dd⟩ := dk_rd I.hok e
  refine call_meetsIn PySem.F.slot_dict_get dd.typeIs PySem.F.entry_dict_get (PySem.F.args_dict_get_3 _ _ _) (meets_dict_get_default (mixKind X.prog X.w) a (kV_is ry) hd r) ⟨_,dd.mapOf,h _ _ (I.tok _) ?_⟩
  rw [l]
  exact (rel.val k).getD rd
 ·subst ey
  cases (show u = Value.ref b from ry)
  obtain ⟨z,hd,xs,rel,dd⟩ := dt_rd I.hok e
  refine call_meetsIn PySem.F.slot_dict_get dd.typeIs PySem.F.entry_dict_get (PySem.F.args_dict_get_3 _ _ _) (meetsH_dict_get_default (tupleKind (mixKind X.prog X.w)) a b hd r) ⟨tupleKind_room_in1 hu,k,xs,key_of I.hok eb,dd,h _ _ (I.tok _) ?_⟩
  rw [l]
  exact (rel.val k).getD rd
end
def tDGet2 (td ty tx : TE) : TE := fun σ H Q => td σ H fun x H1 => ∃ a,x = .ref a /\ IsD H1 a /\ ty σ H1 fun y H2 => tx σ H2 fun z H3 => ∃ o,DGet H3 a y o /\ Q (o.getD z) H3
section
variable {X : Cx} {o e f : Expr} {apos cpos : Pos} {td ty tx : TE}
theorem pe_dget2 (hu : X.A.units + 1 < cLine) (ho : PE X o td) (he : PE X e ty) (hf : PE X f tx) (m : M2 X o "get" apos e f cpos) : PE X (.Call (.Attribute o "get" apos) [e,f] [] cpos) (tDGet2 td ty tx) := by
 intro pins s σ H Q I h
 refine wpAny_Call_method m.base m.few m.line PySem.F.plainAttrs_dict PySem.F.slot_dict_get PySem.F.type_dict_get (thn (ho pins s σ H _ I h) fun u s1 ⟨x,H1,I1,rx,a,ex,d,q1⟩ => ?_)
 subst ex
 obtain rfl : u = Value.ref a := rx
 obtain ⟨t1,t2,_⟩ := isD_at I1 d
 refine ⟨t1,t2,?_⟩
 rw [m.trees]
 refine Calls.callWith_builtin rfl (Calls.evalArgs_plain (Calls.spliced_cons (thn (he pins s1 σ H1 _ I1 q1) fun iv s2 ⟨y,H2,I2,ry,q2⟩ =>
  Calls.spliced_cons (thn (hf pins s2 σ H2 _ I2 q2) fun fv s3 ⟨z,H3,I3,rz,ov,g,q3⟩ => Calls.spliced_nil ?_))))
 exact d_get2 hu I3 g ry rz fun w' s4 I4 rw' => ⟨_,H3,I4,rw',q3⟩
end
end L2
namespace L2
open PySem PySem.Spec PyProof.Rows
end L2
namespace L2
open PySem PySem.Spec PyProof.Rows
theorem boot_reversed5 : bootBuiltins "reversed" = some (.type "reversed") := by decide +kernel
section
variable {X : Cx} {pins : List (Addr × Obj)} {σ : St} {H : Hp} {s : Shared} {h' : Heap}
theorem Inv.lock {d : Addr} {u : HO} (I : Inv X pins σ H s) (h : H d = some u) (mu : Mut (some u)) : ∃ od,Inv X pins σ (upd H d (.frz od u)) s := by
 have x := I.hok d u h
 have ex : ∃ od,s.heap.get? d = some od := by
  cases u with
  | lst xs => obtain ⟨_,_,_,_,e⟩ := x; exact ⟨_,e⟩
  | dK kvs => obtain ⟨_,_,_,_,o,_,_,e,_⟩ := x; exact ⟨o,e⟩
  | dT kvs => obtain ⟨_,_,_,_,o,_,_,e,_⟩ := x; exact ⟨o,e⟩
  | set S n => obtain ⟨o,_,_,_,e,_⟩ := x; exact ⟨o,e⟩
  | ins C dx fs => obtain ⟨_,_,_,e,_⟩ := x; exact ⟨_,e⟩
  | ext φ => obtain ⟨_,⟨_,e⟩,_⟩ := x; exact ⟨_,e⟩
  | _ => exact False.elim mu
 obtain ⟨od,e⟩ := ex
 have new : ObjOk X.prog X.w (upd H d (.frz od u)) s.heap d (.frz od u) := by
  refine ⟨e,x.stay (fun b v _ q => q) (fun b q => ?_) fun b xs q => ?_⟩
  ·rw [upd_ne (fun z => by rw [z,h] at q; cases q; exact mu)]; exact q
  ·rw [upd_ne (fun z => by rw [z,h] at q; cases q; exact mu)]; exact q
 exact ⟨od,I.write (x := d) (e := d) (t' := s.toks) (h' := s.heap) (by rw [h]; exact mu) (.inl rfl) (fun b v _ q => q) ⟨od,e⟩ new⟩
theorem Inv.nofrz {d : Addr} {u : HO} (I : Inv X pins σ H s) (h : H d = some u) (mu : Mut (some u)) : ∀ o' u',X.H_0 d ≠ some (.frz o' u') := fun o' u' e => by
 have q := I.base.frzs d o' u' e
 rw [h] at q
 cases q
 exact mu
theorem Inv.unlock {d : Addr} {od : Obj} {u : HO} (I : Inv X pins σ H s) (h : H d = some (.frz od u)) (hn : ∀ o' u',X.H_0 d ≠ some (.frz o' u')) : Inv X pins σ (upd H d u) s := by
 have neH : ∀ b o,H b = some o -> (∀ o' u',o ≠ .frz o' u') -> b ≠ d := fun b o e hne z => by
  rw [z,h] at e
  cases e
  exact hne _ _ rfl
 have neN : ∀ b,H b = none -> b ≠ d := fun b e z => by rw [z,h] at e; cases e
 refine ⟨I.ok,I.os,I.bare,⟨I.base.keep,I.base.slot,fun b o e n hx => ?_,I.base.there,fun b xs e => ?_,fun b o x e => ?_,fun b ps e => ?_⟩,I.loc,I.cell,?_,fun x c e => ?_,fun p hp => ?_,fun b o e => ?_,I.len⟩
 ·rw [upd_ne (neN b (I.base.free b o e n hx))]; exact I.base.free b o e n hx
 ·have q := I.base.tups b xs e
  rw [upd_ne (neH b _ q (fun _ _ z => nomatch z))]; exact q
 ·have q := I.base.frzs b o x e
  rw [upd_ne (fun z => by rw [z] at e; exact hn _ _ e)]; exact q
 ·obtain ⟨m,q⟩ := I.base.tbls b ps e
  exact ⟨m,by rw [upd_ne (neH b _ q (fun _ _ z => nomatch z))]; exact q⟩
 ·rw [upd_ne (neN _ I.free)]; exact I.free
 ·rw [upd_ne (neN c (I.freeC x c e))]; exact I.freeC x c e
 ·obtain ⟨e,n,r⟩ := I.pin p hp
  exact ⟨e,by rw [upd_ne (neN _ n)]; exact n,r⟩
 ·by_cases hb : b = d
  ·rw [hb,upd_same] at e
   cases e
   rw [hb]
   obtain ⟨_,x⟩ := I.hok d _ h
   exact x.stay (fun c v _ q => q) (fun c q => by rw [upd_ne (neH c _ q (fun _ _ z => nomatch z))]; exact q) fun c xs q => by rw [upd_ne (neH c _ q (fun _ _ z => nomatch z))]; exact q
  ·rw [upd_ne hb] at e
   exact (I.hok b o e).stay (fun c v _ q => q) (fun c q => by rw [upd_ne (neH c _ q (fun _ _ z => nomatch z))]; exact q) fun c xs q => by rw [upd_ne (neH c _ q (fun _ _ z => nomatch z))]; exact q
end
def tLockE (t : TE) : TE := fun σ H Q => ∃ d u,H d = some u /\ Mut (some u) /\ ∀ od,t σ (upd H d (.frz od u)) fun v H' => H' d = some (.frz od u) /\ Q v (upd H' d u)
section
variable {X : Cx}
theorem pe_lock {e : Expr} {t : TE} (h : PE X e t) : PE X e (tLockE t) := by
 intro pins s σ H Q I hw
 obtain ⟨d,u,hd,mu,hw⟩ := hw
 obtain ⟨od,I1⟩ := I.lock hd mu
 refine thn (h pins s σ _ _ I1 (hw od)) fun v s1 ⟨x,H1,I2,r,e2,q⟩ => ?_
 exact ⟨x,_,I2.unlock e2 (I.nofrz hd mu),r,q⟩
theorem pi_one {tg : Expr} {pins : List (Addr × Obj)} {σ : St} {H : Hp} {s : Shared} {R : It -> Hp -> Prop} {J : It} {tn : Nat -> Heap -> Prop} {tk : Nat} (I : Inv X pins σ H s) (o : Obj)
  (T : Turn X.prog X.w X.K tg J [s.heap.objs.size] s.heap.objs.size tn) (st : tn 0 (s.heap.push o)) (q : R J H) : PIE X pins σ tg R (.ref s.heap.objs.size) { s with heap := s.heap.push o,toks := tk } := by
 refine ⟨s.heap.objs.size,[s.heap.objs.size],tn,J,H,rfl,I.kept fun b ob e => Heap.get?_push_of_some _ e,T,st,fun b hb => ?_,q⟩
 have e : b = s.heap.objs.size := by simpa using hb
 subst e
 exact I.fpOk (Nat.le_refl _) (I.hok.fresh (Nat.le_refl _))
end
def Itc (lo c : Int) (n : Nat) : It := ⟨fun i _ => i < n,fun i H x H' => H' = H /\ x = .int (lo + (i : Nat) * c),fun i _ => n <= i⟩
theorem turn_rangeC {P : Program} {w : World} {K : W.Frag} {tg : Expr} (it : Addr) (lo c : Int) (n : Nat) : Turn P w K tg (Itc lo c n) [it] it (fun i h => IsRangeIter h it (lo + (i : Nat) * c) ((n : Int) - (i : Nat)) c) where
 mem := by simp
 obj := fun i h st b hb => by
  have e : b = it := by simpa using hb
  subst e
  exact ⟨_,st,fun v z => nomatch z⟩
 keep := fun i h h' st k => k it (by simp) _ st
 item := by
  intro X hP hw hK hc i pins s σ H E I hf st hg
  subst hP hw hK
  obtain ⟨f0,f1,f2,f3,f4,f5⟩ := hf it (by simp)
  have W := Walks.range (prog := X.prog) (w := X.w) (I.ok.hd hc) it lo c n
  refine W.item i s _ _ hg st fun v h' tk hv st' kk => ?_
  obtain ⟨t,rfl⟩ := hv
  have I1 : Inv X pins σ H { s with heap := h',toks := tk } := I.turned (fun b o hb e => kk b o (by simpa using hb) e) f0 f1 f3 f4 f5
  exact ⟨_,rfl,go_of (s := { s with heap := h',toks := tk }) (n := "range_iterator") st' rfl rfl (by decide) ⟨.int (lo + (i : Nat) * c),H,I1,⟨t,rfl⟩,⟨rfl,rfl⟩,st',fun b hb => (hf b hb).1⟩⟩
 done := by
  intro X hP hw hK hc i pins s σ H E I hf st hg
  subst hP hw hK
  obtain ⟨f0,f1,f2,f3,f4,f5⟩ := hf it (by simp)
  exact wpAny_pyNext_range_end (I.ok.hd hc) st (by have : n <= i := hg; omega) fun h' eb => ⟨rfl,I.turned (t' := s.toks) (fun b o hb e => eb b o hb e) f0 f1 f3 f4 f5⟩
 self := fun A i s Q E st h => wpAny_pyIter_rangeiter st h
def RgC (i j c : Int) (n : Nat) : Prop := c ≠ 0 /\ c.natAbs < 1073741824 /\ Builtin.Range.small i j c = true /\ Builtin.Range.rangeSize i j c = n
def iRng3 (ta : TA) : TI := fun σ H R => ta σ H fun vs H1 => ∃ (i j c : Int) (n : Nat),vs = [.int i,.int j,.int c] /\ RgC i j c n /\ R (Itc i c n) H1
section
variable {X : Cx} {tg : Expr}
theorem pi_range3 {a b c : Expr} {ta : TA} {p pos : Pos} (hg : Gl X "range") (hm : X.mg "range" = none) (ha : PA X [a,b,c] ta)
  (hs : starEach [a,b,c] X.env = (false,eval a X.env) :: starEach [b,c] X.env := by rfl) (hpl : (backTo pos (starEach [b,c] X.env)).any (·.1) = false := by rfl) :
  PI X tg (.Call (.Name "range" p) [a,b,c] [] pos) (iRng3 ta) := by
 intro pins s σ H R I h
 refine Call_ (ld_blt I hg hm boot_range (PyProof.Rows.callWith_type1 (thn (ha pos pins s σ H _ I h) fun us s1 ⟨vs,H1,I1,r1,q1⟩ => ?_) hs hpl))
 obtain ⟨i,j,k,n,e,⟨c0,c1,c2,c3⟩,q⟩ := q1
 subst e
 cases r1 with
 | cons r rr =>
  cases rr with
  | cons r' rr =>
   cases rr with
   | cons r'' rr =>
    cases rr
    obtain ⟨t,rfl⟩ := r
    obtain ⟨t',rfl⟩ := r'
    obtain ⟨t'',rfl⟩ := r''
    refine call_range_3 c0 ?_ (.inl (PyProof.noPylong_small c1))
    refine wpAny_pyIter_range (IsRange.new ..) c2 ?_
    have I2 : Inv X pins σ H1 { s1 with heap := s1.heap.push { cls := .type "range",data := .fields #[.int i t,.int j t',.int k t''] } } := I1.kept (t' := s1.toks) fun b o e => Heap.get?_push_of_some _ e
    refine pi_one (tk := s1.toks) I2 _ (turn_rangeC _ i k n) ?_ q
    have e1 : i + ((0 : Nat) : Int) * k = i := by simp
    have e2 : (n : Int) - ((0 : Nat) : Int) = Builtin.Range.rangeSize i j k := by rw [c3]; simp
    show IsRangeIter _ _ (i + ((0 : Nat) : Int) * k) ((n : Int) - ((0 : Nat) : Int)) k
    rw [e1,e2]
    exact Heap.get?_push_size _ rfl
end
theorem for_rangeC {lo c : Int} {n : Nat} {g : TG} {tb : TS} {D : Ends} {σ : St} {H : Hp} (Pv : Nat -> St -> Hp -> Prop) (h0 : Pv 0 σ H)
  (hs : ∀ i σ H,i < n -> Pv i σ H -> g (.int (lo + (i : Nat) * c)) σ H fun σ2 H2 => tb { D with nx := Pv (i + 1),ct := Pv (i + 1),bk := D.nx } σ2 H2) (hd : ∀ σ H,Pv n σ H -> D.nx σ H) :
  ∃ W : Nat -> Nat -> St -> Hp -> Prop,(∃ m,W 0 m σ H) /\ ∀ i m σ H,W i m σ H →
   ((Itc lo c n).stop i H /\ D.nx σ H) ∨ ((Itc lo c n).go i H /\ ∃ N : St -> Hp -> Prop,(∀ σ' H',N σ' H' -> ∃ m',m' < m /\ W (i + 1) m' σ' H') /\ ∀ x H',(Itc lo c n).yld i H x H' -> g x σ H' fun σ2 H2 => tb { D with nx := N,ct := N,bk := D.nx } σ2 H2) := by
 refine ⟨fun i m σ H => m = n - i /\ i <= n /\ Pv i σ H,⟨n,by simp,Nat.zero_le _,h0⟩,?_⟩
 rintro i m σ H ⟨rfl,hi,p⟩
 by_cases hlt : i < n
 ·refine .inr ⟨hlt,Pv (i + 1),fun σ' H' p' => ⟨n - (i + 1),by omega,rfl,hlt,p'⟩,fun x H' y => ?_⟩
  obtain ⟨e,y⟩ := y
  subst e y
  exact hs i σ _ hlt p
 ·have e : i = n := by omega
  subst e
  exact .inl ⟨Nat.le_refl _,hd σ H p⟩
def Itv (K : W.Frag) (a : Addr) (n : Nat) : It :=
 ⟨fun i H => i < n /\ ∃ (xs : List V) (x : V),SqL K H a xs /\ xs[n - 1 - i]? = some x,fun i H x H' => H' = H /\ ∀ xs,SqL K H a xs -> xs[n - 1 - i]? = some x,fun i _ => n <= i⟩
theorem turn_rev {P : Program} {w : World} {K : W.Frag} {tg : Expr} (a it : Addr) (n : Nat) : Turn P w K tg (Itv K a n) [it] it (fun i h => i <= n /\ h.IsRevIter it a ((n : Int) - 1 - (i : Nat))) where
 mem := by simp
 obj := fun i h st b hb => by
  have e : b = it := by simpa using hb
  subst e
  obtain ⟨_,o,e,c,d⟩ := st
  exact ⟨o,e,fun v z => by rw [d] at z; cases z⟩
 keep := fun i h h' st k => ⟨st.1,st.2.at fun o e => k it (by simp) o e⟩
 item := by
  intro X hP hw hK hc i pins s σ H E I hf st hg
  subst hP hw hK
  obtain ⟨hin,xs,x,hq,hx⟩ := hg
  obtain ⟨its,rv,p,hz⟩ := I.list hq
  obtain ⟨u,hu,ru⟩ := rv.get hx
  obtain ⟨f0,f1,f2,f3,f4,f5⟩ := hf it (by simp)
  obtain ⟨_,hit⟩ := st
  have e1 : (n : Int) - 1 - ((i : Nat) : Int) = ((n - 1 - i : Nat) : Int) := by omega
  rw [e1] at hit
  refine wpAny_pyNext_rev_item hit p.isList (x := u) (by simpa using hu) fun h' st' sb => ?_
  have e2 : ((n - 1 - i : Nat) : Int) - 1 = (n : Int) - 1 - ((i + 1 : Nat) : Int) := by omega
  rw [e2] at st'
  have I1 : Inv X pins σ H { s with heap := h' } := I.turned (t' := s.toks) (fun b o hb e => (sb.2 b hb).trans e) f0 f1 f3 f4 f5
  obtain ⟨o,e,c,d⟩ := id st'
  exact ⟨u,rfl,go_of (s := { s with heap := h' }) e c d (by decide) ⟨x,H,I1,ru,⟨rfl,fun ys hy => by rw [I.list_inj hy hq]; exact hx⟩,⟨hin,st'⟩,fun b hb => (hf b hb).1⟩⟩
 done := by
  intro X hP hw hK hc i pins s σ H E I hf st hg
  subst hP hw hK
  obtain ⟨f0,f1,f2,f3,f4,f5⟩ := hf it (by simp)
  obtain ⟨hin,hit⟩ := st
  have hge : n <= i := hg
  have e1 : (n : Int) - 1 - ((i : Nat) : Int) = -1 := by omega
  rw [e1] at hit
  exact wpAny_pyNext_rev_end (I.ok.hd hc) hit fun h' eb => ⟨rfl,I.turned (t' := s.toks) (fun b o hb e => eb b o hb e) f0 f1 f3 f4 f5⟩
 self := fun A i s Q E st h => wpAny_pyIter_revIter st.2 h
def iRev (K : W.Frag) (ta : TA) : TI := fun σ H R => ta σ H fun vs H1 => ∃ (a : Addr) (xs : List V),vs = [.ref a] /\ SqL K H1 a xs /\ R (Itv K a xs.length) H1
section
variable {X : Cx} {tg : Expr}
theorem pi_reversed {e : Expr} {ta : TA} {p pos : Pos} (hg : Gl X "reversed") (hm : X.mg "reversed" = none) (ha : PA X [e] ta) (hs : starEach [e] X.env = [(false,eval e X.env)] := by rfl) : PI X tg (.Call (.Name "reversed" p) [e] [] pos) (iRev X.K ta) := by
 intro pins s σ H R I h
 refine Call_ (ld_blt I hg hm boot_reversed5 (PyProof.Rows.callWith_type1 (thn (ha pos pins s σ H _ I h) fun us s1 ⟨vs,H1,I1,r1,q1⟩ => ?_) hs rfl))
 obtain ⟨a,xs,e,hq,q⟩ := q1
 subst e
 cases r1 with
 | cons r rr =>
  cases rr
  cases r
  obtain ⟨its,rv,p',hz⟩ := I1.list hq
  have hl := rv.length
  have e1 : ((its.toArray.size : Nat) : Int) - 1 = (xs.length : Int) - 1 - ((0 : Nat) : Int) := by simp only [List.size_toArray]; omega
  refine call_reversed_list p'.isList (wpAny_pyIter_revIter (l := a) (i := ((its.toArray.size : Nat) : Int) - 1) ⟨_,Heap.get?_push_size _ rfl,rfl,rfl⟩ ?_)
  refine pi_one (tk := s1.toks) I1 _ (turn_rev a _ xs.length) ⟨Nat.zero_le _,?_⟩ q
  rw [<- e1]
  exact ⟨_,Heap.get?_push_size _ rfl,rfl,rfl⟩
end
end L2
section
namespace Att
open PySem PySem.W PySem.Calls PyProof.Rows
end Att
namespace L2
open PySem PySem.Spec PyProof.Rows
end L2
namespace L2
open PySem PySem.Spec PyProof.Rows
end L2
namespace L2
open PySem PySem.Spec PyProof.Rows
def inClass (s : Stmt) (j : Nat) : Stmt := match s with
 | .ClassDef _ _ _ body _ _ _ _ _ _ _ => body.getD j (.Pass ⟨0,0,0,0⟩)
 | _ => .Pass ⟨0,0,0,0⟩
def defArgs (s : Stmt) : Arguments := match s with
 | .FunctionDef _ a _ _ _ _ _ _ _ _ => a
 | _ => { posonlyargs := [],args := [],vararg := none,kwonlyargs := [],kw_defaults := [],kwarg := none,defaults := [] }
def defBody (s : Stmt) : List Stmt := match s with
 | .FunctionDef _ _ b _ _ _ _ _ _ _ => b
 | _ => []
def defScope (s : Stmt) : Scope := match s with
 | .FunctionDef _ _ _ _ _ _ sc _ _ _ => sc
 | _ => { kind := .function,names := [],isGenerator := false,isCoroutine := false }
abbrev CX0 : CXT := fun _ _ _ _ _ _ => False
abbrev E0 : XK := fun _ _ _ => False
theorem pass0 {X : Cx} : Passes CX0 X E0 := fun _ _ _ _ _ _ _ h => h.elim
structure Fun (K : W.Frag) (x qual : Str) (st : Stmt) (f : Addr) (fd : FuncData) : Prop where
 ex : ∃ (oc : Value) (od : Option Addr) (kV doc pm : Value) (an : Option Addr) (cdv ct : Value) (osl : Array (Option Value)),
  fd = W.fnOf x qual (defArgs st) (defBody st) (defScope st) .none kV doc pm an cdv ct /\ K.lookup f = some ⟨oc,od,.func fd,osl⟩ /\ W.codeIn K cdv qual = true
 kp : W.keepIn K (.ref f) = true
section
variable {P : Program} {w : World} {K : W.Frag} {mg : Str -> Option Value} {base : Heap}
theorem Fun.ok {x qual : Str} {st : Stmt} {f : Addr} {fd : FuncData} {N ps : List Str} {k : Nat} {sp : Sp} (F : Fun K x qual st f fd) (S : FnScope N ps (defScope st)) (len : ∀ vs H Q E,sp vs H Q E -> vs.length = ps.length)
  (hbody : ∀ (cdv : Value) (A : Around) (outer : List Env) (s : Shared) (H : Hp) (vs : List V) (Q : VK) (E : XK),Room k (A.deeper (envOfC qual (defScope st) s.heap.objs.size f cdv)) -> sp vs H Q E →
   ∃ t,PSs (cxOf CX0 P w K mg base N qual (defScope st) f cdv A outer s H E).nox (defBody st) t /\ t { nx := fun _ H' => Q .non H',rt := Q } (start N vs) H) : FnOk P w K mg base CX0 (k + 1) f fd ps sp := by
 obtain ⟨oc,od,kV,doc,pm,an,cdv,ct,osl,rfl,lk,hcd⟩ := F.ex
 refine fn_of lk hcd S len fun A outer s H vs Q E hr hsp => ?_
 obtain ⟨t,h,q⟩ := hbody cdv A outer s H vs Q E hr hsp
 exact ⟨t,h.nox,q⟩
theorem Fun.binds {x qual : Str} {st : Stmt} {f : Addr} {fd : FuncData} {ps : List Str} (F : Fun K x qual st f fd)
  (h : ∀ (kV doc pm : Value) (an : Option Addr) (cdv ct : Value) (us : List Value),us.length = ps.length -> bindArgs (W.fnOf x qual (defArgs st) (defBody st) (defScope st) .none kV doc pm an cdv ct) ⟨us,[]⟩ = pure (ps.zip us)) : Binds K fd ps [] := by
 obtain ⟨oc,od,kV,doc,pm,an,cdv,ct,osl,rfl,lk,hcd⟩ := F.ex
 exact .all (h kV doc pm an cdv ct)
theorem fun_mk {x qual : Str} {st : Stmt} {f : Addr} {oc : Value} {od an : Option Addr} {osl : Array (Option Value)} {kV doc pm cdv ct : Value} (l : K.lookup f = some ⟨oc,od,.func (W.fnOf x qual (defArgs st) (defBody st) (defScope st) .none kV doc pm an cdv ct),osl⟩)
  (c : W.codeIn K cdv qual = true) (k : W.keepIn K (.ref f) = true) : Fun K x qual st f (W.fnOf x qual (defArgs st) (defBody st) (defScope st) .none kV doc pm an cdv ct) := ⟨⟨oc,od,kV,doc,pm,an,cdv,ct,osl,rfl,l,c⟩,k⟩
end
theorem hu_of {A : Around} {k : Nat} (hr : Room k A) : A.units + 1 < cLine := Nat.lt_of_le_of_lt (Nat.add_le_add_left (by decide : 1 <= 64) _) hr.units
section
variable {X : Cx}
theorem pv (i : Nat) {x : Str} {pos : Pos} (hN : X.N[i]? = some x := by rfl) (hv : Vis X.env.scope x := by first | exact Or.inl rfl | exact Or.inr (Or.inl rfl) | exact Or.inr (Or.inr rfl)) (hd : (x == ("__debug__" : Str)) = false := by decide)
  (hcd : (x == ("__classdict__" : Str)) = false := by decide) : PE X (.Name x pos) (tVar i) := pe_var hN hv hd hcd
end
theorem iteF {A B : Prop} (h : B) : if false = true then A else B := by
 rw [if_neg Bool.false_ne_true]
 exact h
theorem iteT {A B : Prop} (h : A) : if true = true then A else B := by
 rw [if_pos rfl]
 exact h
theorem ite2 {c A B : Prop} [Decidable c] (h1 : c -> A) (h2 : ¬ c -> B) : if c then A else B := by
 by_cases h : c
 ·rw [if_pos h]
  exact h1 h
 ·rw [if_neg h]
  exact h2 h
theorem at_of {xs : List V} {z : Int} {j : Nat} {v : V} (e : z = (j : Int)) (h : xs[j]? = some v) : atI xs z = some v := by
 rw [e]
 exact atI_nat h
theorem nd_ix {α : Type} {l : List α} (hN : l.Nodup) {i j : Nat} {x : α} (a : l[i]? = some x) (b : l[j]? = some x) : i = j := by
 obtain ⟨h1,e1⟩ := List.getElem?_eq_some_iff.mp a
 obtain ⟨h2,e2⟩ := List.getElem?_eq_some_iff.mp b
 exact (List.getElem_inj hN).mp (e1.trans e2.symm)
end L2
section
set_option Elab.async false
set_option linter.all false
set_option maxRecDepth 100000
set_option maxHeartbeats 2000000
namespace L2
open PySem PySem.Spec PyProof.Rows
open PySem.W (WData Codec OpenSpec Well WellAll ReadsW ReadsAllW)
mutual
inductive Dw (K : W.Frag) (H : Hp) : V -> WData -> Prop
 | non : Dw K H .non .none
 | bl (b : Bool) : Dw K H (.bl b) (.bool b)
 | int (i : Int) : Dw K H (.int i) (.int i)
 | str (x : Str) : Dw K H (.str x) (.str x)
 | byt (b : Array UInt8) : Dw K H (.byt b) (.bytes b.toList)
 | lst {a : Addr} {xs : List V} {ds : List WData} : SqL K H a xs -> DwAll K H xs ds -> Dw K H (.ref a) (.list ds)
 | tup {a : Addr} {xs : List V} {ds : List WData} : SqT K H a xs -> DwAll K H xs ds -> Dw K H (.ref a) (.tuple ds)
inductive DwAll (K : W.Frag) (H : Hp) : List V -> List WData -> Prop
 | nil : DwAll K H [] []
 | cons {v : V} {vs : List V} {d : WData} {ds : List WData} : Dw K H v d -> DwAll K H vs ds -> DwAll K H (v :: vs) (d :: ds)
end
theorem dw_ints {K : W.Frag} {H : Hp} : ∀ ns : List Int,DwAll K H (ns.map V.int) (ns.map WData.int)
 | [] => .nil
 | n :: r => .cons (.int n) (dw_ints r)
theorem ints_dw {K : W.Frag} {H : Hp} : ∀ (ns : List Int) (xs : List V),DwAll K H xs (ns.map WData.int) -> xs = ns.map V.int
 | [],xs,h => by
  cases h
  rfl
 | n :: r,xs,h => by
  cases h with
  | cons h1 h2 =>
   cases h1
   rw [ints_dw r _ h2] <;> rfl
section
variable {P : Program} {w : World} {K : W.Frag} {H : Hp} {h : Heap} {R : W.WRecords} {cl : Str -> Option Addr}
theorem sqL_at {a : Addr} {xs : List V} (hok : HOk P w H h) (KX : K.In h) (q : SqL K H a xs) : ∃ (its : List Value) (o : Obj) (n : Nat),Vals xs its /\ h.get? a = some o /\ o.cls = .type "list" /\ o.data = .seq its.toArray n := by
 rcases q with q | ⟨o,its,n,e,hc,_,hd,_,hv⟩
 ·obtain ⟨_,its,n,hv,e⟩ := (show ObjOk P w H h a (.lst xs) from q.ok hok)
  exact ⟨its,_,n,hv,e,rfl,rfl⟩
 ·exact ⟨its.toList,o,n,hv,KX _ _ e,hc,by simp [hd]⟩
theorem sqT_at {a : Addr} {xs : List V} (hok : HOk P w H h) (KX : K.In h) (q : SqT K H a xs) : ∃ (its : List Value) (o : Obj) (n : Nat),Vals xs its /\ h.get? a = some o /\ o.cls = .type "tuple" /\ o.data = .seq its.toArray n := by
 rcases q with q | ⟨o,its,n,e,hc,hd,_,hv⟩
 ·obtain ⟨_,its,hv,o,e,hc,n,hd⟩ := (show ObjOk P w H h a (.tup xs) from q.ok hok)
  exact ⟨its,o,n,hv,e,hc,hd⟩
 ·exact ⟨its.toList,o,n,hv,KX _ _ e,hc,by simp [hd]⟩
mutual
theorem Dw.reads (hok : HOk P w H h) (KX : K.In h) : ∀ (d : WData) (v : V) (u : Value),Dw K H v d -> RelV v u -> ∃ as,ReadsW R cl h u d as
 | .none,_,_,x,r => by
  cases x
  cases r
  exact ⟨_,ReadsW.none⟩
 | .bool b,_,_,x,r => by
  cases x
  cases r
  exact ⟨_,ReadsW.bool b⟩
 | .int i,_,_,x,r => by
  cases x
  obtain ⟨t,rfl⟩ := r
  exact ⟨_,ReadsW.int i t⟩
 | .str s,_,_,x,r => by
  cases x
  obtain ⟨t,rfl⟩ := r
  exact ⟨_,ReadsW.str s t⟩
 | .bytes b,_,_,x,r => by
  cases x
  obtain ⟨t,rfl⟩ := r
  exact ⟨_,ReadsW.bytes _ t⟩
 | .list ds,_,_,x,r => by
  cases x with
  | lst hs ha =>
   cases r
   obtain ⟨its,o,n,rv,ho,hc,hd⟩ := sqL_at hok KX hs
   obtain ⟨as,hr⟩ := Dw.readsAll hok KX ds _ its ha rv
   exact ⟨_,ReadsW.list ho hc hd hr⟩
 | .tuple ds,_,_,x,r => by
  cases x with
  | tup hs ha =>
   cases r
   obtain ⟨its,o,n,rv,ho,hc,hd⟩ := sqT_at hok KX hs
   obtain ⟨as,hr⟩ := Dw.readsAll hok KX ds _ its ha rv
   exact ⟨_,ReadsW.tuple ho hc hd hr⟩
 | .float _,_,_,x,_ => by cases x
 | .dict _,_,_,x,_ => by cases x
 | .bytearray _,_,_,x,_ => by cases x
 | .set _,_,_,x,_ => by cases x
 | .frozenset _,_,_,x,_ => by cases x
 | .obj _ _,_,_,x,_ => by cases x
theorem Dw.readsAll (hok : HOk P w H h) (KX : K.In h) : ∀ (ds : List WData) (vs : List V) (us : List Value),DwAll K H vs ds -> Vals vs us -> ∃ as,ReadsAllW R cl h us ds as
 | [],_,_,x,r => by
  cases x
  cases r
  exact ⟨_,ReadsAllW.nil⟩
 | d :: ds,_,_,x,r => by
  cases x with
  | cons h1 h2 =>
   cases r with
   | cons r1 r2 =>
    obtain ⟨as,q1⟩ := Dw.reads hok KX d _ _ h1 r1
    obtain ⟨bs,q2⟩ := Dw.readsAll hok KX ds _ _ h2 r2
    exact ⟨_,ReadsAllW.cons q1 q2⟩
end
end
mutual
def plW : WData -> Bool
 | .none => true
 | .bool _ => true
 | .int _ => true
 | .str _ => true
 | .bytes _ => true
 | .list xs => plWs xs
 | .tuple xs => plWs xs
 | _ => false
def plWs : List WData -> Bool
 | [] => true
 | x :: r => plW x && plWs r
end
theorem plWs_map {α : Type} {f : α -> WData} (h : ∀ a,plW (f a) = true) : ∀ l : List α,plWs (l.map f) = true
 | [] => rfl
 | x :: r => by
  show (plW (f x) && plWs (r.map f)) = true
  rw [h x,plWs_map h r] <;> rfl
theorem pl_enc : ∀ (c : Codec) (a : c.denote),plW (c.enc a) = true
 | .unit,_ => rfl
 | .bool,_ => rfl
 | .int _ _,_ => rfl
 | .nat _ _,_ => rfl
 | .u8,_ => rfl
 | .bytes _ _,_ => rfl
 | .text _ _ _ _,_ => rfl
 | .list _ _ c,a => plWs_map (fun x => pl_enc c x) a
 | .pair c d,a => by
  show (plW (c.enc a.1) && (plW (d.enc a.2) && true)) = true
  rw [pl_enc c a.1,pl_enc d a.2] <;> rfl
 | .triple c d e,a => by
  show (plW (c.enc a.1) && (plW (d.enc a.2.1) && (plW (e.enc a.2.2) && true))) = true
  rw [pl_enc c a.1,pl_enc d a.2.1,pl_enc e a.2.2] <;> rfl
 | .option c,none => rfl
 | .option c,some x => pl_enc c x
theorem pl_encAll : ∀ (cs : List Codec) (a : Codec.denoteAll cs),plWs (Codec.encAll cs a) = true
 | [],_ => rfl
 | c :: cs,a => by
  show (plW (c.enc a.1) && plWs (Codec.encAll cs a.2)) = true
  rw [pl_enc c a.1,pl_encAll cs a.2] <;> rfl
theorem weight_mem : ∀ {xs : List WData} {d : WData},d ∈ xs -> d.weight <= WData.weightAll xs
 | [],d,h => absurd h (by simp)
 | x :: r,d,h => by
  show d.weight <= x.weight + 1 + WData.weightAll r
  rcases List.mem_cons.mp h with e | m
  ·rw [e]
   omega
  ·have z := weight_mem m
   omega
def toV : Value -> V
 | .none => .non
 | .bool b => .bl b
 | .int i _ => .int i
 | .str x _ => .str x
 | .bytes b _ => .byt b
 | .ref a => .ref a
 | _ => .non
def OkU (A : List Addr) : Value -> Prop
 | .none => True
 | .bool _ => True
 | .int _ _ => True
 | .str _ _ => True
 | .bytes _ _ => True
 | .ref a => a ∈ A
 | _ => False
theorem OkU.mono {A B : List Addr} (h : ∀ a ∈ A,a ∈ B) : ∀ {u : Value},OkU A u -> OkU B u := fun {u} x => by
 cases u with
 | ref a => exact h a x
 | none => trivial
 | bool b => trivial
 | int i t => trivial
 | str s t => trivial
 | bytes b t => trivial
 | _ => exact False.elim x
theorem relV_toV {A : List Addr} {u : Value} (x : OkU A u) : RelV (toV u) u := by
 cases u with
 | ref a => rfl
 | none => rfl
 | bool b => rfl
 | int i t => exact ⟨t,rfl⟩
 | str s t => exact ⟨t,rfl⟩
 | bytes b t => exact ⟨t,rfl⟩
 | _ => exact False.elim x
theorem vals_toV {A : List Addr} : ∀ {vs : List Value},(∀ u ∈ vs,OkU A u) -> Vals (vs.map toV) vs
 | [],_ => .nil
 | u :: r,h => .cons (relV_toV (h u (List.mem_cons_self ..))) (vals_toV fun x hx => h x (List.mem_cons_of_mem _ hx))
def ArgOb (h : Heap) (A : List Addr) (a : Addr) : Prop := ∃ vs : List Value,vs.length <= sizeLine /\ (∀ u ∈ vs,OkU A u) ∧
 (h.get? a = some { cls := .type "list",data := .seq vs.toArray } ∨ h.get? a = some { cls := .type "tuple",data := .seq vs.toArray })
theorem ArgOb.mono {h : Heap} {A B : List Addr} {a : Addr} (k : ∀ a ∈ A,a ∈ B) (x : ArgOb h A a) : ArgOb h B a := by
 obtain ⟨vs,h1,h2,h3⟩ := x
 exact ⟨vs,h1,fun u hu => (h2 u hu).mono k,h3⟩
theorem wellAll_len {P : Params} {h : Heap} : ∀ {vs : List Value} {ds : List WData},WellAll P h vs ds -> vs.length = ds.length
 | _,_,.nil => rfl
 | _,_,.cons _ b => by
  show _ + 1 = _ + 1
  rw [wellAll_len b]
theorem well_list {P : Params} {h : Heap} {v : Value} {ds : List WData} (x : Well P h v (.list ds)) : ∃ (a : Addr) (vs : List Value),v = .ref a /\ h.get? a = some { cls := .type "list",data := .seq vs.toArray } /\ WellAll P h vs ds := by
 cases x with
 | list ho hall => exact ⟨_,_,rfl,ho,hall⟩
theorem well_tuple {P : Params} {h : Heap} {v : Value} {ds : List WData} (x : Well P h v (.tuple ds)) : ∃ (a : Addr) (vs : List Value),v = .ref a /\ h.get? a = some { cls := .type "tuple",data := .seq vs.toArray } /\ WellAll P h vs ds := by
 cases x with
 | tuple ho hall => exact ⟨_,_,rfl,ho,hall⟩
theorem well_cons {P : Params} {h : Heap} {us : List Value} {d : WData} {ds : List WData} (x : WellAll P h us (d :: ds)) : ∃ (v : Value) (vs : List Value),us = v :: vs /\ Well P h v d /\ WellAll P h vs ds := by
 cases x with
 | cons a b => exact ⟨_,_,rfl,a,b⟩
theorem line_of {n : Nat} (h : n <= 1048576) : n <= sizeLine := Nat.le_trans h (by decide)
section
variable {P : Params} {h : Heap}
mutual
theorem area_one : ∀ (d : WData) (v : Value),Well P h v d -> plW d = true -> d.weight <= 1048576 -> ∃ A : List Addr,OkU A v /\ ∀ a ∈ A,ArgOb h A a
 | .none,_,x,_,_ => by
  cases x
  exact ⟨[],trivial,fun a m => absurd m (by simp)⟩
 | .bool b,_,x,_,_ => by
  cases x
  exact ⟨[],trivial,fun a m => absurd m (by simp)⟩
 | .int i,_,x,_,_ => by
  cases x
  exact ⟨[],trivial,fun a m => absurd m (by simp)⟩
 | .str s,_,x,_,_ => by
  cases x
  exact ⟨[],trivial,fun a m => absurd m (by simp)⟩
 | .bytes b,_,x,_,_ => by
  cases x
  exact ⟨[],trivial,fun a m => absurd m (by simp)⟩
 | .list ds,_,x,p,z => by
  obtain ⟨a,vs,rfl,ho,hall⟩ := well_list x
  have z2 : WData.weightAll ds <= 1048576 := z
  obtain ⟨A,h1,h2⟩ := area_all ds _ hall p fun d hd => Nat.le_trans (weight_mem hd) z2
  have k : ∀ b ∈ A,b ∈ a :: A := fun b hb => List.mem_cons_of_mem _ hb
  refine ⟨a :: A,List.mem_cons_self ..,fun b hb => ?_⟩
  rcases List.mem_cons.mp hb with e | m
  ·rw [e]
   exact ⟨vs,line_of (by rw [wellAll_len hall]; exact Nat.le_trans (W.length_le_weightAllW ds) z2),fun u hu => (h1 u hu).mono k,.inl ho⟩
  ·exact (h2 b m).mono k
 | .tuple ds,_,x,p,z => by
  obtain ⟨a,vs,rfl,ho,hall⟩ := well_tuple x
  have z2 : WData.weightAll ds <= 1048576 := z
  obtain ⟨A,h1,h2⟩ := area_all ds _ hall p fun d hd => Nat.le_trans (weight_mem hd) z2
  have k : ∀ b ∈ A,b ∈ a :: A := fun b hb => List.mem_cons_of_mem _ hb
  refine ⟨a :: A,List.mem_cons_self ..,fun b hb => ?_⟩
  rcases List.mem_cons.mp hb with e | m
  ·rw [e]
   exact ⟨vs,line_of (by rw [wellAll_len hall]; exact Nat.le_trans (W.length_le_weightAllW ds) z2),fun u hu => (h1 u hu).mono k,.inr ho⟩
  ·exact (h2 b m).mono k
 | .float _,_,_,p,_ => Bool.noConfusion (show false = true from p)
 | .dict _,_,_,p,_ => Bool.noConfusion (show false = true from p)
 | .bytearray _,_,_,p,_ => Bool.noConfusion (show false = true from p)
 | .set _,_,_,p,_ => Bool.noConfusion (show false = true from p)
 | .frozenset _,_,_,p,_ => Bool.noConfusion (show false = true from p)
 | .obj _ _,_,_,p,_ => Bool.noConfusion (show false = true from p)
theorem area_all : ∀ (ds : List WData) (vs : List Value),WellAll P h vs ds -> plWs ds = true -> (∀ d ∈ ds,d.weight <= 1048576) -> ∃ A : List Addr,(∀ u ∈ vs,OkU A u) /\ ∀ a ∈ A,ArgOb h A a
 | [],_,x,_,_ => by
  cases x
  exact ⟨[],fun u m => absurd m (by simp),fun a m => absurd m (by simp)⟩
 | d :: ds,_,x,p,z => by
  obtain ⟨v,vs,rfl,x1,x2⟩ := well_cons x
  have q : plW d = true /\ plWs ds = true := Bool.and_eq_true_iff.mp p
  obtain ⟨A,a1,a2⟩ := area_one d v x1 q.1 (z d (List.mem_cons_self ..))
  obtain ⟨B,b1,b2⟩ := area_all ds vs x2 q.2 fun e he => z e (List.mem_cons_of_mem _ he)
  have kA : ∀ b ∈ A,b ∈ A ++ B := fun b hb => List.mem_append.mpr (.inl hb)
  have kB : ∀ b ∈ B,b ∈ A ++ B := fun b hb => List.mem_append.mpr (.inr hb)
  refine ⟨A ++ B,fun u hu => ?_,fun b hb => ?_⟩
  ·rcases List.mem_cons.mp hu with e | m
   ·rw [e]
    exact a1.mono kA
   ·exact (b1 u m).mono kB
  ·rcases List.mem_append.mp hb with m | m
   ·exact (a2 b m).mono kA
   ·exact (b2 b m).mono kB
end
end
def hoOf (o : Obj) : Option HO := match o.data with
 | .seq vs _ => if (o.cls == Value.type "list") = true then some (.frz o (.lst (vs.toList.map toV))) else some (.frz o (.tup (vs.toList.map toV)))
 | _ => none
def argH (K : W.Frag) (h : Heap) (A : List Addr) : Hp := fun b => if b ∈ A then (if (K.lookup b).isNone = true then (h.get? b).bind hoOf else none) else none
def OnlyF (H : Hp) : Prop := ∀ b,H b = none ∨ ∃ o u,H b = some (.frz o u)
theorem hoOf_lst (vs : List Value) : hoOf { cls := .type "list",data := .seq vs.toArray } = some (.frz { cls := .type "list",data := .seq vs.toArray } (.lst (vs.map toV))) := by
 show (if (Value.type "list" == Value.type "list") = true then some (HO.frz { cls := .type "list",data := .seq vs.toArray } (.lst (vs.toArray.toList.map toV))) else some (HO.frz { cls := .type "list",data := .seq vs.toArray } (.tup (vs.toArray.toList.map toV)))) = _
 rw [if_pos (beq_self_eq_true _)]
theorem hoOf_tup (vs : List Value) : hoOf { cls := .type "tuple",data := .seq vs.toArray } = some (.frz { cls := .type "tuple",data := .seq vs.toArray } (.tup (vs.map toV))) := by
 show (if (Value.type "tuple" == Value.type "list") = true then some (HO.frz { cls := .type "tuple",data := .seq vs.toArray } (.lst (vs.toArray.toList.map toV))) else some (HO.frz { cls := .type "tuple",data := .seq vs.toArray } (.tup (vs.toArray.toList.map toV)))) = _
 rw [if_neg (by decide)]
section
variable {P : Program} {w : World} {K : W.Frag} {h : Heap} {A : List Addr}
theorem argH_at {b : Addr} {o : Obj} (hb : b ∈ A) (hk : K.lookup b = none) (e : h.get? b = some o) : argH K h A b = hoOf o := by
 unfold argH
 rw [if_pos hb,hk,if_pos (show (none : Option Obj).isNone = true from rfl),e] <;> rfl
theorem of_argH {b : Addr} {u : HO} (q : argH K h A b = some u) : b ∈ A /\ K.lookup b = none := by
 unfold argH at q
 by_cases hb : b ∈ A
 ·rw [if_pos hb] at q
  cases hk : K.lookup b with
  | none => exact ⟨hb,rfl⟩
  | some o =>
   rw [hk,if_neg (by simp)] at q
   cases q
 ·rw [if_neg hb] at q
  cases q
theorem argH_is (ar : ∀ a ∈ A,ArgOb h A a) {b : Addr} {u : HO} (q : argH K h A b = some u) : K.lookup b = none /\ ∃ vs : List Value,vs.length <= sizeLine /\ (∀ u ∈ vs,OkU A u) ∧
  ((h.get? b = some { cls := .type "list",data := .seq vs.toArray } /\ u = .frz { cls := .type "list",data := .seq vs.toArray } (.lst (vs.map toV))) ∨
   (h.get? b = some { cls := .type "tuple",data := .seq vs.toArray } /\ u = .frz { cls := .type "tuple",data := .seq vs.toArray } (.tup (vs.map toV)))) := by
 obtain ⟨hb,hk⟩ := of_argH q
 obtain ⟨vs,h1,h2,h3⟩ := ar b hb
 refine ⟨hk,vs,h1,h2,?_⟩
 rcases h3 with e | e
 ·rw [argH_at hb hk e,hoOf_lst] at q
  exact .inl ⟨e,(Option.some.inj q).symm⟩
 ·rw [argH_at hb hk e,hoOf_tup] at q
  exact .inr ⟨e,(Option.some.inj q).symm⟩
theorem argH_only (ar : ∀ a ∈ A,ArgOb h A a) : OnlyF (argH K h A) := fun b => by
 cases q : argH K h A b with
 | none => exact .inl rfl
 | some u =>
  obtain ⟨_,vs,_,_,⟨_,e⟩ | ⟨_,e⟩⟩ := argH_is ar q
  ·exact .inr ⟨_,_,by rw [e]⟩
  ·exact .inr ⟨_,_,by rw [e]⟩
theorem argH_ok (ar : ∀ a ∈ A,ArgOb h A a) : HOk P w (argH K h A) h := fun b u q => by
 obtain ⟨_,vs,h1,h2,⟨e,rfl⟩ | ⟨e,rfl⟩⟩ := argH_is ar q
 ·exact ⟨e,by rw [List.length_map]; exact h1,vs,_,vals_toV h2,e⟩
 ·exact ⟨e,by rw [List.length_map]; exact h1,vs,vals_toV h2,_,e,rfl,_,rfl⟩
theorem seq_inj {c c' : Value} {vs us : List Value} (e : (some { cls := c,data := .seq vs.toArray } : Option Obj) = some { cls := c',data := .seq us.toArray }) : c = c' /\ vs = us := by
 have e1 := Option.some.inj e
 have e2 : c = c' := congrArg Obj.cls e1
 have e3 : Data.seq vs.toArray = Data.seq us.toArray := congrArg Obj.data e1
 injection e3 with e4
 refine ⟨e2,?_⟩
 have e5 := congrArg Array.toList e4
 simpa using e5
theorem argL (KX : K.In h) (ar : ∀ a ∈ A,ArgOb h A a) {a : Addr} {vs : List Value} (ha : a ∈ A) (e : h.get? a = some { cls := .type "list",data := .seq vs.toArray }) : (∀ u ∈ vs,OkU A u) /\ SqL K (argH K h A) a (vs.map toV) := by
 obtain ⟨us,h1,h2,h3⟩ := ar a ha
 have hu : us = vs := by
  rcases h3 with q | q
  ·rw [e] at q
   exact (seq_inj q).2.symm
  ·rw [e] at q
   exact absurd (Value.type.inj (seq_inj q).1) (by decide)
 subst hu
 refine ⟨h2,?_⟩
 cases hk : K.lookup a with
 | none => exact .inl (.inr ⟨_,by rw [argH_at ha hk e,hoOf_lst]⟩)
 | some o =>
  have e2 := KX a o hk
  rw [e] at e2
  obtain rfl := Option.some.inj e2
  exact .inr ⟨_,us.toArray,_,hk,rfl,rfl,rfl,by rw [List.size_toArray]; exact h1,by simpa using vals_toV h2⟩
theorem argT (KX : K.In h) (ar : ∀ a ∈ A,ArgOb h A a) {a : Addr} {vs : List Value} (ha : a ∈ A) (e : h.get? a = some { cls := .type "tuple",data := .seq vs.toArray }) : (∀ u ∈ vs,OkU A u) /\ SqT K (argH K h A) a (vs.map toV) := by
 obtain ⟨us,h1,h2,h3⟩ := ar a ha
 have hu : us = vs := by
  rcases h3 with q | q
  ·rw [e] at q
   exact absurd (Value.type.inj (seq_inj q).1) (by decide)
  ·rw [e] at q
   exact (seq_inj q).2.symm
 subst hu
 refine ⟨h2,?_⟩
 cases hk : K.lookup a with
 | none => exact .inl (.inr ⟨_,by rw [argH_at ha hk e,hoOf_tup]⟩)
 | some o =>
  have e2 := KX a o hk
  rw [e] at e2
  obtain rfl := Option.some.inj e2
  exact .inr ⟨_,us.toArray,_,hk,rfl,rfl,by rw [List.size_toArray]; exact h1,by simpa using vals_toV h2⟩
mutual
theorem dw_one {Pm : Params} (KX : K.In h) (ar : ∀ a ∈ A,ArgOb h A a) : ∀ (d : WData) (v : Value),Well Pm h v d -> plW d = true -> OkU A v -> Dw K (argH K h A) (toV v) d
 | .none,_,x,_,_ => by
  cases x
  exact .non
 | .bool b,_,x,_,_ => by
  cases x
  exact .bl b
 | .int i,_,x,_,_ => by
  cases x
  exact .int i
 | .str s,_,x,_,_ => by
  cases x
  exact .str s
 | .bytes b,_,x,_,_ => by
  cases x
  have z := Dw.byt (K := K) (H := argH K h A) b.toArray
  exact z
 | .list ds,_,x,p,hu => by
  obtain ⟨a,vs,rfl,ho,hall⟩ := well_list x
  obtain ⟨h2,hs⟩ := argL KX ar hu ho
  exact .lst hs (dw_all KX ar ds _ hall p h2)
 | .tuple ds,_,x,p,hu => by
  obtain ⟨a,vs,rfl,ho,hall⟩ := well_tuple x
  obtain ⟨h2,hs⟩ := argT KX ar hu ho
  exact .tup hs (dw_all KX ar ds _ hall p h2)
 | .float _,_,_,p,_ => Bool.noConfusion (show false = true from p)
 | .dict _,_,_,p,_ => Bool.noConfusion (show false = true from p)
 | .bytearray _,_,_,p,_ => Bool.noConfusion (show false = true from p)
 | .set _,_,_,p,_ => Bool.noConfusion (show false = true from p)
 | .frozenset _,_,_,p,_ => Bool.noConfusion (show false = true from p)
 | .obj _ _,_,_,p,_ => Bool.noConfusion (show false = true from p)
theorem dw_all {Pm : Params} (KX : K.In h) (ar : ∀ a ∈ A,ArgOb h A a) : ∀ (ds : List WData) (vs : List Value),WellAll Pm h vs ds -> plWs ds = true -> (∀ u ∈ vs,OkU A u) -> DwAll K (argH K h A) (vs.map toV) ds
 | [],_,x,_,_ => by
  cases x
  exact .nil
 | d :: ds,_,x,p,hu => by
  obtain ⟨v,vs,rfl,x1,x2⟩ := well_cons x
  have q : plW d = true /\ plWs ds = true := Bool.and_eq_true_iff.mp p
  exact .cons (dw_one KX ar d v x1 q.1 (hu _ (List.mem_cons_self ..))) (dw_all KX ar ds vs x2 q.2 fun u m => hu u (List.mem_cons_of_mem _ m))
end
end
theorem layable_weight {ds : List WData} (h : WData.layableAll ds = true) : ∀ d ∈ ds,d.weight <= 1048576 := fun d hd =>
 (W.layableW_iff.mp (List.all_eq_true.mp h d hd)).2.2
theorem encAll_len : ∀ (cs : List Codec) (a : Codec.denoteAll cs),(Codec.encAll cs a).length = cs.length
 | [],_ => rfl
 | c :: cs,a => by
  show (Codec.encAll cs a.2).length + 1 = cs.length + 1
  rw [encAll_len cs a.2]
end L2
end
section
set_option Elab.async false
set_option linter.all false
set_option maxRecDepth 100000
set_option maxHeartbeats 4000000
namespace Cs
open PySem PySem.Spec PyProof.Rows L2
def isTbl : HO -> Bool
 | .tbl _ => true
 | _ => false
def plain : HO -> Bool
 | .tbl _ => false
 | .ext _ => false
 | _ => true
abbrev Tbl := Addr × Pos × Str
def codeO (c : Addr) (q : Str) : HO := .ext fun h => h.CodeRec (.ref c) q
def TabOk (H : Hp) (t : Tbl) : Prop := H t.1 = some (.tbl #[]) ∨ ∃ c,H t.1 = some (.tbl #[rawInt t.2.1.line,rawInt t.2.1.col,.ref c]) /\ H c = some (codeO c t.2.2)
def TabsOk (L : List Tbl) (H : Hp) : Prop := ∀ t ∈ L,TabOk H t
structure Ext (L : List Tbl) (H H' : Hp) : Prop where
 keep : ∀ b o,H b = some o -> isTbl o = false -> H' b = some o
 tabs : TabsOk L H -> TabsOk L H'
 free : ∀ b,H' b = none -> H b = none
section
variable {L : List Tbl} {H H' H1 H2 : Hp}
theorem Ext.refl : Ext L H H := ⟨fun _ _ h _ => h,fun h => h,fun _ h => h⟩
theorem Ext.trans (a : Ext L H H1) (b : Ext L H1 H2) : Ext L H H2 := ⟨fun c o h t => b.1 c o (a.1 c o h t) t,fun h => b.2 (a.2 h),fun c h => a.3 c (b.3 c h)⟩
theorem upd_free {a b : Addr} {o : HO} (h : upd H a o b = none) : H b = none := by
 unfold upd at h
 split at h
 ·cases h
 ·exact h
theorem TabOk.set {t : Tbl} {D : Addr} {o : HO} (h : TabOk H t) (hD : ∀ u,H D = some u -> plain u = true) : TabOk (upd H D o) t := by
 rcases h with h | ⟨c,h,g⟩
 ·refine .inl ?_
  rw [upd_ne]
  ·exact h
  ·intro e; rw [e] at h; have := hD _ h; cases this
 ·refine .inr ⟨c,?_,?_⟩
  ·rw [upd_ne]
   ·exact h
   ·intro e; rw [e] at h; have := hD _ h; cases this
  ·rw [upd_ne]
   ·exact g
   ·intro e; rw [e] at g; have := hD _ g; cases this
theorem Ext.new {l : Addr} {o : HO} (h : H l = none) : Ext L H (upd H l o) :=
 ⟨fun b u e _ => by rw [upd_ne (ne_of_none e h)]; exact e,fun q t ht => (q t ht).set fun u e => (by rw [h] at e; cases e),fun b q => upd_free q⟩
theorem Ext.set {D : Addr} {o u : HO} (e : Ext L H H1) (h0 : H D = none) (hD : H1 D = some u) (p : plain u = true) : Ext L H (upd H1 D o) :=
 ⟨fun b v q t => by rw [upd_ne (ne_of_none q h0)]; exact e.1 b v q t,fun q t ht => (e.2 q t ht).set fun v z => (by rw [hD] at z; cases z; exact p),fun b q => e.3 b (upd_free q)⟩
theorem Ext.new2 {l : Addr} {o : HO} (e : Ext L H H1) (h : H1 l = none) : Ext L H (upd H1 l o) := e.trans (Ext.new h)
theorem Ext.lst (e : Ext L H H') {a : Addr} {xs : List V} (h : H a = some (.lst xs)) : H' a = some (.lst xs) := e.1 _ _ h rfl
theorem Ext.tup (e : Ext L H H') {a : Addr} {xs : List V} (h : H a = some (.tup xs)) : H' a = some (.tup xs) := e.1 _ _ h rfl
theorem Ext.ins (e : Ext L H H') {a C dx : Addr} {fs : List (Str × V)} (h : H a = some (.ins C dx fs)) : H' a = some (.ins C dx fs) := e.1 _ _ h rfl
theorem Ext.sqL {K : W.Frag} (e : Ext L H H') {a : Addr} {xs : List V} (h : SqL K H a xs) : SqL K H' a xs := by
 rcases h with (h | ⟨o,h⟩) | h
 ·exact .inl (.inl (e.1 _ _ h rfl))
 ·exact .inl (.inr ⟨o,e.1 _ _ h rfl⟩)
 ·exact .inr h
end
def Def (P : Program) (w : World) (K : W.Frag) (mg : Str -> Option Value) (base : Heap) (x : Str) (k : Nat) (ps : List Str) (sp : Sp) : Prop :=
 ∃ (f : Addr) (fd : FuncData),FnOk P w K mg base CX0 k f fd ps sp /\ mg x = some (.ref f) /\ W.keepIn K (.ref f) = true /\ Binds K fd ps []
section
variable {X : Cx} {k : Nat} {ps : List Str} {sp : Sp} {x : Str} {p pos : Pos} {e : Expr} {es : List Expr} {t : TA}
theorem pe_cal (D : Def X.prog X.w X.K X.mg X.base x k ps sp) (hr : Room k X.A) (hg : Gl X x) (ha : PA X (e :: es) t) (hdb : (x == ("__debug__" : Str)) = false := by decide) (he : starEach (e :: es) X.env = (false,eval e X.env) :: starEach es X.env := by rfl)
  (hpl : (backTo pos (starEach es X.env)).any (·.1) = false := by rfl) : PE X (.Call (.Name x p) (e :: es) [] pos) (tCall sp [] E0 t) := by
 obtain ⟨f,fd,F,hm,hk,hb⟩ := D
 exact pe_call F hr hg hm hk hb .nil pass0 ha hdb he hpl
theorem get_list : PGet X (rIxL X.K) := by
 intro pins s σ H o i ov iv Q I ro ri h
 obtain ⟨p,xs,k,z,rfl,rfl,hq,he,q⟩ := h
 cases ro
 obtain ⟨t,rfl⟩ := ri
 obtain ⟨its,r,pl,hz⟩ := I.list hq
 obtain ⟨j,h1,h2,h3,h4,h5⟩ := atI_get he
 obtain ⟨w,ew,rw'⟩ := r.get h2
 have hl := r.length
 have hn := line63
 have fin : EP X pins σ Q w s := ⟨z,H,I,rw',q⟩
 have sz : its.toArray.size = xs.length := by rw [List.size_toArray,← hl]
 by_cases h0 : 0 <= k
 ·have hj : k.toNat = j := by
   rw [seqIndex_of h0 h5] at h1
   exact Option.some.inj h1
  exact wpAny_getItem_list pl.isList h0 (by omega) (by rw [hj]; simpa using ew) fin
 ·have hj : (k + (its.toArray.size : Int)).toNat = j := by
   rw [seqIndex_neg (by omega) h4] at h1
   rw [sz]
   exact Option.some.inj h1
  exact wpAny_getItem_list_neg pl.isList (by omega) (by omega) (by omega) (by rw [hj]; simpa using ew) fin
end
theorem filt_snoc (p : Nat -> Bool) (f : Nat -> V) (i : Nat) : ((List.range (i + 1)).filter p).map f = ((List.range i).filter p).map f ++ (if p i = true then [f i] else []) := by
 rw [List.range_succ,List.filter_append,List.map_append]
 congr 1
 by_cases c : p i = true
 ·rw [if_pos c,List.filter_cons,if_pos c]; rfl
 ·rw [if_neg c,List.filter_cons,if_neg c]; rfl
theorem filt_len (p : Nat -> Bool) (f : Nat -> V) (n : Nat) : (((List.range n).filter p).map f).length <= n := by
 rw [List.length_map]
 exact Nat.le_trans (List.length_filter_le _ _) (by simp)
section
variable {L : List Tbl} {g : TG} {tt : TT} {te : TE} {vs : List Nat} {σ : L2.St} {H1 : Hp} {D : Addr} {Qd : Hp -> Prop}
theorem lcI_range {lo : Int} {n : Nat} (p : Nat -> Bool) (f : Nat -> V) (hn : n <= sizeLine) (hD : H1 D = none)
  (hs : ∀ i H,i < n -> Ext L H1 H -> ∀ (Kt : V -> Hp -> Prop) (N : Hp -> Prop),(p i = true -> ∀ H4,Ext L H H4 -> Kt (f i) H4) -> (p i = false -> ∀ H3,Ext L H H3 -> N H3) →
   g (.int (lo + i)) (wipe σ vs) H fun σ2 H2 => wipe σ2 vs = wipe σ vs /\ tt σ2 H2 fun b H3 => if b = true then te σ2 H3 Kt else N H3)
  (hd : ∀ H,Ext L H1 H -> H D = some (.lst (((List.range n).filter p).map f)) -> Qd H) :
  ∃ W : Nat -> Nat -> Hp -> Prop,(∃ m,W 0 m (upd H1 D (.lst []))) /\ ∀ i m H,W i m H →
   ((Itr lo n).stop i H /\ Qd H) ∨ ((Itr lo n).go i H /\ ∃ Nx : Hp -> Prop,(∀ H',Nx H' -> ∃ m',m' < m /\ W (i + 1) m' H') /\ ∀ x H',(Itr lo n).yld i H x H' -> g x (wipe σ vs) H' fun σ2 H2 => wipe σ2 vs = wipe σ vs /\ tt σ2 H2 fun b H3 =>
    if b = true then te σ2 H3 fun y H4 => ∃ acc,H4 D = some (.lst acc) /\ acc.length < sizeLine /\ Nx (upd H4 D (.lst (acc ++ [y]))) else Nx H3) := by
 refine lc_range (fun i H => Ext L H1 H /\ H D = some (.lst (((List.range i).filter p).map f))) ⟨Ext.new hD,upd_same⟩ (fun i H hi ⟨e,h⟩ => ?_) fun H ⟨e,h⟩ => hd H e h
 refine hs i H hi e _ _ (fun c H4 e4 => ?_) fun c H3 e3 => ?_
 ·have h4 := e4.lst h
  refine ⟨_,h4,Nat.lt_of_le_of_lt (filt_len p f i) (Nat.lt_of_lt_of_le hi hn),(e.trans e4).set hD h4 rfl,?_⟩
  rw [upd_same,filt_snoc,if_pos c]
 ·refine ⟨e.trans e3,?_⟩
  rw [e3.lst h,filt_snoc,if_neg (by rw [c]; simp),List.append_nil]
theorem lcI_list {K : W.Frag} {a : Addr} {xs : List V} (p : Nat -> Bool) (f : Nat -> V) (hn : xs.length <= sizeLine) (ha : SqL K H1 a xs) (hD : H1 D = none)
  (hs : ∀ i x H,xs[i]? = some x -> Ext L H1 H -> ∀ (Kt : V -> Hp -> Prop) (N : Hp -> Prop),(p i = true -> ∀ H4,Ext L H H4 -> Kt (f i) H4) -> (p i = false -> ∀ H3,Ext L H H3 -> N H3) →
   g x (wipe σ vs) H fun σ2 H2 => wipe σ2 vs = wipe σ vs /\ tt σ2 H2 fun b H3 => if b = true then te σ2 H3 Kt else N H3)
  (hd : ∀ H,Ext L H1 H -> H D = some (.lst (((List.range xs.length).filter p).map f)) -> Qd H) :
  ∃ W : Nat -> Nat -> Hp -> Prop,(∃ m,W 0 m (upd H1 D (.lst []))) /\ ∀ i m H,W i m H →
   ((Itl K a).stop i H /\ Qd H) ∨ ((Itl K a).go i H /\ ∃ Nx : Hp -> Prop,(∀ H',Nx H' -> ∃ m',m' < m /\ W (i + 1) m' H') /\ ∀ x H',(Itl K a).yld i H x H' -> g x (wipe σ vs) H' fun σ2 H2 => wipe σ2 vs = wipe σ vs /\ tt σ2 H2 fun b H3 =>
    if b = true then te σ2 H3 fun y H4 => ∃ acc,H4 D = some (.lst acc) /\ acc.length < sizeLine /\ Nx (upd H4 D (.lst (acc ++ [y]))) else Nx H3) := by
 refine lc_list (xs := xs) (fun i H => Ext L H1 H /\ H D = some (.lst (((List.range i).filter p).map f))) ⟨Ext.new hD,upd_same⟩ (fun i H _ ⟨e,_⟩ => e.sqL ha) (fun i x H hx ⟨e,h⟩ => ?_) fun H ⟨e,h⟩ => hd H e h
 have hi : i < xs.length := (List.getElem?_eq_some_iff.mp hx).1
 refine hs i x H hx e _ _ (fun c H4 e4 => ?_) fun c H3 e3 => ?_
 ·have h4 := e4.lst h
  refine ⟨_,h4,Nat.lt_of_le_of_lt (filt_len p f i) (Nat.lt_of_lt_of_le hi hn),(e.trans e4).set hD h4 rfl,?_⟩
  rw [upd_same,filt_snoc,if_pos c]
 ·refine ⟨e.trans e3,?_⟩
  rw [e3.lst h,filt_snoc,if_neg (by rw [c]; simp),List.append_nil]
structure At (H : Hp) (o : Nat -> HO) (is : List Nat) (as : List Addr) : Prop where
 len : as.length = is.length
 at_ : ∀ (m i : Nat) (a : Addr),is[m]? = some i -> as[m]? = some a -> H a = some (o i)
theorem At.ext {L : List Tbl} {H H' : Hp} {o : Nat -> HO} (ho : ∀ i,isTbl (o i) = false) {is : List Nat} {as : List Addr} (h : At H o is as) (e : Ext L H H') : At H' o is as :=
 ⟨h.len,fun m i a h1 h2 => e.1 _ _ (h.at_ m i a h1 h2) (ho i)⟩
theorem At.snoc {H : Hp} {o : Nat -> HO} {is : List Nat} {as : List Addr} {i : Nat} {a : Addr} (h : At H o is as) (ha : H a = some (o i)) : At H o (is ++ [i]) (as ++ [a]) := by
 refine ⟨by simp [h.len],fun m i' a' h1 h2 => ?_⟩
 by_cases c : m < is.length
 ·rw [List.getElem?_append_left c] at h1
  rw [List.getElem?_append_left (by rw [h.len]; exact c)] at h2
  exact h.at_ m i' a' h1 h2
 ·rw [List.getElem?_append_right (by omega)] at h1
  rw [List.getElem?_append_right (by rw [h.len]; omega)] at h2
  have hm : m - is.length = 0 := by
   obtain ⟨q,_⟩ := List.getElem?_eq_some_iff.mp h1
   simp at q; omega
  rw [hm] at h1
  rw [h.len,hm] at h2
  cases h1; cases h2
  exact ha
theorem At.upd {H : Hp} {o : Nat -> HO} {is : List Nat} {as : List Addr} {D : Addr} {u : HO} (h : At H o is as) (hD : ∀ a ∈ as,a ≠ D) : At (upd H D u) o is as :=
 ⟨h.len,fun m i a h1 h2 => by rw [upd_ne (hD a (List.mem_of_getElem? h2))]; exact h.at_ m i a h1 h2⟩
def fil (p : Nat -> Bool) (n : Nat) : List Nat := (List.range n).filter p
theorem fil_snoc (p : Nat -> Bool) (i : Nat) : fil p (i + 1) = fil p i ++ (if p i = true then [i] else []) := by
 unfold fil
 rw [List.range_succ,List.filter_append]
 congr 1
 by_cases c : p i = true
 ·rw [if_pos c,List.filter_cons,if_pos c]; rfl
 ·rw [if_neg c,List.filter_cons,if_neg c]; rfl
theorem fil_len (p : Nat -> Bool) (i : Nat) : (fil p i).length <= i := Nat.le_trans (List.length_filter_le _ _) (by simp)
structure RefL (L : List Tbl) (H1 : Hp) (D : Addr) (o : Nat -> HO) (is : List Nat) (H : Hp) : Prop where
 ext : Ext L H1 H
 ex : ∃ as : List Addr,H D = some (.lst (as.map V.ref)) /\ At H o is as /\ ∀ a ∈ as,a ≠ D
theorem RefL.more {o : Nat -> HO} (ho : ∀ i,isTbl (o i) = false) {is : List Nat} {i : Nat} {H H4 : Hp} {a : Addr} (hD : H1 D = none) (hn : is.length < sizeLine) (h : RefL L H1 D o is H) (e4 : Ext L H H4) (fr : H a = none) (h4 : H4 a = some (o i)) :
  ∃ acc,H4 D = some (.lst acc) /\ acc.length < sizeLine /\ RefL L H1 D o (is ++ [i]) (upd H4 D (.lst (acc ++ [.ref a]))) := by
 obtain ⟨as,hd,at_,nd⟩ := h.ex
 have aD : a ≠ D := fun z => by rw [z,hd] at fr; cases fr
 refine ⟨_,e4.lst hd,by rw [List.length_map,at_.len]; exact hn,(h.ext.trans e4).set hD (e4.lst hd) rfl,as ++ [a],by rw [upd_same,List.map_append]; rfl,?_,?_⟩
 ·exact ((at_.ext ho e4).snoc h4).upd fun b hb => by
   rcases List.mem_append.mp hb with z | z
   ·exact nd b z
   ·rw [List.mem_singleton] at z; rw [z]; exact aD
 ·intro b hb
  rcases List.mem_append.mp hb with z | z
  ·exact nd b z
  ·rw [List.mem_singleton] at z; rw [z]; exact aD
theorem RefL.same {o : Nat -> HO} (ho : ∀ i,isTbl (o i) = false) {is : List Nat} {H H3 : Hp} (h : RefL L H1 D o is H) (e3 : Ext L H H3) : RefL L H1 D o is H3 := by
 obtain ⟨as,hd,at_,nd⟩ := h.ex
 exact ⟨h.ext.trans e3,as,e3.lst hd,at_.ext ho e3,nd⟩
theorem lcR_range {lo : Int} {n : Nat} (p : Nat -> Bool) (o : Nat -> HO) (ho : ∀ i,isTbl (o i) = false) (hn : n <= sizeLine) (hD : H1 D = none)
  (hs : ∀ i H,i < n -> Ext L H1 H -> ∀ (Kt : V -> Hp -> Prop) (N : Hp -> Prop),(p i = true -> ∀ a H4,Ext L H H4 -> H a = none -> H4 a = some (o i) -> Kt (.ref a) H4) -> (p i = false -> ∀ H3,Ext L H H3 -> N H3) →
   g (.int (lo + i)) (wipe σ vs) H fun σ2 H2 => wipe σ2 vs = wipe σ vs /\ tt σ2 H2 fun b H3 => if b = true then te σ2 H3 Kt else N H3)
  (hd : ∀ H,RefL L H1 D o (fil p n) H -> Qd H) :
  ∃ W : Nat -> Nat -> Hp -> Prop,(∃ m,W 0 m (upd H1 D (.lst []))) /\ ∀ i m H,W i m H →
   ((Itr lo n).stop i H /\ Qd H) ∨ ((Itr lo n).go i H /\ ∃ Nx : Hp -> Prop,(∀ H',Nx H' -> ∃ m',m' < m /\ W (i + 1) m' H') /\ ∀ x H',(Itr lo n).yld i H x H' -> g x (wipe σ vs) H' fun σ2 H2 => wipe σ2 vs = wipe σ vs /\ tt σ2 H2 fun b H3 =>
    if b = true then te σ2 H3 fun y H4 => ∃ acc,H4 D = some (.lst acc) /\ acc.length < sizeLine /\ Nx (upd H4 D (.lst (acc ++ [y]))) else Nx H3) := by
 refine lc_range (fun i H => RefL L H1 D o (fil p i) H) ⟨Ext.new hD,[],upd_same,⟨rfl,fun m i a h => by simp [fil] at h⟩,fun a h => by cases h⟩ (fun i H hi h => ?_) fun H h => hd H h
 refine hs i H hi h.ext _ _ (fun c a H4 e4 fr h4 => ?_) fun c H3 e3 => ?_
 ·have q := h.more ho (i := i) hD (Nat.lt_of_le_of_lt (fil_len p i) (Nat.lt_of_lt_of_le hi hn)) e4 fr h4
  rw [fil_snoc,if_pos c]; exact q
 ·rw [fil_snoc,if_neg (by rw [c]; simp),List.append_nil]
  exact h.same ho e3
theorem lcR_list {K : W.Frag} {a : Addr} {xs : List V} (p : Nat -> Bool) (o : Nat -> HO) (ho : ∀ i,isTbl (o i) = false) (hn : xs.length <= sizeLine) (ha : SqL K H1 a xs) (hD : H1 D = none)
  (hs : ∀ i x H,xs[i]? = some x -> Ext L H1 H -> ∀ (Kt : V -> Hp -> Prop) (N : Hp -> Prop),(p i = true -> ∀ a H4,Ext L H H4 -> H a = none -> H4 a = some (o i) -> Kt (.ref a) H4) -> (p i = false -> ∀ H3,Ext L H H3 -> N H3) →
   g x (wipe σ vs) H fun σ2 H2 => wipe σ2 vs = wipe σ vs /\ tt σ2 H2 fun b H3 => if b = true then te σ2 H3 Kt else N H3)
  (hd : ∀ H,RefL L H1 D o (fil p xs.length) H -> Qd H) :
  ∃ W : Nat -> Nat -> Hp -> Prop,(∃ m,W 0 m (upd H1 D (.lst []))) /\ ∀ i m H,W i m H →
   ((Itl K a).stop i H /\ Qd H) ∨ ((Itl K a).go i H /\ ∃ Nx : Hp -> Prop,(∀ H',Nx H' -> ∃ m',m' < m /\ W (i + 1) m' H') /\ ∀ x H',(Itl K a).yld i H x H' -> g x (wipe σ vs) H' fun σ2 H2 => wipe σ2 vs = wipe σ vs /\ tt σ2 H2 fun b H3 =>
    if b = true then te σ2 H3 fun y H4 => ∃ acc,H4 D = some (.lst acc) /\ acc.length < sizeLine /\ Nx (upd H4 D (.lst (acc ++ [y]))) else Nx H3) := by
 refine lc_list (xs := xs) (fun i H => RefL L H1 D o (fil p i) H) ⟨Ext.new hD,[],upd_same,⟨rfl,fun m i a h => by simp [fil] at h⟩,fun a h => by cases h⟩ (fun i H _ h => h.ext.sqL ha) (fun i x H hx h => ?_) fun H h => hd H h
 have hi : i < xs.length := (List.getElem?_eq_some_iff.mp hx).1
 refine hs i x H hx h.ext _ _ (fun c a H4 e4 fr h4 => ?_) fun c H3 e3 => ?_
 ·have q := h.more ho (i := i) hD (Nat.lt_of_le_of_lt (fil_len p i) (Nat.lt_of_lt_of_le hi hn)) e4 fr h4
  rw [fil_snoc,if_pos c]; exact q
 ·rw [fil_snoc,if_neg (by rw [c]; simp),List.append_nil]
  exact h.same ho e3
end
theorem scM {N ps : List Str} {sc : Scope} (h : FnScope N ps sc := by exact ⟨rfl,rfl,rfl,by decide +kernel,rfl,by decide +kernel,by decide +kernel⟩) : FnScope N ps sc := h
end Cs
end
section
set_option Elab.async false
set_option linter.all false
set_option maxRecDepth 100000
set_option maxHeartbeats 4000000
namespace Cs
open PySem PySem.Spec PyProof.Rows L2
open PySem.W (kla_fn kla_obj kla_eval kla_makeFunction kla_makeFunctionHit kla_callFunE kla_codeExpr CodeHd tabObj envX)
def BM (mg : Str -> Option Value) (base : Heap) : Prop :=
 ∃ bm o,mg "__builtins__" = some (.ref bm) /\ bm ≠ builtinsNs /\ base.get? bm = some o /\ o.cls = .type "module" /\ o.dict = some builtinsNs /\ o.data = .plain
def funO (f : Addr) (o : Obj) : HO := .ext fun h => h.get? f = some o
section
variable {X : Cx} {pins : List (Addr × Obj)} {σ : L2.St} {H : Hp} {s : Shared} {c P : Addr}
theorem tbl_at (I : Inv X pins σ H s) {ps : Array Value} (h : H P = some (.tbl ps)) : s.heap.get? P = some (tabObj ps) := I.hok P _ h
theorem code_at (I : Inv X pins σ H s) {q : Str} (h : H c = some (codeO c q)) : s.heap.CodeRec (.ref c) q := (I.hok c _ h).1
theorem bm_at (I : Inv X pins σ H s) {ps : Array Value} (b : BM X.mg X.base) (h : H P = some (.tbl ps)) : s.heap.BuiltinsAt X.mg P /\ mainGlobals ≠ P := by
 obtain ⟨bm,o,b1,b2,b3,b4,b5,b6⟩ := b
 have hg := I.mod.glob.keeps I.bk
 obtain ⟨og,es,ep,g1,g2,_⟩ := id hg
 have hP := tbl_at I h
 have e := I.bk _ _ b3
 refine ⟨⟨bm,o,b1,b2,fun z => ?_,fun z => ?_,e,b4,b5,b6⟩,fun z => ?_⟩
 ·rw [z,g1] at e; cases e; rw [g2] at b6; cases b6
 ·rw [z,hP] at e; cases e; cases b4
 ·rw [z,hP] at g1; cases g1; cases g2
theorem made_new (I : Inv X pins σ H s) {ps ps' : Array Value} (hp : H P = some (.tbl ps)) {h' : Heap} {c' : Addr} {q : Str} {fo : Obj} {tk : Nat} {more : Array Value} (nf : fo.isFreed = false) (em : ps' = ps ++ more)
  (hx : Heap.ExtBut P s.heap h') (h1 : s.heap.objs.size <= c') (h2 : c' < h'.objs.size) (hc : h'.CodeRec (.ref c') q) (ht : h'.get? P = some (tabObj ps')) :
  Inv X pins σ (upd (upd (upd H P (.tbl ps')) c' (codeO c' q)) h'.objs.size (funO h'.objs.size fo)) { s with heap := h'.push fo,toks := tk } := by
 have nP : ∀ b,H b = none -> b ≠ P := fun b e z => by rw [z,hp] at e; cases e
 have lt : ∀ b o,s.heap.get? b = some o -> b ≠ c' /\ b ≠ h'.objs.size := fun b o e => by
  have := Heap.lt_size e
  exact ⟨Nat.ne_of_lt (Nat.lt_of_lt_of_le this h1),Nat.ne_of_lt (Nat.lt_trans (Nat.lt_of_lt_of_le this h1) h2)⟩
 have old : ∀ b u,H b = some u -> b ≠ c' /\ b ≠ h'.objs.size := fun b u e => by
  have := I.hok.lt e
  exact ⟨Nat.ne_of_lt (Nat.lt_of_lt_of_le this h1),Nat.ne_of_lt (Nat.lt_trans (Nat.lt_of_lt_of_le this h1) h2)⟩
 have kp : ∀ b o,b ≠ P -> s.heap.get? b = some o -> (h'.push fo).get? b = some o := fun b o n e => Heap.get?_push_of_some _ (hx b o n e)
 have look : ∀ b,b ≠ P -> b ≠ c' -> b ≠ h'.objs.size -> (upd (upd (upd H P (.tbl ps')) c' (codeO c' q)) h'.objs.size (funO h'.objs.size fo)) b = H b := fun b n1 n2 n3 => by
  rw [upd_ne n3,upd_ne n2,upd_ne n1]
 have Pc : P ≠ c' /\ P ≠ h'.objs.size := old P _ hp
 refine I.un (t' := tk) ⟨fun b o e n _ _ => kp b o (nP b n) e,fun b o e n _ _ => ⟨o.slots,kp b o (nP b n) e⟩,fun b o e n _ => ?_,fun b o e _ => ?_,fun b xs e => ?_,fun b o u e => ?_,fun b qs e => ?_⟩ fun b u e => ?_
 ·rw [look b (nP b n) (lt b o e).1 (lt b o e).2]; exact n
 ·by_cases z : b = P
  ·exact ⟨_,by rw [z]; exact Heap.get?_push_of_some _ ht⟩
  ·exact ⟨o,kp b o z e⟩
 ·rw [look b (fun z => by rw [z,hp] at e; cases e) (old b _ e).1 (old b _ e).2]; exact e
 ·rw [look b (fun z => by rw [z,hp] at e; cases e) (old b _ e).1 (old b _ e).2]; exact e
 ·by_cases z : b = P
  ·subst z
   rw [hp] at e
   cases e
   exact ⟨more,by rw [upd_ne Pc.2,upd_ne Pc.1,upd_same,em]⟩
  ·exact ⟨#[],by rw [look b z (old b _ e).1 (old b _ e).2,e]; simp⟩
 ·by_cases zf : b = h'.objs.size
  ·subst zf
   rw [upd_same] at e
   cases e
   exact ⟨Heap.get?_push_size _ nf,⟨_,Heap.get?_push_size _ nf⟩,fun g1 g2 q1 q2 => q2 _ q1⟩
  ·rw [upd_ne zf] at e
   by_cases zc : b = c'
   ·subst zc
    rw [upd_same] at e
    cases e
    obtain ⟨c2,oc,vs,t,e1,e2,e3,e4⟩ := id hc
    cases e1
    exact ⟨⟨_,oc,vs,t,rfl,Heap.get?_push_of_some _ e2,e3,e4⟩,⟨_,Heap.get?_push_of_some _ e2⟩,fun g1 g2 ⟨c3,o3,v3,t3,f1,f2,f3,f4⟩ q2 => by cases f1; exact ⟨_,o3,v3,t3,rfl,q2 _ f2,f3,f4⟩⟩
   ·rw [upd_ne zc] at e
    by_cases zP : b = P
    ·subst zP
     rw [upd_same] at e
     cases e
     exact Heap.get?_push_of_some _ ht
    ·rw [upd_ne zP] at e
     refine (I.hok b u e).stay (fun d v hd q => kp d v ?_ q) (fun d q => ?_) fun d xs q => ?_
     ·rcases hd with z | z
      ·rw [z]; exact zP
      ·intro y; rw [y,hp] at z; cases z
     ·rw [look d (fun z => by rw [z,hp] at q; cases q) (old d _ q).1 (old d _ q).2]; exact q
     ·rw [look d (fun z => by rw [z,hp] at q; cases q) (old d _ q).1 (old d _ q).2]; exact q
variable {L : List Tbl} {q : Str} {pos : Pos} {params : Arguments} {body : Expr} {scope : Scope}
theorem lam_make {A : Around} {E : Value -> Shared -> Prop} {Q : VK} (I : Inv X pins σ H s) (b : BM X.mg X.base) (C : CodeHd X.base c P) (hcode : X.env.code = .ref c) (hL : (P,pos,q) ∈ L) (one : ∀ t ∈ L,t.1 = P -> t = (P,pos,q)) (T : TabsOk L H)
  (eq : X.env.qual ++ "<lambda>" = q) (hdef : defaultsOf params X.env = ([],[])) (hfree : ∀ y ∈ scope.names,y.2 = .free -> ∃ d,X.env.cells.lookup y.1 = some d)
  (h : ∀ f c' ctv H',Ext L H H' -> H f = none -> H' f = some (funO f (kla_obj "<lambda>" q params body scope (cloFrom X.env.cells scope.names []) ((X.mg "__name__").getD .none) c' ctv)) -> H' c' = some (codeO c' q) -> Q (.ref f) H') :
  wpAny (model X.prog X.w) A (eval (.Lambda params body scope pos) X.env) (EP X pins σ Q) E s := by
 refine kla_eval hdef ?_
 rw [eq]
 have hcl := closure_ok (scope := scope) (env := X.env) hfree
 have hg := I.mod.glob.keeps I.bk
 rcases T _ hL with hp | ⟨c',hp,hc'⟩
 ·obtain ⟨hb,hgP⟩ := bm_at I b hp
  refine kla_makeFunction (mg := X.mg) hcl I.ok.glob hg hcode (C.keeps I.bk) (tbl_at I hp) trivial rfl hgP hb fun c' ctv h' tk hx h1 h2 hc ht => ?_
  have J := made_new (tk := tk) (fo := kla_obj "<lambda>" q params body scope (cloFrom X.env.cells scope.names []) ((X.mg "__name__").getD .none) c' ctv) I hp rfl rfl hx h1 h2 hc ht
  have oldc : ∀ d u,H d = some u -> d ≠ c' /\ d ≠ h'.objs.size := fun d u e => by
   have := I.hok.lt e
   exact ⟨Nat.ne_of_lt (Nat.lt_of_lt_of_le this h1),Nat.ne_of_lt (Nat.lt_trans (Nat.lt_of_lt_of_le this h1) h2)⟩
  have Pc := oldc P _ hp
  have hf0 : H h'.objs.size = none := I.hok.fresh (Nat.le_of_lt (Nat.lt_of_le_of_lt h1 h2))
  refine ⟨.ref h'.objs.size,_,J,rfl,h _ c' ctv _ ⟨fun d o e n => ?_,fun T' t ht' => ?_,fun b z => ?_⟩ hf0 upd_same ?_⟩
  ·have dP : d ≠ P := fun z => by rw [z,hp] at e; cases e; cases n
   rw [upd_ne (oldc d o e).2,upd_ne (oldc d o e).1,upd_ne dP]; exact e
  ·by_cases z : t.1 = P
   ·rw [one t ht' z]
    refine .inr ⟨c',?_,?_⟩
    ·rw [upd_ne Pc.2,upd_ne Pc.1,upd_same]; rfl
    ·rw [upd_ne (Nat.ne_of_lt h2),upd_same]
   ·rcases T' t ht' with k | ⟨d,k1,k2⟩
    ·refine .inl ?_
     rw [upd_ne (oldc _ _ k).2,upd_ne (oldc _ _ k).1,upd_ne z]; exact k
    ·refine .inr ⟨d,?_,?_⟩
     ·rw [upd_ne (oldc _ _ k1).2,upd_ne (oldc _ _ k1).1,upd_ne z]; exact k1
     ·rw [upd_ne (oldc _ _ k2).2,upd_ne (oldc _ _ k2).1,upd_ne (fun y => by rw [y,hp] at k2; cases k2)]; exact k2
  ·have z1 := upd_free z
   have z2 := upd_free z1
   by_cases y : b = P
   ·rw [y,upd_same] at z2; cases z2
   ·rw [upd_ne y] at z2; exact z2
  ·rw [upd_ne (Nat.ne_of_lt h2),upd_same]
 ·obtain ⟨hb,hgP⟩ := bm_at I b hp
  refine kla_makeFunctionHit (mg := X.mg) (cv := .ref c') hcl I.ok.glob hg hcode (C.keeps I.bk) (tbl_at I hp) (by simp [TriplesOk,rawInt]) (by simp [codeAmong,rawInt]) hb fun ctv h' tk hk hsz => ?_
  have J : Inv X pins σ (upd H h'.objs.size (funO h'.objs.size (kla_obj "<lambda>" q params body scope (cloFrom X.env.cells scope.names []) ((X.mg "__name__").getD .none) c' ctv)))
    { s with heap := h'.push (kla_obj "<lambda>" q params body scope (cloFrom X.env.cells scope.names []) ((X.mg "__name__").getD .none) c' ctv),toks := tk } :=
   I.laid (fun b o e => Heap.get?_push_of_some _ (hk b o e)) hsz ⟨Heap.get?_push_size _ rfl,⟨_,Heap.get?_push_size _ rfl⟩,fun g1 g2 q1 q2 => q2 _ q1⟩
  have hf0 : H h'.objs.size = none := I.hok.fresh hsz
  exact ⟨.ref h'.objs.size,_,J,rfl,h _ c' ctv _ (Ext.new hf0) hf0 upd_same (by rw [upd_ne (ne_of_none hc' hf0)]; exact hc')⟩
end
section
variable {P : Program} {w : World} {K : W.Frag} {mg : Str -> Option Value} {base : Heap} {A : Around} {outer : List Env} {s : Shared} {H : Hp}
def cxLam (P : Program) (w : World) (K : W.Frag) (mg : Str -> Option Value) (base : Heap) (N : List Str) (q : Str) (scope : Scope) (f : Addr) (cd : Value) (cl : List (Str × Addr)) (A : Around) (outer : List Env) (s : Shared) (H : Hp) : Cx where
 prog := P
 w := w
 K := K
 mg := mg
 base := base
 A := A.deeper (envX q scope s.heap.objs.size f cd cl)
 N := N
 s_0 := s
 H_0 := H
 env := envX q scope s.heap.objs.size f cd cl
 outer := outer
 stack := envX q scope s.heap.objs.size f cd cl :: outer
 ex := []
 calm := true
 fn := fun _ => false
 pn := []
 xe := fun _ _ => False
structure LamOk (x y : Str) (q : Str) (params : Arguments) (body : Expr) (scope : Scope) : Prop where
 kind : scope.kind = .function
 co : scope.isCoroutine = false
 gen : scope.isGenerator = false
 par : scope.names.lookup x = some .local
 fre : scope.names.lookup y = some .free
 nocell : ∀ z ∈ scope.names,z.2 ≠ .cell
 only : ∀ z,scope.names.lookup z = some .free -> z = y
 ne : x ≠ y
 bind : ∀ (cl : List (Str × Addr)) (pm cd ct u : Value),bindArgs (kla_fn "<lambda>" q params body scope cl pm cd ct) ⟨[u],[]⟩ = pure [(x,u)]
theorem lam_run {x y q : Str} {params : Arguments} {body : Expr} {scope : Scope} (S : LamOk x y q params body scope) {k : Nat} (hr : Room k A) (e0 : Env0 P w K mg base A outer s H) {f c' cc : Addr} {pm ctv u uy : Value} {v vy : V}
  (hf : s.heap.get? f = some (kla_obj "<lambda>" q params body scope [(y,cc)] pm c' ctv)) (hc : s.heap.CodeRec (.ref c') q) (hcell : s.heap.IsCell cc (some uy)) (ry : RelV vy uy) (Hcc : H cc = none) (rv : RelV v u) {Qr : VK} {te : TE}
  (hb : PE (cxLam P w K mg base [x,y] q scope f (.ref c') [(y,cc)] A outer s H) body te) (hq : te [some v,some vy] H Qr) :
  codeAny (model P w) A (.call (.ref f) ⟨[u],[]⟩) (CR CX0 outer P w H s Qr E0) s := by
 have lim : s.heap.NoLimit := e0.mod.nolimit.keeps fun b o e => (e0.bs b o e).1
 refine kla_callFunE hr.depth hf rfl S.co S.gen rfl hc ?_
 rw [S.bind]
 refine wpAny_pure (wpAny_newFunctionEnv S.nocell (fun z hz => by rw [List.mem_singleton] at hz; rw [hz]; exact S.par) (fun h1 hns hsb => ⟨lim.fresh _ hsb,?_⟩) S.kind)
 show codeAny _ _ (.expr body (envX q scope s.heap.objs.size f (.ref c') [(y,cc)])) _ _
 have hk : ∀ b o,s.heap.get? b = some o -> h1.get? b = some o := fun b o e => hsb.extBut b o (Nat.ne_of_lt (Heap.lt_size e)) (Heap.get?_push_of_some _ e)
 obtain ⟨oc,hoc,hocd⟩ := id hcell
 have lk : ∀ z d,([(y,cc)] : List (Str × Addr)).lookup z = some d -> z = y /\ d = cc := fun z d e => by
  by_cases hz : z = y
  ·subst hz
   simp at e
   exact ⟨rfl,e.symm⟩
  ·have hb : (z == y) = false := beq_eq_false_iff_ne.mpr hz
   simp [List.lookup,hb] at e
 have noA : ∀ b : Addr,b ∉ (cxLam P w K mg base [x,y] q scope f (.ref c') [(y,cc)] A outer s H).ex := fun b z => absurd (show b ∈ ([] : List Addr) from z) (by simp)
 have lky : ([(y,cc)] : List (Str × Addr)).lookup y = some cc := by simp
 have I : Inv (cxLam P w K mg base [x,y] q scope f (.ref c') [(y,cc)] A outer s H) [] [some v,some vy] H { s with heap := h1,toks := s.toks + 1 } := by
  refine ⟨⟨e0.mod,S.kind,rfl,rfl,Nat.le_refl _,fun a b d ea eb => ?_,fun z hz => ?_,fun z d hz => (by cases hz),fun _ => hr.hd,Around.frames_deeper e0.frames,.inr ⟨rfl,rfl⟩,fun b z => absurd z (noA b),e0.bs,e0.bsz,fun b _ _ => noA b,fun b z => absurd z (noA b),e0.funs,e0.frf⟩,
   rfl,e0.bare,Un.kept hk,⟨_,hns,fun i z v' h2 h3 h4 => ?_⟩,fun z d e => ?_,e0.hok.fresh (Nat.le_refl _),fun z d e => ?_,fun p hp => absurd (show p ∈ ([] : List (Addr × Obj)) from hp) (by simp),e0.hok.kept hk,rfl⟩
  ·exact (lk a d ea).1.trans (lk b d eb).1.symm
  ·have hz : scope.names.lookup z = some .cell ∨ scope.names.lookup z = some .free := hz
   rcases hz with hz | hz
   ·exact absurd rfl (S.nocell _ (PySem.mem_of_lookup hz))
   ·rw [S.only z hz]; exact ⟨cc,lky⟩
  ·match i,h2,h3 with
   | 0,h2,h3 =>
    have e1 : x = z := Option.some.inj h2
    have e2 : v = v' := Option.some.inj (Option.some.inj h3)
    subst e1; subst e2
    exact ⟨u,rv,.inl ⟨S.par,by simp⟩⟩
   | 1,h2,h3 =>
    have e1 : y = z := Option.some.inj h2
    have e2 : vy = v' := Option.some.inj (Option.some.inj h3)
    subst e1; subst e2
    exact ⟨uy,ry,.inr ⟨.inr S.fre,cc,lky,⟨oc,hk _ _ hoc,hocd⟩⟩⟩
   | i + 2,h2,h3 => simp at h3
  ·obtain ⟨_,rfl⟩ := lk z d e
   exact ⟨some uy,⟨oc,hk _ _ hoc,hocd⟩⟩
  ·obtain ⟨_,rfl⟩ := lk z d e
   exact Hcc
 refine kla_codeExpr (wpAny_mono (hb [] _ _ H Qr I hq) (fun r s' ⟨v',H',J,rv',q'⟩ => ?_) fun e s' z => False.elim z)
 exact ⟨v',H',J.os,J.bare,J.base,J.hok,rv',q'⟩
end
end Cs
end
section
set_option Elab.async false
set_option linter.all false
set_option maxRecDepth 100000
set_option maxHeartbeats 4000000
namespace Cs
open PySem PySem.Spec PyProof.Rows L2
open PySem.W (WData Codec OpenSpec Well WellAll ReadsW ReadsAllW CodeHd TabsAt tabObj noTabs)
def tabH (tabs : List (Addr × Addr)) (H : Hp) : Hp := fun b => if b ∈ tabs.map (·.2) then some (.tbl #[]) else H b
theorem tabH_in {tabs : List (Addr × Addr)} {H : Hp} {b : Addr} (h : b ∈ tabs.map (·.2)) : tabH tabs H b = some (.tbl #[]) := by unfold tabH; rw [if_pos h]
theorem tabH_out {tabs : List (Addr × Addr)} {H : Hp} {b : Addr} (h : b ∉ tabs.map (·.2)) : tabH tabs H b = H b := by unfold tabH; rw [if_neg h]
def Asked (K : W.Frag) (tabs : List (Addr × Addr)) (ds : List WData) (d0 : WData) (sp : Sp) : Prop :=
 ∀ (H0 H : Hp) (xs : List V),OnlyF H0 -> DwAll K H0 xs ds -> (∀ b u,H0 b = some u -> H b = some u) -> (∀ q ∈ tabs,H q.2 = some (.tbl #[])) -> sp xs H (fun v H' => Dw K H' v d0) fun _ _ _ => False
theorem spec_callT {P : Program} {w : World} {K : W.Frag} {mg mb : Str -> Option Value} {k : Nat} {fa : Addr} {fd : FuncData} {ps : List Str} {sp : Sp} {s₁ : Shared} {vals : List Value} {ds : List WData} {R : W.WRecords} {cl : Str -> Option Addr} {d0 : WData} {tabs : List (Addr × Addr)}
  (KX : K.In s₁.heap) (hT : TabsAt tabs s₁.heap) (hK0 : noTabs K = true) (hns : s₁.heap.Ns mainGlobals mg) (hb : s₁.heap.Ns builtinsNs mb) (hbb : ∀ x : Str,x ≠ "__name__" -> mb x = bootBuiltins x) (hlim : s₁.heap.NoLimit) (hbm : BM mg s₁.heap) (hg : s₁.gens = #[])
  (hwl : WellAll w.params s₁.heap vals ds) (hpl : plWs ds = true) (hwt : ∀ d ∈ ds,d.weight <= 1048576) (hr : Room k callerA)
  (F : ∀ base : Heap,K.In base -> base.Ns mainGlobals mg -> BM mg base -> (∀ q ∈ tabs,CodeHd base q.1 q.2) -> FnOk P w K mg base CX0 k fa fd ps sp) (hbind : ∀ (s : Shared) (us : List Value),us.length = ps.length -> BindsTo s fd ⟨us,[]⟩ (ps.zip us)) (hlen : ds.length = ps.length)
  (hsp : Asked K tabs ds d0 sp) :
  codeAny (model P w) callerA (.call (.ref fa) ⟨vals,[]⟩) (fun r s' => ∃ u as,r = .ok (.ret u) /\ ReadsW R cl s'.heap u d0 as /\ OldK s₁.heap s'.heap /\ s'.os = s₁.os /\ AllBare s'.gens) s₁ := by
 obtain ⟨A,ho,ar⟩ := area_all ds vals hwl hpl hwt
 have hO : OnlyF (argH K s₁.heap A) := argH_only ar
 have hok : HOk P w (argH K s₁.heap A) s₁.heap := argH_ok ar
 have hS := dw_all KX ar ds vals hwl hpl ho
 have hV := vals_toV ho
 have tabAt : ∀ b ∈ tabs.map (·.2),s₁.heap.get? b = some (tabObj #[]) := fun b hb' => by
  obtain ⟨q,hq,rfl⟩ := List.mem_map.mp hb'
  exact (hT q hq).2
 have noA : ∀ {b : Addr} {o : Obj},s₁.heap.get? b = some o -> (∀ xs n,o.data ≠ .seq xs n) -> argH K s₁.heap A b = none := fun {b o} e d => by
  cases q : argH K s₁.heap A b with
  | none => rfl
  | some u =>
   obtain ⟨_,vs,_,_,⟨e2,_⟩ | ⟨e2,_⟩⟩ := argH_is ar q
   ·rw [e2] at e
    cases e
    exact absurd rfl (d _ _)
   ·rw [e2] at e
    cases e
    exact absurd rfl (d _ _)
 have hK : ∀ b u,argH K s₁.heap A b = some u -> K.lookup b = none := fun b u q => (argH_is ar q).1
 have kT : ∀ b o,K.lookup b = some o -> b ∉ tabs.map (·.2) := fun b o e hb' => by
  have e2 := KX b o e
  rw [tabAt b hb'] at e2
  have h2 := List.all_eq_true.mp hK0 (b,o) (W.mem_of_lookupK e)
  cases e2
  exact absurd (show false = true from h2) Bool.false_ne_true
 generalize hH0 : argH K s₁.heap A = H0 at hO hok hS hK noA
 have up : ∀ b u,H0 b = some u -> tabH tabs H0 b = some u := fun b u e => by
  by_cases c : b ∈ tabs.map (·.2)
  ·have z := noA (tabAt b c) (fun xs n z => nomatch z)
   rw [z] at e; cases e
  ·rw [tabH_out c]; exact e
 have hokT : HOk P w (tabH tabs H0) s₁.heap := fun b u e => by
  by_cases c : b ∈ tabs.map (·.2)
  ·rw [tabH_in c] at e
   cases e
   exact tabAt b c
  ·rw [tabH_out c] at e
   exact (hok b u e).stay (fun _ _ _ q => q) (fun d q => up _ _ q) fun d xs q => up _ _ q
 have noH : ∀ {b : Addr} {o : Obj},s₁.heap.get? b = some o -> (∀ xs n,o.data ≠ .seq xs n) -> o ≠ tabObj #[] -> tabH tabs H0 b = none := fun {b o} e d n => by
  rw [tabH_out (fun c => by have z := tabAt b c; rw [e] at z; exact n (Option.some.inj z))]
  exact noA e d
 have hsp' := hsp H0 (tabH tabs H0) (vals.map toV) hO hS up fun q hq => tabH_in (List.mem_map_of_mem hq)
 have nK : ∀ b o,K.lookup b = some o -> tabH tabs H0 b = none := fun b o e => by
  rw [tabH_out (kT b o e)]
  cases q : H0 b with
  | none => rfl
  | some u => rw [hK b u q] at e; cases e
 have base_of : ∀ {b : Addr} {o : Obj},s₁.heap.get? b = some o -> tabH tabs H0 b = none -> (hidT s₁.heap (tabH tabs H0)).get? b = some o := fun e n => hidT_get e n
 have nsK : ∀ {b : Addr} {m : Str -> Option Value},s₁.heap.Ns b m -> (hidT s₁.heap (tabH tabs H0)).Ns b m := fun {b m} ⟨o,es,ep,e,d,r⟩ =>
  ⟨o,es,ep,base_of e (noH e (fun xs n z => by rw [d] at z; cases z) (fun z => by rw [z] at d; cases d)),d,r⟩
 have hKb : K.In (hidT s₁.heap (tabH tabs H0)) := fun b o e => base_of (KX b o e) (nK b o e)
 have hM : Mod K mg (hidT s₁.heap (tabH tabs H0)) := ⟨hKb,nsK hns,⟨mb,nsK hb,hbb⟩,let ⟨mc,h1,h2⟩ := hlim; ⟨mc,nsK h1,h2⟩⟩
 have e0 : Env0 P w K mg (hidT s₁.heap (tabH tabs H0)) callerA [] s₁ (tabH tabs H0) := ⟨rfl,hM,fun b o e => of_hidT e,Nat.le_of_eq (hidT_size _ _),trivial,fun b hb => absurd (show b ∈ ([] : List Addr) from hb) (by simp),hokT,.of_eq hg⟩
 have hl : vals.length = ps.length := by rw [wellAll_len hwl]; exact hlen
 have bmB : BM mg (hidT s₁.heap (tabH tabs H0)) := by
  obtain ⟨bm,o,b1,b2,b3,b4,b5,b6⟩ := hbm
  exact ⟨bm,o,b1,b2,base_of b3 (noH b3 (fun xs n z => by rw [b6] at z; cases z) (fun z => by rw [z] at b4; cases b4)),b4,b5,b6⟩
 have cdB : ∀ q ∈ tabs,CodeHd (hidT s₁.heap (tabH tabs H0)) q.1 q.2 := fun q hq => by
  obtain ⟨o,vs,file,tf,flags,tg,inF,text,tt,e1,r1,r2,r⟩ := (hT q hq).1
  exact ⟨o,vs,file,tf,flags,tg,inF,text,tt,base_of e1 (noH e1 (fun xs n z => by rw [r2] at z; cases z) (fun z => by rw [z] at r1; cases r1)),r1,r2,r⟩
 refine codeAny_mono ((F _ hKb (nsK hns) bmB cdB).run callerA [] s₁ (tabH tabs H0) ⟨vals,[]⟩ vals (vals.map toV) _ _ hr e0 (hbind s₁ vals hl) hV hsp') fun r s' x => ?_
 cases r with
 | error e => exact x.elim
 | ok fl =>
  cases fl with
  | next => exact False.elim x
  | brk => exact False.elim x
  | cont => exact False.elim x
  | ret u =>
   obtain ⟨v,H',os,bare,un,hok',r',q⟩ := x
   have kept : ∀ b o,b ∉ tabs.map (·.2) -> s₁.heap.get? b = some o -> s'.heap.get? b = some o := fun b o nb e => by
    cases q2 : tabH tabs H0 b with
    | none => exact un.keep b o e q2 (by intro z; exact absurd (show b ∈ ([] : List Addr) from z) (by simp)) (by simp)
    | some u2 =>
     have q3 := q2
     rw [tabH_out nb] at q3
     rcases hO b with z | ⟨ob,u3,z⟩
     ·rw [q3] at z
      cases z
     ·have z2 := un.frzs b ob _ (up _ _ z)
      obtain ⟨e1,_⟩ := hok b _ z
      obtain ⟨e2,_⟩ := hok' b _ z2
      rw [e] at e1
      cases e1
      exact e2
   have grown : ∀ b ∈ tabs.map (·.2),∃ ps,s'.heap.get? b = some (tabObj ps) := fun b hb' => by
    obtain ⟨more,z⟩ := un.tbls b #[] (tabH_in hb')
    exact ⟨_,hok' b _ z⟩
   have KX' : K.In s'.heap := fun b o e => kept b o (kT b o e) (KX b o e)
   obtain ⟨as,hrd⟩ := Dw.reads (R := R) (cl := cl) hok' KX' d0 v u q r'
   refine ⟨u,as,rfl,hrd,⟨fun b o e => ?_,fun b o e => ?_⟩,os,bare⟩
   ·by_cases c : b ∈ tabs.map (·.2)
    ·obtain ⟨ps',hps⟩ := grown b c
     obtain ⟨q',hq,eb⟩ := List.mem_map.mp c
     have e3 := tabAt b c
     rw [e] at e3
     cases e3
     have ct := ((hT q' hq).1.tab (hT q' hq).2).isCodeTable
     rw [eb] at ct
     exact .inr (.inl ⟨ct,rfl,#[],ps',rfl,by rw [Array.empty_append]; exact hps⟩)
    ·exact .inl (kept b o c e)
   ·by_cases c : b ∈ tabs.map (·.2)
    ·obtain ⟨ps',hps⟩ := grown b c
     exact ⟨_,hps⟩
    ·exact ⟨o,kept b o c e⟩
theorem walk_specT {r : OpenSpec} {k : Nat} {q : Program} {loose : List Str} {XP : (Str -> Option Value) -> Heap -> Prop} {YP : World -> Heap -> Prop} {d : DefRec} {K : Params -> W.Frag} {ps : List Str}
  (hwell : r.wellSaid = true) (hdf : d.params.defaults = []) (hlen : r.args.length = ps.length) (hr : Room k callerA)
  (hY : ∀ (w : World) (h : Heap),YP w h -> (K w.params).In h)
  (F : ∀ (w : World) (mg mb : Str -> Option Value) (mean : ExcName -> Option Value) (fa : Addr) (h : Heap),(K w.params).In h -> Top q (W.looseW q loose) mean mg mb h -> mg d.name = some (.ref fa) →
   ∃ (fd : FuncData) (tabs : List (Addr × Addr)) (sp : Sp),(∀ (s : Shared) (us : List Value),us.length = ps.length -> BindsTo s fd ⟨us,[]⟩ (ps.zip us)) /\ TabsAt tabs h /\ noTabs (K w.params) = true ∧
    (∀ base : Heap,(K w.params).In base -> base.Ns mainGlobals mg -> BM mg base -> (∀ q ∈ tabs,CodeHd base q.1 q.2) -> FnOk r.prog w (K w.params) mg base CX0 k fa fd ps sp) ∧
    ∀ a : Codec.denoteAll r.args,Codec.withinAll r.args a = true -> Codec.app r.args r.asked a = true -> Asked (K w.params) tabs (Codec.encAll r.args a) (r.ret.enc (Codec.app r.args r.f a)) sp) :
  W.WalkOS q loose XP YP r d [] (fun f vs => PySem.call f vs) := by
 intro w s_0 s₁ mg mb G Y fa o pm cd doc dV kV ho hd hcd hD hmg hg args vals as hpre hlay hrd hwl hlo
 obtain ⟨a,e1,e2⟩ := W.os_pre_some hpre
 obtain ⟨e3,hwi⟩ := Codec.encAll_of_decAll r.args args a e1
 subst e3
 have KX := hY w _ Y
 obtain ⟨fd,tabs,sp,hb,hT,hK0,hF,hS⟩ := F w mg mb _ fa _ KX G.T hmg
 refine W.enter_call (codeAny_mono (spec_callT (R := []) (cl := classAt s_0.heap) (d0 := r.ret.enc (Codec.app r.args r.f a)) KX hT hK0 G.T.g G.T.b G.T.builtins G.T.nolimit G.T.bmain hg hwl (pl_encAll _ _) (layable_weight hlay) hr hF hb (by rw [encAll_len]; exact hlen)
  (hS a hwi e2)) fun r' s' hq => ?_)
 obtain ⟨u,as',rfl,h1,h2,h3,h4⟩ := hq
 exact ⟨.inl ⟨u,_,as',rfl,fun _ => rfl,h1,(OpenSpec.post_iff hwell hwi _ _).mpr rfl,fun z => Bool.noConfusion (show false = true from z)⟩,h2,h3,h4⟩
end Cs
end
section
set_option Elab.async false
set_option linter.all false
set_option maxRecDepth 100000
set_option maxHeartbeats 4000000
namespace Cs
open PySem PySem.Spec PyProof.Rows L2
open Vbedai (State need points shiftOf on numbers there total gathered lastEnd firstStart bare eased does leastK missing crewsIn changesIn minutesIn okJ okT inR)
open VM
def top (i : Nat) : Stmt := PySem.Challenge.pw_crewshifts_s01_answers.main.body.getD i (.Pass ⟨0,0,0,0⟩)
structure Gd where
 K : W.Frag
 CP : Addr
 CW : Addr
 L : List Tbl
def GlI (mg : Str -> Option Value) (x : Str) (z : Int) : Prop := ∃ t,mg x = some (.int z t)
theorem pe_gi {X : Cx} {x : Str} {z : Int} {pos : Pos} (hg : Gl X x) (h : GlI X.mg x z) (hd : (x == ("__debug__" : Str)) = false := by decide) : PE X (.Name x pos) (tC (.int z)) := by
 obtain ⟨t,h⟩ := h
 exact pe_glob hg h ⟨t,rfl⟩ hd
structure Txt (mg : Str -> Option Value) (G : Gd) : Prop where
 b_len : mg "len" = none
 b_sum : mg "sum" = none
 b_max : mg "max" = none
 b_min : mg "min" = none
 b_any : mg "any" = none
 b_all : mg "all" = none
 b_sorted : mg "sorted" = none
 b_set : mg "set" = none
 b_list : mg "list" = none
 b_reversed : mg "reversed" = none
 b_range : mg "range" = none
 m_NO_FORM : GlI mg "NO_FORM" (-9)
 m_OUT_OF_RANGE : GlI mg "OUT_OF_RANGE" (-1)
 m_BAD_LIST : GlI mg "BAD_LIST" (-2)
 m_NOT_GREATER : GlI mg "NOT_GREATER" (-4)
 m_NO_MORE_SHIFTS : GlI mg "NO_MORE_SHIFTS" (-6)
 m_TOO_FEW_ON_SHIFT : GlI mg "TOO_FEW_ON_SHIFT" (-3)
 m_TOO_MANY_CREWS : GlI mg "TOO_MANY_CREWS" (-11)
 m_NO_SHIFT_HAS_IT : GlI mg "NO_SHIFT_HAS_IT" (-7)
 m_MOST_NEEDED : GlI mg "MOST_NEEDED" 1000
 m_MOST_ON_SHIFT : GlI mg "MOST_ON_SHIFT" 1000
 m_MOST_CHANGES : GlI mg "MOST_CHANGES" 100
 m_MOST_ASKED : GlI mg "MOST_ASKED" 100000
 m_MOST_CREWS : GlI mg "MOST_CREWS" 300
 m_MOST_MINUTES : GlI mg "MOST_MINUTES" 1000000
 m_MOST_SHIFTS : GlI mg "MOST_SHIFTS" 60
 m_Plan : mg "Plan" = some (.ref G.CP)
 m_Way : mg "Way" = some (.ref G.CW)
 clP : Cls G.K G.CP
 clW : Cls G.K G.CW
 nP_horizon : NoAttr G.K G.CP "horizon"
 nP_rest : NoAttr G.K G.CP "rest"
 nP_changes : NoAttr G.K G.CP "changes"
 nP_shifts : NoAttr G.K G.CP "shifts"
 nW_shifts : NoAttr G.K G.CW "shifts"
 nW_minutes : NoAttr G.K G.CW "minutes"
 nW_having : NoAttr G.K G.CW "having"
 nW_chosen : NoAttr G.K G.CW "chosen"
abbrev vI (l : List Int) : List V := l.map V.int
abbrev vN (l : List Nat) : List V := l.map fun (n : Nat) => V.int (n : Int)
def optV : Option Nat -> V
 | none => .non
 | some n => .int (n : Int)
def TupsAt (H : Hp) (as : List Addr) (ps : List (List Int)) : Prop := as.length = ps.length /\ ∀ (i : Nat) (a : Addr) (p : List Int),as[i]? = some a -> ps[i]? = some p -> H a = some (.tup (vI p))
def LstT (H : Hp) (l : Addr) (ps : List (List Int)) : Prop := ∃ as : List Addr,H l = some (.lst (as.map V.ref)) /\ TupsAt H as ps
theorem LstT.ext {L : List Tbl} {H H' : Hp} {l : Addr} {ps : List (List Int)} (h : LstT H l ps) (e : Ext L H H') : LstT H' l ps := by
 obtain ⟨as,h1,h2,h3⟩ := h
 exact ⟨as,e.lst h1,h2,fun i a p e1 e2 => e.tup (h3 i a p e1 e2)⟩
theorem LstT.at {H : Hp} {l : Addr} {ps : List (List Int)} (h : LstT H l ps) : ∃ xs : List V,H l = some (.lst xs) /\ xs.length = ps.length /\ ∀ (i : Nat) (x : V),xs[i]? = some x -> ∃ (a : Addr) (p : List Int),x = .ref a /\ ps[i]? = some p /\ H a = some (.tup (vI p)) := by
 obtain ⟨as,h1,h2,h3⟩ := h
 refine ⟨_,h1,by rw [List.length_map,h2],fun i x e => ?_⟩
 rw [List.getElem?_map] at e
 cases q : as[i]? with
 | none => rw [q] at e; cases e
 | some a =>
  rw [q] at e
  have e : V.ref a = x := Option.some.inj e
  have hi : i < ps.length := by rw [<- h2]; exact (List.getElem?_eq_some_iff.mp q).1
  exact ⟨a,ps[i],e.symm,List.getElem?_eq_getElem hi,h3 i a _ q (List.getElem?_eq_getElem hi)⟩
def chP (s : State) : List (List Int) := s.changes.map fun c => [(c.time : Int),(c.level : Int)]
def pf (s : State) (ca sa : Addr) : List (Str × V) := [("horizon",.int (s.horizon : Int)),("rest",.int (s.rest : Int)),("changes",.ref ca),("shifts",.ref sa)]
theorem pf_horizon (s : State) (ca sa : Addr) : (pf s ca sa).lookup ("horizon" : Str) = some (.int (s.horizon : Int)) := rfl
theorem pf_rest (s : State) (ca sa : Addr) : (pf s ca sa).lookup ("rest" : Str) = some (.int (s.rest : Int)) := rfl
theorem pf_changes (s : State) (ca sa : Addr) : (pf s ca sa).lookup ("changes" : Str) = some (.ref ca) := rfl
theorem pf_shifts (s : State) (ca sa : Addr) : (pf s ca sa).lookup ("shifts" : Str) = some (.ref sa) := rfl
structure PlanAt (G : Gd) (H : Hp) (p sa : Addr) (s : State) : Prop where
 wf : Wf s
 tabs : TabsOk G.L H
 sh : LstT H sa (shP s)
 ex : ∃ dx ca,H p = some (.ins G.CP dx (pf s ca sa)) /\ LstT H ca (chP s) /\ ca ≠ sa
theorem PlanAt.ext {G : Gd} {H H' : Hp} {p sa : Addr} {s : State} (h : PlanAt G H p sa s) (e : Ext G.L H H') : PlanAt G H' p sa s := by
 obtain ⟨dx,ca,h1,h2,h3⟩ := h.ex
 exact ⟨h.wf,e.2 h.tabs,h.sh.ext e,dx,ca,e.ins h1,h2.ext e,h3⟩
theorem chP_len (s : State) : (chP s).length = s.changes.length := List.length_map ..
def wf4 (sa ma ha ka : Addr) : List (Str × V) := [("shifts",.ref sa),("minutes",.ref ma),("having",.ref ha),("chosen",.ref ka)]
theorem wf4_shifts (sa ma ha ka : Addr) : (wf4 sa ma ha ka).lookup ("shifts" : Str) = some (.ref sa) := rfl
theorem wf4_minutes (sa ma ha ka : Addr) : (wf4 sa ma ha ka).lookup ("minutes" : Str) = some (.ref ma) := rfl
theorem wf4_having (sa ma ha ka : Addr) : (wf4 sa ma ha ka).lookup ("having" : Str) = some (.ref ha) := rfl
theorem wf4_chosen (sa ma ha ka : Addr) : (wf4 sa ma ha ka).lookup ("chosen" : Str) = some (.ref ka) := rfl
structure WayAt (G : Gd) (H : Hp) (w : Addr) (s : State) (pick : List Nat -> Option Nat) (ms : List Nat) : Prop where
 wf : Wf s
 len : ms.length <= 221
 pk : Pick pick
 ex : ∃ dx sa ma ha ka,H w = some (.ins G.CW dx (wf4 sa ma ha ka)) /\ LstT H sa (shP s) /\ H ma = some (.lst (vN ms)) /\ H ka = some (.lst (ms.map fun t => optV (pick (having s t)))) ∧
  ∃ as : List Addr,H ha = some (.lst (as.map V.ref)) /\ as.length = ms.length /\ ∀ (i : Nat) (a : Addr) (t : Nat),as[i]? = some a -> ms[i]? = some t -> H a = some (.lst (vN (having s t)))
theorem WayAt.ext {G : Gd} {L : List Tbl} {H H' : Hp} {w : Addr} {s : State} {pick : List Nat -> Option Nat} {ms : List Nat} (h : WayAt G H w s pick ms) (e : Ext L H H') : WayAt G H' w s pick ms := by
 obtain ⟨dx,sa,ma,ha,ka,h1,h2,h3,h4,as,h5,h6,h7⟩ := h.ex
 exact ⟨h.wf,h.len,h.pk,dx,sa,ma,ha,ka,e.ins h1,h2.ext e,e.lst h3,e.lst h4,as,e.lst h5,h6,fun i a t e1 e2 => e.lst (h7 i a t e1 e2)⟩
def sh3 (a : Sh) : List (List Int) := a.map fun q => [(q.1 : Int),(q.2.1 : Int),(q.2.2 : Int)]
def cr2 (x : Vbedai.Crews) : List (List Int) := x.map fun p => [(p.1 : Int),(p.2 : Int)]
def RetL (G : Gd) (H : Hp) (Q : VK) (ns : List Int) : Prop := ∀ q H',Ext G.L H H' -> H q = none -> H' q = some (.lst (vI ns)) -> Q (.ref q) H'
def RetT (G : Gd) (H : Hp) (Q : VK) (ps : List (List Int)) : Prop := ∀ q H',Ext G.L H H' -> H q = none -> LstT H' q ps -> Q (.ref q) H'
def RetV (G : Gd) (H : Hp) (Q : VK) (v : V) : Prop := ∀ H',Ext G.L H H' -> Q v H'
def sp_within : Sp := fun vs H Q _ => ∃ n l h,vs = [.int n,.int l,.int h] /\ Q (.bl (inR n l h)) H
def sp_has : Sp := fun vs H Q _ => ∃ t a b m,vs = [.ref t,.int m] /\ H t = some (.tup [.int a,.int b]) /\ Q (.bl (decide (a <= m) && decide (m < b))) H
def sp_need_at (G : Gd) : Sp := fun vs H Q _ => ∃ p sa s,∃ t : Nat,vs = [.ref p,.int t] /\ PlanAt G H p sa s /\ Q (.int (need s t)) H
def sp_there_at (G : Gd) : Sp := fun vs H Q _ => ∃ l c ps cs m,vs = [.ref l,.ref c,.int m] /\ LstT H l ps /\ (∀ p ∈ ps,p.length = 2) /\ H c = some (.lst (vI cs)) /\ cs.length = ps.length /\ ps.length <= 60 /\ RetV G H Q (.int (thereI ps cs m))
def sp_missing_at (G : Gd) : Sp := fun vs H Q _ => ∃ p sa s c x,∃ t : Nat,vs = [.ref p,.ref c,.int t] /\ PlanAt G H p sa s /\ H c = some (.lst (vI (onAll s x))) /\ InN s.shifts.length x /\ RetV G H Q (.int (missing s x t))
def sp_points (G : Gd) : Sp := fun vs H Q _ => ∃ p sa s,vs = [.ref p] /\ PlanAt G H p sa s /\ RetL G H Q ((points s).map fun (t : Nat) => (t : Int))
def sp_is_shift (G : Gd) : Sp := fun vs H Q _ => ∃ p sa s z,vs = [.ref p,.int z] /\ PlanAt G H p sa s /\ Q (.bl (okJ s z)) H
def sp_changes_of (G : Gd) : Sp := fun vs H Q _ => ∃ p sa s r row,vs = [.ref p,.ref r] /\ PlanAt G H p sa s /\ H r = some (.lst (vI row)) /\ row.length <= 20000 ∧
 match (if 200 < row.length then none else changesIn s (-1) row) with
 | none => RetV G H Q .non
 | some x => RetT G H Q (x.map fun c => [(c.time : Int),(c.level : Int)])
def sp_crews_of (G : Gd) : Sp := fun vs H Q _ => ∃ p sa s r row,vs = [.ref p,.ref r] /\ PlanAt G H p sa s /\ H r = some (.lst (vI row)) /\ row.length <= 20000 ∧
 match crewsIn s row with
 | none => RetV G H Q .non
 | some x => RetL G H Q (onAll s x)
def sp_are_minutes (G : Gd) : Sp := fun vs H Q _ => ∃ p sa s r row,vs = [.ref p,.ref r] /\ PlanAt G H p sa s /\ H r = some (.lst (vI row)) /\ row.length <= 20000 /\ RetV G H Q (.bl (minutesIn s row).isSome)
def sp_are_shifts (G : Gd) : Sp := fun vs H Q _ => ∃ p sa s r row,vs = [.ref p,.ref r] /\ PlanAt G H p sa s /\ H r = some (.lst (vI row)) /\ row.length <= 20000 /\ RetV G H Q (.bl (row.all (okJ s)))
def sp_listed (G : Gd) : Sp := fun vs H Q _ => ∃ r ns,vs = [.ref r] /\ H r = some (.lst (vI ns)) /\ ns.length <= 20000 /\ RetL G H Q ((ns.length : Int) :: ns)
def sp_listed_pairs (G : Gd) : Sp := fun vs H Q _ => ∃ l ps,vs = [.ref l] /\ LstT H l ps /\ (∀ p ∈ ps,p.length = 2) /\ ps.length <= 1000 /\ RetL G H Q ((ps.length : Int) :: ps.flatMap id)
def sp_Way (G : Gd) : Sp := fun vs H Q _ => ∃ w dx sa ma ha ka,vs = [.ref w,.ref sa,.ref ma,.ref ha,.ref ka] /\ H w = some (.ins G.CW dx []) ∧
 ∀ H',H' w = some (.ins G.CW dx (wf4 sa ma ha ka)) -> (∀ b,b ≠ w -> H' b = H b) -> Q .non H'
def sp_shifts_with (G : Gd) : Sp := fun vs H Q _ => ∃ l s,∃ t : Nat,vs = [.ref l,.int t] /\ Wf s /\ LstT H l (shP s) /\ RetL G H Q ((having s t).map fun (j : Nat) => (j : Int))
def sp_last_to_end (G : Gd) : Sp := fun vs H Q _ => ∃ l r s,∃ ns : List Nat,vs = [.ref l,.ref r] /\ Wf s /\ TabsOk G.L H /\ LstT H l (shP s) /\ H r = some (.lst (vN ns)) /\ (∀ j ∈ ns,j < s.shifts.length) /\ ns.length <= 60 /\ RetV G H Q (optV (lastEnd s ns))
def sp_first_to_begin (G : Gd) : Sp := fun vs H Q _ => ∃ l r s,∃ ns : List Nat,vs = [.ref l,.ref r] /\ Wf s /\ TabsOk G.L H /\ LstT H l (shP s) /\ H r = some (.lst (vN ns)) /\ (∀ j ∈ ns,j < s.shifts.length) /\ ns.length <= 60 /\ RetV G H Q (optV (firstStart s ns))
def RetW (G : Gd) (H : Hp) (Q : VK) (s : State) (pick : List Nat -> Option Nat) (ms : List Nat) : Prop := ∀ w H',Ext G.L H H' -> H w = none -> WayAt G H' w s pick ms -> Q (.ref w) H'
def sp_rising_way (G : Gd) : Sp := fun vs H Q _ => ∃ p sa s,vs = [.ref p] /\ PlanAt G H p sa s /\ RetW G H Q s (lastEnd s) (points s)
def sp_falling_way (G : Gd) : Sp := fun vs H Q _ => ∃ p sa s,vs = [.ref p] /\ PlanAt G H p sa s /\ RetW G H Q s (firstStart s) (points s).reverse
def sp_needs_on (G : Gd) : Sp := fun vs H Q _ => ∃ p sa s w pick ms,vs = [.ref p,.ref w] /\ PlanAt G H p sa s /\ WayAt G H w s pick ms /\ RetL G H Q (ms.map fun t => (need s t : Int))
def sp_first_gap (G : Gd) : Sp := fun vs H Q _ => ∃ w r s pick ms,∃ wanted : Nat -> Nat,vs = [.ref w,.ref r] /\ WayAt G H w s pick ms /\ H r = some (.lst (vI (ms.map fun t => (wanted t : Int)))) /\ RetV G H Q (optV (ms.find? (gapAt s wanted pick)))
def sp_short_points (G : Gd) : Sp := fun vs H Q _ => ∃ w r s pick ms,∃ wanted : Nat -> Nat,vs = [.ref w,.ref r] /\ WayAt G H w s pick ms /\ H r = some (.lst (vI (ms.map fun t => (wanted t : Int)))) /\ ms.find? (gapAt s wanted pick) = none /\ RetT G H Q (sh3 (shorts s wanted pick ms))
def sp_put_in_all (G : Gd) : Sp := fun vs H Q _ => ∃ l a,vs = [.ref l] /\ LstT H l (sh3 a) /\ a.length <= 221 /\ RetV G H Q (.int (total (cr a)))
def sp_put_on_shifts (G : Gd) : Sp := fun vs H Q _ => ∃ w l s pick ms a,vs = [.ref w,.ref l] /\ WayAt G H w s pick ms /\ LstT H l (sh3 a) /\ a.length <= 221 /\ InN s.shifts.length (cr a) /\ RetT G H Q (cr2 (gathered s (cr a)))
def sp_witness (G : Gd) : Sp := fun vs H Q _ => ∃ w l s pick ms a,vs = [.ref w,.ref l] /\ WayAt G H w s pick ms /\ LstT H l (sh3 a) /\ a.length <= 221 /\ InN s.shifts.length (cr a) /\ (a.map (·.1)).Nodup /\ RetL G H Q ((witOf s a).map fun (t : Nat) => (t : Int))
def sp_fewest (G : Gd) : Sp := fun vs H Q _ => ∃ w r s pick ms,∃ wanted : Nat -> Nat,vs = [.ref w,.ref r] /\ WayAt G H w s pick ms /\ ms.Nodup /\ H r = some (.lst (vI (ms.map fun t => (wanted t : Int)))) /\ RetL G H Q (fewestA s wanted pick ms)
def sp_least (G : Gd) : Sp := fun vs H Q _ => ∃ p sa s,vs = [.ref p] /\ PlanAt G H p sa s /\ RetL G H Q (fewestA s (need s) (lastEnd s) (points s))
def sp_back (G : Gd) : Sp := fun vs H Q _ => ∃ p sa s,vs = [.ref p] /\ PlanAt G H p sa s /\ RetL G H Q (fewestA s (need s) (firstStart s) (points s).reverse)
def sp_fewer (G : Gd) : Sp := fun vs H Q _ => ∃ r,∃ ns : List Nat,∃ k : Nat,vs = [.ref r,.int k] /\ H r = some (.lst (vN ns)) /\ ns.length <= 221 /\ RetL G H Q (ns.map fun (n : Nat) => ((n - k : Nat) : Int))
def sp_would_do (G : Gd) : Sp := fun vs H Q _ => ∃ w r s pick ms,∃ wanted : Nat -> Nat,∃ n : Nat,vs = [.ref w,.ref r,.int n] /\ WayAt G H w s pick ms /\ H r = some (.lst (vI (ms.map fun t => (wanted t : Int)))) ∧
 RetV G H Q (.bl ((ms.find? (gapAt s wanted pick)).isNone && decide (total (cr (shorts s wanted pick ms)) <= n)))
def sp_least_shortage (G : Gd) : Sp := fun vs H Q _ => ∃ w r s,∃ n : Nat,vs = [.ref w,.ref r,.int n] /\ WayAt G H w s (lastEnd s) (points s) /\ H r = some (.lst (vI ((points s).map fun t => (need s t : Int)))) /\ RetV G H Q (.int (Vbedai.shortage s n))
def sp_why_not (G : Gd) : Sp := fun vs H Q _ => ∃ w r s,∃ wanted : Nat -> Nat,vs = [.ref w,.ref r] /\ WayAt G H w s (lastEnd s) (points s) /\ H r = some (.lst (vI ((points s).map fun t => (wanted t : Int)))) ∧
 RetL G H Q (match bare s wanted with | some t => [(t : Int)] | none => (witOf s (shorts s wanted (lastEnd s) (points s))).map fun (t : Nat) => (t : Int))
def sp_shortage (G : Gd) : Sp := fun vs H Q _ => ∃ p sa s z,vs = [.ref p,.int z] /\ PlanAt G H p sa s /\ RetL G H Q (ansOf s [[12,z]])
def sp_ill (G : Gd) : Sp := fun vs H Q _ => ∃ p sa s j k r row,vs = [.ref p,.int j,.int k,.ref r] /\ PlanAt G H p sa s /\ H r = some (.lst (vI row)) /\ row.length <= 20000 /\ RetL G H Q (ansOf s [[13,j,k],row])
def sp_one_by_one (G : Gd) : Sp := fun vs H Q _ => ∃ p sa s c x,vs = [.ref p,.ref c] /\ PlanAt G H p sa s /\ H c = some (.lst (vI (onAll s x))) /\ InN s.shifts.length x /\ total x <= 300 /\ RetL G H Q ((Vbedai.each s x).map fun (j : Nat) => (j : Int))
def firstLe (fs : List Nat) (a : Nat) : Option Nat := fs.findIdx? fun f => decide (f <= a)
def sp_first_free (G : Gd) : Sp := fun vs H Q _ => ∃ r,∃ fs : List Nat,∃ a : Nat,vs = [.ref r,.int a] /\ H r = some (.lst (vN fs)) /\ fs.length <= 1000 /\ RetV G H Q (optV (firstLe fs a))
def RowsAt (H : Hp) (l : Addr) (rows : List (List Nat)) : Prop := ∃ as : List Addr,H l = some (.lst (as.map V.ref)) /\ as.length = rows.length /\ ∀ (i : Nat) (a : Addr) (r : List Nat),as[i]? = some a -> rows[i]? = some r -> H a = some (.lst (vN r))
def sp_handed_out (G : Gd) : Sp := fun vs H Q _ => ∃ p sa s r,∃ js : List Nat,vs = [.ref p,.ref r] /\ PlanAt G H p sa s /\ H r = some (.lst (vN js)) /\ (∀ j ∈ js,j < s.shifts.length) /\ js.length <= 300 ∧
 ∀ q H',Ext G.L H H' -> H q = none -> RowsAt H' q ((Vbedai.rosterOf s js).map fun m => m.reverse) -> Q (.ref q) H'
def sp_people (G : Gd) : Sp := fun vs H Q _ => ∃ p sa s r row,vs = [.ref p,.ref r] /\ PlanAt G H p sa s /\ H r = some (.lst (vI row)) /\ row.length <= 20000 /\ RetL G H Q (ansOf s [[8],row])
def sp_first_too_early (G : Gd) : Sp := fun vs H Q _ => ∃ p sa s r,∃ js : List Nat,vs = [.ref p,.ref r] /\ PlanAt G H p sa s /\ H r = some (.lst (vN js)) /\ (∀ j ∈ js,j < s.shifts.length) /\ js.length <= 20000 /\ RetV G H Q (optV (Vbedai.wrongAt s 0 js))
def IRowsAt (H : Hp) (l : Addr) (rows : List (List Int)) : Prop := ∃ as : List Addr,H l = some (.lst (as.map V.ref)) /\ as.length = rows.length /\ ∀ (i : Nat) (a : Addr) (r : List Int),as[i]? = some a -> rows[i]? = some r -> H a = some (.lst (vI r))
def sp_roster (G : Gd) : Sp := fun vs H Q _ => ∃ p sa s l rows,vs = [.ref p,.ref l] /\ PlanAt G H p sa s /\ IRowsAt H l rows /\ rows.length <= 20000 /\ (∀ r ∈ rows,r.length <= 20000) /\ RetL G H Q (ansOf s ([9] :: rows))
def RetC (G : Gd) (H : Hp) (Q : VK) (p sa : Addr) (s' : State) (ns : List Int) : Prop :=
 ∀ q H' sa',PlanAt G H' p sa' s' -> (sa' = sa ∨ H sa' = none) -> H q = none -> q ≠ sa' -> H' q = some (.lst (vI ns)) -> (∀ b o,H b = some o -> isTbl o = false -> b ≠ p -> b ≠ sa -> H' b = some o) -> Q (.ref q) H'
def sp_begin (G : Gd) : Sp := fun vs H Q _ => ∃ p sa s a b,vs = [.ref p,.int a,.int b] /\ PlanAt G H p sa s /\ RetC G H Q p sa (stOf s [[0,a,b]]) (ansOf s [[0,a,b]])
def sp_set_changes (G : Gd) : Sp := fun vs H Q _ => ∃ p sa s r row,vs = [.ref p,.ref r] /\ PlanAt G H p sa s /\ H r = some (.lst (vI row)) /\ row.length <= 20000 /\ RetC G H Q p sa (stOf s [[1],row]) (ansOf s [[1],row])
def sp_add_shift (G : Gd) : Sp := fun vs H Q _ => ∃ p sa s a b,vs = [.ref p,.int a,.int b] /\ PlanAt G H p sa s /\ RetC G H Q p sa (stOf s [[2,a,b]]) (ansOf s [[2,a,b]])
def sp_set_rest (G : Gd) : Sp := fun vs H Q _ => ∃ p sa s a,vs = [.ref p,.int a] /\ PlanAt G H p sa s /\ RetC G H Q p sa (stOf s [[3,a]]) (ansOf s [[3,a]])
def spRow (G : Gd) (c : List Int) : Sp := fun vs H Q _ => ∃ p sa s r row,vs = [.ref p,.ref r] /\ PlanAt G H p sa s /\ H r = some (.lst (vI row)) /\ row.length <= 20000 /\ RetL G H Q (ansOf s [c,row])
def sp_covers (G : Gd) : Sp := spRow G [6]
def sp_apart (G : Gd) : Sp := spRow G [7]
def sp_hours (G : Gd) : Sp := spRow G [14]
def sp_need (G : Gd) : Sp := fun vs H Q _ => ∃ p sa s z,vs = [.ref p,.int z] /\ PlanAt G H p sa s /\ RetL G H Q (ansOf s [[10,z]])
def sp_there (G : Gd) : Sp := fun vs H Q _ => ∃ p sa s z r row,vs = [.ref p,.int z,.ref r] /\ PlanAt G H p sa s /\ H r = some (.lst (vI row)) /\ row.length <= 20000 /\ RetL G H Q (ansOf s [[11,z],row])
def sp_all_kept (G : Gd) : Sp := fun vs H Q _ => ∃ p sa s,vs = [.ref p] /\ PlanAt G H p sa s /\ RetL G H Q (ansOf s [[15]])
end Cs
end
section
set_option Elab.async false
set_option linter.all false
set_option maxRecDepth 100000
set_option maxHeartbeats 4000000
namespace Cs
open PySem PySem.Spec PyProof.Rows L2
section
variable {X : Cx} {K : W.Frag}
theorem ixL (h : X.K = K) : IxR X (rIxL K) := h ▸ ix_list
theorem ixT (h : X.K = K) : IxR X (rIxT K) := h ▸ ix_tup
theorem lenK (h : X.K = K) : CallR X (.builtin "len") (fun xs H Q => ∃ p ys,xs = [V.ref p] /\ (SqL K H p ys ∨ SqT K H p ys) /\ Q (.int ys.length) H) := h ▸ call_len_seq
theorem sumK (h : X.K = K) (hc : X.calm = true) : CallR X (.builtin "sum") (rSum K) := h ▸ cr_sum hc
theorem anyK (h : X.K = K) (hc : X.calm = true) : CallR X (.builtin "any") (rAny K) := h ▸ cr_any hc
theorem allK (h : X.K = K) (hc : X.calm = true) : CallR X (.builtin "all") (rAll K) := h ▸ cr_all hc
theorem fldK {e : Expr} {ta : TE} {f : Str} {pos : Pos} (h : X.K = K) (he : PE X e ta) (hb : attributeBase e f X.env (eval e X.env) = eval e X.env) : PE X (.Attribute e f pos) (tFld K ta f) := h ▸ pe_fld he hb
theorem tupK {es : List Expr} {k : Nat} {t : TGs} {n : Nat} {pos : Pos} (h : X.K = K) (hc : X.calm = true) (hg : PGs X es t) (hn : (assignEach es X.env).length = n := by rfl) (hst : (assignEach es X.env).findIdx? (·.1) = none := by rfl) : PG X (.Tuple es k pos) (gTup K n t) := h ▸ pg_tup hc hg hn hst
theorem getK (h : X.K = K) : PGet X (rIxL K) := h ▸ get_list
end
theorem for_rev {K : W.Frag} {a : Addr} {xs : List V} {g : TG} {tb : TS} {D : Ends} {σ : L2.St} {H : Hp} (Pv : Nat -> L2.St -> Hp -> Prop) (h0 : Pv 0 σ H) (hl : ∀ i σ H,i <= xs.length -> Pv i σ H -> SqL K H a xs)
  (hs : ∀ (i : Nat) (x : V) (σ : L2.St) (H : Hp),i < xs.length -> xs[xs.length - 1 - i]? = some x -> Pv i σ H -> g x σ H fun σ2 H2 => tb { D with nx := Pv (i + 1),ct := Pv (i + 1),bk := D.nx } σ2 H2) (hd : ∀ σ H,Pv xs.length σ H -> D.nx σ H) :
  ∃ W : Nat -> Nat -> L2.St -> Hp -> Prop,(∃ m,W 0 m σ H) /\ ∀ i m σ H,W i m σ H →
   ((Itv K a xs.length).stop i H /\ D.nx σ H) ∨ ((Itv K a xs.length).go i H /\ ∃ N : L2.St -> Hp -> Prop,(∀ σ' H',N σ' H' -> ∃ m',m' < m /\ W (i + 1) m' σ' H') /\ ∀ x H',(Itv K a xs.length).yld i H x H' -> g x σ H' fun σ2 H2 => tb { D with nx := N,ct := N,bk := D.nx } σ2 H2) := by
 refine ⟨fun i m σ H => m = xs.length - i /\ i <= xs.length /\ Pv i σ H,⟨xs.length,by simp,Nat.zero_le _,h0⟩,?_⟩
 rintro i m σ H ⟨rfl,hi,p⟩
 have q := hl i σ H hi p
 by_cases c : i < xs.length
 ·refine .inr ⟨⟨c,xs,xs[xs.length - 1 - i],q,List.getElem?_eq_getElem (by omega)⟩,Pv (i + 1),fun σ' H' p' => ⟨xs.length - (i + 1),by omega,rfl,c,p'⟩,fun x H' y => ?_⟩
  obtain ⟨e,y⟩ := y
  subst e
  exact hs i x σ _ c (y xs q) p
 ·have e : i = xs.length := by omega
  subst e
  exact .inl ⟨Nat.le_refl _,hd σ H p⟩
end Cs
end
section
set_option Elab.async false
set_option linter.all false
set_option maxRecDepth 100000
set_option maxHeartbeats 4000000
namespace Cs
open PySem PySem.Spec PyProof.Rows L2
def forms : List (Int × Int × Int × Int) := [(0,2,0,0),(1,0,1,1),(2,2,0,0),(3,1,0,0),(4,0,0,0),(5,0,0,0),(6,0,1,1),(7,0,1,1),(8,0,1,1),(9,0,0,199),(10,1,0,0),(11,1,1,1),(12,1,0,0),(13,2,1,1),(14,0,1,1),(15,0,0,0)]
def tup3 (o : Obj) (t : Int × Int × Int) : Bool := match o.cls,o.data with
 | .type n,.seq its _ => n == "tuple" && (match its.toList with
  | [.int x _,.int y _,.int z _] => x == t.1 && y == t.2.1 && z == t.2.2
  | _ => false)
 | _,_ => false
def formAt (K : W.Frag) (v : Value) (t : Int × Int × Int) : Bool := match v with
 | .ref b => (match K.lookup b with
  | some o => tup3 o t
  | none => false)
 | _ => false
def keyIs (e : DictEntry) (k : Int) : Bool := match e.key with
 | .int z _ => z == k && e.hash == PySem.hashInt k
 | _ => false
def entsOk (K : W.Frag) : List DictEntry -> List (Int × Int × Int × Int) -> Bool
 | [],[] => true
 | e :: es,f :: fs => keyIs e f.1 && formAt K e.val f.2 && entsOk K es fs
 | _,_ => false
def formsIn (K : W.Frag) (a : Addr) : Bool := !(a == sysModules) && match K.lookup a with
 | some o => (match o.cls,o.dict,o.data,o.slots.size with
  | .type n,none,.dict es _,0 => n == "dict" && entsOk K es.toList forms
  | _,_,_,_ => false)
 | none => false
def T3 (K : W.Frag) (b : Addr) (t : Int × Int × Int) : Prop := ∃ o its n,K.lookup b = some o /\ o.cls = .type "tuple" /\ o.data = .seq its n /\ its.size <= sizeLine /\ Vals [.int t.1,.int t.2.1,.int t.2.2] its.toList
theorem T3.sq {K : W.Frag} {b : Addr} {t : Int × Int × Int} (h : T3 K b t) (H : Hp) : SqT K H b [.int t.1,.int t.2.1,.int t.2.2] := .inr h
theorem formAt_ok {K : W.Frag} {v : Value} {t : Int × Int × Int} (h : formAt K v t = true) : ∃ b,v = .ref b /\ T3 K b t := by
 unfold formAt at h
 split at h
 ·rename_i b
  split at h
  ·rename_i o ho
   refine ⟨b,rfl,?_⟩
   unfold tup3 at h
   split at h
   ·rename_i n its m hc hd
    rw [Bool.and_eq_true] at h
    obtain ⟨h1,h2⟩ := h
    split at h2
    ·rename_i x tx y ty z tz e
     simp only [Bool.and_eq_true,beq_iff_eq] at h2
     obtain ⟨⟨e1,e2⟩,e3⟩ := h2
     have en : n = "tuple" := by simpa using h1
     refine ⟨o,its,m,ho,by rw [hc,en],hd,?_,?_⟩
     ·have : its.toList.length = 3 := by rw [e]; rfl
      rw [Array.length_toList] at this
      rw [this]; decide
     ·rw [e,← e1,← e2,← e3]
      exact .cons ⟨tx,rfl⟩ (.cons ⟨ty,rfl⟩ (.cons ⟨tz,rfl⟩ .nil))
    ·cases h2
   ·cases h
  ·cases h
 ·cases h
theorem keyIs_ok {e : DictEntry} {k : Int} (h : keyIs e k = true) : ∃ t,e.key = .int k t /\ e.hash = PySem.hashInt k := by
 unfold keyIs at h
 split at h
 ·rename_i z t hk
  simp only [Bool.and_eq_true,beq_iff_eq] at h
  exact ⟨t,by rw [hk,h.1],h.2⟩
 ·cases h
theorem ents_ok {K : W.Frag} : ∀ {es : List DictEntry} {fs : List (Int × Int × Int × Int)},entsOk K es fs = true →
  ∃ kvs : List (Int × Value),(∀ (P : Program) (w : World),Pairs (intKind P w) es kvs) /\ kvs.map (·.1) = fs.map (·.1) /\ (∀ e ∈ es,∃ k t,e.key = .int k t /\ e.hash = PySem.hashInt k) ∧
   ∀ k,(fs.lookup k = none -> valueAt kvs k = none) /\ ∀ t,fs.lookup k = some t -> ∃ b,valueAt kvs k = some (.ref b) /\ T3 K b t
 | [],[],_ => ⟨[],fun _ _ => .nil,rfl,fun e he => (by cases he),fun k => ⟨fun _ => rfl,fun t h => (by cases h)⟩⟩
 | e :: es,f :: fs,h => by
  unfold entsOk at h
  simp only [Bool.and_eq_true] at h
  obtain ⟨⟨h1,h2⟩,h3⟩ := h
  obtain ⟨t,hk,hh⟩ := keyIs_ok h1
  obtain ⟨b,hb,t3⟩ := formAt_ok h2
  obtain ⟨kvs,k1,k2,k3,k4⟩ := ents_ok h3
  refine ⟨(f.1,.ref b) :: kvs,fun P w => .cons (by rw [hk]; exact intKind_is P w f.1 t) hb (k1 P w),by rw [List.map_cons,List.map_cons,k2],?_,fun k => ?_⟩
  ·intro x hx
   rcases List.mem_cons.mp hx with rfl | hx
   ·exact ⟨f.1,t,hk,hh⟩
   ·exact k3 x hx
  ·obtain ⟨fk,ft⟩ := f
   by_cases c : k = fk
   ·subst c
    refine ⟨fun h => by simp at h,fun t' h => ⟨b,by simp [valueAt],?_⟩⟩
    simp at h
    rw [<- h]; exact t3
   ·have c1 : (k == fk) = false := by simpa using c
    have c2 : ¬ fk = k := fun z => c z.symm
    have e1 : ((fk,ft) :: fs).lookup k = fs.lookup k := by simp [List.lookup,c1]
    have e2 : valueAt ((fk,Value.ref b) :: kvs) k = valueAt kvs k := by simp [valueAt,List.find?,c2]
    rw [e1,e2]
    exact k4 k
 | [],_ :: _,h => (by cases h)
 | _ :: _,[],h => (by cases h)
structure FrmK (K : W.Frag) (a : Addr) : Prop where
 lo : (a == sysModules) = false
 ex : ∃ o kvs,K.lookup a = some o /\ (∀ (P : Program) (w : World),o.IsDictOf (intKind P w) kvs) /\ ∀ k,(forms.lookup k = none -> valueAt kvs k = none) /\ ∀ t,forms.lookup k = some t -> ∃ b,valueAt kvs k = some (.ref b) /\ T3 K b t
theorem frm_mk {K : W.Frag} {a : Addr} (h : formsIn K a = true) : FrmK K a := by
 unfold formsIn at h
 rw [Bool.and_eq_true] at h
 obtain ⟨h1,h2⟩ := h
 refine ⟨by simpa using h1,?_⟩
 split at h2
 ·rename_i o ho
  split at h2
  ·rename_i n es ep hc hd hda hs
   rw [Bool.and_eq_true] at h2
   obtain ⟨e1,e2⟩ := h2
   have en : n = "dict" := by simpa using e1
   have e3 := e2
   obtain ⟨kvs,k1,k2,k3,k4⟩ := ents_ok e3
   refine ⟨o,kvs,ho,fun P w => ⟨es,ep,⟨by rw [hc,en],hd,Array.eq_empty_of_size_eq_zero hs⟩,hda,fun e he => ?_,k1 P w,?_⟩,k4⟩
   ·obtain ⟨k,t,q1,q2⟩ := k3 e (by simpa using he)
    exact ⟨k,by rw [q1]; exact intKind_is P w k t,q2⟩
   ·rw [k2]; decide
  ·cases h2
 ·cases h2
section
variable {X : Cx} {K : W.Frag} {F : Addr}
theorem FrmK.dict {s : Shared} {pins : List (Addr × Obj)} {σ : L2.St} {H : Hp} (h : FrmK X.K F) (I : Inv X pins σ H s) : ∃ kvs,s.heap.DictOf (intKind X.prog X.w) F kvs /\ ∀ k,(forms.lookup k = none -> valueAt kvs k = none) /\ ∀ t,forms.lookup k = some t -> ∃ b,valueAt kvs k = some (.ref b) /\ T3 X.K b t := by
 obtain ⟨o,kvs,ho,hd,hv⟩ := h.ex
 exact ⟨kvs,Heap.dictOf_iff.mpr ⟨o,I.kIn F o ho,hd _ _⟩,hv⟩
def rFNotIn (F : Addr) : R2 := fun x y H Q => ∃ k,x = .int k /\ y = .ref F /\ Q (.bl (!(forms.lookup k).isSome)) H
theorem op_fnotin (hK : X.K = K) (h : FrmK K F) : OpR X (compareOp .NotIn) (rFNotIn F) := by
 subst hK
 intro pins s σ H x y v u Q I rx ry hq
 obtain ⟨k,rfl,rfl,q⟩ := hq
 obtain ⟨t,rfl⟩ := rx
 obtain rfl : u = Value.ref F := ry
 obtain ⟨kvs,hd,hv⟩ := h.dict I
 refine wpAny_notIn_of (intKind_is _ _ k t) h.lo hd.mapOf ?_
 have e : (valueAt kvs k).isSome = (forms.lookup k).isSome := by
  cases c : forms.lookup k with
  | none => rw [(hv k).1 c]; rfl
  | some t => obtain ⟨b,eb,_⟩ := (hv k).2 t c; rw [eb]; rfl
 rw [e]
 exact ⟨.bl (!(forms.lookup k).isSome),H,I.tok _,rfl,q⟩
def tFGet (K : W.Frag) (F : Addr) (ty : TE) : TE := fun σ H Q => ty σ H fun y H1 => ∃ k t,y = .int k /\ forms.lookup k = some t /\ ∀ b,T3 K b t -> Q (.ref b) H1
theorem pe_fget {x : Str} {i : Expr} {ty : TE} {pos pos' : Pos} (hK : X.K = K) (h : FrmK K F) (hg : Gl X x) (hm : X.mg x = some (.ref F)) (hi : PE X i ty) (hs : NoSl i) (hd : (x == ("__debug__" : Str)) = false := by decide) : PE X (.Subscript (.Name x pos') i pos) (tFGet K F ty) := by
 subst hK
 intro pins s σ H Q I hq
 refine subD_of PySem.F.slot_dict_getitem.lookup hs (ld_glob I hg hm (thn (hi pins s σ H _ I hq) fun iv s2 ⟨y,H2,I2,ry,k,t,ey,el,q2⟩ => ?_) hd)
 subst ey
 obtain ⟨tk,rfl⟩ := ry
 obtain ⟨kvs,hdd,hv⟩ := h.dict I2
 obtain ⟨b,eb,t3⟩ := (hv k).2 t el
 exact ⟨hdd.typeIs,wpAny_getItem_of (intKind_is _ _ k tk) hdd.mapOf eb ⟨.ref b,H2,I2.tok _,rfl,q2 b t3⟩⟩
end
structure Scr (X : Cx) (pins : List (Addr × Obj)) (a : Addr) : Prop where
 lo : X.s_0.heap.objs.size <= a
 nl : a ≠ X.env.locals
 nc : ∀ x c,X.env.cells.lookup x = some c -> c ≠ a
 np : ∀ p ∈ X.pn ++ pins,p.1 ≠ a
 nf : a ∉ frs X.stack
section
variable {X : Cx} {pins : List (Addr × Obj)} {σ : L2.St} {H : Hp} {s : Shared}
theorem Scr.of (I : Inv X pins σ H s) {a : Addr} (h : s.heap.objs.size <= a) : Scr X pins a := by
 refine ⟨Nat.le_trans I.sz h,Nat.ne_of_gt (Nat.lt_of_lt_of_le I.lt h),fun x c e z => ?_,fun p hp z => ?_,fun hb => ?_⟩
 ·obtain ⟨v,o,ho,_⟩ := I.cell x c e
  have q := Heap.lt_size ho
  rw [z] at q
  exact absurd q (Nat.not_lt.mpr h)
 ·have q := Heap.lt_size (I.pin p hp).1
  rw [z] at q
  exact absurd q (Nat.not_lt.mpr h)
 ·rcases List.mem_cons.mp (I.stkSub a hb) with z | z
  ·have q := I.lt
   rw [<- z] at q
   exact absurd q (Nat.not_lt.mpr h)
  ·exact I.nofs h z
theorem Scr.turn {a : Addr} (c : Scr X pins a) (I : Inv X pins σ H s) {h' : Heap} {tk : Nat} (hn : H a = none) (k : ∀ b o,b ≠ a -> s.heap.get? b = some o -> h'.get? b = some o) : Inv X pins σ H { s with heap := h',toks := tk } :=
 I.turned (t' := tk) k hn c.nl (.inr c.lo) c.nc c.np
theorem un_get {H' : Hp} {h h' : Heap} (u : Un (frs X.stack) [] H H' h h') {a : Addr} (c : Scr X pins a) (hn : H a = none) {o : Obj} (e : h.get? a = some o) : h'.get? a = some o := u.keep a o e hn c.nf (by simp)
end
theorem max_dkey (a v d : Value) : argsOk "max" ⟨[a],[(Str.ofString "key",v),(Str.ofString "default",d)]⟩ := by unfold argsOk; kernel_rfl
def maxStep (kf : Nat -> Int) : Option Nat -> Nat -> Option Nat
 | none,n => some n
 | some b,n => if kf b < kf n then some n else some b
def maxHeld (kf : Nat -> Int) (xs : Array Value) : Option Nat -> Prop
 | none => xs = #[]
 | some b => ∃ vb tb,xs = #[vb,.int (kf b) tb] /\ RelV (.int (b : Int)) vb
def rOpt : Option Nat -> V
 | none => .non
 | some b => .int (b : Int)
section
variable {X : Cx} {pins : List (Addr × Obj)} {σ : L2.St} {H : Hp} {A : Around} {R : Result -> Shared -> Prop} {l f it S : Addr} {ns : List Nat}
theorem max_go (kf : Nat -> Int) (hh : A.handled = none) (hl : SqL X.K H l (ns.map fun (n : Nat) => V.int (n : Int)))
  (turn : ∀ (s : Shared) (u : Value) (n : Nat),Inv X pins σ H s -> n ∈ ns -> RelV (.int (n : Int)) u -> wpAny (model X.prog X.w) A.in1 (call (.ref f) [u]) (fun r s' => (∃ t,r = .int (kf n) t) /\ Inv X pins σ H s' /\ Un (frs X.stack) [] H H s.heap s'.heap) (fun _ _ => False) s)
  (ci : Scr X pins it) (cS : Scr X pins S) (ni : H it = none) (nS : H S = none) (ne : it ≠ S) (hlI : l ≠ it)
  (hR : ∀ u s,Inv X pins σ H s -> RelV (rOpt (ns.foldl (maxStep kf) none)) u -> R (.ok (.ret u)) s) :
  ∀ (m i : Nat) (s : Shared) (xs : Array Value) (c : Nat),ns.length - i = m -> i <= ns.length -> Inv X pins σ H s -> s.heap.IsListIter it l i -> s.heap.get? S = some (seqObj "list" xs c) -> maxHeld kf xs ((ns.take i).foldl (maxStep kf) none) →
   codeAny (model X.prog X.w) A (.builtin "max.loop" ⟨[.ref it,.ref f,.ref S],[("default",.none)]⟩) R s := by
 have nm : (toString "max" ++ toString ".loop" : String) = "max.loop" := by decide
 intro m
 induction m with
 | zero =>
  intro i s xs c hm hi I hit hS hH
  have hin : i = ns.length := by omega
  subst hin
  rw [List.take_length] at hH
  obtain ⟨its,rv,pl,hz⟩ := I.list hl
  have W := Walks.list (prog := X.prog) (w := X.w) (A := A.in1) hh it l hlI its.toArray
  have hsz : its.toArray.size = ns.length := by rw [List.size_toArray,← rv.length,List.length_map]
  refine codeAny_builtin PySem.F.entry_max_loop ?_
  rw [Around.under_plainId PySem.F.plain_max_loop _]
  show wpAny _ A.in1 (seqItems? (.ref S) >>= _) _ _ _
  refine wpAny_bind (wpAny_seqItems hS rfl ?_)
  show wpAny _ A.in1 (tryCatch (pyNext (.ref it)) _ >>= _) _ _ _
  refine wpAny_bind (wpAny_tryCatch (W.done s _ _ ⟨by rw [hsz]; exact hit,pl.isList⟩ fun h1 tk1 hk1 => ?_))
  have I1 : Inv X pins σ H { s with heap := h1,toks := tk1 } := ci.turn I ni fun b o hb e => hk1 b o (by simpa using hb) e
  have hS1 := hk1 S _ (by simpa using ne.symm) hS
  cases q : ns.foldl (maxStep kf) none with
  | none =>
   rw [q] at hH
   have hx : xs = #[] := hH
   subst hx
   show wpAny _ A.in1 (rule _ >>= _) _ _ _
   refine wpAny_bind (wpAny_rule ?_)
   refine wpAny_pure ?_
   exact hR _ _ I1 (by rw [q]; rfl)
  | some b =>
   rw [q] at hH
   obtain ⟨vb,tb,hx,rb⟩ := hH
   subst hx
   show wpAny _ A.in1 (updateSeq S (fun _ => #[]) >>= _) _ _ _
   refine wpAny_bind (wpAny_updateSeq hS1 rfl (wpAny_bind (wpAny_letGo (wpAny_pure ?_))))
   have sb := Heap.SameBut.update h1 S (Obj.mapSeq fun _ => (#[] : Array Value))
   exact hR _ _ (cS.turn I1 nS fun d o hd e => (sb.2 d hd).trans e) (by rw [q]; exact rb)
 | succ m ih =>
  intro i s xs c hm hi I hit hS hH
  have hlt : i < ns.length := by omega
  obtain ⟨its,rv,pl,hz⟩ := I.list hl
  have W := Walks.list (prog := X.prog) (w := X.w) (A := A.in1) hh it l hlI its.toArray
  have hsz : its.toArray.size = ns.length := by rw [List.size_toArray,← rv.length,List.length_map]
  refine codeAny_builtin PySem.F.entry_max_loop ?_
  rw [Around.under_plainId PySem.F.plain_max_loop _]
  show wpAny _ A.in1 (seqItems? (.ref S) >>= _) _ _ _
  refine wpAny_bind (wpAny_seqItems hS rfl ?_)
  show wpAny _ A.in1 (tryCatch (pyNext (.ref it)) _ >>= _) _ _ _
  refine wpAny_bind (wpAny_tryCatch (W.item i s _ _ (by rw [hsz]; exact hlt) ⟨hit,pl.isList⟩ fun v h1 tk1 hP hst1 hk1 => ?_))
  have I1 : Inv X pins σ H { s with heap := h1,toks := tk1 } := ci.turn I ni fun b o hb e => hk1 b o (by simpa using hb) e
  have hS1 := hk1 S _ (by simpa using ne.symm) hS
  have hn : ns[i]? = some ns[i] := List.getElem?_eq_getElem hlt
  have rn : RelV (.int (ns[i] : Int)) v := by
   have hP' : its[i]? = some v := by simpa using hP
   obtain ⟨u,hu,ru⟩ := rv.get (i := i) (x := V.int (ns[i] : Int)) (by rw [List.getElem?_map,hn]; rfl)
   rw [hP'] at hu
   cases hu
   exact ru
  have hmem : ns[i] ∈ ns := List.getElem_mem hlt
  show wpAny _ A.in1 (tryCatch (holding [v] (call (.ref f) [v])) _ >>= _) _ _ _
  refine wpAny_bind (wpAny_tryCatch (wpAny_holding (wpAny_mono (turn _ v ns[i] I1 hmem rn) (fun x s2 hx => ?_) fun _ _ hF => hF.elim)))
  obtain ⟨⟨t2,rfl⟩,I2,un⟩ := hx
  have hS2 := un_get un cS nS hS1
  obtain ⟨oi,hoi,hoc,hod⟩ := id hst1.1
  have hit2 : s2.heap.IsListIter it l (i + 1) := ⟨oi,un_get un ci ni hoi,hoc,hod⟩
  have e3 : (ns.take (i + 1)).foldl (maxStep kf) none = maxStep kf ((ns.take i).foldl (maxStep kf) none) ns[i] := by
   rw [List.take_add_one,hn,List.foldl_append]; rfl
  cases q : (ns.take i).foldl (maxStep kf) none with
  | none =>
   rw [q] at hH
   have hx : xs = #[] := hH
   subst hx
   have sb := Heap.SameBut.update s2.heap S (Obj.mapSeq fun _ => #[v,.int (kf ns[i]) t2])
   obtain ⟨c2,hc2⟩ : ∃ c2,(s2.heap.update S (Obj.mapSeq fun _ => #[v,.int (kf ns[i]) t2])).get? S = some (seqObj "list" #[v,.int (kf ns[i]) t2] c2) := ⟨_,get?_update_seq hS2 fun _ => #[v,.int (kf ns[i]) t2]⟩
   show wpAny _ A.in1 (updateSeq S (fun _ => #[v,.int (kf ns[i]) t2]) >>= _) _ _ _
   refine wpAny_bind (wpAny_updateSeq hS2 rfl ?_)
   rw [nm]
   refine wpAny_pure ⟨plainId_quiet PySem.F.plain_max_loop _,ih (i + 1) _ _ c2 (by omega) hlt (cS.turn (tk := s2.toks) I2 nS fun d o hd e => (sb.2 d hd).trans e) ⟨oi,(sb.2 it ne).trans (un_get un ci ni hoi),hoc,hod⟩ hc2 ?_⟩
   rw [e3,q]
   exact ⟨v,t2,rfl,rn⟩
  | some b =>
   rw [q] at hH
   obtain ⟨vb,tb,hx,rb⟩ := hH
   subst hx
   show wpAny _ A.in1 (tryCatch (holding [v,.int (kf ns[i]) t2] (richCompare .Gt (.int (kf ns[i]) t2) (.int (kf b) tb) >>= _)) _ >>= _) _ _ _
   refine wpAny_bind (wpAny_tryCatch (wpAny_holding (wpAny_bind (CmpOf.ints_gt (prog := X.prog) (w := X.w) (A := A.in1) (P := fun i v => ∃ t,v = .int (kf i) t) kf (fun i v h => h) ns[i] b _ _ _ _ _ ⟨t2,rfl⟩ ⟨tb,rfl⟩ ?_))))
   refine wpAny_bind (wpAny_holding (wpAny_truthy_bool ?_))
   refine wpAny_bind (wpAny_letGo (wpAny_pure ?_))
   by_cases cmp : kf b < kf ns[i]
   ·simp only [cmp,decide_true,if_true]
    have sb := Heap.SameBut.update s2.heap S (Obj.mapSeq fun _ => #[v,.int (kf ns[i]) t2])
    obtain ⟨c2,hc2⟩ : ∃ c2,(s2.heap.update S (Obj.mapSeq fun _ => #[v,.int (kf ns[i]) t2])).get? S = some (seqObj "list" #[v,.int (kf ns[i]) t2] c2) := ⟨_,get?_update_seq hS2 fun _ => #[v,.int (kf ns[i]) t2]⟩
    refine wpAny_bind (wpAny_updateSeq hS2 rfl (wpAny_bind (wpAny_letGo ?_)))
    rw [nm]
    refine wpAny_pure ⟨plainId_quiet PySem.F.plain_max_loop _,ih (i + 1) _ _ c2 (by omega) hlt (cS.turn (tk := s2.toks) I2 nS fun d o hd e => (sb.2 d hd).trans e) ⟨oi,(sb.2 it ne).trans (un_get un ci ni hoi),hoc,hod⟩ hc2 ?_⟩
    rw [e3,q]
    show maxHeld kf _ (if _ then _ else _)
    rw [if_pos cmp]
    exact ⟨v,t2,rfl,rn⟩
   ·simp only [cmp,decide_false,Bool.false_eq_true,if_false]
    refine wpAny_bind (wpAny_letGo ?_)
    rw [nm]
    refine wpAny_pure ⟨plainId_quiet PySem.F.plain_max_loop _,ih (i + 1) _ _ c (by omega) hlt I2 hit2 hS2 ?_⟩
    rw [e3,q]
    show maxHeld kf _ (if _ then _ else _)
    rw [if_neg cmp]
    exact ⟨vb,tb,rfl,rb⟩
theorem max_call (kf : Nat -> Int) {s : Shared} {Q : VK} {E : Value -> Shared -> Prop} (I : Inv X pins σ H s) (hh : A.handled = none) (hl : SqL X.K H l (ns.map fun (n : Nat) => V.int (n : Int)))
  (turn : ∀ (s : Shared) (u : Value) (n : Nat),Inv X pins σ H s -> n ∈ ns -> RelV (.int (n : Int)) u -> wpAny (model X.prog X.w) A.in1 (call (.ref f) [u]) (fun r s' => (∃ t,r = .int (kf n) t) /\ Inv X pins σ H s' /\ Un (frs X.stack) [] H H s.heap s'.heap) (fun _ _ => False) s)
  (hQ : Q (rOpt (ns.foldl (maxStep kf) none)) H) :
  wpAny (model X.prog X.w) A (call (.builtin "max") [.ref l] [(Str.ofString "key",.ref f),(Str.ofString "default",.none)]) (EP X pins σ Q) E s := by
 have nm : (toString "max" ++ toString ".loop" : String) = "max.loop" := by decide
 obtain ⟨its,rv,pl,hz⟩ := I.list hl
 obtain ⟨ol,hol,_⟩ := id pl.isList
 have hll : l < s.heap.objs.size := Heap.lt_size hol
 refine PyProof.Rows.kmk_tree PySem.F.kind_max PySem.F.plain_max PySem.F.entry_max (max_dkey _ _ _) ?_
 show wpAny _ A.in1 (Builtin.Builtins.bindParams "max" ["key", "default"] 0 ⟨[],[(Str.ofString "key",.ref f),(Str.ofString "default",.none)]⟩ >>= _) _ _ s
 refine wpAny_bind (wpAny_of_eq (show Builtin.Builtins.bindParams "max" ["key", "default"] 0 ⟨[],[(Str.ofString "key",.ref f),(Str.ofString "default",.none)]⟩ = pure [some (.ref f),some .none] from rfl) ?_)
 refine wpAny_bind (wpAny_pure ?_)
 refine wpAny_bind (wpAny_pyIter_list pl.isList ?_)
 refine wpAny_bind (wpAny_newList ?_ (Nat.zero_le _))
 rw [nm]
 have sz : (s.heap.push { cls := .type "list_iterator",data := .fields #[.ref l,.int 0 0] }).objs.size = s.heap.objs.size + 1 := size_push' ..
 have I1 : Inv X pins σ H { s with heap := (s.heap.push { cls := .type "list_iterator",data := .fields #[.ref l,.int 0 0] }).push (seqObj "list" #[] 0) } :=
  I.kept (t' := s.toks) fun b o e => Heap.get?_push_of_some _ (Heap.get?_push_of_some _ e)
 refine wpAny_pure ⟨plainId_quiet PySem.F.plain_max_loop _,?_⟩
 refine max_go kf hh hl turn (Scr.of I (Nat.le_refl _)) (Scr.of I (by rw [sz]; omega)) (I.hok.fresh (Nat.le_refl _)) (I.hok.fresh (by rw [sz]; omega)) (by rw [sz]; exact Nat.ne_of_lt (Nat.lt_succ_self _)) (Nat.ne_of_lt hll) (fun u s' I' r' => ⟨_,H,I',r',hQ⟩) ns.length 0 _ #[] 0 (by omega) (Nat.zero_le _) I1
  ⟨_,Heap.get?_push_of_some _ (Heap.get?_push_size _ rfl),rfl,rfl⟩ (Heap.get?_push_size _ rfl) rfl
end
theorem min_dkey (a v d : Value) : argsOk "min" ⟨[a],[(Str.ofString "key",v),(Str.ofString "default",d)]⟩ := by unfold argsOk; kernel_rfl
def minStep (kf : Nat -> Int) : Option Nat -> Nat -> Option Nat
 | none,n => some n
 | some b,n => if kf n < kf b then some n else some b
def minHeld (kf : Nat -> Int) (xs : Array Value) : Option Nat -> Prop
 | none => xs = #[]
 | some b => ∃ vb tb,xs = #[vb,.int (kf b) tb] /\ RelV (.int (b : Int)) vb
section
variable {X : Cx} {pins : List (Addr × Obj)} {σ : L2.St} {H : Hp} {A : Around} {R : Result -> Shared -> Prop} {l f it S : Addr} {ns : List Nat}
theorem min_go (kf : Nat -> Int) (hh : A.handled = none) (hl : SqL X.K H l (ns.map fun (n : Nat) => V.int (n : Int)))
  (turn : ∀ (s : Shared) (u : Value) (n : Nat),Inv X pins σ H s -> n ∈ ns -> RelV (.int (n : Int)) u -> wpAny (model X.prog X.w) A.in1 (call (.ref f) [u]) (fun r s' => (∃ t,r = .int (kf n) t) /\ Inv X pins σ H s' /\ Un (frs X.stack) [] H H s.heap s'.heap) (fun _ _ => False) s)
  (ci : Scr X pins it) (cS : Scr X pins S) (ni : H it = none) (nS : H S = none) (ne : it ≠ S) (hlI : l ≠ it)
  (hR : ∀ u s,Inv X pins σ H s -> RelV (rOpt (ns.foldl (minStep kf) none)) u -> R (.ok (.ret u)) s) :
  ∀ (m i : Nat) (s : Shared) (xs : Array Value) (c : Nat),ns.length - i = m -> i <= ns.length -> Inv X pins σ H s -> s.heap.IsListIter it l i -> s.heap.get? S = some (seqObj "list" xs c) -> minHeld kf xs ((ns.take i).foldl (minStep kf) none) →
   codeAny (model X.prog X.w) A (.builtin "min.loop" ⟨[.ref it,.ref f,.ref S],[("default",.none)]⟩) R s := by
 have nm : (toString "min" ++ toString ".loop" : String) = "min.loop" := by decide
 intro m
 induction m with
 | zero =>
  intro i s xs c hm hi I hit hS hH
  have hin : i = ns.length := by omega
  subst hin
  rw [List.take_length] at hH
  obtain ⟨its,rv,pl,hz⟩ := I.list hl
  have W := Walks.list (prog := X.prog) (w := X.w) (A := A.in1) hh it l hlI its.toArray
  have hsz : its.toArray.size = ns.length := by rw [List.size_toArray,← rv.length,List.length_map]
  refine codeAny_builtin PySem.F.entry_min_loop ?_
  rw [Around.under_plainId PySem.F.plain_min_loop _]
  show wpAny _ A.in1 (seqItems? (.ref S) >>= _) _ _ _
  refine wpAny_bind (wpAny_seqItems hS rfl ?_)
  show wpAny _ A.in1 (tryCatch (pyNext (.ref it)) _ >>= _) _ _ _
  refine wpAny_bind (wpAny_tryCatch (W.done s _ _ ⟨by rw [hsz]; exact hit,pl.isList⟩ fun h1 tk1 hk1 => ?_))
  have I1 : Inv X pins σ H { s with heap := h1,toks := tk1 } := ci.turn I ni fun b o hb e => hk1 b o (by simpa using hb) e
  have hS1 := hk1 S _ (by simpa using ne.symm) hS
  cases q : ns.foldl (minStep kf) none with
  | none =>
   rw [q] at hH
   have hx : xs = #[] := hH
   subst hx
   show wpAny _ A.in1 (rule _ >>= _) _ _ _
   refine wpAny_bind (wpAny_rule ?_)
   refine wpAny_pure ?_
   exact hR _ _ I1 (by rw [q]; rfl)
  | some b =>
   rw [q] at hH
   obtain ⟨vb,tb,hx,rb⟩ := hH
   subst hx
   show wpAny _ A.in1 (updateSeq S (fun _ => #[]) >>= _) _ _ _
   refine wpAny_bind (wpAny_updateSeq hS1 rfl (wpAny_bind (wpAny_letGo (wpAny_pure ?_))))
   have sb := Heap.SameBut.update h1 S (Obj.mapSeq fun _ => (#[] : Array Value))
   exact hR _ _ (cS.turn I1 nS fun d o hd e => (sb.2 d hd).trans e) (by rw [q]; exact rb)
 | succ m ih =>
  intro i s xs c hm hi I hit hS hH
  have hlt : i < ns.length := by omega
  obtain ⟨its,rv,pl,hz⟩ := I.list hl
  have W := Walks.list (prog := X.prog) (w := X.w) (A := A.in1) hh it l hlI its.toArray
  have hsz : its.toArray.size = ns.length := by rw [List.size_toArray,← rv.length,List.length_map]
  refine codeAny_builtin PySem.F.entry_min_loop ?_
  rw [Around.under_plainId PySem.F.plain_min_loop _]
  show wpAny _ A.in1 (seqItems? (.ref S) >>= _) _ _ _
  refine wpAny_bind (wpAny_seqItems hS rfl ?_)
  show wpAny _ A.in1 (tryCatch (pyNext (.ref it)) _ >>= _) _ _ _
  refine wpAny_bind (wpAny_tryCatch (W.item i s _ _ (by rw [hsz]; exact hlt) ⟨hit,pl.isList⟩ fun v h1 tk1 hP hst1 hk1 => ?_))
  have I1 : Inv X pins σ H { s with heap := h1,toks := tk1 } := ci.turn I ni fun b o hb e => hk1 b o (by simpa using hb) e
  have hS1 := hk1 S _ (by simpa using ne.symm) hS
  have hn : ns[i]? = some ns[i] := List.getElem?_eq_getElem hlt
  have rn : RelV (.int (ns[i] : Int)) v := by
   have hP' : its[i]? = some v := by simpa using hP
   obtain ⟨u,hu,ru⟩ := rv.get (i := i) (x := V.int (ns[i] : Int)) (by rw [List.getElem?_map,hn]; rfl)
   rw [hP'] at hu
   cases hu
   exact ru
  have hmem : ns[i] ∈ ns := List.getElem_mem hlt
  show wpAny _ A.in1 (tryCatch (holding [v] (call (.ref f) [v])) _ >>= _) _ _ _
  refine wpAny_bind (wpAny_tryCatch (wpAny_holding (wpAny_mono (turn _ v ns[i] I1 hmem rn) (fun x s2 hx => ?_) fun _ _ hF => hF.elim)))
  obtain ⟨⟨t2,rfl⟩,I2,un⟩ := hx
  have hS2 := un_get un cS nS hS1
  obtain ⟨oi,hoi,hoc,hod⟩ := id hst1.1
  have hit2 : s2.heap.IsListIter it l (i + 1) := ⟨oi,un_get un ci ni hoi,hoc,hod⟩
  have e3 : (ns.take (i + 1)).foldl (minStep kf) none = minStep kf ((ns.take i).foldl (minStep kf) none) ns[i] := by
   rw [List.take_add_one,hn,List.foldl_append]; rfl
  cases q : (ns.take i).foldl (minStep kf) none with
  | none =>
   rw [q] at hH
   have hx : xs = #[] := hH
   subst hx
   have sb := Heap.SameBut.update s2.heap S (Obj.mapSeq fun _ => #[v,.int (kf ns[i]) t2])
   obtain ⟨c2,hc2⟩ : ∃ c2,(s2.heap.update S (Obj.mapSeq fun _ => #[v,.int (kf ns[i]) t2])).get? S = some (seqObj "list" #[v,.int (kf ns[i]) t2] c2) := ⟨_,get?_update_seq hS2 fun _ => #[v,.int (kf ns[i]) t2]⟩
   show wpAny _ A.in1 (updateSeq S (fun _ => #[v,.int (kf ns[i]) t2]) >>= _) _ _ _
   refine wpAny_bind (wpAny_updateSeq hS2 rfl ?_)
   rw [nm]
   refine wpAny_pure ⟨plainId_quiet PySem.F.plain_min_loop _,ih (i + 1) _ _ c2 (by omega) hlt (cS.turn (tk := s2.toks) I2 nS fun d o hd e => (sb.2 d hd).trans e) ⟨oi,(sb.2 it ne).trans (un_get un ci ni hoi),hoc,hod⟩ hc2 ?_⟩
   rw [e3,q]
   exact ⟨v,t2,rfl,rn⟩
  | some b =>
   rw [q] at hH
   obtain ⟨vb,tb,hx,rb⟩ := hH
   subst hx
   show wpAny _ A.in1 (tryCatch (holding [v,.int (kf ns[i]) t2] (richCompare .Lt (.int (kf ns[i]) t2) (.int (kf b) tb) >>= _)) _ >>= _) _ _ _
   refine wpAny_bind (wpAny_tryCatch (wpAny_holding (wpAny_bind (CmpOf.ints_lt (prog := X.prog) (w := X.w) (A := A.in1) (P := fun i v => ∃ t,v = .int (kf i) t) kf (fun i v h => h) ns[i] b _ _ _ _ _ ⟨t2,rfl⟩ ⟨tb,rfl⟩ ?_))))
   refine wpAny_bind (wpAny_holding (wpAny_truthy_bool ?_))
   refine wpAny_bind (wpAny_letGo (wpAny_pure ?_))
   by_cases cmp : kf ns[i] < kf b
   ·simp only [cmp,decide_true,if_true]
    have sb := Heap.SameBut.update s2.heap S (Obj.mapSeq fun _ => #[v,.int (kf ns[i]) t2])
    obtain ⟨c2,hc2⟩ : ∃ c2,(s2.heap.update S (Obj.mapSeq fun _ => #[v,.int (kf ns[i]) t2])).get? S = some (seqObj "list" #[v,.int (kf ns[i]) t2] c2) := ⟨_,get?_update_seq hS2 fun _ => #[v,.int (kf ns[i]) t2]⟩
    refine wpAny_bind (wpAny_updateSeq hS2 rfl (wpAny_bind (wpAny_letGo ?_)))
    rw [nm]
    refine wpAny_pure ⟨plainId_quiet PySem.F.plain_min_loop _,ih (i + 1) _ _ c2 (by omega) hlt (cS.turn (tk := s2.toks) I2 nS fun d o hd e => (sb.2 d hd).trans e) ⟨oi,(sb.2 it ne).trans (un_get un ci ni hoi),hoc,hod⟩ hc2 ?_⟩
    rw [e3,q]
    show minHeld kf _ (if _ then _ else _)
    rw [if_pos cmp]
    exact ⟨v,t2,rfl,rn⟩
   ·simp only [cmp,decide_false,Bool.false_eq_true,if_false]
    refine wpAny_bind (wpAny_letGo ?_)
    rw [nm]
    refine wpAny_pure ⟨plainId_quiet PySem.F.plain_min_loop _,ih (i + 1) _ _ c (by omega) hlt I2 hit2 hS2 ?_⟩
    rw [e3,q]
    show minHeld kf _ (if _ then _ else _)
    rw [if_neg cmp]
    exact ⟨vb,tb,rfl,rb⟩
theorem min_call (kf : Nat -> Int) {s : Shared} {Q : VK} {E : Value -> Shared -> Prop} (I : Inv X pins σ H s) (hh : A.handled = none) (hl : SqL X.K H l (ns.map fun (n : Nat) => V.int (n : Int)))
  (turn : ∀ (s : Shared) (u : Value) (n : Nat),Inv X pins σ H s -> n ∈ ns -> RelV (.int (n : Int)) u -> wpAny (model X.prog X.w) A.in1 (call (.ref f) [u]) (fun r s' => (∃ t,r = .int (kf n) t) /\ Inv X pins σ H s' /\ Un (frs X.stack) [] H H s.heap s'.heap) (fun _ _ => False) s)
  (hQ : Q (rOpt (ns.foldl (minStep kf) none)) H) :
  wpAny (model X.prog X.w) A (call (.builtin "min") [.ref l] [(Str.ofString "key",.ref f),(Str.ofString "default",.none)]) (EP X pins σ Q) E s := by
 have nm : (toString "min" ++ toString ".loop" : String) = "min.loop" := by decide
 obtain ⟨its,rv,pl,hz⟩ := I.list hl
 obtain ⟨ol,hol,_⟩ := id pl.isList
 have hll : l < s.heap.objs.size := Heap.lt_size hol
 refine PyProof.Rows.kmk_tree PySem.F.kind_min PySem.F.plain_min PySem.F.entry_min (min_dkey _ _ _) ?_
 show wpAny _ A.in1 (Builtin.Builtins.bindParams "min" ["key", "default"] 0 ⟨[],[(Str.ofString "key",.ref f),(Str.ofString "default",.none)]⟩ >>= _) _ _ s
 refine wpAny_bind (wpAny_of_eq (show Builtin.Builtins.bindParams "min" ["key", "default"] 0 ⟨[],[(Str.ofString "key",.ref f),(Str.ofString "default",.none)]⟩ = pure [some (.ref f),some .none] from rfl) ?_)
 refine wpAny_bind (wpAny_pure ?_)
 refine wpAny_bind (wpAny_pyIter_list pl.isList ?_)
 refine wpAny_bind (wpAny_newList ?_ (Nat.zero_le _))
 rw [nm]
 have sz : (s.heap.push { cls := .type "list_iterator",data := .fields #[.ref l,.int 0 0] }).objs.size = s.heap.objs.size + 1 := size_push' ..
 have I1 : Inv X pins σ H { s with heap := (s.heap.push { cls := .type "list_iterator",data := .fields #[.ref l,.int 0 0] }).push (seqObj "list" #[] 0) } :=
  I.kept (t' := s.toks) fun b o e => Heap.get?_push_of_some _ (Heap.get?_push_of_some _ e)
 refine wpAny_pure ⟨plainId_quiet PySem.F.plain_min_loop _,?_⟩
 refine min_go kf hh hl turn (Scr.of I (Nat.le_refl _)) (Scr.of I (by rw [sz]; omega)) (I.hok.fresh (Nat.le_refl _)) (I.hok.fresh (by rw [sz]; omega)) (by rw [sz]; exact Nat.ne_of_lt (Nat.lt_succ_self _)) (Nat.ne_of_lt hll) (fun u s' I' r' => ⟨_,H,I',r',hQ⟩) ns.length 0 _ #[] 0 (by omega) (Nat.zero_le _) I1
  ⟨_,Heap.get?_push_of_some _ (Heap.get?_push_size _ rfl),rfl,rfl⟩ (Heap.get?_push_size _ rfl) rfl
end
end Cs
end
section
set_option Elab.async false
set_option linter.all false
set_option maxRecDepth 100000
set_option maxHeartbeats 4000000
namespace Cs
open PySem PySem.Spec PyProof.Rows L2
open PySem.W (kla_fn kla_obj CodeHd)
structure LamAt (X : Cx) (L : List Tbl) (x y q : Str) (i : Nat) (params : Arguments) (body : Expr) (scope : Scope) (pos : Pos) : Prop where
 ok : LamOk x y q params body scope
 bm : BM X.mg X.base
 code : ∃ c P,X.env.code = .ref c /\ CodeHd X.base c P /\ (P,pos,q) ∈ L /\ ∀ t ∈ L,t.1 = P -> t = (P,pos,q)
 qual : X.env.qual ++ "<lambda>" = q
 dfl : defaultsOf params X.env = ([],[])
 free : ∀ z ∈ scope.names,z.2 = .free -> z.1 = y
 cell : X.env.scope.names.lookup y = some .cell
 slot : X.N[i]? = some y
 clo : ∀ cells,cloFrom cells scope.names [] = [(y,(cells.lookup y).getD 0)]
def LamO (X : Cx) (y q : Str) (params : Arguments) (body : Expr) (scope : Scope) (H : Hp) (f : Addr) : Prop :=
 ∃ c' ctv,H f = some (funO f (kla_obj "<lambda>" q params body scope [(y,(X.env.cells.lookup y).getD 0)] ((X.mg "__name__").getD .none) c' ctv)) /\ H c' = some (codeO c' q)
def tLam (X : Cx) (L : List Tbl) (y q : Str) (params : Arguments) (body : Expr) (scope : Scope) : TE := fun _ H Q => TabsOk L H /\ ∀ f H',Ext L H H' -> H f = none -> LamO X y q params body scope H' f -> Q (.ref f) H'
section
variable {X : Cx} {L : List Tbl} {x y q : Str} {i : Nat} {params : Arguments} {body : Expr} {scope : Scope} {pos : Pos}
theorem pe_lam (S : LamAt X L x y q i params body scope pos) : PE X (.Lambda params body scope pos) (tLam X L y q params body scope) := by
 intro pins s σ H Q I h
 obtain ⟨T,k⟩ := h
 obtain ⟨c,P,e1,C,hL,one⟩ := S.code
 have hc : X.env.kindOf y = some .cell := S.cell
 obtain ⟨cc,hcc⟩ := I.ok.has y (.inl hc)
 refine lam_make I S.bm C e1 hL one T S.qual S.dfl (fun z hz e => by rw [S.free z hz e]; exact ⟨cc,hcc⟩) fun f c' ctv H' e hf h1 h2 => ?_
 rw [S.clo] at h1
 exact k f H' e hf ⟨c',ctv,h1,h2⟩
theorem lam_turn {pins : List (Addr × Obj)} {σ : L2.St} {H : Hp} {s : Shared} {A : Around} {k : Nat} (S : LamAt X L x y q i params body scope pos) (I : Inv X pins σ H s) (e0 : Env0 X.prog X.w X.K X.mg X.base A X.stack s H) (hr : Room k A) {f : Addr}
  (hf : LamO X y q params body scope H f) {vy : V} (hy : σ[i]? = some (some vy)) {v : V} {u : Value} (rv : RelV v u) {te : TE} {Qr : VK}
  (hb : ∀ (c' : Value) (cl : List (Str × Addr)),PE (cxLam X.prog X.w X.K X.mg X.base [x,y] q scope f c' cl A X.stack s H) body te) (hq : te [some v,some vy] H Qr) :
  wpAny (model X.prog X.w) A (call (.ref f) [u]) (fun r s' => ∃ v' H',Inv X pins σ H' s' /\ RelV v' r /\ Qr v' H' /\ Un (frs X.stack) [] H H' s.heap s'.heap) (fun _ _ => False) s := by
 obtain ⟨c',ctv,h1,h2⟩ := hf
 obtain ⟨m,hn,hl⟩ := I.loc
 have hk : X.env.kindOf y = some .cell := S.cell
 obtain ⟨uy,ry,lk⟩ := hl i y vy S.slot hy (.inr (.inl S.cell))
 rcases lk with ⟨z,_⟩ | ⟨_,cc,ecc,hcell⟩
 ·rw [hk] at z; cases z
 ·have g : (X.env.cells.lookup y).getD 0 = cc := by rw [ecc]; rfl
  rw [g] at h1
  have hfo := (I.hok f _ h1).1
  refine wpAny_call (codeAny_mono (lam_run S.ok hr e0 hfo (code_at I h2) hcell ry (I.freeC y cc ecc) rv (hb _ _) hq) fun r s' hr' => ?_)
  cases r with
  | error e => exact hr'.elim
  | ok fl =>
   cases fl with
   | ret u' =>
    obtain ⟨v',H',os,bare,un,hok,rel,q'⟩ := hr'
    obtain ⟨hh,gg,d,t,os'⟩ := s'
    obtain rfl : os' = s.os := os
    exact ⟨v',H',I.call (h' := hh) (g' := gg) (d' := d) (t' := t) (ch := []) un hok bare (fun b z => absurd z (by simp)),rel,q',un⟩
   | next => exact False.elim hr'
   | brk => exact False.elim hr'
   | cont => exact False.elim hr'
end
def rmaxL (L : List Tbl) (K : W.Frag) (i : Nat) (tb : TE) (σ : L2.St) (Q : VK) : VK := fun z H1 => ∃ (l : Addr) (ns : List Nat) (vy : V) (kf : Nat -> Int),z = .ref l /\ SqL K H1 l (ns.map fun (n : Nat) => V.int (n : Int)) /\ TabsOk L H1 /\ σ[i]? = some (some vy) ∧
 (∀ n ∈ ns,∀ H2 Qr,Ext L H1 H2 -> Qr (.int (kf n)) H2 -> tb [some (.int (n : Int)),some vy] H2 Qr) /\ ∀ H2,Ext L H1 H2 -> Q (rOpt (ns.foldl (maxStep kf) none)) H2
def tmaxL (L : List Tbl) (K : W.Frag) (i : Nat) (te tb : TE) : TE := fun σ H Q => te σ H (rmaxL L K i tb σ Q)
section
variable {X : Cx} {L : List Tbl} {x y q : Str} {i j : Nat} {params : Arguments} {body e : Expr} {scope : Scope} {p pos lpos kp1 kp2 cp : Pos} {te tb : TE}
theorem pe_maxL {K : W.Frag} (hK : X.K = K) (S : LamAt X L x y q i params body scope lpos) (hc : X.calm = true) {k : Nat} (hr : Room (k + 1) X.A) (hg : Gl X "max") (hm : X.mg "max" = none) (he : PE X e te)
  (hb : ∀ (A : Around) (s : Shared) (H : Hp) (f : Addr) (c' : Value) (cl : List (Str × Addr)),PE (cxLam X.prog X.w X.K X.mg X.base [x,y] q scope f c' cl A X.stack s H) body tb)
  (hs : starEach [e] X.env = [(false,eval e X.env)] := by rfl) :
  PE X (.Call (.Name "max" p) [e] [⟨some "key",.Lambda params body scope lpos,kp1⟩,⟨some "default",.Constant .none j cp,kp2⟩] pos) (tmaxL L K i te tb) := by
 subst hK
 intro pins s σ H Q I h
 refine wpAny_Call_Name_kw (ld_blt I hg hm boot_max ?_)
 have ha : PA X [e] (tCons te tNil) := pa_cons he pa_nil hs
 refine PyProof.Rows.callWith_kw (thn (ha pos pins s σ H (fun vs H1 => match vs with | [z] => rmaxL L X.K i tb σ Q z H1 | _ => False) I h) fun us s1 ⟨vs,H1,I1,r1,q1⟩ => ?_) (by rw [hs]; rfl) (by rw [hs]; rfl) rfl rfl
 match vs,r1,q1 with
 | [z],r1,q1 =>
  obtain ⟨l,ns,vy,kf,rfl,hl,T,hy,turn,fin⟩ := q1
  rw [Vals.ref1 r1]
  have hk : PK X [⟨some "key",.Lambda params body scope lpos,kp1⟩,⟨some "default",.Constant .none j cp,kp2⟩] (tCons (tLam X L y q params body scope) (tCons (tC .non) tNil)) := pk_cons (pe_lam S) (pk_cons pe_non pk_nil)
  refine thn (hk pos pins s1 σ H1 (fun ws H2 => ∃ f,ws = [.ref f,.non] /\ Ext L H1 H2 /\ LamO X y q params body scope H2 f) I1 ⟨T,fun f H2 e hf lo => ⟨f,rfl,e,lo⟩⟩) fun us2 s2 ⟨ws,H2,I2,r2,f,ew,e2,lo⟩ => ?_
  subst ew
  obtain ⟨u1,u2,rfl,ru1,ru2⟩ := r2.two
  obtain rfl : u1 = Value.ref f := ru1
  obtain rfl : u2 = Value.none := ru2
  refine max_call kf I2 (I2.ok.hd hc) (e2.sqL hl) (fun s3 u n I3 hn ru => ?_) (fin H2 e2)
  refine wpAny_mono (lam_turn (k := k) S I3 I3.env0.in1 hr.in1 lo hy ru (fun c' cl => hb _ _ _ _ c' cl) (turn n hn H2 (fun v' H' => v' = .int (kf n) /\ H' = H2) e2 ⟨rfl,rfl⟩)) (fun r s4 hx => ?_) fun _ _ z => z
  obtain ⟨v',H',J,rel,⟨rfl,rfl⟩,un⟩ := hx
  obtain ⟨t,rfl⟩ := rel
  exact ⟨⟨t,rfl⟩,J,un⟩
end
def rminL (L : List Tbl) (K : W.Frag) (i : Nat) (tb : TE) (σ : L2.St) (Q : VK) : VK := fun z H1 => ∃ (l : Addr) (ns : List Nat) (vy : V) (kf : Nat -> Int),z = .ref l /\ SqL K H1 l (ns.map fun (n : Nat) => V.int (n : Int)) /\ TabsOk L H1 /\ σ[i]? = some (some vy) ∧
 (∀ n ∈ ns,∀ H2 Qr,Ext L H1 H2 -> Qr (.int (kf n)) H2 -> tb [some (.int (n : Int)),some vy] H2 Qr) /\ ∀ H2,Ext L H1 H2 -> Q (rOpt (ns.foldl (minStep kf) none)) H2
def tminL (L : List Tbl) (K : W.Frag) (i : Nat) (te tb : TE) : TE := fun σ H Q => te σ H (rminL L K i tb σ Q)
section
variable {X : Cx} {L : List Tbl} {x y q : Str} {i j : Nat} {params : Arguments} {body e : Expr} {scope : Scope} {p pos lpos kp1 kp2 cp : Pos} {te tb : TE}
theorem pe_minL {K : W.Frag} (hK : X.K = K) (S : LamAt X L x y q i params body scope lpos) (hc : X.calm = true) {k : Nat} (hr : Room (k + 1) X.A) (hg : Gl X "min") (hm : X.mg "min" = none) (he : PE X e te)
  (hb : ∀ (A : Around) (s : Shared) (H : Hp) (f : Addr) (c' : Value) (cl : List (Str × Addr)),PE (cxLam X.prog X.w X.K X.mg X.base [x,y] q scope f c' cl A X.stack s H) body tb)
  (hs : starEach [e] X.env = [(false,eval e X.env)] := by rfl) :
  PE X (.Call (.Name "min" p) [e] [⟨some "key",.Lambda params body scope lpos,kp1⟩,⟨some "default",.Constant .none j cp,kp2⟩] pos) (tminL L K i te tb) := by
 subst hK
 intro pins s σ H Q I h
 refine wpAny_Call_Name_kw (ld_blt I hg hm boot_min ?_)
 have ha : PA X [e] (tCons te tNil) := pa_cons he pa_nil hs
 refine PyProof.Rows.callWith_kw (thn (ha pos pins s σ H (fun vs H1 => match vs with | [z] => rminL L X.K i tb σ Q z H1 | _ => False) I h) fun us s1 ⟨vs,H1,I1,r1,q1⟩ => ?_) (by rw [hs]; rfl) (by rw [hs]; rfl) rfl rfl
 match vs,r1,q1 with
 | [z],r1,q1 =>
  obtain ⟨l,ns,vy,kf,rfl,hl,T,hy,turn,fin⟩ := q1
  rw [Vals.ref1 r1]
  have hk : PK X [⟨some "key",.Lambda params body scope lpos,kp1⟩,⟨some "default",.Constant .none j cp,kp2⟩] (tCons (tLam X L y q params body scope) (tCons (tC .non) tNil)) := pk_cons (pe_lam S) (pk_cons pe_non pk_nil)
  refine thn (hk pos pins s1 σ H1 (fun ws H2 => ∃ f,ws = [.ref f,.non] /\ Ext L H1 H2 /\ LamO X y q params body scope H2 f) I1 ⟨T,fun f H2 e hf lo => ⟨f,rfl,e,lo⟩⟩) fun us2 s2 ⟨ws,H2,I2,r2,f,ew,e2,lo⟩ => ?_
  subst ew
  obtain ⟨u1,u2,rfl,ru1,ru2⟩ := r2.two
  obtain rfl : u1 = Value.ref f := ru1
  obtain rfl : u2 = Value.none := ru2
  refine min_call kf I2 (I2.ok.hd hc) (e2.sqL hl) (fun s3 u n I3 hn ru => ?_) (fin H2 e2)
  refine wpAny_mono (lam_turn (k := k) S I3 I3.env0.in1 hr.in1 lo hy ru (fun c' cl => hb _ _ _ _ c' cl) (turn n hn H2 (fun v' H' => v' = .int (kf n) /\ H' = H2) e2 ⟨rfl,rfl⟩)) (fun r s4 hx => ?_) fun _ _ z => z
  obtain ⟨v',H',J,rel,⟨rfl,rfl⟩,un⟩ := hx
  obtain ⟨t,rfl⟩ := rel
  exact ⟨⟨t,rfl⟩,J,un⟩
end
end Cs
end
section
set_option Elab.async false
set_option linter.all false
set_option maxRecDepth 100000
set_option maxHeartbeats 4000000
namespace Cs
open PySem PySem.Spec PyProof.Rows L2
section
variable {X : Cx} {K : W.Frag}
def rSortedA (K : W.Frag) : List V -> Hp -> VK -> Prop := fun vs H Q => ∃ (a : Addr) (ns : List Int),vs = [V.ref a] /\ SqL K H a (ns.map V.int) ∧
 ∀ (ns' : List Int) (p : Addr),ns'.Perm ns -> ns'.Pairwise (· <= ·) -> H p = none -> Q (.ref p) (upd H p (.lst (ns'.map V.int)))
theorem cr_sortedAny (hK : X.K = K) : CallR X (.builtin "sorted") (rSortedA K) := by
 subst hK
 intro pins s σ H vs us Q I r h
 obtain ⟨a,ns,rfl,hs,q⟩ := h
 obtain ⟨its,rv,hl,hz⟩ := I.list hs
 rw [Vals.ref1 r]
 have hi := rv.ints
 have lz : its.length <= sizeLine := by rw [<- rv.length]; exact hz
 refine PyProof.Rows.sorted_intsAny hl.isList hi lz fun out ns' h1 h2 h3 => ?_
 obtain ⟨ep,he'⟩ := PyProof.Rows.sortedAll_at s.heap its out
 have hlen : (ns'.map V.int).length <= sizeLine := by rw [List.length_map,h2.length_eq,← hi.length]; exact lz
 exact ⟨.ref _,upd H (s.heap.objs.size + 1) (.lst (ns'.map V.int)),I.laid (t' := s.toks) (fun _ _ => PyProof.Rows.sortedAll_old) (Nat.le_succ _) ⟨hlen,out.toList,ep,vals_of_ints h1,he'⟩,rfl,q ns' _ h2 h3 (I.hok.fresh (Nat.le_succ _))⟩
def setO (P : Program) (w : World) (a : Addr) (ks : List Int) : HO := .ext fun h => SI.SetK P w h a ks
def rSetI (P : Program) (w : World) (K : W.Frag) : List V -> Hp -> VK -> Prop := fun vs H Q => ∃ (a : Addr) (ns : List Int),vs = [V.ref a] /\ SqL K H a (ns.map V.int) /\ ns.length <= 1000 ∧
 ∀ (ks : List Int) (p : Addr),(∀ x,x ∈ ks ↔ x ∈ ns) -> ks.Nodup -> H p = none -> Q (.ref p) (upd H p (setO P w p ks))
theorem cr_set (hK : X.K = K) (hc : X.calm = true) : CallR X (.type "set") (rSetI X.prog X.w K) := by
 subst hK
 intro pins s σ H vs us Q I r h
 obtain ⟨a,ns,rfl,hs,hl,q⟩ := h
 obtain ⟨its,rv,pl,hz⟩ := I.list hs
 rw [Vals.ref1 r]
 have hi := rv.ints
 have ll := hi.length
 refine SI.call_set (I.ok.hd hc) pl.isList (by simpa using hi) (by rw [List.size_toArray,ll]; exact Nat.lt_of_le_of_lt (Nat.succ_le_succ hl) (by decide)) fun h' tk ks SK mem keep => ?_
 have nd : ks.Nodup := by obtain ⟨_,_,_,_,_,_,_,_,_,n,_⟩ := SK; exact n
 obtain ⟨ob,es,ep,t,ho,_⟩ := id SK
 exact ⟨.ref _,upd H s.heap.objs.size (setO X.prog X.w s.heap.objs.size ks),I.laid (t' := tk) (fun b o e => keep b o (Heap.lt_size e) e) (Nat.le_refl _) ⟨SK,⟨_,ho⟩,fun g1 g2 q1 q2 => q1.keep q2⟩,rfl,q ks _ mem nd (I.hok.fresh (Nat.le_refl _))⟩
def rSortedSet (P : Program) (w : World) : List V -> Hp -> VK -> Prop := fun vs H Q => ∃ (a : Addr) (ks : List Int),vs = [V.ref a] /\ H a = some (setO P w a ks) ∧
 ∀ (ns' : List Int) (p : Addr),ns'.Perm ks -> ns'.Pairwise (· <= ·) -> H p = none -> Q (.ref p) (upd H p (.lst (ns'.map V.int)))
theorem cr_sortedSet (hc : X.calm = true) : CallR X (.builtin "sorted") (rSortedSet X.prog X.w) := by
 intro pins s σ H vs us Q I r h
 obtain ⟨a,ks,rfl,ha,q⟩ := h
 rw [Vals.ref1 r]
 have SK : SI.SetK X.prog X.w s.heap a ks := (I.hok a _ ha).1
 have hh := I.ok.hd hc
 refine Calls.call_function_entry kind_sorted plain_sorted entry_sorted (args_sorted1 _) ?_
 unfold Builtin.«sorted»
 refine wpAny_bind (m := checkCount "sorted" 1 1 _) (wpAny_pure ?_)
 refine wpAny_bind (SI.collect_set (A := X.A.in1) hh SK fun h' d tk vs ns sz keep iv pn => ?_)
 have lz : vs.length <= sizeLine := by
  rw [iv.length,pn.length_eq]
  exact Nat.le_of_lt (Nat.lt_trans SK.len (by decide))
 refine wpAny_bind (wpAny_newList ?_ lz)
 have hoL : (h'.push (seqObj "list" vs.toArray 0)).get? h'.objs.size = some (seqObj "list" vs.toArray 0) := Heap.get?_push_size _ rfl
 refine wpAny_bind (wpAny_holding (wpAny_call_entry slot_list_sort ⟨_,hoL,rfl⟩ entry_list_sort (list_sort_treeAny hoL iv lz fun out ns' h1 h2 h3 => ⟨_,rfl,?_⟩) (args_list_sort _)))
 refine wpAny_pure ⟨_,rfl,?_⟩
 obtain ⟨ep,he⟩ := sortedHeap_at (out := out) hoL
 have hlen : (ns'.map V.int).length <= sizeLine := by rw [List.length_map,h2.length_eq,← iv.length]; exact lz
 have kp : ∀ b o,s.heap.get? b = some o -> (sortedHeap (h'.push (seqObj "list" vs.toArray 0)) h'.objs.size vs out).get? b = some o := fun b o e => by
  have lt : b < h'.objs.size := Heap.lt_size (keep b o e)
  rw [sortedHeap_old (Nat.ne_of_lt lt) (by rw [size_push']; exact Nat.lt_succ_of_lt lt)]
  exact Heap.get?_push_of_some _ (keep b o e)
 have hle : s.heap.objs.size <= h'.objs.size := Nat.le_of_lt sz
 have J := I.laid (h' := sortedHeap (h'.push (seqObj "list" vs.toArray 0)) h'.objs.size vs out) (t' := tk) (a := h'.objs.size) (o := .lst (ns'.map V.int)) kp hle ⟨hlen,out.toList,ep,vals_of_ints h1,he⟩
 refine ⟨.ref _,upd H h'.objs.size (.lst (ns'.map V.int)),?_,rfl,q ns' _ (h2.trans pn) h3 (I.hok.fresh hle)⟩
 exact ⟨J.ok,J.os,J.bare,J.base,J.loc,J.cell,J.free,J.freeC,J.pin,J.hok,J.len⟩
end
end Cs
end
section
set_option Elab.async false
set_option linter.all false
set_option maxRecDepth 100000
set_option maxHeartbeats 4000000
namespace Cs
open PySem PySem.Spec PyProof.Rows L2
theorem nolen_lri : typeLookup (.type "list_reverseiterator") "__len__" = pure none := by rw [typeLookup_type,builtinLookup_eq_fast]; kernel_rfl
theorem hint_lri : typeLookup (.type "list_reverseiterator") "__length_hint__" = pure (some (.builtin "list_reverseiterator.__length_hint__")) := by rw [typeLookup_type,builtinLookup_eq_fast]; kernel_rfl
section
variable {prog : Program} {w : World} {A : Around} {E : Value -> Shared -> Prop} {s : Shared}
theorem hint_rev {it l : Addr} {i : Int} {Q : Bool -> Shared -> Prop} (h : s.heap.IsRevIter it l i) (hq : Q false s) : wpAny (model prog w) A (Builtin.List.listLengthHint (.ref it)) Q E s := by
 unfold Builtin.List.listLengthHint
 refine wpAny_bind (wpAny_specialOf h.typeIs nolen_lri ?_)
 show wpAny _ A (specialOf (Value.ref it) (Str.ofString "__length_hint__") >>= _) _ _ _
 refine wpAny_bind (wpAny_specialOf h.typeIs hint_lri ?_)
 generalize hid : ("list_reverseiterator.__length_hint__" : String) = id0
 wp_delta
 rw [show splitId id0 = some ("list_reverseiterator", "__length_hint__") from by subst hid; decide +kernel]
 subst hid
 refine wpAny_bind (wpAny_isInstance (b := true) h.typeIs (by rw [isSubtype_type]; kernel_rfl) ?_)
 exact wpAny_pure hq
theorem call_list_rev {it l : Addr} {items : Array Value} {Q : Value -> Shared -> Prop} (hh : A.handled = none) (hne : l ≠ it) (hit : s.heap.IsRevIter it l ((items.size : Int) - 1)) (hl : s.heap.IsList l items) (hn : items.size <= sizeLine)
  (hQ : ∀ h' tk acc c,(∀ b o,b ≠ it -> s.heap.get? b = some o -> h'.get? b = some o) -> h'.get? s.heap.objs.size = some (seqObj "list" acc c) -> ItemsOf (fun i v => items[items.size - 1 - i]? = some v) acc items.size →
   Q (.ref s.heap.objs.size) { s with heap := h',toks := tk }) : wpAny (model prog w) A (call (.type "list") [.ref it]) Q E s := by
 refine callType_codes (Q₁ := fun obj s₁ => obj = .ref s.heap.objs.size /\ s₁ = { s with heap := s.heap.push { cls := .type "list",data := .seq #[] } }) F.called_list (F.typeCall_list_1 _) F.entry_list_init
  (code_list_new _ ⟨rfl,rfl⟩) fun obj s₁ h₁ => ?_
 obtain ⟨rfl,rfl⟩ := h₁
 have hS : (s.heap.push { cls := .type "list",data := .seq #[] }).get? s.heap.objs.size = some { cls := .type "list",data := .seq #[] } := Heap.get?_push_size _ rfl
 obtain ⟨oi,hoi,hoc,hod⟩ := id hit
 obtain ⟨ol,hol,_⟩ := id hl
 have lit : it < s.heap.objs.size := Heap.lt_size hoi
 have ll : l < s.heap.objs.size := Heap.lt_size hol
 refine ⟨⟨_,hS,rfl⟩,F.args_list_init_2 _ _,?_⟩
 show wpAny _ _ (do let old ← Builtin.List.listItems (.ref s.heap.objs.size); Builtin.List.listUpdate (.ref s.heap.objs.size) (fun _ => #[]); letGo old.toList.reverse; Builtin.List.listExtendWith (.ref s.heap.objs.size) (.ref it) .none) _ _ _
 refine wpAny_bind ?_
 unfold Builtin.List.listItems
 refine wpAny_bind (wpAny_seqItems hS rfl (wpAny_pure ?_))
 show wpAny _ _ (updateSeq s.heap.objs.size (fun _ => #[]) >>= fun _ => letGo (#[] : Array Value).toList.reverse >>= fun _ => Builtin.List.listExtendWith (.ref s.heap.objs.size) (.ref it) .none) _ _ _
 refine wpAny_bind (wpAny_updateSeq hS rfl ?_)
 have hS2 := Heap.get?_update_self (Obj.mapSeq (fun _ => (#[] : Array Value))) hS rfl
 have oth : ∀ b o,s.heap.get? b = some o -> ((s.heap.push { cls := .type "list",data := .seq #[] }).update s.heap.objs.size (Obj.mapSeq (fun _ => (#[] : Array Value)))).get? b = some o :=
  fun b o e => (Heap.get?_update_other _ _ (Nat.ne_of_gt (Heap.lt_size e))).trans (Heap.get?_push_of_some _ e)
 refine wpAny_bind (wpAny_letGo ?_)
 have hit2 : ((s.heap.push { cls := .type "list",data := .seq #[] }).update s.heap.objs.size (Obj.mapSeq (fun _ => (#[] : Array Value)))).IsRevIter it l ((items.size : Int) - 1) := ⟨oi,oth _ _ hoi,hoc,hod⟩
 have hl2 : ((s.heap.push { cls := .type "list",data := .seq #[] }).update s.heap.objs.size (Obj.mapSeq (fun _ => (#[] : Array Value)))).IsList l items := hl.at fun o e => oth _ _ e
 unfold Builtin.List.listExtendWith
 refine wpAny_bind (wpAny_typeOf (T := "list_reverseiterator") ⟨oi,oth _ _ hoi,hoc⟩ ?_)
 have h1 : Builtin.List.listSameRef (.ref s.heap.objs.size) (.ref it) = false := by simp [Builtin.List.listSameRef,Nat.ne_of_gt lit]
 rw [if_neg (by rw [h1]; decide)]
 refine wpAny_bind (wpAny_pyIter_revIter hit2 ?_)
 refine wpAny_bind (wpAny_holding (hint_rev hit2 ?_))
 rw [if_neg (by decide)]
 have W := (Walks.listRev (prog := prog) (w := w) (A := A.in1.in1) hh it l hne items).toS
 have hSf : s.heap.objs.size ∉ [it,l] := by
  simp only [List.mem_cons,List.not_mem_nil,or_false,not_or]
  exact ⟨Nat.ne_of_gt lit,Nat.ne_of_gt ll⟩
 refine wpAny_pure ⟨plainId_quiet F.plain_extend_loop _,codeAny_extend_loopS (A := A.in1) W hn _ hSf _ items.size 0 _ _ _ rfl (Nat.zero_le _) ⟨Nat.zero_le _,by simpa using hit2,hl2⟩ hS2 (ItemsOf.nil _) fun s' acc c' mv hS' hacc => ?_⟩
 rw [Moved.eq_with mv]
 refine ⟨rfl,hQ s'.heap s'.toks acc c' (fun b o hb e => mv.heap b o ?_ (oth b o e)) hS' hacc⟩
 simp only [List.mem_cons,List.not_mem_nil,or_false,not_or]
 exact ⟨Nat.ne_of_lt (Heap.lt_size e),hb⟩
end
def tListRev (K : W.Frag) (t : TA) : TE := fun σ H Q => t σ H fun vs H1 => ∃ (a : Addr) (xs : List V),vs = [.ref a] /\ SqL K H1 a xs /\ ∀ q,H1 q = none -> Q (.ref q) (upd H1 q (.lst xs.reverse))
theorem pe_listRev {X : Cx} {K : W.Frag} {e : Expr} {t : TA} {p p2 pos pos2 : Pos} (hK : X.K = K) (hc : X.calm = true) (hg : Gl X "list") (hm : X.mg "list" = none) (hg2 : Gl X "reversed") (hm2 : X.mg "reversed" = none) (ha : PA X [e] t)
  (hs : starEach [e] X.env = [(false,eval e X.env)] := by rfl) (hs2 : starEach [.Call (.Name "reversed" p2) [e] [] pos2] X.env = [(false,eval (.Call (.Name "reversed" p2) [e] [] pos2) X.env)] := by rfl) :
  PE X (.Call (.Name "list" p) [.Call (.Name "reversed" p2) [e] [] pos2] [] pos) (tListRev K t) := by
 subst hK
 intro pins s σ H Q I h
 refine Call_ (ld_blt I hg hm boot_list (PyProof.Rows.callWith_type1 ?_ hs2 rfl))
 rw [hs2]
 show wpAny _ _ (spliced [(false,eval (.Call (.Name "reversed" p2) [e] [] pos2) X.env)]) _ _ s
 refine Calls.spliced_cons (Call_ (ld_blt I hg2 hm2 boot_reversed5 (PyProof.Rows.callWith_type1 (thn (ha pos2 pins s σ H _ I h) fun us s1 ⟨vs,H1,I1,r1,q1⟩ => ?_) hs rfl)))
 obtain ⟨a,xs,rfl,hq,q⟩ := q1
 rw [Vals.ref1 r1]
 obtain ⟨its,rv,p',hz⟩ := I1.list hq
 have hl := rv.length
 obtain ⟨ol,hol,_⟩ := id p'.isList
 have al : a < s1.heap.objs.size := Heap.lt_size hol
 refine call_reversed_list p'.isList (Calls.spliced_nil ?_)
 have hit : (s1.heap.push (revObj a ((its.toArray.size : Int) - 1))).IsRevIter s1.heap.objs.size a ((its.toArray.size : Int) - 1) := ⟨_,Heap.get?_push_size _ rfl,rfl,rfl⟩
 refine call_list_rev (I1.ok.hd hc) (Nat.ne_of_lt al) hit (p'.isList.at fun o e => Heap.get?_push_of_some _ e) (by rw [List.size_toArray,← hl]; exact hz) fun h' tk acc c kp hS items => ?_
 rw [size_push'] at hS
 have ea : acc.toList = its.reverse := by
  apply List.ext_getElem?
  intro i
  have sz : acc.size = its.length := by rw [items.1,List.size_toArray]
  rw [Array.getElem?_toList]
  by_cases ci : i < its.length
  ·have lt : i < acc.size := by rw [sz]; exact ci
   have z := items.2 i acc[i] (Array.getElem?_eq_getElem lt)
   rw [List.size_toArray] at z
   rw [Array.getElem?_eq_getElem lt,List.getElem?_reverse ci]
   simpa using z.symm
  ·rw [Array.getElem?_eq_none (by omega),List.getElem?_eq_none (by rw [List.length_reverse]; omega)]
 have kp2 : ∀ b o,s1.heap.get? b = some o -> h'.get? b = some o := fun b o e => kp b o (Nat.ne_of_lt (Heap.lt_size e)) (Heap.get?_push_of_some _ e)
 refine ⟨.ref (s1.heap.objs.size + 1),upd H1 (s1.heap.objs.size + 1) (.lst xs.reverse),?_,(by show Value.ref (s1.heap.push _).objs.size = Value.ref (s1.heap.objs.size + 1); rw [size_push']),?_⟩
 ·refine I1.laid (t' := tk) kp2 (Nat.le_succ _) ⟨by rw [List.length_reverse]; exact hz,acc.toList,c,?_,hS⟩
  rw [ea]
  exact rv.reverse
 ·exact q _ (I1.hok.fresh (Nat.le_succ _))
end Cs
end
section
set_option Elab.async false
set_option linter.all false
set_option maxRecDepth 100000
set_option maxHeartbeats 4000000
namespace Cs
open PySem PySem.Spec PyProof.Rows L2
open PyProof.Rows.G (tupKindC tupKeyC KeepsTups tupC_ltAt isTupObj TupsOf.length TupsOf.keep)
section
variable {prog : Program} {w : World} {A : Around} {E : Value -> Shared -> Prop} {s : Shared}
theorem itemsInts {n : Nat} {acc : Array Value} (h : ItemsOf (fun i v => ∃ t,v = .int ((0 : Int) + i * 1) t) acc n) : IntsAre acc.toList ((List.range n).map fun (i : Nat) => (i : Int)) := by
 obtain ⟨h1,h2⟩ := h
 have e : (List.range n).map (fun (i : Nat) => (i : Int)) = acc.toList.map numOf := by
  apply List.ext_getElem
  ·simp [h1]
  ·intro i a b
   simp at a b
   obtain ⟨t,ht⟩ := h2 i acc[i] (by simp [b])
   simp [ht,numOf]
 rw [e]
 refine intsAre_map _ fun v hv => ?_
 obtain ⟨i,hi,rfl⟩ := List.getElem_of_mem hv
 simp at hi
 obtain ⟨t,ht⟩ := h2 i acc[i] (by simp [hi])
 exact ⟨_,t,by simpa using ht⟩
theorem collect_rng {r : Addr} {n : Nat} {t u v : Tok} {Q : List Value -> Shared -> Prop} (hh : A.handled = none) (hr : IsRange s.heap r 0 (n : Int) 1 t u v) (hlen : n <= 1000)
  (hQ : ∀ h' tk vs,s.heap.objs.size < h'.objs.size -> (∀ b o,s.heap.get? b = some o -> h'.get? b = some o) -> IntsAre vs ((List.range n).map fun (i : Nat) => (i : Int)) -> Q vs { s with heap := h',toks := tk }) : wpAny (model prog w) A (collect (.ref r)) Q E s := by
 unfold collect
 refine wpAny_bind (wpAny_runValue (codeAny_builtin F.entry_proto_collect ?_))
 rw [Around.under_plainId F.plain_proto_collect _]
 show wpAny _ A.in1 (newList [] >>= fun l => again (.builtin "list.__iadd__" ⟨[l,.ref r],[]⟩)) _ _ s
 refine wpAny_bind (wpAny_newObj_type (wpAny_pure ⟨plainId_quiet F.plain_list_iadd _,codeAny_builtin F.entry_list_iadd ?_⟩))
 rw [Around.under_plainId F.plain_list_iadd _]
 show wpAny _ A.in1 (Builtin.List.listExtendWith (.ref s.heap.objs.size) (.ref r) (.ref s.heap.objs.size)) _ _ _
 have hS0 : (s.heap.push { cls := .type "list",data := .seq ([] : List Value).toArray }).get? s.heap.objs.size = some { cls := .type "list",data := .seq ([] : List Value).toArray } := Heap.get?_push_size _ rfl
 have fin : ∀ s',(∃ h' tk acc c',s' = { s with heap := h',toks := tk } /\ (∀ b o,s.heap.get? b = some o -> h'.get? b = some o) /\ h'.get? s.heap.objs.size = some { cls := .type "list",dict := none,data := .seq acc c',slots := #[] } /\ ItemsOf (fun i v => ∃ t,v = .int ((0 : Int) + i * 1) t) acc n) →
   wpAny (model prog w) A (load s.heap.objs.size >>= fun x => match x.data with | .seq xs _ => pure xs.toList | _ => unsupported "internal:collect") Q E s' := fun s' ⟨h',tk,acc,c',e,hk,hS,items⟩ => by
  subst e
  refine wpAny_bind (wpAny_load hS ?_)
  exact wpAny_pure (hQ h' tk acc.toList (Heap.lt_size hS) hk (itemsInts items))
 have base := wpAny_extend_range (prog := prog) (w := w) (A := A) (n := n) (s := { s with heap := s.heap.push { cls := .type "list",data := .seq ([] : List Value).toArray } })
  (R := fun r s' => r = .ok (.ret (.ref s.heap.objs.size)) /\ ∃ h' tk acc c',s' = { s with heap := h',toks := tk } /\ (∀ b o,s.heap.get? b = some o -> h'.get? b = some o) /\ h'.get? s.heap.objs.size = some { cls := .type "list",dict := none,data := .seq acc c',slots := #[] } /\ ItemsOf (fun i v => ∃ t,v = .int ((0 : Int) + i * 1) t) acc n)
  hh (Heap.get?_push_of_some _ hr) (small_one (a := 0) (b := (n : Int)) (by omega) (by omega) (by omega) (by omega)) (by rw [rangeSize_one]; split <;> omega) (by omega) s.heap.objs.size (.ref s.heap.objs.size) 0 hS0
  fun h' tk acc c' hk hS items => ⟨rfl,h',tk,acc,c',rfl,fun b o e => hk b o (Nat.ne_of_lt (Heap.lt_size e)) (Heap.get?_push_of_some _ e),hS,items⟩
 refine wpAny_mono base (fun fn s' h => ?_) fun e s' h => nomatch h.1
 cases fn with
 | done f =>
  obtain ⟨e,h⟩ := h
  cases e
  exact fin s' h
 | again c =>
  refine ⟨h.1,codeAny_mono h.2 fun r s' h => ?_⟩
  obtain ⟨rfl,h⟩ := h
  exact fin s' h
def keyAt (kf : Nat -> Int) (H : Hp) (j : Nat) (v : Value) : Prop := ∃ t,v = .ref t /\ H t = some (.tup [.int (kf j),.int (j : Int)])
theorem keyAt.at {P : Program} {W : World} {H : Hp} {h : Heap} {kf : Nat -> Int} {j : Nat} {v : Value} (k : keyAt kf H j v) (ok : HOk P W H h) : ∃ t o t1 t2 n,v = .ref t /\ h.get? t = some o /\ o.cls = .type "tuple" /\ o.data = .seq #[.int (kf j) t1,.int (j : Int) t2] n := by
 obtain ⟨t,rfl,ht⟩ := k
 obtain ⟨_,its,rv,o,ho,hc,n,hd⟩ := ok t _ ht
 obtain ⟨u1,u2,rfl,⟨t1,rfl⟩,⟨t2,rfl⟩⟩ := rv.two
 exact ⟨t,o,t1,t2,n,rfl,ho,hc,hd⟩
theorem keyAt.key {P : Program} {W : World} {H : Hp} {h : Heap} {kf : Nat -> Int} {j : Nat} {v : Value} (k : keyAt kf H j v) (ok : HOk P W H h) : tupKeyC h (fun _ => false) v = some [Sum.inl (kf j),Sum.inl (j : Int)] := by
 obtain ⟨t,o,t1,t2,n,rfl,ho,hc,hd⟩ := k.at ok
 unfold tupKeyC
 rw [if_pos (by simp [isTupObj,ho,hc])]
 unfold tupKey
 simp only [ho,hd]
 rfl
theorem tups_of {P : Program} {W : World} {H : Hp} {h : Heap} {kf : Nat -> Int} (ok : HOk P W H h) : ∀ (l : List Value) ,(∀ v ∈ l,∃ j,keyAt kf H j v) -> ∃ fs,TupsOf h (fun _ => false) l fs
 | [],_ => ⟨[],.nil⟩
 | v :: l,hl => by
  obtain ⟨fs,hf⟩ := tups_of ok l fun x hx => hl x (List.mem_cons_of_mem _ hx)
  obtain ⟨j,k⟩ := hl v (.head _)
  obtain ⟨t,o,t1,t2,n,rfl,ho,hc,hd⟩ := k.at ok
  exact ⟨_ :: fs,.cons ⟨t,o,_,n,rfl,ho,hc,hd,rfl,fun _ => ⟨_,_,rfl⟩,fun z => nomatch z⟩ hf⟩
theorem key_le {kf : Nat -> Int} {a b : Nat} (h : (listOrd itemOrd).kle [Sum.inl (kf a),Sum.inl (a : Int)] [Sum.inl (kf b),Sum.inl (b : Int)]) : kf a < kf b ∨ kf a = kf b /\ a <= b := by
 have e : lexLt itemOrd [Sum.inl (kf b),Sum.inl (b : Int)] [Sum.inl (kf a),Sum.inl (a : Int)] = false := h
 obtain ⟨a1,a2⟩ := lex_false.mp e
 have b1 : ¬ kf b < kf a := by
  have : decide (kf b < kf a) = false := a1
  simpa using this
 rcases a2 with a2 | a2
 ·have : decide (kf a < kf b) = true := a2
  exact .inl (by simpa using this)
 ·obtain ⟨c1,_⟩ := lex_false.mp a2
  have : decide ((b : Int) < (a : Int)) = false := c1
  have : ¬ ((b : Int) < (a : Int)) := by simpa using this
  omega
theorem sorted_js {P : Program} {W : World} {H : Hp} {h : Heap} {kf : Nat -> Int} {n : Nat} (ok : HOk P W H h) {keys : Array Value} {vs : List Value} (hv : IntsAre vs ((List.range n).map fun (i : Nat) => (i : Int))) (hs : keys.size = n) (hk : ∀ j v,keys[j]? = some v -> keyAt kf H j v)
  {xs : Array Keyed} (hp : xs.Perm (keys.zip vs.toArray)) (so : SortedToK (tupKindC h (fun _ => false)) xs xs.size) :
  ∃ js : List Nat,js.Perm (List.range n) /\ js.Pairwise (fun a b => kf a < kf b ∨ kf a = kf b /\ a <= b) /\ Vals (js.map fun (j : Nat) => V.int (j : Int)) (xs.map (·.2)).toList := by
 have lv : vs.length = n := by rw [hv.length]; simp
 have hl : xs.toList.Perm (keys.toList.zip vs) := by rw [<- ksk_zip]; exact Array.perm_iff_toList_perm.mp hp
 have at_ : ∀ p ∈ keys.toList.zip vs,∃ (j : Nat) (t : Tok),p.2 = .int (j : Int) t /\ keyAt kf H j p.1 := fun p hp => by
  obtain ⟨i,hi,e⟩ := List.getElem_of_mem hp
  have kl : keys.toList.length = keys.size := by simp
  have hi1 : i < keys.size := by have q := hi; rw [List.length_zip] at q; rw [<- kl]; exact Nat.lt_of_lt_of_le q (Nat.min_le_left _ _)
  have hi2 : i < vs.length := by have q := hi; rw [List.length_zip] at q; exact Nat.lt_of_lt_of_le q (Nat.min_le_right _ _)
  obtain ⟨t,ht⟩ := hv.get i (i : Int) (by rw [List.getElem?_map,List.getElem?_range (by rw [<- lv]; exact hi2)]; rfl)
  have e1 : p.1 = keys[i] := by rw [<- e]; simp
  have e2 : p.2 = vs[i] := by rw [<- e]; simp
  rw [List.getElem?_eq_getElem hi2] at ht
  exact ⟨i,t,by rw [e2]; exact Option.some.inj ht,by rw [e1]; exact hk i _ (by simp [hi1])⟩
 have at' : ∀ p ∈ xs.toList,∃ (j : Nat) (t : Tok),p.2 = .int (j : Int) t /\ keyAt kf H j p.1 := fun p hp => at_ p (hl.mem_iff.mp hp)
 refine ⟨xs.toList.map fun p => (numOf p.2).toNat,?_,?_,?_⟩
 ·have h1 := hl.map fun p => (numOf p.2).toNat
  have e : (keys.toList.zip vs).map (fun p => (numOf p.2).toNat) = List.range n := by
   have e1 : (keys.toList.zip vs).map (fun p => (numOf p.2).toNat) = ((keys.toList.zip vs).map Prod.snd).map fun v => (numOf v).toNat := by rw [List.map_map]; rfl
   rw [e1,List.map_snd_zip (by rw [show keys.toList.length = keys.size by simp,hs,lv]; exact Nat.le_refl _)]
   have e2 : vs.map (fun v => (numOf v).toNat) = (vs.map numOf).map Int.toNat := by rw [List.map_map]; rfl
   rw [e2,hv.nums,List.map_map]
   have : (Int.toNat ∘ fun (i : Nat) => (i : Int)) = id := by funext i; simp
   rw [this,List.map_id]
  rw [e] at h1
  exact h1
 ·rw [List.pairwise_map,List.pairwise_iff_getElem]
  intro i j hi hj hij
  have hi' : i < xs.size := by simpa using hi
  have hj' : j < xs.size := by simpa using hj
  have q := so i j (Nat.le_of_lt hij) hj'
  obtain ⟨a,ta,ea,ka⟩ := at' xs.toList[i] (List.getElem_mem hi)
  obtain ⟨b,tb,eb,kb⟩ := at' xs.toList[j] (List.getElem_mem hj)
  have KA : KK (tupKindC h (fun _ => false)) xs i = [Sum.inl (kf a),Sum.inl (a : Int)] := by
   unfold KK
   rw [Array.getElem?_eq_getElem hi']
   have := ka.key ok
   simp only [Array.getElem_toList] at this
   simp only [this]
   rfl
  have KB : KK (tupKindC h (fun _ => false)) xs j = [Sum.inl (kf b),Sum.inl (b : Int)] := by
   unfold KK
   rw [Array.getElem?_eq_getElem hj']
   have := kb.key ok
   simp only [Array.getElem_toList] at this
   simp only [this]
   rfl
  rw [KA,KB] at q
  have := key_le q
  rw [ea,eb]
  simpa [numOf] using this
 ·rw [Array.toList_map,List.map_map]
  have gen : ∀ l : List Keyed,(∀ p ∈ l,∃ (j : Nat) (t : Tok),p.2 = .int (j : Int) t) -> Vals (l.map ((fun (j : Nat) => V.int (j : Int)) ∘ fun p => (numOf p.2).toNat)) (l.map (·.2)) := by
   intro l
   induction l with
   | nil => intro _; exact .nil
   | cons p l ih =>
    intro hl
    obtain ⟨j,t,e⟩ := hl p (.head _)
    refine .cons ?_ (ih fun q hq => hl q (List.mem_cons_of_mem _ hq))
    show RelV (V.int (((numOf p.2).toNat : Nat) : Int)) p.2
    rw [e]
    exact ⟨t,by simp [numOf]⟩
  exact gen _ fun p hp => let ⟨j,t,e,_⟩ := at' p hp; ⟨j,t,e⟩
end
theorem inv_adopt {X : Cx} {pins : List (Addr × Obj)} {σ : L2.St} {H : Hp} {s : Shared} {D : Addr} {o : HO} (I : Inv X pins σ H s) (c : Scr X pins D) (hn : H D = none) (new : ObjOk X.prog X.w (upd H D o) s.heap D o) : Inv X pins σ (upd H D o) s := by
 refine ⟨I.ok,I.os,I.bare,⟨I.base.keep,I.base.slot,fun b ob e n hx => ?_,I.base.there,fun b xs e => ?_,fun b ob u e => ?_,fun b ps e => ?_⟩,I.loc,I.cell,?_,fun x d e => ?_,fun p hp => ?_,fun b u e => ?_,I.len⟩
 ·rw [upd_ne (Nat.ne_of_lt (Nat.lt_of_lt_of_le (Heap.lt_size e) c.lo))]; exact I.base.free b ob e n hx
 ·have := I.base.tups b xs e
  rw [upd_ne (ne_of_none this hn)]; exact this
 ·have := I.base.frzs b ob u e
  rw [upd_ne (ne_of_none this hn)]; exact this
 ·obtain ⟨m,q⟩ := I.base.tbls b ps e
  exact ⟨m,by rw [upd_ne (ne_of_none q hn)]; exact q⟩
 ·rw [upd_ne c.nl.symm]; exact I.free
 ·rw [upd_ne (c.nc x d e)]; exact I.freeC x d e
 ·obtain ⟨a1,a2,a3⟩ := I.pin p hp
  exact ⟨a1,by rw [upd_ne (c.np p hp)]; exact a2,a3⟩
 ·by_cases hb : b = D
  ·subst hb
   rw [upd_same] at e
   cases e
   exact new
  ·rw [upd_ne hb] at e
   exact (I.hok b u e).stay (fun c v _ q => q) (fun c q => by rw [upd_ne (ne_of_none q hn)]; exact q) fun c xs q => by rw [upd_ne (ne_of_none q hn)]; exact q
section
variable {X : Cx} {pins : List (Addr × Obj)} {σ : L2.St} {A : Around} {E : Value -> Shared -> Prop} {L : List Tbl} {kf : Nat -> Int} {n : Nat} {vs : List Value} {H : Hp} {D kS : Addr} {P : PySem.Fin -> Shared -> Prop} {keys : Array Value} {e e1 : Nat} {s : Shared}
theorem sort_tail {st : SortSt} (I : Inv X pins σ H s) (cD : Scr X pins D) (cK : Scr X pins kS) (nD : H D = none) (nK : H kS = none) (hK : s.heap.get? kS = some (seqObj "list" keys e)) (hD : s.heap.get? D = some (seqObj "list" #[] e1)) (ne : kS ≠ D) (hfl : failedOf st = none)
  (hkz : keys.size <= sizeLine) {xs : List V} (rv : Vals xs ((arrOf st).map (·.2)).toList) (hz : xs.length <= sizeLine) (h : ∀ s1,Inv X pins σ (upd H D (.lst xs)) s1 -> P (.done (.ret .none)) s1) : wpAny (model X.prog X.w) A (ksk_tail D false e1 (.ref kS) st) P E s := by
 have hout : ((arrOf st).map (·.2)).size = xs.length := by rw [<- Array.length_toList,rv.length]
 have s1 := Heap.SameBut.update s.heap kS (Obj.mapSeq fun _ => (#[] : Array Value))
 have na1 : (s.heap.update kS (Obj.mapSeq fun _ => (#[] : Array Value))).get? D = some (seqObj "list" #[] e1) := (s1.2 D ne.symm).trans hD
 have s2 := Heap.SameBut.update (s.heap.update kS (Obj.mapSeq fun _ => (#[] : Array Value))) D (Obj.mapSeq fun _ => (arrOf st).map (·.2))
 obtain ⟨c2,hc2⟩ : ∃ c2,((s.heap.update kS (Obj.mapSeq fun _ => (#[] : Array Value))).update D (Obj.mapSeq fun _ => (arrOf st).map (·.2))).get? D = some (seqObj "list" ((arrOf st).map (·.2)) c2) :=
  ⟨_,get?_update_seq na1 fun _ => (arrOf st).map (·.2)⟩
 have I1 := cK.turn (tk := s.toks) I nK fun b o hb q => (s1.2 b hb).trans q
 have I2 := cD.turn (tk := s.toks) I1 nD fun b o hb q => (s2.2 b hb).trans q
 unfold ksk_tail
 try dsimp only
 refine wpAny_bind (listUpdate_at hK rfl ?_ hkz (Nat.zero_le _))
 refine wpAny_bind (wpAny_letGo ?_)
 refine wpAny_bind (seqEpoch_at na1 rfl ?_)
 refine wpAny_bind (listUpdate_at na1 rfl ?_ (Nat.zero_le _) (by simp only [Bool.false_eq_true,if_false]; rw [hout]; exact Nat.le_succ_of_le hz))
 rw [hfl]
 simp only [bne_self_eq_false,Bool.false_eq_true,if_false]
 refine wpAny_pure (h _ (inv_adopt I2 cD nD ⟨hz,((arrOf st).map (·.2)).toList,c2,rv,?_⟩))
 rw [Array.toArray_toList]
 exact hc2
theorem sort_end (I : Inv X pins σ H s) (cD : Scr X pins D) (cK : Scr X pins kS) (nD : H D = none) (nK : H kS = none) (hK : s.heap.get? kS = some (seqObj "list" keys e)) (hD : s.heap.get? D = some (seqObj "list" #[] e1)) (ne : kS ≠ D) (hn : n <= 1000)
  (hv : IntsAre vs ((List.range n).map fun (i : Nat) => (i : Int))) (hs : keys.size = n) (hk : ∀ j v,keys[j]? = some v -> keyAt kf H j v)
  (h : ∀ (s1 : Shared) (js : List Nat),js.Perm (List.range n) -> js.Pairwise (fun a b => kf a < kf b ∨ kf a = kf b /\ a <= b) -> Inv X pins σ (upd H D (.lst (js.map fun (j : Nat) => V.int (j : Int)))) s1 -> P (.done (.ret .none)) s1) : wpAny (model X.prog X.w) A (ksk_end D false vs.toArray e1 (.ref kS) keys) P E s := by
 have lv : vs.length = n := by rw [hv.length]; simp
 have hzs : (keys.zip vs.toArray).size = n := by rw [Array.size_zip,hs,List.size_toArray,lv,Nat.min_self]
 have ok := I.hok
 have kmem : ∀ v ∈ keys.toList,∃ j,keyAt kf H j v := fun v hv => by
  obtain ⟨i,hi,e⟩ := List.getElem_of_mem hv
  exact ⟨i,hk i v (by rw [<- e]; simp at hi; simp [hi])⟩
 have go : ∀ st : SortSt,(arrOf st).Perm (keys.zip vs.toArray) -> failedOf st = none -> SortedToK (tupKindC s.heap (fun _ => false)) (arrOf st) (arrOf st).size -> wpAny (model X.prog X.w) A (ksk_tail D false e1 (.ref kS) st) P E s := fun st hp hf so => by
  obtain ⟨js,j1,j2,j3⟩ := sorted_js ok hv hs hk hp so
  have jl : (js.map fun (j : Nat) => V.int (j : Int)).length <= sizeLine := by rw [List.length_map,j1.length_eq,List.length_range,sizeLine_eq]; omega
  exact sort_tail I cD cK nD nK hK hD ne hf (by rw [hs,sizeLine_eq]; omega) j3 jl fun s1 I1 => h s1 js j1 j2 I1
 unfold ksk_end
 simp only [Bool.false_eq_true,if_false]
 by_cases h2 : vs.toArray.size < 2
 ·rw [if_pos h2,if_pos h2]
  refine wpAny_bind (wpAny_pure ?_)
  rw [StateT.run_pure]
  refine wpAny_bind (wpAny_pure ?_)
  try dsimp only
  refine go (SortSt.mk' general' (keys.zip vs.toArray) #[] 7 none) (Array.Perm.refl _) rfl ?_
  intro i j hij hj
  have hj2 : j < (keys.zip vs.toArray).size := hj
  rw [hzs] at hj2
  rw [List.size_toArray] at h2
  have : i = j := by omega
  subst this
  exact KeyOrd.kle_refl _
 ·rw [if_neg h2,if_neg h2]
  rw [List.size_toArray] at h2
  obtain ⟨fs,tf⟩ := tups_of ok keys.toList kmem
  have e0 : keys = keys.toList.toArray := by simp
  have k0 : wpAny (model X.prog X.w) A (keyKind' keys) (fun kd s' => kd = tuples' true /\ s' = s) E s := by
   rw [e0]
   exact tup_kind (s := s) (by rw [TupsOf.length tf,Array.length_toList]; omega) tf ⟨rfl,rfl⟩
  refine wpAny_bind (wpAny_mono k0 (fun kd s' hkd => ?_) fun _ _ z => z)
  obtain ⟨rfl,rfl⟩ := hkd
  have kz : KeysOf (tupKindC s'.heap (fun _ => false)) (keys.zip vs.toArray) := fun p hp => by
   rw [ksk_zip] at hp
   obtain ⟨j,kj⟩ := kmem p.1 (List.of_mem_zip (show (p.1,p.2) ∈ _ from hp)).1
   exact ⟨_,kj.key ok⟩
  refine wpAny_bind (wpAny_mono (G.wpS_sortRunsSt (κ := tupKindC s'.heap (fun _ => false)) (kd := tuples' true) (a₀ := keys.zip vs.toArray) (st := SortSt.mk' (tuples' true) (keys.zip vs.toArray) #[] 7 none)
   (Q := fun _ st' => (arrOf st').Perm (keys.zip vs.toArray) /\ failedOf st' = none /\ SortedToK (tupKindC s'.heap (fun _ => false)) (arrOf st') (arrOf st').size)
   (tupC_ltAt true (KeepsTups.refl _)) kz ⟨Array.Perm.refl _,rfl,rfl⟩ rfl (Stable.refl _) (by rw [hzs]; omega)
   fun st' a1 a2 a3 a4 => ⟨a1,a2,by rw [a1.size_eq]; exact a3⟩) ?_ fun _ _ e => e)
  rintro ⟨⟨⟩,st'⟩ s'' ⟨rfl,hp,hf,hs⟩
  try dsimp only
  exact go st' hp hf hs
end
end Cs
end
section
set_option Elab.async false
set_option linter.all false
set_option maxRecDepth 100000
set_option maxHeartbeats 4000000
namespace Cs
open PySem PySem.Spec PyProof.Rows L2
section
variable {X : Cx} {pins : List (Addr × Obj)} {σ : L2.St} {A : Around} {E : Value -> Shared -> Prop} {L : List Tbl} {kf : Nat -> Int} {n : Nat} {vs : List Value} {H : Hp} {D kS f : Addr} {P : PySem.Fin -> Shared -> Prop} {e1 : Nat} {s : Shared}
def KeyTurn (X : Cx) (pins : List (Addr × Obj)) (σ : L2.St) (A : Around) (L : List Tbl) (kf : Nat -> Int) (n : Nat) (H : Hp) (f : Addr) : Prop :=
 ∀ (H1 : Hp) (s1 : Shared) (u : Value) (k : Nat),Ext L H H1 -> Inv X pins σ H1 s1 -> k < n -> RelV (.int (k : Int)) u -> wpAny (model X.prog X.w) A (call (.ref f) [u])
  (fun r s' => ∃ t,r = .ref t /\ H1 t = none /\ Inv X pins σ (upd H1 t (.tup [.int (kf k),.int (k : Int)])) s' /\ Un (frs X.stack) [] H1 (upd H1 t (.tup [.int (kf k),.int (k : Int)])) s1.heap s'.heap) (fun _ _ => False) s1
theorem sort_rest (turn : KeyTurn X pins σ A L kf n H f) (I : Inv X pins σ H s) (cD : Scr X pins D) (cK : Scr X pins kS) (nD : H D = none) (nK : H kS = none) (hK : s.heap.get? kS = some (seqObj "list" #[] 0)) (hD : s.heap.get? D = some (seqObj "list" #[] e1)) (ne : kS ≠ D) (hn : n <= 1000)
  (hv : IntsAre vs ((List.range n).map fun (i : Nat) => (i : Int)))
  (h : ∀ (H1 : Hp) (s1 : Shared) (js : List Nat),Ext L H H1 -> js.Perm (List.range n) -> js.Pairwise (fun a b => kf a < kf b ∨ kf a = kf b /\ a <= b) -> H1 D = none -> Inv X pins σ (upd H1 D (.lst (js.map fun (j : Nat) => V.int (j : Int)))) s1 -> P (.done (.ret .none)) s1) : wpAny (model X.prog X.w) A (ksk_rest D (.ref f) false vs.toArray e1 (.ref kS)) P E s := by
 have lv : vs.length = n := by rw [hv.length]; simp
 unfold ksk_rest
 refine wpAny_bind (wpAny_rule ?_)
 first
  | rw [List.forIn_toArray]
  | (rw [<- Array.forIn_toList]; simp only [List.toList_toArray])
  | rw [<- Array.forIn_toList]
 refine wpAny_bind (ksk_fold (fun i s' => ∃ H1 kA e,Ext L H H1 /\ Inv X pins σ H1 s' /\ H1 D = none /\ H1 kS = none /\ s'.heap.get? kS = some (seqObj "list" kA e) /\ s'.heap.get? D = some (seqObj "list" #[] e1) /\ kA.size = i /\ ∀ j v,kA[j]? = some v -> keyAt kf H1 j v) vs 0 s
  ⟨H,#[],0,Ext.refl,I,nD,nK,hK,hD,rfl,fun j v q => by simp at q⟩ ?step ?done)
 case step =>
  rintro j x s' hx ⟨H1,kA,e,x1,I1,nD1,nK1,hK1,hD1,sz,hk⟩
  simp only [Nat.zero_add] at sz ⊢
  have hj : j < vs.length := (List.getElem?_eq_some_iff.mp hx).1
  obtain ⟨t0,ht0⟩ := hv.get j (j : Int) (by rw [List.getElem?_map,List.getElem?_range (by rw [<- lv]; exact hj)]; rfl)
  rw [ht0] at hx
  cases hx
  refine wpAny_bind (wpAny_attempt (wpAny_mono (turn H1 s' _ j x1 I1 (by omega) ⟨t0,rfl⟩) (fun v s'' he => ?_) fun _ _ hF => hF.elim))
  obtain ⟨t,rfl,ht,I2,un⟩ := he
  try dsimp only
  have hK2 := un_get un cK nK1 hK1
  have hD2 := un_get un cD nD1 hD1
  have nD2 := un.free D _ hD1 nD1 (by simp)
  have nK2 := un.free kS _ hK1 nK1 (by simp)
  have s1 := Heap.SameBut.update s''.heap kS (Obj.mapSeq (·.push (.ref t)))
  obtain ⟨c2,hc2⟩ : ∃ c2,(s''.heap.update kS (Obj.mapSeq (·.push (.ref t)))).get? kS = some (seqObj "list" (kA.push (.ref t)) c2) := ⟨_,get?_update_seq hK2 (·.push (.ref t))⟩
  refine wpAny_bind (listUpdate_at hK2 rfl ?_ (by rw [sizeLine_eq]; omega) (Nat.le_trans (Nat.le_of_eq (Array.size_push ..)) (by rw [sizeLine_eq]; omega)))
  refine wpAny_pure ⟨rfl,_,kA.push (.ref t),c2,x1.new2 ht,cK.turn (tk := s''.toks) I2 nK2 fun b o hb q => (s1.2 b hb).trans q,nD2,nK2,hc2,(s1.2 D ne.symm).trans hD2,by rw [Array.size_push,sz],fun i v q => ?_⟩
  rw [Array.getElem?_push] at q
  split at q
  ·cases q
   rename_i hi
   rw [hi,sz]
   exact ⟨t,rfl,upd_same⟩
  ·obtain ⟨t',rfl,q'⟩ := hk i v q
   exact ⟨t',rfl,by rw [upd_ne (ne_of_none q' ht)]; exact q'⟩
 case done =>
  rintro s' ⟨H1,kA,e,x1,I1,nD1,nK1,hK1,hD1,sz,hk⟩
  try dsimp only
  refine wpAny_bind (listItems_at hK1 rfl ?_)
  exact sort_end I1 cD cK nD1 nK1 hK1 hD1 ne hn hv (by omega) hk fun s1 js j1 j2 J => h H1 s1 js x1 j1 j2 nD1 J
theorem sort_tree (turn : KeyTurn X pins σ A L kf n H f) (I : Inv X pins σ H s) (cD : Scr X pins D) (nD : H D = none) {c : Nat} (hD : s.heap.get? D = some (seqObj "list" vs.toArray c)) (hn : n <= 1000)
  (hv : IntsAre vs ((List.range n).map fun (i : Nat) => (i : Int)))
  (h : ∀ (H1 : Hp) (s1 : Shared) (js : List Nat),Ext L H H1 -> js.Perm (List.range n) -> js.Pairwise (fun a b => kf a < kf b ∨ kf a = kf b /\ a <= b) -> H1 D = none -> Inv X pins σ (upd H1 D (.lst (js.map fun (j : Nat) => V.int (j : Int)))) s1 -> P (.done (.ret .none)) s1) : wpAny (model X.prog X.w) A (ksk_tree D (.ref f) false) P E s := by
 have lv : vs.length = n := by rw [hv.length]; simp
 have ha : D < s.heap.objs.size := Heap.lt_size hD
 have s1 := Heap.SameBut.update s.heap D (Obj.mapSeq fun _ => (#[] : Array Value))
 obtain ⟨e1,ho1⟩ : ∃ e1,(s.heap.update D (Obj.mapSeq fun _ => (#[] : Array Value))).get? D = some (seqObj "list" #[] e1) := ⟨_,get?_update_seq hD fun _ => #[]⟩
 have I1 := cD.turn (tk := s.toks) I nD fun b o hb q => (s1.2 b hb).trans q
 have hkS : ((s.heap.update D (Obj.mapSeq fun _ => (#[] : Array Value))).push (seqObj "tuple" vs.toArray 0)).objs.size = s.heap.objs.size + 1 := by rw [size_push',Heap.size_update]
 have I2 : Inv X pins σ H { s with heap := ((s.heap.update D (Obj.mapSeq fun _ => (#[] : Array Value))).push (seqObj "tuple" vs.toArray 0)).push (seqObj "list" #[] 0) } := I1.kept (t' := s.toks) fun b o q => Heap.get?_push_of_some _ (Heap.get?_push_of_some _ q)
 unfold ksk_tree
 refine wpAny_bind (listItems_at hD rfl ?_)
 refine wpAny_bind (listUpdate_at hD rfl ?_ (by rw [List.size_toArray,sizeLine_eq]; omega) (Nat.zero_le _))
 refine wpAny_bind (seqEpoch_at ho1 rfl ?_)
 refine wpAny_bind (wpAny_newTuple ?_ (by show vs.length <= _; rw [sizeLine_eq]; omega))
 refine wpAny_bind (wpAny_newList ?_ (Nat.zero_le _))
 refine wpAny_holding ?_
 refine sort_rest (s := { s with heap := ((s.heap.update D (Obj.mapSeq fun _ => (#[] : Array Value))).push (seqObj "tuple" vs.toArray 0)).push (seqObj "list" #[] 0) }) (kS := ((s.heap.update D (Obj.mapSeq fun _ => (#[] : Array Value))).push (seqObj "tuple" vs.toArray 0)).objs.size)
  turn I2 cD (Scr.of I (by rw [hkS]; exact Nat.le_succ _)) nD (I.hok.fresh (by rw [hkS]; exact Nat.le_succ _)) (Heap.get?_push_size _ rfl) (Heap.get?_push_of_some _ (Heap.get?_push_of_some _ ho1)) (by rw [hkS]; exact Nat.ne_of_gt (Nat.lt_succ_of_lt ha)) hn hv h
theorem sortK_call {r : Addr} {Q : VK} (turn : KeyTurn X pins σ A.in1.in1 L kf n H f) (I : Inv X pins σ H s) (hh : A.handled = none) (hr : H r = some (.rng 0 (n : Int))) (hn : n <= 1000)
  (h : ∀ (H1 : Hp) (D : Addr) (js : List Nat),Ext L H H1 -> H1 D = none -> js.Perm (List.range n) -> js.Pairwise (fun a b => kf a < kf b ∨ kf a = kf b /\ a <= b) -> Q (.ref D) (upd H1 D (.lst (js.map fun (j : Nat) => V.int (j : Int))))) :
  wpAny (model X.prog X.w) A (call (.builtin "sorted") [.ref r] [(Str.ofString "key",.ref f)]) (EP X pins σ Q) E s := by
 obtain ⟨t,u,v,hrr⟩ := I.hok r _ hr
 refine call_function_entry_kw kind_sorted plain_sorted entry_sorted (ksk_s1 _ _) ?_
 unfold Builtin.«sorted»
 refine wpAny_bind (m := checkCount "sorted" 1 1 _) (wpAny_pure ?_)
 refine wpAny_bind (collect_rng (A := A.in1) (n := n) hh hrr hn fun h' tk vs hsz keep iv => ?_)
 have lv : vs.length = n := by rw [iv.length]; simp
 refine wpAny_bind (wpAny_newList ?_ (by rw [lv,sizeLine_eq]; omega))
 have hoL : (h'.push (seqObj "list" vs.toArray 0)).get? h'.objs.size = some (seqObj "list" vs.toArray 0) := Heap.get?_push_size _ rfl
 have I1 : Inv X pins σ H { s with heap := h'.push (seqObj "list" vs.toArray 0),toks := tk } := I.kept (t' := tk) fun b o q => Heap.get?_push_of_some _ (keep b o q)
 refine wpAny_bind (wpAny_holding (wpAny_call_entry_kw slot_list_sort ⟨_,hoL,rfl⟩ entry_list_sort ?body (ksk_l1 _ _)))
 case body =>
  show wpAny (model X.prog X.w) A.in1.in1 (Builtin.«list.sort» ⟨[.ref h'.objs.size],[(Str.ofString "key",.ref f)]⟩) _ _ _
  rw [ksk_t1]
  refine sort_tree (s := { s with heap := h'.push (seqObj "list" vs.toArray 0),toks := tk }) turn I1 (Scr.of I (Nat.le_of_lt hsz)) (I.hok.fresh (Nat.le_of_lt hsz)) hoL hn iv fun H1 s1 js x1 j1 j2 nD J => ⟨_,rfl,?_⟩
  exact wpAny_pure ⟨_,rfl,.ref h'.objs.size,_,J,rfl,h H1 _ js x1 nD j1 j2⟩
end
def tRng1 (ta : TA) : TE := fun σ H Q => ta σ H fun vs H1 => ∃ j : Nat,vs = [.int (j : Int)] /\ ∀ r,H1 r = none -> Q (.ref r) (upd H1 r (.rng 0 (j : Int)))
theorem pe_range1 {X : Cx} {a : Expr} {ta : TA} {p pos : Pos} (hg : Gl X "range") (hm : X.mg "range" = none) (ha : PA X [a] ta) (hs : starEach [a] X.env = [(false,eval a X.env)] := by rfl) : PE X (.Call (.Name "range" p) [a] [] pos) (tRng1 ta) := by
 intro pins s σ H Q I h
 refine Call_ (ld_blt I hg hm boot_range (PyProof.Rows.callWith_type1 (thn (ha pos pins s σ H _ I h) fun us s1 ⟨vs,H1,I1,r1,q1⟩ => ?_) hs rfl))
 obtain ⟨j,e,q⟩ := q1
 subst e
 cases r1 with
 | cons r rr =>
  cases rr
  obtain ⟨t,rfl⟩ := r
  refine call_range_1 ?_
  exact ⟨.ref s1.heap.objs.size,upd H1 s1.heap.objs.size (.rng 0 (j : Int)),I1.laid (t' := _) (fun b o e => Heap.get?_push_of_some _ e) (Nat.le_refl _) ⟨_,_,_,Heap.get?_push_size _ rfl⟩,rfl,q _ (I1.hok.fresh (Nat.le_refl _))⟩
def rsortL (L : List Tbl) (i : Nat) (tb : TE) (σ : L2.St) (Q : VK) : VK := fun z H1 => ∃ (r : Addr) (n : Nat) (vy : V) (kf : Nat -> Int),z = .ref r /\ H1 r = some (.rng 0 (n : Int)) /\ n <= 1000 /\ TabsOk L H1 /\ σ[i]? = some (some vy) ∧
 (∀ k,k < n -> ∀ (H2 : Hp) (Qr : VK),Ext L H1 H2 -> (∀ t,H2 t = none -> Qr (.ref t) (upd H2 t (.tup [.int (kf k),.int (k : Int)]))) -> tb [some (.int (k : Int)),some vy] H2 Qr) ∧
 ∀ (H2 : Hp) (D : Addr) (js : List Nat),Ext L H1 H2 -> H2 D = none -> js.Perm (List.range n) -> js.Pairwise (fun a b => kf a < kf b ∨ kf a = kf b /\ a <= b) -> Q (.ref D) (upd H2 D (.lst (js.map fun (j : Nat) => V.int (j : Int))))
def tsortL (L : List Tbl) (i : Nat) (te tb : TE) : TE := fun σ H Q => te σ H (rsortL L i tb σ Q)
section
variable {X : Cx} {L : List Tbl} {x y q : Str} {i : Nat} {params : Arguments} {body e : Expr} {scope : Scope} {p pos lpos kp1 : Pos} {te tb : TE}
theorem pe_sortL (S : LamAt X L x y q i params body scope lpos) (hc : X.calm = true) {k : Nat} (hr : Room (k + 2) X.A) (hg : Gl X "sorted") (hm : X.mg "sorted" = none) (he : PE X e te)
  (hb : ∀ (A : Around) (s : Shared) (H : Hp) (f : Addr) (c' : Value) (cl : List (Str × Addr)),PE (cxLam X.prog X.w X.K X.mg X.base [x,y] q scope f c' cl A X.stack s H) body tb)
  (hs : starEach [e] X.env = [(false,eval e X.env)] := by rfl) :
  PE X (.Call (.Name "sorted" p) [e] [⟨some "key",.Lambda params body scope lpos,kp1⟩] pos) (tsortL L i te tb) := by
 intro pins s σ H Q I h
 refine wpAny_Call_Name_kw (ld_blt I hg hm boot_sorted ?_)
 have ha : PA X [e] (tCons te tNil) := pa_cons he pa_nil hs
 refine PyProof.Rows.callWith_kw (thn (ha pos pins s σ H (fun vs H1 => match vs with | [z] => rsortL L i tb σ Q z H1 | _ => False) I h) fun us s1 ⟨vs,H1,I1,r1,q1⟩ => ?_) (by rw [hs]; rfl) (by rw [hs]; rfl) rfl rfl
 match vs,r1,q1 with
 | [z],r1,q1 =>
  obtain ⟨r,n,vy,kf,rfl,hl,hn,T,hy,turn,fin⟩ := q1
  rw [Vals.ref1 r1]
  have hk : PK X [⟨some "key",.Lambda params body scope lpos,kp1⟩] (tCons (tLam X L y q params body scope) tNil) := pk_cons (pe_lam S) pk_nil
  refine thn (hk pos pins s1 σ H1 (fun ws H2 => ∃ f,ws = [.ref f] /\ Ext L H1 H2 /\ LamO X y q params body scope H2 f) I1 ⟨T,fun f H2 e hf lo => ⟨f,rfl,e,lo⟩⟩) fun us2 s2 ⟨ws,H2,I2,r2,f,ew,e2,lo⟩ => ?_
  subst ew
  rw [Vals.ref1 r2]
  refine sortK_call (L := L) (kf := kf) (n := n) (fun H3 s3 u k' x3 I3 hk' ru => ?_) I2 (I2.ok.hd hc) (e2.keep _ _ hl rfl) hn fun H3 D js x3 nD j1 j2 => fin H3 D js (e2.trans x3) nD j1 j2
  refine wpAny_mono (lam_turn (k := k) S I3 I3.env0.in1.in1 hr.in1.in1 (let ⟨c1,v1,l1,l2⟩ := lo; ⟨c1,v1,x3.keep _ _ l1 rfl,x3.keep _ _ l2 rfl⟩) hy ru (fun c' cl => hb _ _ _ _ c' cl) (turn k' hk' H3 (fun v' H' => ∃ t,v' = .ref t /\ H3 t = none /\ H' = upd H3 t (.tup [.int (kf k'),.int (k' : Int)])) (e2.trans x3) fun t ht => ⟨t,rfl,ht,rfl⟩)) (fun r s4 hx => ?_) fun _ _ z => z
  obtain ⟨v',H',J,rel,⟨t,rfl,ht,rfl⟩,un⟩ := hx
  obtain rfl : r = Value.ref t := rel
  exact ⟨t,rfl,ht,J,un⟩
end
end Cs
end
section
set_option Elab.async false
set_option linter.all false
set_option maxRecDepth 100000
set_option maxHeartbeats 4000000
namespace Cs
open PySem PySem.Spec PyProof.Rows L2
open Vbedai (State need points shiftOf on numbers there total gathered lastEnd firstStart bare eased does leastK missing crewsIn changesIn minutesIn okJ okT inR)
open VM
structure TxtF (mg : Str -> Option Value) (G : Gd) (F : Addr) : Prop where
 m_FORMS : mg "FORMS" = some (.ref F)
 frm : FrmK G.K F
theorem forms_eq (z : Int) : forms.lookup z = (formOf z).map fun t => ((t.1 : Int),(t.2.1 : Int),(t.2.2 : Int)) := by
 by_cases c : 0 <= z /\ z <= 15
 ·have : z = 0 ∨ z = 1 ∨ z = 2 ∨ z = 3 ∨ z = 4 ∨ z = 5 ∨ z = 6 ∨ z = 7 ∨ z = 8 ∨ z = 9 ∨ z = 10 ∨ z = 11 ∨ z = 12 ∨ z = 13 ∨ z = 14 ∨ z = 15 := by omega
  rcases this with rfl | rfl | rfl | rfl | rfl | rfl | rfl | rfl | rfl | rfl | rfl | rfl | rfl | rfl | rfl | rfl <;> rfl
 ·have hb : ∀ k : Int,0 <= k -> k <= 15 -> (z == k) = false := fun k h1 h2 => by
   rw [beq_eq_false_iff_ne]; intro e; omega
  have hn : ∀ k : Int,0 <= k -> k <= 15 -> ¬ z = k := fun k h1 h2 e => by omega
  have e1 : forms.lookup z = none := by
   unfold forms
   simp only [List.lookup,hb 0 (by decide) (by decide),hb 1 (by decide) (by decide),hb 2 (by decide) (by decide),hb 3 (by decide) (by decide),hb 4 (by decide) (by decide),hb 5 (by decide) (by decide),hb 6 (by decide) (by decide),hb 7 (by decide) (by decide),hb 8 (by decide) (by decide),hb 9 (by decide) (by decide),hb 10 (by decide) (by decide),hb 11 (by decide) (by decide),hb 12 (by decide) (by decide),hb 13 (by decide) (by decide),hb 14 (by decide) (by decide),hb 15 (by decide) (by decide)]
  have e2 : formOf z = none := by
   unfold formOf
   rw [if_neg (hn 0 (by decide) (by decide)),if_neg (hn 1 (by decide) (by decide)),if_neg (hn 2 (by decide) (by decide)),if_neg (hn 3 (by decide) (by decide)),if_neg (hn 4 (by decide) (by decide)),if_neg (hn 5 (by decide) (by decide)),if_neg (hn 6 (by decide) (by decide)),if_neg (hn 7 (by decide) (by decide)),if_neg (hn 8 (by decide) (by decide)),if_neg (hn 9 (by decide) (by decide)),if_neg (hn 10 (by decide) (by decide)),if_neg (hn 11 (by decide) (by decide)),if_neg (hn 12 (by decide) (by decide)),if_neg (hn 13 (by decide) (by decide)),if_neg (hn 14 (by decide) (by decide)),if_neg (hn 15 (by decide) (by decide))]
  rw [e1,e2]; rfl
theorem form_range {z : Int} {t : Nat × Nat × Nat} (h : formOf z = some t) : z = 0 ∨ z = 1 ∨ z = 2 ∨ z = 3 ∨ z = 4 ∨ z = 5 ∨ z = 6 ∨ z = 7 ∨ z = 8 ∨ z = 9 ∨ z = 10 ∨ z = 11 ∨ z = 12 ∨ z = 13 ∨ z = 14 ∨ z = 15 := by
 by_cases c : 0 <= z /\ z <= 15
 ·omega
 ·exfalso
  have hn : ∀ k : Int,0 <= k -> k <= 15 -> ¬ z = k := fun k h1 h2 e => by omega
  unfold formOf at h
  rw [if_neg (hn 0 (by decide) (by decide)),if_neg (hn 1 (by decide) (by decide)),if_neg (hn 2 (by decide) (by decide)),if_neg (hn 3 (by decide) (by decide)),if_neg (hn 4 (by decide) (by decide)),if_neg (hn 5 (by decide) (by decide)),if_neg (hn 6 (by decide) (by decide)),if_neg (hn 7 (by decide) (by decide)),if_neg (hn 8 (by decide) (by decide)),if_neg (hn 9 (by decide) (by decide)),if_neg (hn 10 (by decide) (by decide)),if_neg (hn 11 (by decide) (by decide)),if_neg (hn 12 (by decide) (by decide)),if_neg (hn 13 (by decide) (by decide)),if_neg (hn 14 (by decide) (by decide)),if_neg (hn 15 (by decide) (by decide))] at h
  cases h
theorem len0 {α : Type} {l : List α} (h : l.length = 0) : l = [] := List.eq_nil_of_length_eq_zero h
theorem len1 {α : Type} {l : List α} (h : l.length = 1) : ∃ a,l = [a] := by
 match l,h with
 | [a],_ => exact ⟨a,rfl⟩
theorem len2 {α : Type} {l : List α} (h : l.length = 2) : ∃ a b,l = [a,b] := by
 match l,h with
 | [a,b],_ => exact ⟨a,b,rfl⟩
inductive Told : Int -> List Int -> List (List Int) -> Prop
 | c0 (a b : Int) : Told 0 [a,b] []
 | c1 (r : List Int) : Told 1 [] [r]
 | c2 (a b : Int) : Told 2 [a,b] []
 | c3 (a : Int) : Told 3 [a] []
 | c4 : Told 4 [] []
 | c5 : Told 5 [] []
 | c6 (r : List Int) : Told 6 [] [r]
 | c7 (r : List Int) : Told 7 [] [r]
 | c8 (r : List Int) : Told 8 [] [r]
 | c9 (xs : List (List Int)) : Told 9 [] xs
 | c10 (a : Int) : Told 10 [a] []
 | c11 (a : Int) (r : List Int) : Told 11 [a] [r]
 | c12 (a : Int) : Told 12 [a] []
 | c13 (a b : Int) (r : List Int) : Told 13 [a,b] [r]
 | c14 (r : List Int) : Told 14 [] [r]
 | c15 : Told 15 [] []
theorem told_of {z : Int} {ns : List Int} {xs : List (List Int)} (h : formOk z ns.length xs.length = true) : Told z ns xs := by
 unfold formOk at h
 cases e : formOf z with
 | none => rw [e] at h; cases h
 | some t =>
  rw [e] at h
  obtain ⟨a,b,c⟩ := t
  simp only [Bool.and_eq_true,decide_eq_true_eq] at h
  obtain ⟨h1,h2,h3⟩ := h
  rcases form_range e with rfl | rfl | rfl | rfl | rfl | rfl | rfl | rfl | rfl | rfl | rfl | rfl | rfl | rfl | rfl | rfl <;> cases e
  ·obtain ⟨x,y,rfl⟩ := len2 h1; rw [len0 (l := xs) (by omega)]; exact .c0 _ _
  ·rw [len0 h1]; obtain ⟨r,rfl⟩ := len1 (l := xs) (by omega); exact .c1 _
  ·obtain ⟨x,y,rfl⟩ := len2 h1; rw [len0 (l := xs) (by omega)]; exact .c2 _ _
  ·obtain ⟨x,rfl⟩ := len1 h1; rw [len0 (l := xs) (by omega)]; exact .c3 _
  ·rw [len0 h1,len0 (l := xs) (by omega)]; exact .c4
  ·rw [len0 h1,len0 (l := xs) (by omega)]; exact .c5
  ·rw [len0 h1]; obtain ⟨r,rfl⟩ := len1 (l := xs) (by omega); exact .c6 _
  ·rw [len0 h1]; obtain ⟨r,rfl⟩ := len1 (l := xs) (by omega); exact .c7 _
  ·rw [len0 h1]; obtain ⟨r,rfl⟩ := len1 (l := xs) (by omega); exact .c8 _
  ·rw [len0 h1]; exact .c9 _
  ·obtain ⟨x,rfl⟩ := len1 h1; rw [len0 (l := xs) (by omega)]; exact .c10 _
  ·obtain ⟨x,rfl⟩ := len1 h1; obtain ⟨r,rfl⟩ := len1 (l := xs) (by omega); exact .c11 _ _
  ·obtain ⟨x,rfl⟩ := len1 h1; rw [len0 (l := xs) (by omega)]; exact .c12 _
  ·obtain ⟨x,y,rfl⟩ := len2 h1; obtain ⟨r,rfl⟩ := len1 (l := xs) (by omega); exact .c13 _ _ _
  ·rw [len0 h1]; obtain ⟨r,rfl⟩ := len1 (l := xs) (by omega); exact .c14 _
  ·rw [len0 h1,len0 (l := xs) (by omega)]; exact .c15
def sp_has_form (_G : Gd) : Sp := fun vs H Q _ => ∃ z n l ns xs,vs = [.int z,.ref n,.ref l] /\ H n = some (.lst (vI ns)) /\ IRowsAt H l xs /\ Q (.bl (formOk z ns.length xs.length)) H
structure CallAt (G : Gd) (H : Hp) (p sa : Addr) (s : State) (n l : Addr) (ns : List Int) (xs : List (List Int)) : Prop where
 plan : PlanAt G H p sa s
 num : H n = some (.lst (vI ns))
 rows : IRowsAt H l xs
 xl : xs.length <= 20000
 rl : ∀ r ∈ xs,r.length <= 20000
def sp_make_change (G : Gd) : Sp := fun vs H Q _ => ∃ p sa s z n l ns xs,vs = [.ref p,.int z,.ref n,.ref l] /\ CallAt G H p sa s n l ns xs /\ Told z ns xs /\ z <= 3 /\ RetC G H Q p sa (stOf s ((z :: ns) :: xs)) (ansOf s ((z :: ns) :: xs))
def sp_ask_by_numbers (G : Gd) : Sp := fun vs H Q _ => ∃ p sa s z n ns,vs = [.ref p,.int z,.ref n] /\ PlanAt G H p sa s /\ H n = some (.lst (vI ns)) /\ Told z ns [] /\ z ≠ 9 /\ ¬ z <= 3 /\ RetL G H Q (ansOf s [z :: ns])
def sp_ask_by_lists (G : Gd) : Sp := fun vs H Q _ => ∃ p sa s z n l ns xs,vs = [.ref p,.int z,.ref n,.ref l] /\ CallAt G H p sa s n l ns xs /\ Told z ns xs /\ (z = 9 ∨ xs ≠ []) /\ ¬ z <= 3 /\ RetL G H Q (ansOf s ((z :: ns) :: xs))
def sp_answer (G : Gd) : Sp := fun vs H Q _ => ∃ p sa s z n l ns xs,vs = [.ref p,.int z,.ref n,.ref l] /\ CallAt G H p sa s n l ns xs /\ (z = 9 -> ns = [] -> xs.length <= 199) /\ RetC G H Q p sa (stOf s ((z :: ns) :: xs)) (ansOf s ((z :: ns) :: xs))
end Cs
end
section
set_option Elab.async false
set_option linter.all false
set_option maxRecDepth 100000
set_option maxHeartbeats 4000000
namespace Cs
open PySem PySem.Spec PyProof.Rows L2
open Vbedai (State need points shiftOf on numbers there total gathered lastEnd firstStart bare eased does leastK missing crewsIn changesIn minutesIn okJ okT inR)
open VM
theorem getI {cs : List Int} {j : Nat} (h : j < cs.length) : (vI cs)[j]? = some (.int (cs.getD j 0)) := by
 rw [List.getElem?_map,List.getElem?_eq_getElem h,List.getD_eq_getElem?_getD,List.getElem?_eq_getElem h]; rfl
theorem two {p : List Int} (h : p.length = 2) : p = [p.getD 0 0,p.getD 1 0] := by
 match p,h with
 | [a,b],_ => rfl
theorem map_ints (l : List Nat) (f : Nat -> Int) : l.map (fun j => V.int (f j)) = vI (l.map f) := by
 unfold vI; rw [List.map_map]; rfl
abbrev s_there_at : Stmt := top 15
theorem sc_there_at : FnScope ["shifts", "crews", "minute", "j"] ["shifts", "crews", "minute"] (defScope s_there_at) := scM
section
variable {P : Program} {w : World} {G : Gd} {mg : Str -> Option Value} {base : Heap}
theorem ok_there_at {f : Addr} {fd : FuncData} (F : Fun G.K "there_at" "there_at" s_there_at f fd) (T : Txt mg G) (c_has : Def P w G.K mg base "has" 1 ["shift", "minute"] sp_has) : FnOk P w G.K mg base CX0 2 f fd ["shifts", "crews", "minute"] (sp_there_at G) := by
 refine F.ok sc_there_at (fun vs H Q E h => ?_) (fun cdv A outer s0 H vs Q E hr h => ?_)
 ·obtain ⟨l,c,ps,cs,m,rfl,hl,h2,hc,hlen,h60,k⟩ := h
  rfl
 ·have nd := sc_there_at.nd
  obtain ⟨l,c,ps,cs,m,rfl,hl,h2,hc,hlen,h60,k⟩ := h
  refine ⟨_,(pss_one (ps_ret (pe_callB (sumK (K := G.K) rfl rfl) rfl T.b_sum boot_sum (pa_cons (pe_lc (own := [("j",3)]) rfl nd (pi_range1 rfl T.b_range (pa_cons (pe_callB (lenK (K := G.K) rfl) rfl T.b_len PySem.boot_len (pa_cons (pv 0) pa_nil)) pa_nil)) (blkOk_by (show blkC ["shifts", "crews", "minute", "j"] (defScope s_there_at) _ _ = true by decide +kernel)) (fun _ _ _ _ _ => (pg_name (i := 3) nd rfl (.inl rfl))) (fun _ _ _ _ _ => pts_one (pt_val (pe_cal c_has (hr.mono (by decide)) rfl (pa_cons (pe_ix (ixL (K := G.K) rfl) (pv 0) (pv 3) (fun _ _ => rfl)) (pa_cons (pv 2) pa_nil))))) (fun _ _ _ _ _ => (pe_ix (ixL (K := G.K) rfl) (pv 1) (pv 3) (fun _ _ => rfl)))) pa_nil)))),?_⟩
  obtain ⟨xs,hx,hxl,hxa⟩ := hl.at
  refine ⟨_,rfl,l,_,rfl,.inl (SqL.of hx),_,rfl,by omega,by omega,?_⟩
  intro D hD
  rw [Int.toNat_natCast]
  refine lcI_range (L := G.L) (fun j => hasI (ps.getD j []) m) (fun j => .int (cs.getD j 0)) (by rw [sizeLine_eq]; omega) hD (fun i H1 hi e Kt N hy hn => ?_) fun H1 e hq => ?_
  ·have hi' : i < xs.length := hi
   obtain ⟨a,p,ex,hp,ha⟩ := hxa i xs[i] (List.getElem?_eq_getElem hi')
   have ep : ps.getD i [] = p := by rw [List.getD_eq_getElem?_getD,hp]; rfl
   have e2 := two (h2 p (List.mem_of_getElem? hp))
   refine ⟨rfl,?_⟩
   refine ⟨_,rfl,_,rfl,l,_,_,_,rfl,rfl,SqL.of (e.lst hx),at_of (j := i) (by omega) (by rw [List.getElem?_eq_getElem hi',ex]),_,rfl,?_⟩
   refine ⟨a,p.getD 0 0,p.getD 1 0,m,rfl,by rw [e2] at ha; exact e.tup ha,_,rfl,?_⟩
   have eh : (decide (p.getD 0 0 <= m) && decide (m < p.getD 1 0)) = hasI (ps.getD i []) m := by rw [ep]; rfl
   rw [eh]
   cases z : hasI (ps.getD i []) m with
   | true =>
    refine iteT ?_
    refine ⟨_,rfl,_,rfl,c,_,_,_,rfl,rfl,SqL.of (e.lst hc),at_of (j := i) (by omega) (getI (by omega)),?_⟩
    exact hy z H1 Ext.refl
   | false =>
    refine iteF ?_
    exact hn z H1 Ext.refl
  ·refine ⟨D,_,rfl,SqL.of (by rw [map_ints] at hq; exact hq),?_⟩
   rw [hxl]
   exact k _ e
end
theorem chP_at {s : State} {i : Nat} {q : List Int} (h : (chP s)[i]? = some q) : ∃ c,s.changes[i]? = some c /\ q = [(c.time : Int),(c.level : Int)] := by
 unfold chP at h
 rw [List.getElem?_map] at h
 cases e : s.changes[i]? with
 | none => rw [e] at h; cases h
 | some c => rw [e] at h; exact ⟨c,rfl,(Option.some.inj h).symm⟩
theorem take_snoc {α : Type} {l : List α} {i : Nat} {x : α} (h : l[i]? = some x) : l.take (i + 1) = l.take i ++ [x] := by
 rw [List.take_add_one,h]; rfl
def lvl (s : State) (t i : Nat) : Nat := (s.changes.take i).foldl (fun n c => if c.time <= t then c.level else n) 0
theorem lvl_more {s : State} {t i : Nat} {c : Vbedai.Change} (h : s.changes[i]? = some c) : lvl s t (i + 1) = if c.time <= t then c.level else lvl s t i := by
 unfold lvl
 rw [take_snoc h,List.foldl_append]; rfl
theorem lvl_all {s : State} (wf : Wf s) (t : Nat) : lvl s t s.changes.length = need s t := by
 unfold lvl need
 rw [List.take_length,level_fold t s.changes 0 wf.cs]
abbrev s_need_at : Stmt := top 14
theorem sc_need_at : FnScope ["plan", "minute", "need", "when", "level"] ["plan", "minute"] (defScope s_need_at) := scM
section
variable {P : Program} {w : World} {G : Gd} {mg : Str -> Option Value} {base : Heap}
theorem ok_need_at {f : Addr} {fd : FuncData} (F : Fun G.K "need_at" "need_at" s_need_at f fd) (T : Txt mg G) : FnOk P w G.K mg base CX0 1 f fd ["plan", "minute"] (sp_need_at G) := by
 refine F.ok sc_need_at (fun vs H Q E h => ?_) (fun cdv A outer s0 H vs Q E hr h => ?_)
 ·obtain ⟨p,sa,s,t,rfl,hP,k⟩ := h
  rfl
 ·have nd := sc_need_at.nd
  obtain ⟨p,sa,s,t,rfl,hP,k⟩ := h
  refine ⟨_,(pss_cons (ps_set (i := 2) nd rfl (.inl rfl) pe_int)
   (pss_cons (ps_for PassesOwn.never rfl (pi_list (fldK (K := G.K) rfl (pv 0) rfl)) (tupK (K := G.K) (n := 2) rfl rfl (pgs_cons (pg_name (i := 3) nd rfl (.inl rfl)) (pgs_cons (pg_name (i := 4) nd rfl (.inl rfl)) pgs_nil)))
   (pss_one (ps_if (pt_cmpR op_le (pv 3) (pv 1) (nomark _))
   (pss_one (ps_set (i := 2) nd rfl (.inl rfl) (pv 4)))
   pss_nil)))
   (pss_one (ps_ret (pv 2))))),?_⟩
  obtain ⟨dx,ca,hp,hc,nca⟩ := hP.ex
  obtain ⟨xs,hx,hxl,hxa⟩ := hc.at
  refine ⟨_,rfl,p,G.CP,dx,_,_,rfl,hp,T.clP,T.nP_changes,pf_changes _ _ _,ca,rfl,⟨_,SqL.of hx⟩,for_list (K := G.K) (a := ca) (xs := xs) (fun i σ H' => H' = H /\ ∃ v3 v4,σ = [some (.ref p),some (.int (t : Int)),some (.int (lvl s t i : Int)),v3,v4])
   ⟨rfl,none,none,rfl⟩ (fun i σ H' _ ⟨e,_⟩ => by rw [e]; exact SqL.of hx) ?_ ?_⟩
  ·rintro i y σ H' hi ⟨rfl,v3,v4,rfl⟩
   obtain ⟨a,q,rfl,hq,ha⟩ := hxa i y hi
   obtain ⟨c,hc1,rfl⟩ := chP_at hq
   refine ⟨a,_,rfl,SqT.of ha,rfl,_,_,rfl,_,_,rfl,rfl,?_⟩
   refine ⟨_,rfl,_,rfl,_,_,rfl,rfl,_,rfl,ite2 (fun z => ?_) fun z => ?_⟩
   ·have z : (c.time : Int) <= (t : Int) := by simpa using z
    refine ⟨_,rfl,rfl,some (.int c.time),some (.int c.level),?_⟩
    rw [lvl_more hc1,if_pos (by omega)]; rfl
   ·have z : ¬ (c.time : Int) <= (t : Int) := by simpa using z
    refine ⟨rfl,some (.int c.time),some (.int c.level),?_⟩
    rw [lvl_more hc1,if_neg (by omega)]; rfl
  ·rintro σ H' ⟨rfl,v3,v4,rfl⟩
   rw [hxl,chP_len,lvl_all hP.wf]
   exact ⟨_,rfl,k⟩
end
theorem fm_snoc (ps : List (List Int)) (p : List Int) : (ps ++ [p]).flatMap id = ps.flatMap id ++ p := by
 rw [List.flatMap_append]; simp
theorem fm2_len : ∀ (ps : List (List Int)),(∀ p ∈ ps,p.length = 2) -> (ps.flatMap id).length = 2 * ps.length
 | [],_ => rfl
 | p :: r,h => by
  rw [List.flatMap_cons,List.length_append,fm2_len r fun q hq => h q (by simp [hq])]
  have := h p (by simp)
  simp only [id]
  rw [this,List.length_cons]; omega
abbrev s_listed_pairs : Stmt := top 26
theorem sc_listed_pairs : FnScope ["pairs", "told", "first", "second"] ["pairs"] (defScope s_listed_pairs) := scM
section
variable {P : Program} {w : World} {G : Gd} {mg : Str -> Option Value} {base : Heap}
theorem ok_listed_pairs {f : Addr} {fd : FuncData} (F : Fun G.K "listed_pairs" "listed_pairs" s_listed_pairs f fd) (T : Txt mg G) : FnOk P w G.K mg base CX0 1 f fd ["pairs"] (sp_listed_pairs G) := by
 refine F.ok sc_listed_pairs (fun vs H Q E h => ?_) (fun cdv A outer s0 H vs Q E hr h => ?_)
 ·obtain ⟨l,ps,rfl,hl,h2,h1000,k⟩ := h
  rfl
 ·have nd := sc_listed_pairs.nd
  obtain ⟨l,ps,rfl,hl,h2,h1000,k⟩ := h
  refine ⟨_,(pss_cons (ps_set (i := 1) nd rfl (.inl rfl) (pe_lst (pa_cons (pe_callB (lenK (K := G.K) rfl) rfl T.b_len PySem.boot_len (pa_cons (pv 0) pa_nil)) pa_nil)))
   (pss_cons (ps_for PassesOwn.never rfl (pi_list (pv 0)) (tupK (K := G.K) (n := 2) rfl rfl (pgs_cons (pg_name (i := 2) nd rfl (.inl rfl)) (pgs_cons (pg_name (i := 3) nd rfl (.inl rfl)) pgs_nil)))
   (pss_cons (ps_expr (pe_bm PySem.F.plainAttrs_list PySem.F.slot_list_append PySem.F.type_list_append mt_append (pv 1) (pa_cons (pv 2) pa_nil)))
   (pss_one (ps_expr (pe_bm PySem.F.plainAttrs_list PySem.F.slot_list_append PySem.F.type_list_append mt_append (pv 1) (pa_cons (pv 3) pa_nil))))))
   (pss_one (ps_ret (pv 1))))),?_⟩
  obtain ⟨xs,hx,hxl,hxa⟩ := hl.at
  refine ⟨_,rfl,l,_,rfl,.inl (SqL.of hx),(by show 1 <= sizeLine; decide),fun a ha => ?_⟩
  have e1 : Ext G.L H (upd H a (.lst [.int (xs.length : Int)])) := Ext.new ha
  refine ⟨_,rfl,l,rfl,⟨_,SqL.of (e1.lst hx)⟩,for_list (K := G.K) (a := l) (xs := xs) (fun i σ H' => Ext G.L H H' /\ H' a = some (.lst (vI ((ps.length : Int) :: (ps.take i).flatMap id))) /\ ∃ v2 v3,σ = [some (.ref l),some (.ref a),v2,v3])
   ⟨e1,by rw [upd_same,hxl]; rfl,none,none,rfl⟩ (fun i σ H' _ ⟨e,_⟩ => SqL.of (e.lst hx)) ?_ ?_⟩
  ·rintro i y σ H' hi ⟨e,hd,v2,v3,rfl⟩
   obtain ⟨b,p,rfl,hq,hb⟩ := hxa i y hi
   have e2 := two (h2 p (List.mem_of_getElem? hq))
   rw [e2] at hb
   have hlen : ((ps.take i).flatMap id).length <= 2000 := by
    rw [fm2_len _ fun q hq => h2 q (List.mem_of_mem_take hq),List.length_take]
    omega
   refine ⟨b,_,rfl,SqT.of (e.tup hb),rfl,_,_,rfl,_,_,rfl,rfl,?_⟩
   refine ⟨_,rfl,.inl ⟨rfl,_,SqL.of hd⟩,_,rfl,a,_,_,rfl,rfl,hd,(by rw [List.length_map,List.length_cons,sizeLine_eq]; omega),?_⟩
   refine ⟨_,rfl,.inl ⟨rfl,_,SqL.of upd_same⟩,_,rfl,a,_,_,rfl,rfl,upd_same,(by rw [List.length_append,List.length_map,List.length_cons,List.length_singleton,sizeLine_eq]; omega),?_⟩
   have e3 : Ext G.L H (upd H' a (.lst (vI ((ps.length : Int) :: (ps.take i).flatMap id) ++ [.int (p.getD 0 0)]))) := e.set ha hd rfl
   refine ⟨e3.set ha upd_same rfl,?_,some (.int (p.getD 0 0)),some (.int (p.getD 1 0)),rfl⟩
   rw [upd_same,take_snoc hq,fm_snoc]
   conv => rhs; rw [e2]
   simp [vI]
  ·rintro σ H' ⟨e,hd,v2,v3,rfl⟩
   refine ⟨_,rfl,?_⟩
   rw [hxl,List.take_length] at hd
   exact k a H' e ha hd
end
theorem fil_true (n : Nat) (f : Nat -> V) : ((List.range n).filter fun _ => true).map f = (List.range n).map f := by
 rw [List.filter_eq_self.mpr fun _ _ => rfl]
theorem range_getD {α β : Type} (l : List α) (d : α) (g : α -> β) : (List.range l.length).map (fun i => g (l.getD i d)) = l.map g := by
 apply List.ext_getElem?
 intro i
 rw [List.getElem?_map,List.getElem?_map]
 by_cases c : i < l.length
 ·rw [List.getElem?_range c,List.getElem?_eq_getElem c]
  simp [List.getD_eq_getElem?_getD,List.getElem?_eq_getElem c]
 ·rw [List.getElem?_eq_none (by simp; omega),List.getElem?_eq_none (by omega)]
  rfl
theorem vI_at {ns : List Int} {i : Nat} {x : V} (h : (vI ns)[i]? = some x) : x = .int (ns.getD i 0) /\ ns[i]? = some (ns.getD i 0) /\ i < ns.length := by
 rw [List.getElem?_map] at h
 cases e : ns[i]? with
 | none => rw [e] at h; cases h
 | some z =>
  rw [e] at h
  have e2 : ns.getD i 0 = z := by rw [List.getD_eq_getElem?_getD,e]; rfl
  refine ⟨?_,by rw [e2],(List.getElem?_eq_some_iff.mp e).1⟩
  rw [e2]
  exact (Option.some.inj h).symm
theorem vN_at {ns : List Nat} {i : Nat} {x : V} (h : (vN ns)[i]? = some x) : x = .int ((ns.getD i 0 : Nat) : Int) /\ ns[i]? = some (ns.getD i 0) /\ i < ns.length := by
 rw [List.getElem?_map] at h
 cases e : ns[i]? with
 | none => rw [e] at h; cases h
 | some z =>
  rw [e] at h
  have e2 : ns.getD i 0 = z := by rw [List.getD_eq_getElem?_getD,e]; rfl
  refine ⟨?_,by rw [e2],(List.getElem?_eq_some_iff.mp e).1⟩
  rw [e2]
  exact (Option.some.inj h).symm
theorem vI_len (ns : List Int) : (vI ns).length = ns.length := List.length_map ..
theorem vN_len (ns : List Nat) : (vN ns).length = ns.length := List.length_map ..
theorem vN_vI (ns : List Nat) : vN ns = vI (ns.map fun (n : Nat) => (n : Int)) := by
 unfold vN vI; rw [List.map_map]; rfl
abbrev s_are_shifts : Stmt := top 24
theorem sc_are_shifts : FnScope ["plan", "row", "number"] ["plan", "row"] (defScope s_are_shifts) := scM
section
variable {P : Program} {w : World} {G : Gd} {mg : Str -> Option Value} {base : Heap}
theorem ok_are_shifts {f : Addr} {fd : FuncData} (F : Fun G.K "are_shifts" "are_shifts" s_are_shifts f fd) (T : Txt mg G) (c_is_shift : Def P w G.K mg base "is_shift" 2 ["plan", "number"] (sp_is_shift G)) : FnOk P w G.K mg base CX0 3 f fd ["plan", "row"] (sp_are_shifts G) := by
 refine F.ok sc_are_shifts (fun vs H Q E h => ?_) (fun cdv A outer s0 H vs Q E hr h => ?_)
 ·obtain ⟨p,sa,s,r,row,rfl,hP,hr1,hl,k⟩ := h
  rfl
 ·have nd := sc_are_shifts.nd
  obtain ⟨p,sa,s,r,row,rfl,hP,hr1,hl,k⟩ := h
  refine ⟨_,(pss_one (ps_ret (pe_callB (allK (K := G.K) rfl rfl) rfl T.b_all boot_all (pa_cons (pe_lc (own := [("number",2)]) rfl nd (pi_list (pv 1)) (blkOk_by (show blkC ["plan", "row", "number"] (defScope s_are_shifts) _ _ = true by decide +kernel)) (fun _ _ _ _ _ => (pg_name (i := 2) nd rfl (.inl rfl))) (fun _ _ _ _ _ => pts_nil) (fun _ _ _ _ _ => (pe_cal c_is_shift (hr.mono (by decide)) rfl (pa_cons (pv 0) (pa_cons (pv 2) pa_nil))))) pa_nil)))),?_⟩
  refine ⟨_,rfl,r,rfl,⟨_,SqL.of hr1⟩,?_⟩
  intro D hD
  refine lcI_list (L := G.L) (xs := vI row) (fun _ => true) (fun i => .bl (okJ s (row.getD i 0))) (by rw [vI_len,sizeLine_eq]; omega) (SqL.of hr1) hD (fun i x H1 hx e Kt N hy hn => ?_) fun H1 e hq => ?_
  ·obtain ⟨rfl,_,_⟩ := vI_at hx
   refine ⟨rfl,?_⟩
   refine iteT (B := N H1) ?_
   refine ⟨_,rfl,_,rfl,p,sa,s,_,rfl,hP.ext e,?_⟩
   exact hy rfl H1 Ext.refl
  ·have e2 : ((List.range (vI row).length).filter fun _ => true).map (fun i => V.bl (okJ s (row.getD i 0))) = (row.map (okJ s)).map V.bl := by
    rw [fil_true,vI_len,List.map_map]
    exact range_getD row 0 fun z => V.bl (okJ s z)
   rw [e2] at hq
   refine ⟨D,_,rfl,SqL.of hq,?_⟩
   rw [List.all_map]
   exact k H1 e
end
def seenK (l : List Int) : List (Key × V) := l.map fun z => (Sum.inl z,.bl true)
theorem seen_val (l : List Int) (z : Int) : valV (seenK l) (Sum.inl z) = if z ∈ l then some (.bl true) else none := by
 induction l with
 | nil => rfl
 | cons a r ih =>
  show valV ((Sum.inl a,V.bl true) :: seenK r) (Sum.inl z) = _
  by_cases c : a = z
  ·subst c
   rw [valV_pos rfl,if_pos (by simp)]
  ·rw [valV_neg (by intro e; exact c (Sum.inl.inj e)),ih]
   by_cases d : z ∈ r
   ·rw [if_pos d,if_pos (by simp [d])]
   ·rw [if_neg d,if_neg (by simp [d]; exact fun q => c q.symm)]
theorem seen_put {l : List Int} {z : Int} (h : z ∉ l) : putK (seenK l) (Sum.inl z) (.bl true) = seenK (l ++ [z]) := by
 rw [putK_new _ (by rw [seen_val,if_neg h])]
 unfold seenK
 rw [List.map_append]; rfl
abbrev s_are_minutes : Stmt := top 23
theorem sc_are_minutes : FnScope ["plan", "row", "seen", "minute"] ["plan", "row"] (defScope s_are_minutes) := scM
section
variable {P : Program} {w : World} {G : Gd} {mg : Str -> Option Value} {base : Heap}
theorem ok_are_minutes {f : Addr} {fd : FuncData} (F : Fun G.K "are_minutes" "are_minutes" s_are_minutes f fd) (T : Txt mg G) (c_within : Def P w G.K mg base "within" 1 ["number", "low", "high"] sp_within) : FnOk P w G.K mg base CX0 2 f fd ["plan", "row"] (sp_are_minutes G) := by
 refine F.ok sc_are_minutes (fun vs H Q E h => ?_) (fun cdv A outer s0 H vs Q E hr h => ?_)
 ·obtain ⟨p,sa,s,r,row,rfl,hP,hr1,hl,k⟩ := h
  rfl
 ·have nd := sc_are_minutes.nd
  have hu := hu_of hr
  obtain ⟨p,sa,s,r,row,rfl,hP,hr1,hl,k⟩ := h
  refine ⟨_,(pss_cons (ps_set (i := 2) nd rfl (.inl rfl) pe_dnewK)
   (pss_cons (ps_for PassesOwn.never rfl (pi_list (pv 1)) (pg_name (i := 3) nd rfl (.inl rfl))
   (pss_cons (ps_if (PW.pt (pw_or (pt_not (pt_val (pe_cal c_within (hr.mono (by decide)) rfl (pa_cons (pv 3) (pa_cons pe_int (pa_cons (pe_op op_sub (fldK (K := G.K) rfl (pv 0) rfl) pe_int) pa_nil)))))) (pw_or1 (pt_cmp (pc_din hu (pv 3) (pv 2))))))
   (pss_one (ps_ret pe_bl))
   pss_nil)
   (pss_one (ps_dput hu (pv 2) (pv 3) pe_bl rfl))))
   (pss_one (ps_ret pe_bl)))),?_⟩
  intro d hd
  have e0 : Ext G.L H (upd H d (.dK [])) := Ext.new hd
  refine ⟨_,rfl,r,rfl,⟨_,SqL.of (e0.lst hr1)⟩,for_list (K := G.K) (a := r) (xs := vI row) (fun i σ H' => Ext G.L H H' /\ H' d = some (.dK (seenK (row.take i))) /\ (∃ x,IsMin s (row.take i) x) /\ ∃ v3,σ = [some (.ref p),some (.ref r),some (.ref d),v3])
   ⟨e0,upd_same,⟨[],isMin_nil s row⟩,none,rfl⟩ (fun i σ H' _ ⟨e,_⟩ => SqL.of (e.lst hr1)) ?_ ?_⟩
  ·rintro i y σ H' hi ⟨e,h1,⟨x,hm⟩,v3,rfl⟩
   obtain ⟨rfl,hz,hil⟩ := vI_at hi
   generalize row.getD i 0 = z at hz
   obtain ⟨dx,ca,hp,hca,nca⟩ := (hP.ext e).ex
   have tk : row.take (i + 1) = row.take i ++ [z] := take_snoc hz
   refine ⟨_,rfl,_,rfl,p,G.CP,dx,_,_,rfl,hp,T.clP,T.nP_horizon,pf_horizon _ _ _,_,_,rfl,rfl,?_⟩
   refine ⟨z,0,(s.horizon : Int) - 1,rfl,_,rfl,?_⟩
   have eT : inR z 0 ((s.horizon : Int) - 1) = okT s z := rfl
   rw [eT]
   cases q : okT s z with
   | false =>
    refine iteT ?_
    refine iteT ?_
    have e2 : (minutesIn s row).isSome = false := by rw [minutesIn_bad hz (.inl q)]; rfl
    have kk := k H' e
    rw [e2] at kk
    exact kk
   | true =>
    refine iteF ?_
    refine ⟨_,rfl,_,rfl,d,_,rfl,DGet.k (k := Sum.inl z) h1,_,rfl,?_⟩
    rw [seen_val]
    by_cases c : z ∈ row.take i
    ·rw [if_pos c]
     refine iteT ?_
     have e2 : (minutesIn s row).isSome = false := by rw [minutesIn_bad hz (.inr c)]; rfl
     have kk := k H' e
     rw [e2] at kk
     exact kk
    ·rw [if_neg c]
     refine iteF ?_
     refine ⟨_,rfl,_,rfl,d,_,rfl,DPut.k (k := Sum.inl z) h1 ?_,?_⟩
     ·unfold seenK
      rw [List.length_map,List.length_take,sizeLine_eq]; omega
     ·refine ⟨e.set hd h1 rfl,?_,⟨_,isMin_more hm hz q c⟩,_,rfl⟩
      rw [upd_same,seen_put c,tk]
  ·rintro σ H' ⟨e,h1,⟨x,hm⟩,v3,rfl⟩
   rw [vI_len,List.take_length] at hm
   have e2 : (minutesIn s row).isSome = true := by rw [(isMin_iff s row x).mpr hm]; rfl
   have kk := k H' e
   rw [e2] at kk
   exact kk
end
def crK (x : Vbedai.Crews) : List (Key × V) := x.map fun q => (Sum.inl (q.1 : Int),.int (q.2 : Int))
theorem crK_val (x : Vbedai.Crews) (j : Nat) : valV (crK x) (Sum.inl (j : Int)) = (x.find? fun q => q.1 == j).map fun q => V.int (q.2 : Int) := by
 induction x with
 | nil => rfl
 | cons a r ih =>
  show valV ((Sum.inl (a.1 : Int),V.int (a.2 : Int)) :: crK r) (Sum.inl (j : Int)) = _
  by_cases c : a.1 = j
  ·subst c
   rw [valV_pos rfl,List.find?_cons]
   simp
  ·rw [valV_neg (by intro e; have := Sum.inl.inj e; omega),ih,List.find?_cons,show (a.1 == j) = false from beq_eq_false_iff_ne.mpr c]
theorem crK_some (x : Vbedai.Crews) (j : Nat) : (valV (crK x) (Sum.inl (j : Int))).isSome = true ↔ j ∈ x.map (·.1) := by
 rw [crK_val,Option.isSome_map,List.find?_isSome,List.mem_map]
 constructor
 ·rintro ⟨q,h1,h2⟩; exact ⟨q,h1,by simpa using h2⟩
 ·rintro ⟨q,h1,h2⟩; exact ⟨q,h1,by simpa using h2⟩
theorem crK_put {x : Vbedai.Crews} {j k : Nat} (h : j ∉ x.map (·.1)) : putK (crK x) (Sum.inl (j : Int)) (.int (k : Int)) = crK (x ++ [(j,k)]) := by
 rw [putK_new _ (by
  cases e : valV (crK x) (Sum.inl (j : Int)) with
  | none => rfl
  | some v => exact absurd ((crK_some x j).mp (by rw [e]; rfl)) h)]
 unfold crK
 rw [List.map_append]; rfl
theorem crK_on {x : Vbedai.Crews} (nd : (x.map (·.1)).Nodup) (j : Nat) : (valV (crK x) (Sum.inl (j : Int))).getD (.int 0) = .int (onJ x j : Int) := by
 rw [crK_val,onJ_find x j nd]
 cases x.find? fun q => q.1 == j <;> rfl
theorem fitsL {i : Int} (h1 : -(2 ^ 63) <= i) (h2 : i < 2 ^ 63) : Builtin.Range.rangeFitsLong i = true := by
 unfold Builtin.Range.rangeFitsLong
 rw [Bool.and_eq_true,decide_eq_true_eq,decide_eq_true_eq]
 exact ⟨h1,h2⟩
theorem rgC2 (n : Nat) (h : n <= 20000) (hn : n % 2 = 0) : RgC 0 (n : Int) 2 (n / 2) := by
 have hs : Builtin.Range.rangeSize 0 (n : Int) 2 = ((n / 2 : Nat) : Int) := by
  unfold Builtin.Range.rangeSize
  rw [if_pos (by decide)]
  by_cases c : (0 : Int) < (n : Int)
  ·rw [if_pos c]; omega
  ·rw [if_neg c]; omega
 refine ⟨by decide,by decide,?_,hs⟩
 have f1 := fitsL (i := 0) (by decide) (by decide)
 have f2 := fitsL (i := (n : Int)) (by omega) (by omega)
 have f3 := fitsL (i := 2) (by decide) (by decide)
 have f4 := fitsL (i := ((n / 2 : Nat) : Int)) (by omega) (by omega)
 have f5 := fitsL (i := (n : Int) + (2 - 1)) (by omega) (by omega)
 unfold Builtin.Range.small
 rw [hs,if_pos (by decide),f1,f2,f3,f4,f5,Bool.or_true]
 rfl
abbrev s_crews_of : Stmt := top 22
theorem sc_crews_of : FnScope ["plan", "row", "counts", "k", "j"] ["plan", "row"] (defScope s_crews_of) := scM
section
variable {P : Program} {w : World} {G : Gd} {mg : Str -> Option Value} {base : Heap}
theorem ok_crews_of {f : Addr} {fd : FuncData} (F : Fun G.K "crews_of" "crews_of" s_crews_of f fd) (T : Txt mg G) (c_within : Def P w G.K mg base "within" 1 ["number", "low", "high"] sp_within) (c_is_shift : Def P w G.K mg base "is_shift" 2 ["plan", "number"] (sp_is_shift G)) : FnOk P w G.K mg base CX0 3 f fd ["plan", "row"] (sp_crews_of G) := by
 refine F.ok sc_crews_of (fun vs H Q E h => ?_) (fun cdv A outer s0 H vs Q E hr h => ?_)
 ·obtain ⟨p,sa,s,r,row,rfl,hP,hr1,hl,k⟩ := h
  rfl
 ·have nd := sc_crews_of.nd
  have hu := hu_of hr
  obtain ⟨p,sa,s,r,row,rfl,hP,hr1,hl,k⟩ := h
  refine ⟨_,(pss_cons (ps_if (pt_cmpR op_ne (pe_op op_mod (pe_callB (lenK (K := G.K) rfl) rfl T.b_len PySem.boot_len (pa_cons (pv 1) pa_nil)) pe_int) pe_int (nomark _))
   (pss_one (ps_ret pe_non))
   pss_nil)
   (pss_cons (ps_set (i := 2) nd rfl (.inr rfl) pe_dnewK)
   (pss_cons (ps_for PassesOwn.never rfl (pi_range3 rfl T.b_range (pa_cons pe_int (pa_cons (pe_callB (lenK (K := G.K) rfl) rfl T.b_len PySem.boot_len (pa_cons (pv 1) pa_nil)) (pa_cons pe_int pa_nil)))) (pg_name (i := 3) nd rfl (.inl rfl))
   (pss_cons (ps_if (PW.pt (pw_or (pt_not (pt_val (pe_cal c_is_shift (hr.mono (by decide)) rfl (pa_cons (pv 0) (pa_cons (pe_ix (ixL (K := G.K) rfl) (pv 1) (pv 3) (fun _ _ => rfl)) pa_nil))))) (pw_or1 (pt_cmp (pc_din hu (pe_ix (ixL (K := G.K) rfl) (pv 1) (pv 3) (fun _ _ => rfl)) (pv 2))))))
   (pss_one (ps_ret pe_non))
   pss_nil)
   (pss_cons (ps_if (pt_not (pt_val (pe_cal c_within (hr.mono (by decide)) rfl (pa_cons (pe_ix (ixL (K := G.K) rfl) (pv 1) (pe_op op_add (pv 3) pe_int) (fun _ _ => rfl)) (pa_cons pe_int (pa_cons (pe_gi rfl T.m_MOST_ON_SHIFT) pa_nil))))))
   (pss_one (ps_ret pe_non))
   pss_nil)
   (pss_one (ps_dput hu (pv 2) (pe_ix (ixL (K := G.K) rfl) (pv 1) (pv 3) (fun _ _ => rfl)) (pe_ix (ixL (K := G.K) rfl) (pv 1) (pe_op op_add (pv 3) pe_int) (fun _ _ => rfl)) rfl)))))
   (pss_one (ps_ret (pe_lc (own := [("j",4)]) rfl nd (pi_range1 rfl T.b_range (pa_cons (pe_callB (lenK (K := G.K) rfl) rfl T.b_len PySem.boot_len (pa_cons (fldK (K := G.K) rfl (pv 0) rfl) pa_nil)) pa_nil)) (blkOk_by (show blkC ["plan", "row", "counts", "k", "j"] (defScope s_crews_of) _ _ = true by decide +kernel)) (fun _ _ _ _ _ => (pg_name (i := 4) nd rfl (.inl rfl))) (fun _ _ _ _ _ => pts_nil) (fun _ _ _ _ _ => (pe_dget2 hu (pv 2) (pv 4) pe_int ⟨rfl,rfl,rfl,rfl⟩)))))))),?_⟩
  refine ⟨_,rfl,r,_,rfl,.inl (SqL.of hr1),_,_,rfl,rfl,(by show (0 : Int) < 2; decide),rfl,_,rfl,?_⟩
  rw [vI_len]
  by_cases hodd : row.length % 2 = 0
  ·have eo : (!decide (V.int ((row.length : Int) % 2) = V.int 0)) = false := by
    have : (row.length : Int) % 2 = 0 := by omega
    rw [this]; rfl
   rw [eo]
   refine iteF ?_
   intro d hd
   have e0 : Ext G.L H (upd H d (.dK [])) := Ext.new hd
   refine ⟨_,rfl,r,_,rfl,.inl (SqL.of (e0.lst hr1)),0,_,2,row.length / 2,rfl,by rw [vI_len]; exact rgC2 _ hl hodd,for_rangeC (fun i σ H' => Ext G.L H H' /\ ∃ x,IsCrews s (row.take (2 * i)) x /\ H' d = some (.dK (crK x)) /\ ∃ v3,σ = [some (.ref p),some (.ref r),some (.ref d),v3,none])
    ⟨e0,[],isCrews_nil s row,upd_same,none,rfl⟩ ?_ ?_⟩
   ·rintro i σ H' hi ⟨e,x,hx,h1,v3,rfl⟩
    have hr2 := e.lst hr1
    have i1 : row[2 * i]? = some (row.getD (2 * i) 0) := by rw [List.getD_eq_getElem?_getD,List.getElem?_eq_getElem (by omega)]; rfl
    have i2 : row[2 * i + 1]? = some (row.getD (2 * i + 1) 0) := by rw [List.getD_eq_getElem?_getD,List.getElem?_eq_getElem (by omega)]; rfl
    generalize row.getD (2 * i) 0 = zj at i1
    generalize row.getD (2 * i + 1) 0 = zk at i2
    have a1 : atI (vI row) (0 + (i : Nat) * 2) = some (.int zj) := at_of (j := 2 * i) (by omega) (by rw [List.getElem?_map,i1]; rfl)
    have a2 : atI (vI row) (0 + (i : Nat) * 2 + 1) = some (.int zk) := at_of (j := 2 * i + 1) (by omega) (by rw [List.getElem?_map,i2]; rfl)
    have bad : (okJ s zj = false ∨ inR zk 0 1000 = false ∨ zj.toNat ∈ x.map (·.1)) -> Q .non H' := fun b => by
     rw [crewsIn_bad hx i1 i2 b] at k
     exact k H' e
    refine ⟨_,rfl,_,rfl,_,rfl,r,_,_,_,rfl,rfl,SqL.of hr2,a1,p,sa,s,zj,rfl,hP.ext e,_,rfl,?_⟩
    cases q : okJ s zj with
    | false =>
     refine iteT ?_
     exact iteT (bad (.inl q))
    | true =>
     have z0 : 0 <= zj := by
      unfold Vbedai.okJ at q; rw [inR_iff] at q; exact q.1
     have ez : ((zj.toNat : Nat) : Int) = zj := Int.toNat_of_nonneg z0
     refine iteF ?_
     refine ⟨_,rfl,_,rfl,r,_,_,_,rfl,rfl,SqL.of hr2,a1,_,rfl,d,_,rfl,DGet.k (k := Sum.inl zj) h1,_,rfl,?_⟩
     by_cases c : zj.toNat ∈ x.map (·.1)
     ·have z := (crK_some x zj.toNat).mpr c
      rw [ez] at z
      rw [z]
      exact iteT (bad (.inr (.inr c)))
     ·have z : (valV (crK x) (Sum.inl zj)).isSome = false := by
       cases y : (valV (crK x) (Sum.inl zj)).isSome with
       | false => rfl
       | true => exact absurd ((crK_some x zj.toNat).mp (by rw [ez]; exact y)) c
      rw [z]
      refine iteF ?_
      refine ⟨_,rfl,_,rfl,_,_,rfl,rfl,r,_,_,_,rfl,rfl,SqL.of hr2,a2,zk,0,1000,rfl,_,rfl,?_⟩
      cases qk : inR zk 0 1000 with
      | false => exact iteT (bad (.inr (.inl qk)))
      | true =>
       have k0 : 0 <= zk := by rw [inR_iff] at qk; exact qk.1
       have ek : ((zk.toNat : Nat) : Int) = zk := Int.toNat_of_nonneg k0
       refine iteF ?_
       refine ⟨_,rfl,_,rfl,_,_,rfl,rfl,r,_,_,_,rfl,rfl,SqL.of hr2,a2,_,rfl,_,rfl,_,rfl,r,_,_,_,rfl,rfl,SqL.of hr2,a1,d,_,rfl,DPut.k (k := Sum.inl zj) h1 ?_,?_⟩
       ·have := (isCrews_more hx i1 i2 q qk c).eq
        have l2 := congrArg List.length this
        rw [flat_len,List.length_append,List.length_take] at l2
        unfold crK
        rw [List.length_map,sizeLine_eq]
        simp at l2
        omega
       ·refine ⟨e.set hd h1 rfl,_,isCrews_more hx i1 i2 q qk c,?_,_,rfl⟩
        rw [upd_same]
        have := crK_put (k := zk.toNat) c
        rw [ez,ek] at this
        rw [this]
   ·rintro σ H' ⟨e,x,hx,h1,v3,rfl⟩
    have hin := isCrews_end hx (by omega)
    rw [hin] at k
    have nd' := ((crewsIn_ok s row x).mp hin).nd
    obtain ⟨dx,ca,hp,hca,nca⟩ := (hP.ext e).ex
    obtain ⟨ys,hy,hyl,_⟩ := (hP.ext e).sh.at
    have h60 := hP.wf.sl
    have hn : ys.length = s.shifts.length := by rw [hyl,shP_len]
    refine ⟨_,rfl,p,G.CP,dx,_,_,rfl,hp,T.clP,T.nP_shifts,pf_shifts _ _ _,sa,_,rfl,.inl (SqL.of hy),_,rfl,by omega,by omega,?_⟩
    intro D hD
    rw [Int.toNat_natCast]
    refine lcI_range (L := G.L) (fun _ => true) (fun j => .int (onJ x j : Int)) (by rw [sizeLine_eq]; omega) hD (fun i H1 hi e1 Kt N hk hn' => ?_) fun H1 e1 hq => ?_
    ·refine ⟨rfl,iteT (B := N H1) ?_⟩
     refine ⟨_,rfl,d,rfl,.inl ⟨_,.inl (e1.1 _ _ h1 rfl)⟩,_,rfl,_,DGet.k (k := Sum.inl (0 + (i : Int))) (e1.1 _ _ h1 rfl),?_⟩
     rw [Int.zero_add,crK_on nd']
     exact hk rfl H1 Ext.refl
    ·refine k D H1 (e.trans e1) (e.free D hD) ?_
     rw [hq,fil_true,hn]
     unfold VM.onAll numbers vI
     rw [List.map_map]
     rfl
  ·have eo : (!decide (V.int ((row.length : Int) % 2) = V.int 0)) = true := by
    have : ¬ (row.length : Int) % 2 = 0 := by omega
    simp [this]
   rw [eo]
   refine iteT ?_
   rw [crewsIn_odd hodd] at k
   exact k H Ext.refl
end
theorem tups_snoc {L : List Tbl} {H H' : Hp} {as : List Addr} {ps : List (List Int)} {a : Addr} {p : List Int} (h : TupsAt H as ps) (e : Ext L H H') (ha : H' a = some (.tup (vI p))) : TupsAt H' (as ++ [a]) (ps ++ [p]) := by
 refine ⟨by simp [h.1],fun i b q h1 h2 => ?_⟩
 by_cases c : i < as.length
 ·rw [List.getElem?_append_left c] at h1
  rw [List.getElem?_append_left (by rw [<- h.1]; exact c)] at h2
  exact e.tup (h.2 i b q h1 h2)
 ·rw [List.getElem?_append_right (by omega)] at h1
  rw [List.getElem?_append_right (by rw [<- h.1]; omega)] at h2
  have hm : i - as.length = 0 := by
   obtain ⟨z,_⟩ := List.getElem?_eq_some_iff.mp h1
   simp at z; omega
  rw [hm] at h1
  rw [<- h.1,hm] at h2
  cases h1; cases h2
  exact ha
theorem tups_upd {H : Hp} {as : List Addr} {ps : List (List Int)} {D : Addr} {xs ys : List V} (h : TupsAt H as ps) (hD : H D = some (.lst xs)) : TupsAt (upd H D (.lst ys)) as ps :=
 ⟨h.1,fun i a p h1 h2 => by
  have z := h.2 i a p h1 h2
  rw [upd_ne (ne_of z hD (by intro q; cases q))]
  exact z⟩
theorem tups_ext {L : List Tbl} {H H' : Hp} {as : List Addr} {ps : List (List Int)} (h : TupsAt H as ps) (e : Ext L H H') : TupsAt H' as ps := ⟨h.1,fun i a p h1 h2 => e.tup (h.2 i a p h1 h2)⟩
abbrev s_changes_of : Stmt := top 21
theorem sc_changes_of : FnScope ["plan", "row", "changes", "earliest", "k"] ["plan", "row"] (defScope s_changes_of) := scM
section
variable {P : Program} {w : World} {G : Gd} {mg : Str -> Option Value} {base : Heap}
theorem ok_changes_of {f : Addr} {fd : FuncData} (F : Fun G.K "changes_of" "changes_of" s_changes_of f fd) (T : Txt mg G) (c_within : Def P w G.K mg base "within" 1 ["number", "low", "high"] sp_within) : FnOk P w G.K mg base CX0 2 f fd ["plan", "row"] (sp_changes_of G) := by
 refine F.ok sc_changes_of (fun vs H Q E h => ?_) (fun cdv A outer s0 H vs Q E hr h => ?_)
 ·obtain ⟨p,sa,s,r,row,rfl,hP,hr1,hl,k⟩ := h
  rfl
 ·have nd := sc_changes_of.nd
  obtain ⟨p,sa,s,r,row,rfl,hP,hr1,hl,k⟩ := h
  refine ⟨_,(pss_cons (ps_if (PW.pt (pw_or (pt_cmpR op_ne (pe_op op_mod (pe_callB (lenK (K := G.K) rfl) rfl T.b_len PySem.boot_len (pa_cons (pv 1) pa_nil)) pe_int) pe_int (nomark _)) (pw_or1 (pt_cmpR op_gt (pe_callB (lenK (K := G.K) rfl) rfl T.b_len PySem.boot_len (pa_cons (pv 1) pa_nil)) (pe_op op_mul pe_int (pe_gi rfl T.m_MOST_CHANGES)) (nomark _)))))
   (pss_one (ps_ret pe_non))
   pss_nil)
   (pss_cons (ps_set (i := 2) nd rfl (.inl rfl) (pe_lst pa_nil))
   (pss_cons (ps_set (i := 3) nd rfl (.inl rfl) pe_int)
   (pss_cons (ps_for PassesOwn.never rfl (pi_range3 rfl T.b_range (pa_cons pe_int (pa_cons (pe_callB (lenK (K := G.K) rfl) rfl T.b_len PySem.boot_len (pa_cons (pv 1) pa_nil)) (pa_cons pe_int pa_nil)))) (pg_name (i := 4) nd rfl (.inl rfl))
   (pss_cons (ps_if (PW.pt (pw_or (pt_not (pt_val (pe_cal c_within (hr.mono (by decide)) rfl (pa_cons (pe_ix (ixL (K := G.K) rfl) (pv 1) (pv 4) (fun _ _ => rfl)) (pa_cons (pv 3) (pa_cons (pe_op op_sub (fldK (K := G.K) rfl (pv 0) rfl) pe_int) pa_nil)))))) (pw_or1 (pt_not (pt_val (pe_cal c_within (hr.mono (by decide)) rfl (pa_cons (pe_ix (ixL (K := G.K) rfl) (pv 1) (pe_op op_add (pv 4) pe_int) (fun _ _ => rfl)) (pa_cons pe_int (pa_cons (pe_gi rfl T.m_MOST_NEEDED) pa_nil)))))))))
   (pss_one (ps_ret pe_non))
   pss_nil)
   (pss_cons (ps_expr (pe_bm PySem.F.plainAttrs_list PySem.F.slot_list_append PySem.F.type_list_append mt_append (pv 2) (pa_cons (pe_tup (pa_cons (pe_ix (ixL (K := G.K) rfl) (pv 1) (pv 4) (fun _ _ => rfl)) (pa_cons (pe_ix (ixL (K := G.K) rfl) (pv 1) (pe_op op_add (pv 4) pe_int) (fun _ _ => rfl)) pa_nil))) pa_nil)))
   (pss_one (ps_set (i := 3) nd rfl (.inl rfl) (pe_op op_add (pe_ix (ixL (K := G.K) rfl) (pv 1) (pv 4) (fun _ _ => rfl)) pe_int))))))
   (pss_one (ps_ret (pv 2))))))),?_⟩
  refine ⟨_,rfl,r,_,rfl,.inl (SqL.of hr1),_,_,rfl,rfl,(by show (0 : Int) < 2; decide),rfl,_,rfl,?_⟩
  rw [vI_len]
  by_cases hodd : row.length % 2 = 0
  ·have eo : (!decide (V.int ((row.length : Int) % 2) = V.int 0)) = false := by
    have : (row.length : Int) % 2 = 0 := by omega
    rw [this]; rfl
   rw [eo]
   refine iteF ?_
   refine ⟨_,rfl,r,_,rfl,.inl (SqL.of hr1),_,_,rfl,rfl,.inl ⟨by decide,by decide⟩,_,_,rfl,rfl,_,rfl,?_⟩
   rw [vI_len]
   by_cases h200 : 200 < row.length
   ·rw [show decide ((2 : Int) * 100 < (row.length : Int)) = true by simp; omega]
    refine iteT ?_
    rw [if_pos h200] at k
    exact k H Ext.refl
   ·rw [show decide ((2 : Int) * 100 < (row.length : Int)) = false by simp; omega]
    refine iteF ?_
    rw [if_neg h200] at k
    refine ⟨Nat.zero_le _,fun d hd => ?_⟩
    have e0 : Ext G.L H (upd H d (.lst [])) := Ext.new hd
    refine ⟨_,rfl,r,_,rfl,.inl (SqL.of (e0.lst hr1)),0,_,2,row.length / 2,rfl,by rw [vI_len]; exact rgC2 _ hl hodd,for_rangeC (fun i σ H' => Ext G.L H H' /\ ∃ x z as,IsCh s (row.take (2 * i)) x /\ Early x z /\ H' d = some (.lst (as.map V.ref)) /\ TupsAt H' as (x.map fun c => [(c.time : Int),(c.level : Int)]) /\ ∃ v4,σ = [some (.ref p),some (.ref r),some (.ref d),some (.int z),v4])
     ⟨e0,[],0,[],isCh_nil s row,early_nil,upd_same,⟨rfl,fun i a q h => by simp at h⟩,none,rfl⟩ ?_ ?_⟩
    ·rintro i σ H' hi ⟨e,x,z,as,hx,hz,h1,h2,v4,rfl⟩
     have hr2 := e.lst hr1
     have i1 : row[2 * i]? = some (row.getD (2 * i) 0) := by rw [List.getD_eq_getElem?_getD,List.getElem?_eq_getElem (by omega)]; rfl
     have i2 : row[2 * i + 1]? = some (row.getD (2 * i + 1) 0) := by rw [List.getD_eq_getElem?_getD,List.getElem?_eq_getElem (by omega)]; rfl
     generalize row.getD (2 * i) 0 = zj at i1
     generalize row.getD (2 * i + 1) 0 = zk at i2
     have a1 : atI (vI row) (0 + (i : Nat) * 2) = some (.int zj) := at_of (j := 2 * i) (by omega) (by rw [List.getElem?_map,i1]; rfl)
     have a2 : atI (vI row) (0 + (i : Nat) * 2 + 1) = some (.int zk) := at_of (j := 2 * i + 1) (by omega) (by rw [List.getElem?_map,i2]; rfl)
     obtain ⟨dx,ca,hp,hca,nca⟩ := (hP.ext e).ex
     have bad : ¬ ((z <= zj /\ zj <= (s.horizon : Int) - 1) /\ 0 <= zk /\ zk <= 1000) -> Q .non H' := fun b => by
      rw [changesIn_bad hx hz i1 i2 b] at k
      exact k H' e
     refine ⟨_,rfl,_,rfl,r,_,_,_,rfl,rfl,SqL.of hr2,a1,_,rfl,_,rfl,p,G.CP,dx,_,_,rfl,hp,T.clP,T.nP_horizon,pf_horizon _ _ _,_,_,rfl,rfl,zj,z,_,rfl,_,rfl,?_⟩
     cases q : inR zj z ((s.horizon : Int) - 1) with
     | false =>
      refine iteT ?_
      refine iteT (bad fun b => ?_)
      rw [(inR_iff _ _ _).mpr b.1] at q; cases q
     | true =>
      refine iteF ?_
      refine ⟨_,rfl,_,rfl,_,_,rfl,rfl,r,_,_,_,rfl,rfl,SqL.of hr2,a2,zk,0,1000,rfl,_,rfl,?_⟩
      cases qk : inR zk 0 1000 with
      | false =>
       refine iteT (bad fun b => ?_)
       rw [(inR_iff _ _ _).mpr b.2] at qk; cases qk
      | true =>
       refine iteF ?_
       rw [inR_iff] at q qk
       obtain ⟨m1,m2⟩ := isCh_more hx hz i1 i2 q qk
       have e0' : 0 <= z := by
        rcases hz.2 with y | ⟨c,_,y⟩
        ·omega
        ·rw [y]; simp only [Vbedai.nat,Int.ofNat_eq_natCast]; omega
       refine ⟨_,rfl,.inl ⟨rfl,_,SqL.of h1⟩,_,rfl,_,rfl,r,_,_,_,rfl,rfl,SqL.of hr2,a1,_,rfl,_,rfl,_,_,rfl,rfl,r,_,_,_,rfl,rfl,SqL.of hr2,a2,(by show 2 <= sizeLine; decide),fun t ht => ?_⟩
       have e1 : Ext G.L H' (upd H' t (.tup [.int zj,.int zk])) := Ext.new ht
       refine ⟨d,_,_,rfl,rfl,e1.lst h1,?_,?_⟩
       ·have l2 := congrArg List.length m1.eq
        rw [flatC_len,List.length_append,List.length_take] at l2
        have l3 := h2.1
        rw [List.length_map] at l3 ⊢
        rw [l3,sizeLine_eq]
        simp at l2
        omega
       ·have hr3 := ((e.trans e1).set (o := .lst (as.map V.ref ++ [.ref t])) hd (e1.lst h1) rfl).lst hr1
        refine ⟨_,rfl,_,rfl,r,_,_,_,rfl,rfl,SqL.of hr3,a1,_,_,rfl,rfl,?_⟩
        refine ⟨(e.trans e1).set hd (e1.lst h1) rfl,_,zj + 1,as ++ [t],m1,m2,?_,?_,_,rfl⟩
        ·rw [upd_same,List.map_append]; rfl
        ·rw [List.map_append]
         refine tups_upd (tups_snoc (p := [((zj.toNat : Nat) : Int),((zk.toNat : Nat) : Int)]) h2 e1 ?_) (e1.lst h1)
         rw [Int.toNat_of_nonneg (by omega),Int.toNat_of_nonneg qk.1]
         exact upd_same
    ·rintro σ H' ⟨e,x,z,as,hx,hz,h1,h2,v4,rfl⟩
     rw [isCh_end hx (by omega)] at k
     exact ⟨_,rfl,k d H' e hd ⟨as,h1,h2⟩⟩
  ·have eo : (!decide (V.int ((row.length : Int) % 2) = V.int 0)) = true := by
    have : ¬ (row.length : Int) % 2 = 0 := by omega
    simp [this]
   rw [eo]
   refine iteT ?_
   refine iteT ?_
   have : (if 200 < row.length then none else changesIn s (-1) row) = none := by rw [changesIn_odd hodd]; simp
   rw [this] at k
   exact k H Ext.refl
end
theorem getD_at {ms : List Nat} {i : Nat} {t : Nat} (h : ms[i]? = some t) : ms.getD i 0 = t := by rw [List.getD_eq_getElem?_getD,h]; rfl
theorem mapN {α : Type} (ms : List Nat) (g : Nat -> α) : (List.range ms.length).map (fun i => g (ms.getD i 0)) = ms.map g := range_getD ms 0 g
abbrev s_needs_on : Stmt := top 35
theorem sc_needs_on : FnScope ["plan", "way", "minute"] ["plan", "way"] (defScope s_needs_on) := scM
section
variable {P : Program} {w : World} {G : Gd} {mg : Str -> Option Value} {base : Heap}
theorem ok_needs_on {f : Addr} {fd : FuncData} (F : Fun G.K "needs_on" "needs_on" s_needs_on f fd) (T : Txt mg G) (c_need_at : Def P w G.K mg base "need_at" 1 ["plan", "minute"] (sp_need_at G)) : FnOk P w G.K mg base CX0 2 f fd ["plan", "way"] (sp_needs_on G) := by
 refine F.ok sc_needs_on (fun vs H Q E h => ?_) (fun cdv A outer s0 H vs Q E hr h => ?_)
 ·obtain ⟨p,sa,s,wy,pick,ms,rfl,hP,hW,k⟩ := h
  rfl
 ·have nd := sc_needs_on.nd
  obtain ⟨p,sa,s,wy,pick,ms,rfl,hP,hW,k⟩ := h
  refine ⟨_,(pss_one (ps_ret (pe_lc (own := [("minute",2)]) rfl nd (pi_list (fldK (K := G.K) rfl (pv 1) rfl)) (blkOk_by (show blkC ["plan", "way", "minute"] (defScope s_needs_on) _ _ = true by decide +kernel)) (fun _ _ _ _ _ => (pg_name (i := 2) nd rfl (.inl rfl))) (fun _ _ _ _ _ => pts_nil) (fun _ _ _ _ _ => (pe_cal c_need_at (hr.mono (by decide)) rfl (pa_cons (pv 0) (pa_cons (pv 2) pa_nil))))))),?_⟩
  obtain ⟨dx,sa',ma,ha,ka,h1,h2,h3,h4,as,h5,h6,h7⟩ := hW.ex
  have h221 := hW.len
  refine ⟨_,rfl,wy,G.CW,dx,_,_,rfl,h1,T.clW,T.nW_minutes,wf4_minutes _ _ _ _,ma,rfl,⟨_,SqL.of h3⟩,?_⟩
  intro D hD
  refine lcI_list (L := G.L) (xs := vN ms) (fun _ => true) (fun i => .int (need s (ms.getD i 0) : Int)) (by rw [vN_len,sizeLine_eq]; omega) (SqL.of h3) hD (fun i x H1 hx e Kt N hy hn => ?_) fun H1 e hq => ?_
  ·obtain ⟨rfl,_,_⟩ := vN_at hx
   refine ⟨rfl,iteT (B := N H1) ?_⟩
   refine ⟨_,rfl,_,rfl,p,sa,s,_,rfl,hP.ext e,?_⟩
   exact hy rfl H1 Ext.refl
  ·refine k D H1 e hD ?_
   rw [hq,fil_true,vN_len,mapN ms fun t => V.int (need s t : Int)]
   unfold vI
   rw [List.map_map]
   rfl
end
theorem find_at {p : Nat -> Bool} : ∀ {ms : List Nat} {i t : Nat},(∀ u ∈ ms.take i,p u = false) -> ms[i]? = some t -> p t = true -> ms.find? p = some t
 | [],i,t,_,h,_ => by simp at h
 | m :: r,0,t,_,h,y => by
  have e : m = t := Option.some.inj h
  subst e
  rw [List.find?_cons,y]
 | m :: r,i + 1,t,n,h,y => by
  rw [List.find?_cons,n m (by simp),find_at (ms := r) (i := i) (fun u hu => n u (by simp [hu])) h y]
theorem find_no {p : Nat -> Bool} {ms : List Nat} (h : ∀ u ∈ ms,p u = false) : ms.find? p = none := by
 rw [List.find?_eq_none]
 intro x hx
 rw [h x hx]; simp
theorem take_all {α : Type} {l : List α} {i : Nat} {x : α} {q : α -> Prop} (h : ∀ u ∈ l.take i,q u) (hx : l[i]? = some x) (y : q x) : ∀ u ∈ l.take (i + 1),q u := by
 intro u hu
 rw [take_snoc hx] at hu
 rcases List.mem_append.mp hu with z | z
 ·exact h u z
 ·rw [List.mem_singleton] at z; rw [z]; exact y
theorem at_nat {ms : List Nat} {i : Nat} (h : i < ms.length) : ∃ t,ms[i]? = some t := ⟨_,List.getElem?_eq_getElem h⟩
abbrev s_first_gap : Stmt := top 36
theorem sc_first_gap : FnScope ["way", "needs", "k"] ["way", "needs"] (defScope s_first_gap) := scM
section
variable {P : Program} {w : World} {G : Gd} {mg : Str -> Option Value} {base : Heap}
theorem ok_first_gap {f : Addr} {fd : FuncData} (F : Fun G.K "first_gap" "first_gap" s_first_gap f fd) (T : Txt mg G) : FnOk P w G.K mg base CX0 1 f fd ["way", "needs"] (sp_first_gap G) := by
 refine F.ok sc_first_gap (fun vs H Q E h => ?_) (fun cdv A outer s0 H vs Q E hr h => ?_)
 ·obtain ⟨wy,r,s,pick,ms,wanted,rfl,hW,hr1,k⟩ := h
  rfl
 ·have nd := sc_first_gap.nd
  have hu := hu_of hr
  obtain ⟨wy,r,s,pick,ms,wanted,rfl,hW,hr1,k⟩ := h
  refine ⟨_,(pss_cons (ps_for PassesOwn.never rfl (pi_range1 rfl T.b_range (pa_cons (pe_callB (lenK (K := G.K) rfl) rfl T.b_len PySem.boot_len (pa_cons (pv 1) pa_nil)) pa_nil)) (pg_name (i := 2) nd rfl (.inl rfl))
   (pss_one (ps_if (PW.pt (pw_and (pt_cmpR op_gt (pe_ix (ixL (K := G.K) rfl) (pv 1) (pv 2) (fun _ _ => rfl)) pe_int (nomark _)) (pw_and1 (pt_cmp (pc_isN (pe_ix (ixL (K := G.K) rfl) (fldK (K := G.K) rfl (pv 0) rfl) (pv 2) (fun _ _ => rfl)))))))
   (pss_one (ps_ret (pe_ix (ixL (K := G.K) rfl) (fldK (K := G.K) rfl (pv 0) rfl) (pv 2) (fun _ _ => rfl))))
   pss_nil)))
   (pss_one (ps_ret pe_non))),?_⟩
  obtain ⟨dx,sa',ma,ha,ka,h1,h2,h3,h4,as,h5,h6,h7⟩ := hW.ex
  have h221 := hW.len
  refine ⟨_,rfl,r,_,rfl,.inl (SqL.of hr1),_,rfl,by rw [vI_len,List.length_map]; omega,by rw [vI_len,List.length_map]; omega,?_⟩
  rw [vI_len,List.length_map,Int.toNat_natCast]
  refine for_range (n := ms.length) (fun i σ H' => H' = H /\ (∀ u ∈ ms.take i,gapAt s wanted pick u = false) /\ ∃ v2,σ = [some (.ref wy),some (.ref r),v2]) ⟨rfl,by simp,none,rfl⟩ ?_ ?_
  ·rintro i σ H' hi ⟨rfl,hno,v2,rfl⟩
   obtain ⟨t,ht⟩ := at_nat hi
   have a1 : atI (vI (ms.map fun t => (wanted t : Int))) (0 + (i : Int)) = some (.int (wanted t : Int)) := at_of (j := i) (by omega) (by rw [List.getElem?_map,List.getElem?_map,ht]; rfl)
   have a2 : atI (ms.map fun t => optV (pick (having s t))) (0 + (i : Int)) = some (optV (pick (having s t))) := at_of (j := i) (by omega) (by rw [List.getElem?_map,ht]; rfl)
   have a3 : atI (vN ms) (0 + (i : Int)) = some (.int (t : Int)) := at_of (j := i) (by omega) (by rw [List.getElem?_map,ht]; rfl)
   refine ⟨_,rfl,_,rfl,r,_,_,_,rfl,rfl,SqL.of hr1,a1,_,_,rfl,rfl,_,rfl,?_⟩
   by_cases c : 0 < wanted t
   ·rw [show decide ((0 : Int) < (wanted t : Int)) = true by simp; omega]
    refine iteT ?_
    refine ⟨_,rfl,wy,G.CW,dx,_,_,rfl,h1,T.clW,T.nW_chosen,wf4_chosen _ _ _ _,_,rfl,ka,_,_,_,rfl,rfl,SqL.of h4,a2,_,rfl,?_⟩
    cases q : pick (having s t) with
    | none =>
     refine iteT ?_
     have g : gapAt s wanted pick t = true := by unfold VM.gapAt; rw [q]; simp [c]
     rw [find_at hno ht g] at k
     refine ⟨_,rfl,wy,G.CW,dx,_,_,rfl,h1,T.clW,T.nW_minutes,wf4_minutes _ _ _ _,_,rfl,ma,_,_,_,rfl,rfl,SqL.of h3,a3,?_⟩
     exact k H' Ext.refl
    | some j =>
     refine iteF ?_
     have g : gapAt s wanted pick t = false := by unfold VM.gapAt; rw [q]; simp
     exact ⟨rfl,take_all hno ht g,_,rfl⟩
   ·rw [show decide ((0 : Int) < (wanted t : Int)) = false by simp; omega]
    refine iteF ?_
    refine iteF ?_
    have g : gapAt s wanted pick t = false := by unfold VM.gapAt; simp [c]
    exact ⟨rfl,take_all hno ht g,_,rfl⟩
  ·rintro σ H' ⟨rfl,hno,v2,rfl⟩
   rw [List.take_length] at hno
   rw [find_no hno] at k
   exact k H' Ext.refl
end
theorem sh3_at {a : Sh} {i : Nat} {q : List Int} (h : (sh3 a)[i]? = some q) : ∃ y,a[i]? = some y /\ q = [(y.1 : Int),(y.2.1 : Int),(y.2.2 : Int)] := by
 unfold sh3 at h
 rw [List.getElem?_map] at h
 cases e : a[i]? with
 | none => rw [e] at h; cases h
 | some c => rw [e] at h; exact ⟨c,rfl,(Option.some.inj h).symm⟩
theorem sh3_len (a : Sh) : (sh3 a).length = a.length := List.length_map ..
theorem all_sum (a : Sh) : (a.map fun q => (q.2.2 : Int)).sum = (total (cr a) : Int) := by
 rw [total_sum]
 unfold VM.cr
 rw [List.map_map]
 induction a with
 | nil => rfl
 | cons x r ih => rw [List.map_cons,List.sum_cons,ih,List.map_cons,List.sum_cons]; simp
theorem shD {a : Sh} {i : Nat} {y : Nat × Nat × Nat} (h : a[i]? = some y) : a.getD i (0,0,0) = y := by rw [List.getD_eq_getElem?_getD,h]; rfl
abbrev s_put_in_all : Stmt := top 38
theorem sc_put_in_all : FnScope ["short", "minute", "j", "count"] ["short"] (defScope s_put_in_all) := scM
section
variable {P : Program} {w : World} {G : Gd} {mg : Str -> Option Value} {base : Heap}
theorem ok_put_in_all {f : Addr} {fd : FuncData} (F : Fun G.K "put_in_all" "put_in_all" s_put_in_all f fd) (T : Txt mg G) : FnOk P w G.K mg base CX0 1 f fd ["short"] (sp_put_in_all G) := by
 refine F.ok sc_put_in_all (fun vs H Q E h => ?_) (fun cdv A outer s0 H vs Q E hr h => ?_)
 ·obtain ⟨l,a,rfl,hl,h221,k⟩ := h
  rfl
 ·have nd := sc_put_in_all.nd
  obtain ⟨l,a,rfl,hl,h221,k⟩ := h
  refine ⟨_,(pss_one (ps_ret (pe_callB (sumK (K := G.K) rfl rfl) rfl T.b_sum boot_sum (pa_cons (pe_lc (own := [("minute",1),("j",2),("count",3)]) rfl nd (pi_list (pv 0)) (blkOk_by (show blkC ["short", "minute", "j", "count"] (defScope s_put_in_all) _ _ = true by decide +kernel)) (fun _ _ _ _ _ => (tupK (K := G.K) (n := 3) rfl rfl (pgs_cons (pg_name (i := 1) nd rfl (.inl rfl)) (pgs_cons (pg_name (i := 2) nd rfl (.inl rfl)) (pgs_cons (pg_name (i := 3) nd rfl (.inl rfl)) pgs_nil))))) (fun _ _ _ _ _ => pts_nil) (fun _ _ _ _ _ => (pv 3))) pa_nil)))),?_⟩
  obtain ⟨xs,hx,hxl,hxa⟩ := hl.at
  refine ⟨_,rfl,l,rfl,⟨_,SqL.of hx⟩,?_⟩
  intro D hD
  refine lcI_list (L := G.L) (xs := xs) (fun _ => true) (fun i => .int ((a.getD i (0,0,0)).2.2 : Int)) (by rw [hxl,sh3_len,sizeLine_eq]; omega) (SqL.of hx) hD (fun i x H1 hi e Kt N hy hn => ?_) fun H1 e hq => ?_
  ·obtain ⟨b,p,rfl,hp,hb⟩ := hxa i x hi
   obtain ⟨y,hy1,rfl⟩ := sh3_at hp
   refine ⟨b,_,rfl,SqT.of (e.tup hb),rfl,_,_,rfl,_,_,rfl,_,_,rfl,rfl,rfl,iteT (B := N H1) ?_⟩
   refine ⟨_,rfl,?_⟩
   have z := hy rfl H1 Ext.refl
   rw [shD hy1] at z
   exact z
  ·have e2 : ((List.range xs.length).filter fun _ => true).map (fun i => V.int ((a.getD i (0,0,0)).2.2 : Int)) = vI (a.map fun q => (q.2.2 : Int)) := by
    rw [fil_true,hxl,sh3_len,range_getD a (0,0,0) fun q => V.int (q.2.2 : Int)]
    unfold vI
    rw [List.map_map]; rfl
   rw [e2] at hq
   refine ⟨D,_,rfl,SqL.of hq,?_⟩
   rw [all_sum]
   exact k H1 e
end
theorem onAll_nil (s : State) : onAll s [] = (numbers s).map fun _ => (0 : Int) := rfl
theorem onAll_set {s : State} {x : Vbedai.Crews} {j n : Nat} (h : j < s.shifts.length) : (onAll s x).set j ((onJ x j : Int) + (n : Int)) = onAll s (x ++ [(j,n)]) := by
 apply List.ext_getElem?
 intro i
 rw [List.getElem?_set,onAll_len]
 by_cases c : j = i
 ·subst c
  rw [if_pos rfl,if_pos h,onAll_get h,onJ_append,onJ_one,if_pos rfl]
  rfl
 ·rw [if_neg c]
  by_cases d : i < s.shifts.length
  ·rw [onAll_get d,onAll_get d,onJ_append,onJ_one,if_neg c]
   rfl
  ·rw [List.getElem?_eq_none (by rw [onAll_len]; omega),List.getElem?_eq_none (by rw [onAll_len]; omega)]
theorem zeros {n : Nat} {xs : List V} {s : State} (h : xs.length = s.shifts.length) : ((List.range xs.length).filter fun _ => true).map (fun _ => V.int 0) = vI (onAll s []) := by
 rw [fil_true,h,onAll_nil]
 unfold vI numbers
 rw [List.map_map]; rfl
theorem set_map (ns : List Int) (j : Nat) (z : Int) : (vI ns).set j (.int z) = vI (ns.set j z) := by
 unfold vI; rw [List.map_set]
theorem ixN_nat {n j : Nat} (h : j < n) : ixN n (j : Int) = some j := by
 unfold ixN
 rw [if_pos (by omega),if_pos (by omega)]
 simp
theorem sum_having (s : State) (x : Vbedai.Crews) (hx : InN s.shifts.length x) (t : Nat) : ((having s t).map fun j => (onAll s x).getD j 0).sum = (there s x t : Int) := by
 rw [show (having s t).map (fun j => (onAll s x).getD j 0) = (having s t).map (fun j => Vbedai.nat (onJ x j)) from ?_]
 ·exact there_sum hx t
 ·apply List.map_congr_left
  intro j hj
  exact onAll_getD (having_lt hj)
def shAt (s : State) (wanted : Nat -> Nat) (pick : List Nat -> Option Nat) (ms : List Nat) (i : Nat) : Sh := shorts s wanted pick (ms.take i)
theorem shAt_more {s : State} {wanted : Nat -> Nat} {pick : List Nat -> Option Nat} {ms : List Nat} {i t : Nat} (h : ms[i]? = some t) : shAt s wanted pick ms (i + 1) = shStep s wanted pick (shAt s wanted pick ms i) t := by
 unfold shAt VM.shorts
 rw [take_snoc h,List.foldl_append]; rfl
theorem shAt_len (s : State) (wanted : Nat -> Nat) (pick : List Nat -> Option Nat) (ms : List Nat) (i : Nat) : (shAt s wanted pick ms i).length <= i := by
 have := shorts_len s wanted pick (ms.take i) []
 unfold shAt VM.shorts
 rw [List.length_take] at this
 simp at this
 omega
theorem having_len {s : State} (wf : Wf s) (t : Nat) : (having s t).length <= 60 := by
 unfold VM.having numbers
 refine Nat.le_trans (List.length_filter_le _ _) ?_
 have := wf.sl
 simp
 omega
abbrev s_short_points : Stmt := top 37
theorem sc_short_points : FnScope ["way", "needs", "crews", "shift", "short", "k", "missing", "j"] ["way", "needs"] (defScope s_short_points) := scM
section
variable {P : Program} {w : World} {G : Gd} {mg : Str -> Option Value} {base : Heap}
theorem ok_short_points {f : Addr} {fd : FuncData} (F : Fun G.K "short_points" "short_points" s_short_points f fd) (T : Txt mg G) : FnOk P w G.K mg base CX0 1 f fd ["way", "needs"] (sp_short_points G) := by
 refine F.ok sc_short_points (fun vs H Q E h => ?_) (fun cdv A outer s0 H vs Q E hr h => ?_)
 ·obtain ⟨wy,r,s,pick,ms,wanted,rfl,hW,hr1,hgap,k⟩ := h
  rfl
 ·have nd := sc_short_points.nd
  obtain ⟨wy,r,s,pick,ms,wanted,rfl,hW,hr1,hgap,k⟩ := h
  refine ⟨_,(pss_cons (ps_set (i := 2) nd rfl (.inr rfl) (pe_lc (own := [("shift",3)]) rfl nd (pi_list (fldK (K := G.K) rfl (pv 0) rfl)) (blkOk_by (show blkC ["way", "needs", "crews", "shift", "short", "k", "missing", "j"] (defScope s_short_points) _ _ = true by decide +kernel)) (fun _ _ _ _ _ => (pg_name (i := 3) nd rfl (.inl rfl))) (fun _ _ _ _ _ => pts_nil) (fun _ _ _ _ _ => pe_int)))
   (pss_cons (ps_set (i := 4) nd rfl (.inl rfl) (pe_lst pa_nil))
   (pss_cons (ps_for PassesOwn.never rfl (pi_range1 rfl T.b_range (pa_cons (pe_callB (lenK (K := G.K) rfl) rfl T.b_len PySem.boot_len (pa_cons (pv 1) pa_nil)) pa_nil)) (pg_name (i := 5) nd rfl (.inl rfl))
   (pss_cons (ps_set (i := 6) nd rfl (.inl rfl) (pe_op op_sub (pe_ix (ixL (K := G.K) rfl) (pv 1) (pv 5) (fun _ _ => rfl)) (pe_callB (sumK (K := G.K) rfl rfl) rfl T.b_sum boot_sum (pa_cons (pe_lc (own := [("j",7)]) rfl nd (pi_list (pe_ix (ixL (K := G.K) rfl) (fldK (K := G.K) rfl (pv 0) rfl) (pv 5) (fun _ _ => rfl))) (blkOk_by (show blkC ["way", "needs", "crews", "shift", "short", "k", "missing", "j"] (defScope s_short_points) _ _ = true by decide +kernel)) (fun _ _ _ _ _ => (pg_name (i := 7) nd rfl (.inl rfl))) (fun _ _ _ _ _ => pts_nil) (fun _ _ _ _ _ => (pe_ix (ixL (K := G.K) rfl) (pv 2) (pv 7) (fun _ _ => rfl)))) pa_nil))))
   (pss_one (ps_if (pt_cmpR op_gt (pv 6) pe_int (nomark _))
   (pss_cons (ps_augS (pv 2) (pe_ix (ixL (K := G.K) rfl) (fldK (K := G.K) rfl (pv 0) rfl) (pv 5) (fun _ _ => rfl)) (getK (K := G.K) rfl) (pv 6) ip_add set_list)
   (pss_one (ps_expr (pe_bm PySem.F.plainAttrs_list PySem.F.slot_list_append PySem.F.type_list_append mt_append (pv 4) (pa_cons (pe_tup (pa_cons (pe_ix (ixL (K := G.K) rfl) (fldK (K := G.K) rfl (pv 0) rfl) (pv 5) (fun _ _ => rfl)) (pa_cons (pe_ix (ixL (K := G.K) rfl) (fldK (K := G.K) rfl (pv 0) rfl) (pv 5) (fun _ _ => rfl)) (pa_cons (pv 6) pa_nil)))) pa_nil)))))
   pss_nil))))
   (pss_one (ps_ret (pv 4)))))),?_⟩
  obtain ⟨dx,sa',ma,ha,ka,h1,h2,h3,h4,as,h5,h6,h7⟩ := hW.ex
  have h221 := hW.len
  have wf := hW.wf
  have h60 := wf.sl
  obtain ⟨xs,hx,hxl,hxa⟩ := h2.at
  have hn : xs.length = s.shifts.length := by rw [hxl,shP_len]
  refine ⟨_,rfl,wy,G.CW,dx,_,_,rfl,h1,T.clW,T.nW_shifts,wf4_shifts _ _ _ _,sa',rfl,⟨_,SqL.of hx⟩,?_⟩
  intro c hc
  refine lcI_list (L := G.L) (xs := xs) (fun _ => true) (fun _ => .int 0) (by rw [hn,sizeLine_eq]; omega) (SqL.of hx) hc (fun i x H1 hi e Kt N hy hn' => ?_) fun H1 e hq => ?_
  ·exact ⟨rfl,iteT (B := N H1) (hy rfl H1 Ext.refl)⟩
  ·rw [zeros (n := 0) hn] at hq
   refine ⟨Nat.zero_le _,fun d hd => ?_⟩
   have e1 : Ext G.L H1 (upd H1 d (.lst [])) := Ext.new hd
   have dc : d ≠ c := fun z => by rw [z,hq] at hd; cases hd
   have dH : H d = none := e.free d hd
   have hr2 := (e.trans e1).lst hr1
   refine ⟨_,rfl,r,_,rfl,.inl (SqL.of hr2),_,rfl,by rw [vI_len,List.length_map]; omega,by rw [vI_len,List.length_map]; omega,?_⟩
   rw [vI_len,List.length_map,Int.toNat_natCast]
   refine for_range (n := ms.length) (fun i σ H' => Ext G.L H H' /\ H' c = some (.lst (vI (onAll s (cr (shAt s wanted pick ms i))))) /\ (∃ bs,H' d = some (.lst (bs.map V.ref)) /\ TupsAt H' bs (sh3 (shAt s wanted pick ms i))) /\ InN s.shifts.length (cr (shAt s wanted pick ms i)) ∧
    ∃ v5 v6,σ = [some (.ref wy),some (.ref r),some (.ref c),none,some (.ref d),v5,v6,none])
    ⟨e.trans e1,e1.lst hq,⟨[],upd_same,rfl,fun i a p h => by simp at h⟩,(by intro p h; cases h),none,none,rfl⟩ ?_ ?_
   ·rintro i σ H' hi ⟨e2,hc2,⟨bs,hd2,hb2⟩,hin,v5,v6,rfl⟩
    obtain ⟨t,ht⟩ := at_nat hi
    have a1 : atI (vI (ms.map fun t => (wanted t : Int))) (0 + (i : Int)) = some (.int (wanted t : Int)) := at_of (j := i) (by omega) (by rw [List.getElem?_map,List.getElem?_map,ht]; rfl)
    have a2 : atI (ms.map fun t => optV (pick (having s t))) (0 + (i : Int)) = some (optV (pick (having s t))) := at_of (j := i) (by omega) (by rw [List.getElem?_map,ht]; rfl)
    have a3 : atI (vN ms) (0 + (i : Int)) = some (.int (t : Int)) := at_of (j := i) (by omega) (by rw [List.getElem?_map,ht]; rfl)
    obtain ⟨b,hb⟩ : ∃ b,as[i]? = some b := ⟨_,List.getElem?_eq_getElem (by omega)⟩
    have a4 : atI (as.map V.ref) (0 + (i : Int)) = some (.ref b) := at_of (j := i) (by omega) (by rw [List.getElem?_map,hb]; rfl)
    have hv := h7 i b t hb ht
    have h60' := having_len wf t
    refine ⟨_,rfl,_,rfl,r,_,_,_,rfl,rfl,SqL.of (e2.lst hr1),a1,?_⟩
    refine ⟨_,rfl,wy,G.CW,dx,_,_,rfl,e2.ins h1,T.clW,T.nW_having,wf4_having _ _ _ _,_,rfl,ha,_,_,_,rfl,rfl,SqL.of (e2.lst h5),a4,b,rfl,⟨_,SqL.of (e2.lst hv)⟩,?_⟩
    intro D hD
    refine lcI_list (L := G.L) (xs := vN (having s t)) (fun _ => true) (fun m => .int ((onAll s (cr (shAt s wanted pick ms i))).getD ((having s t).getD m 0) 0)) (by rw [vN_len,sizeLine_eq]; omega) (SqL.of (e2.lst hv)) hD (fun m x H3 hm e3 Kt N hy hn' => ?_) fun H3 e3 hq3 => ?_
    ·obtain ⟨rfl,hm1,hm2⟩ := vN_at hm
     have jn := having_lt (List.mem_of_getElem? hm1)
     refine ⟨rfl,iteT (B := N H3) ?_⟩
     refine ⟨_,rfl,_,rfl,c,_,_,_,rfl,rfl,SqL.of (e3.lst hc2),at_of (j := (having s t).getD m 0) rfl (getI (by rw [onAll_len]; exact jn)),?_⟩
     exact hy rfl H3 Ext.refl
    ·have e4 : ((List.range (vN (having s t)).length).filter fun _ => true).map (fun m => V.int ((onAll s (cr (shAt s wanted pick ms i))).getD ((having s t).getD m 0) 0)) = vI ((having s t).map fun j => (onAll s (cr (shAt s wanted pick ms i))).getD j 0) := by
      rw [fil_true,vN_len,mapN (having s t) fun j => V.int ((onAll s (cr (shAt s wanted pick ms i))).getD j 0)]
      unfold vI
      rw [List.map_map]; rfl
     rw [e4] at hq3
     refine ⟨D,_,rfl,SqL.of hq3,?_⟩
     rw [sum_having s _ hin t]
     refine ⟨_,_,rfl,rfl,?_⟩
     have e5 := e2.trans e3
     refine ⟨_,rfl,_,_,rfl,rfl,_,rfl,ite2 (fun z => ?_) fun z => ?_⟩
     ·have z : there s (cr (shAt s wanted pick ms i)) t < wanted t := by simpa using z
      cases q : pick (having s t) with
      | none =>
       exfalso
       have := List.find?_eq_none.mp hgap t (List.mem_of_getElem? ht)
       unfold VM.gapAt at this
       rw [q] at this
       simp at this
       omega
      | some j =>
       have jn := having_lt (hW.pk.mem _ _ q)
       rw [q] at a2
       have st : shAt s wanted pick ms (i + 1) = shAt s wanted pick ms i ++ [(t,j,wanted t - there s (cr (shAt s wanted pick ms i)) t)] := by
        rw [shAt_more ht]
        unfold VM.shStep
        rw [if_neg (by omega),q]
       have en : (wanted t : Int) - (there s (cr (shAt s wanted pick ms i)) t : Int) = ((wanted t - there s (cr (shAt s wanted pick ms i)) t : Nat) : Int) := by omega
       dsimp only
       rw [en]
       refine ⟨_,rfl,_,rfl,wy,G.CW,dx,_,_,rfl,e5.ins h1,T.clW,T.nW_chosen,wf4_chosen _ _ _ _,_,rfl,ka,_,_,_,rfl,rfl,SqL.of (e5.lst h4),a2,?_⟩
       refine ⟨c,_,_,_,rfl,rfl,SqL.of (e3.lst hc2),at_of (j := j) rfl (getI (by rw [onAll_len]; exact jn)),_,rfl,_,_,rfl,rfl,?_⟩
       refine ⟨c,_,_,j,rfl,rfl,e3.lst hc2,by rw [vI_len,onAll_len]; exact ixN_nat jn,?_⟩
       rw [set_map,onAll_getD jn,onAll_set jn,← cr_snoc,← st]
       have e6 := e5.set (o := .lst (vI (onAll s (cr (shAt s wanted pick ms (i + 1)))))) hc (e3.lst hc2) rfl
       have hd3 : upd H3 c (.lst (vI (onAll s (cr (shAt s wanted pick ms (i + 1)))))) d = some (.lst (bs.map V.ref)) := by rw [upd_ne dc]; exact e3.lst hd2
       refine ⟨_,rfl,.inl ⟨rfl,_,SqL.of hd3⟩,?_⟩
       refine ⟨_,rfl,wy,G.CW,dx,_,_,rfl,e6.ins h1,T.clW,T.nW_minutes,wf4_minutes _ _ _ _,_,rfl,ma,_,_,_,rfl,rfl,SqL.of (e6.lst h3),a3,?_⟩
       refine ⟨_,rfl,wy,G.CW,dx,_,_,rfl,e6.ins h1,T.clW,T.nW_chosen,wf4_chosen _ _ _ _,_,rfl,ka,_,_,_,rfl,rfl,SqL.of (e6.lst h4),a2,?_⟩
       refine ⟨_,rfl,(by show 3 <= sizeLine; decide),fun y hy => ?_⟩
       have e7 : Ext G.L _ (upd (upd H3 c (.lst (vI (onAll s (cr (shAt s wanted pick ms (i + 1))))))) y (.tup [.int (t : Int),optV (some j),.int ((wanted t - there s (cr (shAt s wanted pick ms i)) t : Nat) : Int)])) := Ext.new (L := G.L) hy
       refine ⟨d,_,_,rfl,rfl,e7.lst hd3,?_,?_⟩
       ·have := shAt_len s wanted pick ms i
        have l3 := hb2.1
        rw [sh3_len] at l3
        rw [List.length_map,l3,sizeLine_eq]; omega
       ·have cd : c ≠ d := fun z => dc z.symm
        refine ⟨(e6.trans e7).set dH (e7.lst hd3) rfl,?_,⟨bs ++ [y],?_,?_⟩,?_,_,_,rfl⟩
        ·rw [upd_ne cd]; exact e7.lst upd_same
        ·rw [upd_same,List.map_append]; rfl
        ·have es : sh3 (shAt s wanted pick ms (i + 1)) = sh3 (shAt s wanted pick ms i) ++ [[(t : Int),(j : Int),((wanted t - there s (cr (shAt s wanted pick ms i)) t : Nat) : Int)]] := by
          rw [st]; unfold sh3; rw [List.map_append]; rfl
         rw [es]
         refine tups_upd (tups_snoc (H := upd H3 c (.lst (vI (onAll s (cr (shAt s wanted pick ms (i + 1))))))) (p := [(t : Int),(j : Int),((wanted t - there s (cr (shAt s wanted pick ms i)) t : Nat) : Int)]) ?_ e7 upd_same) (e7.lst hd3)
         exact tups_upd (tups_ext hb2 e3) (e3.lst hc2)
        ·rw [st,cr_snoc]
         intro p hp
         rcases List.mem_append.mp hp with y | y
         ·exact hin p y
         ·rw [List.mem_singleton] at y; rw [y]; exact jn
     ·have z : ¬ there s (cr (shAt s wanted pick ms i)) t < wanted t := by simpa using z
      have st : shAt s wanted pick ms (i + 1) = shAt s wanted pick ms i := by
       rw [shAt_more ht]
       unfold VM.shStep
       rw [if_pos (by omega)]
      rw [st]
      exact ⟨e5,e3.lst hc2,⟨bs,e3.lst hd2,tups_ext hb2 e3⟩,hin,_,_,rfl⟩
   ·rintro σ H' ⟨e2,hc2,⟨bs,hd2,hb2⟩,hin,v5,v6,rfl⟩
    unfold shAt at hb2
    rw [List.take_length] at hb2
    exact ⟨_,rfl,k d H' e2 dH ⟨bs,hd2,hb2⟩⟩
end
theorem gath_fil (s : State) (x : Vbedai.Crews) : cr2 (gathered s x) = (fil (fun j => decide (0 < onJ x j)) s.shifts.length).map fun (j : Nat) => [(j : Int),(onJ x j : Int)] := by
 unfold cr2 fil
 rw [gathered_eq,List.filter_map,List.map_map]
 unfold numbers
 congr 1
 apply List.filter_congr
 intro j _
 show (onJ x j != 0) = decide (0 < onJ x j)
 by_cases c : onJ x j = 0
 ·rw [c]; rfl
 ·have : 0 < onJ x j := by omega
  simp [c,this]
theorem refL_tups {L : List Tbl} {H1 H : Hp} {D : Addr} {is : List Nat} {f : Nat -> List Int} (h : RefL L H1 D (fun j => .tup (vI (f j))) is H) : LstT H D (is.map f) := by
 obtain ⟨as,h1,h2,h3⟩ := h.ex
 refine ⟨as,h1,by rw [List.length_map]; exact h2.len,fun i a p e1 e2 => ?_⟩
 rw [List.getElem?_map] at e2
 cases q : is[i]? with
 | none => rw [q] at e2; cases e2
 | some j =>
  rw [q] at e2
  have e3 : f j = p := Option.some.inj e2
  rw [<- e3]
  exact h2.at_ i j a q e1
theorem cr_take {a : Sh} {i : Nat} {y : Nat × Nat × Nat} (h : a[i]? = some y) : cr (a.take (i + 1)) = cr (a.take i) ++ [(y.2.1,y.2.2)] := by
 rw [take_snoc h]
 obtain ⟨t,j,n⟩ := y
 exact cr_snoc _ t j n
abbrev s_put_on_shifts : Stmt := top 39
theorem sc_put_on_shifts : FnScope ["way", "short", "crews", "shift", "minute", "j", "count"] ["way", "short"] (defScope s_put_on_shifts) := scM
section
variable {P : Program} {w : World} {G : Gd} {mg : Str -> Option Value} {base : Heap}
theorem ok_put_on_shifts {f : Addr} {fd : FuncData} (F : Fun G.K "put_on_shifts" "put_on_shifts" s_put_on_shifts f fd) (T : Txt mg G) : FnOk P w G.K mg base CX0 1 f fd ["way", "short"] (sp_put_on_shifts G) := by
 refine F.ok sc_put_on_shifts (fun vs H Q E h => ?_) (fun cdv A outer s0 H vs Q E hr h => ?_)
 ·obtain ⟨wy,l,s,pick,ms,a,rfl,hW,hl,h221,hin,k⟩ := h
  rfl
 ·have nd := sc_put_on_shifts.nd
  obtain ⟨wy,l,s,pick,ms,a,rfl,hW,hl,h221,hin,k⟩ := h
  refine ⟨_,(pss_cons (ps_set (i := 2) nd rfl (.inr rfl) (pe_lc (own := [("shift",3)]) rfl nd (pi_list (fldK (K := G.K) rfl (pv 0) rfl)) (blkOk_by (show blkC ["way", "short", "crews", "shift", "minute", "j", "count"] (defScope s_put_on_shifts) _ _ = true by decide +kernel)) (fun _ _ _ _ _ => (pg_name (i := 3) nd rfl (.inl rfl))) (fun _ _ _ _ _ => pts_nil) (fun _ _ _ _ _ => pe_int)))
   (pss_cons (ps_for PassesOwn.never rfl (pi_list (pv 1)) (tupK (K := G.K) (n := 3) rfl rfl (pgs_cons (pg_name (i := 4) nd rfl (.inl rfl)) (pgs_cons (pg_name (i := 5) nd rfl (.inl rfl)) (pgs_cons (pg_name (i := 6) nd rfl (.inl rfl)) pgs_nil))))
   (pss_one (ps_augS (pv 2) (pv 5) (getK (K := G.K) rfl) (pv 6) ip_add set_list)))
   (pss_one (ps_ret (pe_lc (own := [("j",5)]) rfl nd (pi_range1 rfl T.b_range (pa_cons (pe_callB (lenK (K := G.K) rfl) rfl T.b_len PySem.boot_len (pa_cons (pv 2) pa_nil)) pa_nil)) (blkOk_by (show blkC ["way", "short", "crews", "shift", "minute", "j", "count"] (defScope s_put_on_shifts) _ _ = true by decide +kernel)) (fun _ _ _ _ _ => (pg_name (i := 5) nd rfl (.inl rfl))) (fun _ _ _ _ _ => pts_one (pt_cmpR op_gt (pe_ix (ixL (K := G.K) rfl) (pv 2) (pv 5) (fun _ _ => rfl)) pe_int (nomark _))) (fun _ _ _ _ _ => (pe_tup (pa_cons (pv 5) (pa_cons (pe_ix (ixL (K := G.K) rfl) (pv 2) (pv 5) (fun _ _ => rfl)) pa_nil))))))))),?_⟩
  obtain ⟨dx,sa',ma,ha,ka,h1,h2,h3,h4,as,h5,h6,h7⟩ := hW.ex
  have wf := hW.wf
  have h60 := wf.sl
  obtain ⟨xs,hx,hxl,hxa⟩ := h2.at
  have hn : xs.length = s.shifts.length := by rw [hxl,shP_len]
  obtain ⟨ys,hy,hyl,hya⟩ := hl.at
  refine ⟨_,rfl,wy,G.CW,dx,_,_,rfl,h1,T.clW,T.nW_shifts,wf4_shifts _ _ _ _,sa',rfl,⟨_,SqL.of hx⟩,?_⟩
  intro c hc
  refine lcI_list (L := G.L) (xs := xs) (fun _ => true) (fun _ => .int 0) (by rw [hn,sizeLine_eq]; omega) (SqL.of hx) hc (fun i x H1 hi e Kt N hy hn' => ?_) fun H1 e hq => ?_
  ·exact ⟨rfl,iteT (B := N H1) (hy rfl H1 Ext.refl)⟩
  ·rw [zeros (n := 0) hn] at hq
   refine ⟨_,rfl,l,rfl,⟨_,SqL.of (e.lst hy)⟩,for_list (K := G.K) (a := l) (xs := ys) (fun i σ H' => Ext G.L H H' /\ H' c = some (.lst (vI (onAll s (cr (a.take i))))) /\ ∃ v4 v5 v6,σ = [some (.ref wy),some (.ref l),some (.ref c),none,v4,v5,v6])
    ⟨e,hq,none,none,none,rfl⟩ (fun i σ H' _ ⟨e2,_⟩ => SqL.of (e2.lst hy)) ?_ ?_⟩
   ·rintro i y σ H' hi ⟨e2,hc2,v4,v5,v6,rfl⟩
    obtain ⟨b,p,rfl,hp,hb⟩ := hya i y hi
    obtain ⟨y,hy1,rfl⟩ := sh3_at hp
    have jn : y.2.1 < s.shifts.length := hin (y.2.1,y.2.2) (by unfold VM.cr; exact List.mem_map.mpr ⟨y,List.mem_of_getElem? hy1,rfl⟩)
    refine ⟨b,_,rfl,SqT.of (e2.tup hb),rfl,_,_,rfl,_,_,rfl,_,_,rfl,rfl,?_⟩
    refine ⟨_,rfl,_,rfl,c,_,_,_,rfl,rfl,SqL.of hc2,at_of (j := y.2.1) rfl (getI (by rw [onAll_len]; exact jn)),_,rfl,_,_,rfl,rfl,?_⟩
    refine ⟨c,_,_,y.2.1,rfl,rfl,hc2,by rw [vI_len,onAll_len]; exact ixN_nat jn,?_⟩
    rw [set_map,onAll_getD jn,onAll_set jn,← cr_take hy1]
    exact ⟨e2.set hc hc2 rfl,upd_same,_,_,_,rfl⟩
   ·rintro σ H' ⟨e2,hc2,v4,v5,v6,rfl⟩
    rw [hyl,sh3_len,List.take_length] at hc2
    refine ⟨_,rfl,c,_,rfl,.inl (SqL.of hc2),_,rfl,by rw [vI_len,onAll_len]; omega,by rw [vI_len,onAll_len]; omega,?_⟩
    rw [vI_len,onAll_len,Int.toNat_natCast]
    intro D hD
    refine lcR_range (L := G.L) (fun j => decide (0 < onJ (cr a) j)) (fun j => .tup (vI [(j : Int),(onJ (cr a) j : Int)])) (fun _ => rfl) (by rw [sizeLine_eq]; omega) hD (fun i H3 hi e3 Kt N hy hn' => ?_) fun H3 hR => ?_
    ·refine ⟨rfl,?_⟩
     refine ⟨_,rfl,_,rfl,c,_,_,_,rfl,rfl,SqL.of (e3.lst hc2),at_of (j := i) (by omega) (getI (by rw [onAll_len]; exact hi)),_,_,rfl,rfl,_,rfl,?_⟩
     rw [onAll_getD hi]
     by_cases z : 0 < onJ (cr a) i
     ·rw [show decide ((0 : Int) < (onJ (cr a) i : Int)) = true by simp; omega]
      refine iteT ?_
      refine ⟨_,rfl,_,rfl,_,rfl,c,_,_,_,rfl,rfl,SqL.of (e3.lst hc2),at_of (j := i) (by omega) (getI (by rw [onAll_len]; exact hi)),(by show 2 <= sizeLine; decide),fun t ht => ?_⟩
      refine hy (by simp [z]) t _ (Ext.new ht) ht ?_
      rw [upd_same,onAll_getD hi,Int.zero_add]
      rfl
     ·rw [show decide ((0 : Int) < (onJ (cr a) i : Int)) = false by simp; omega]
      refine iteF ?_
      exact hn' (by simp [z]) H3 Ext.refl
    ·refine k D H3 (e2.trans hR.ext) (e2.free D hD) ?_
     rw [gath_fil]
     exact refL_tups hR
end
def minsI (s : State) : List Int := (0 : Int) :: (s.changes.map fun c => (c.time : Int)) ++ s.shifts.flatMap fun x => [(x.a : Int),(x.b : Int)]
theorem minsI_mem (s : State) (z : Int) : z ∈ (minsI s).filter (fun m => decide (m < (s.horizon : Int))) ↔ ∃ n : Nat,z = n /\ n ∈ points s := by
 rw [List.mem_filter,decide_eq_true_eq]
 unfold minsI
 simp only [List.cons_append,List.mem_cons,List.mem_append,List.mem_map,List.mem_flatMap,List.not_mem_nil,or_false]
 constructor
 ·rintro ⟨h,lt⟩
  rcases h with h | ⟨c,hc,h⟩ | ⟨x,hx,h⟩
  ·exact ⟨0,h,(points_mem s 0).mpr ⟨by omega,.inl rfl⟩⟩
  ·exact ⟨c.time,h.symm,(points_mem s _).mpr ⟨by omega,.inr (.inl ⟨c,hc,rfl⟩)⟩⟩
  ·rcases h with h | h
   ·exact ⟨x.a,h,(points_mem s _).mpr ⟨by omega,.inr (.inr ⟨x,hx,.inl rfl⟩)⟩⟩
   ·exact ⟨x.b,h,(points_mem s _).mpr ⟨by omega,.inr (.inr ⟨x,hx,.inr rfl⟩)⟩⟩
 ·rintro ⟨n,rfl,hn⟩
  obtain ⟨lt,h⟩ := (points_mem s n).mp hn
  refine ⟨?_,by omega⟩
  rcases h with h | ⟨c,hc,h⟩ | ⟨x,hx,h⟩
  ·exact .inl (by omega)
  ·exact .inr (.inl ⟨c,hc,by omega⟩)
  ·exact .inr (.inr ⟨x,hx,by omega⟩)
theorem points_of {s : State} {ns ks : List Int} (h1 : ns.Perm ks) (h2 : ns.Pairwise (· <= ·)) (nd : ks.Nodup) (mem : ∀ x,x ∈ ks ↔ x ∈ (minsI s).filter (fun m => decide (m < (s.horizon : Int)))) : ns = (points s).map fun (t : Nat) => (t : Int) := by
 have hm : ∀ x,x ∈ ns ↔ ∃ n : Nat,x = n /\ n ∈ points s := fun x => by rw [h1.mem_iff,mem,minsI_mem]
 have nd' : ns.Nodup := h1.nodup_iff.mpr nd
 have lt : ns.Pairwise (· < ·) := (h2.and nd').imp fun z => by omega
 have e1 : (ns.map Int.toNat).map (fun (t : Nat) => (t : Int)) = ns := by
  rw [List.map_map]
  conv => rhs; rw [<- List.map_id ns]
  apply List.map_congr_left
  intro x hx
  obtain ⟨n,rfl,_⟩ := (hm x).mp hx
  simp
 rw [<- e1]
 congr 1
 refine inc_unique ?_ (points_inc s) fun t => ?_
 ·refine List.pairwise_map.mpr (lt.imp_of_mem fun {a b} ha hb z => ?_)
  obtain ⟨n,rfl,_⟩ := (hm a).mp ha
  obtain ⟨m,rfl,_⟩ := (hm b).mp hb
  simpa using z
 ·rw [List.mem_map]
  constructor
  ·rintro ⟨x,hx,rfl⟩
   obtain ⟨n,rfl,hn⟩ := (hm x).mp hx
   simpa using hn
  ·intro ht
   exact ⟨(t : Int),(hm _).mpr ⟨t,rfl,ht⟩,by simp⟩
theorem chT_take {s : State} {i : Nat} {c : Vbedai.Change} (h : s.changes[i]? = some c) : (s.changes.take (i + 1)).map (fun c => (c.time : Int)) = (s.changes.take i).map (fun c => (c.time : Int)) ++ [(c.time : Int)] := by
 rw [take_snoc h,List.map_append]; rfl
theorem shF_take {s : State} {i : Nat} {x : Vbedai.Shift} (h : s.shifts[i]? = some x) : (s.shifts.take (i + 1)).flatMap (fun x => [(x.a : Int),(x.b : Int)]) = (s.shifts.take i).flatMap (fun x => [(x.a : Int),(x.b : Int)]) ++ [(x.a : Int),(x.b : Int)] := by
 rw [take_snoc h,List.flatMap_append]; rfl
theorem shP_el {s : State} {i : Nat} {q : List Int} (h : (shP s)[i]? = some q) : ∃ x,s.shifts[i]? = some x /\ q = [(x.a : Int),(x.b : Int)] := by
 unfold shP at h
 rw [List.getElem?_map] at h
 cases e : s.shifts[i]? with
 | none => rw [e] at h; cases h
 | some c => rw [e] at h; exact ⟨c,rfl,(Option.some.inj h).symm⟩
theorem flat2_len {α : Type} (l : List α) (f g : α -> Int) : (l.flatMap fun x => [f x,g x]).length = 2 * l.length := flat2 l f g
theorem fil_list (M : List Int) (p : Int -> Bool) : ((List.range M.length).filter fun i => p (M.getD i 0)).map (fun i => V.int (M.getD i 0)) = vI (M.filter p) := by
 have e : M.filter p = ((List.range M.length).filter fun i => p (M.getD i 0)).map fun i => M.getD i 0 := by
  have z := range_getD M 0 id
  conv => lhs; rw [<- List.map_id M,← z]
  rw [List.filter_map]
  rfl
 rw [e]
 unfold vI
 rw [List.map_map]; rfl
abbrev s_points : Stmt := top 17
theorem sc_points : FnScope ["plan", "minutes", "when", "level", "a", "b", "minute"] ["plan"] (defScope s_points) := scM
section
variable {P : Program} {w : World} {G : Gd} {mg : Str -> Option Value} {base : Heap}
theorem ok_points {f : Addr} {fd : FuncData} (F : Fun G.K "points" "points" s_points f fd) (T : Txt mg G) : FnOk P w G.K mg base CX0 1 f fd ["plan"] (sp_points G) := by
 refine F.ok sc_points (fun vs H Q E h => ?_) (fun cdv A outer s0 H vs Q E hr h => ?_)
 ·obtain ⟨p,sa,s,rfl,hP,k⟩ := h
  rfl
 ·have nd := sc_points.nd
  have hu := hu_of hr
  obtain ⟨p,sa,s,rfl,hP,k⟩ := h
  refine ⟨_,(pss_cons (ps_set (i := 1) nd rfl (.inl rfl) (pe_lst (pa_cons pe_int pa_nil)))
   (pss_cons (ps_for PassesOwn.never rfl (pi_list (fldK (K := G.K) rfl (pv 0) rfl)) (tupK (K := G.K) (n := 2) rfl rfl (pgs_cons (pg_name (i := 2) nd rfl (.inl rfl)) (pgs_cons (pg_name (i := 3) nd rfl (.inl rfl)) pgs_nil)))
   (pss_one (ps_expr (pe_bm PySem.F.plainAttrs_list PySem.F.slot_list_append PySem.F.type_list_append mt_append (pv 1) (pa_cons (pv 2) pa_nil)))))
   (pss_cons (ps_for PassesOwn.never rfl (pi_list (fldK (K := G.K) rfl (pv 0) rfl)) (tupK (K := G.K) (n := 2) rfl rfl (pgs_cons (pg_name (i := 4) nd rfl (.inl rfl)) (pgs_cons (pg_name (i := 5) nd rfl (.inl rfl)) pgs_nil)))
   (pss_cons (ps_expr (pe_bm PySem.F.plainAttrs_list PySem.F.slot_list_append PySem.F.type_list_append mt_append (pv 1) (pa_cons (pv 4) pa_nil)))
   (pss_one (ps_expr (pe_bm PySem.F.plainAttrs_list PySem.F.slot_list_append PySem.F.type_list_append mt_append (pv 1) (pa_cons (pv 5) pa_nil))))))
   (pss_one (ps_ret (pe_callB (cr_sortedSet rfl) rfl T.b_sorted boot_sorted (pa_cons (pe_callTy (cr_set (K := G.K) rfl rfl) rfl T.b_set boot_set (pa_cons (pe_lc (own := [("minute",6)]) rfl nd (pi_list (pv 1)) (blkOk_by (show blkC ["plan", "minutes", "when", "level", "a", "b", "minute"] (defScope s_points) _ _ = true by decide +kernel)) (fun _ _ _ _ _ => (pg_name (i := 6) nd rfl (.inl rfl))) (fun _ _ _ _ _ => pts_one (pt_cmpR op_lt (pv 6) (fldK (K := G.K) rfl (pv 0) rfl) (nomark _))) (fun _ _ _ _ _ => (pv 6))) pa_nil)) pa_nil))))))),?_⟩
  obtain ⟨dx,ca,hp,hca,nca⟩ := hP.ex
  obtain ⟨xs,hx,hxl,hxa⟩ := hca.at
  obtain ⟨ys,hy,hyl,hya⟩ := hP.sh.at
  have hcl := hP.wf.cl
  have hsl := hP.wf.sl
  refine ⟨(by show 1 <= sizeLine; decide),fun d hd => ?_⟩
  have e0 : Ext G.L H (upd H d (.lst [.int 0])) := Ext.new hd
  refine ⟨_,rfl,p,G.CP,dx,_,_,rfl,e0.ins hp,T.clP,T.nP_changes,pf_changes _ _ _,ca,rfl,⟨_,SqL.of (e0.lst hx)⟩,for_list (K := G.K) (a := ca) (xs := xs) (fun i σ H' => Ext G.L H H' /\ H' d = some (.lst (vI ((0 : Int) :: (s.changes.take i).map fun c => (c.time : Int)))) /\ ∃ v2 v3,σ = [some (.ref p),some (.ref d),v2,v3,none,none,none])
   ⟨e0,upd_same,none,none,rfl⟩ (fun i σ H' _ ⟨e,_⟩ => SqL.of (e.lst hx)) ?_ ?_⟩
  ·rintro i y σ H' hi ⟨e,h1,v2,v3,rfl⟩
   obtain ⟨a,q,rfl,hq,ha⟩ := hxa i y hi
   obtain ⟨c,hc1,rfl⟩ := chP_at hq
   refine ⟨a,_,rfl,SqT.of (e.tup ha),rfl,_,_,rfl,_,_,rfl,rfl,?_⟩
   refine ⟨_,rfl,.inl ⟨rfl,_,SqL.of h1⟩,_,rfl,d,_,_,rfl,rfl,h1,?_,?_⟩
   ·rw [vI_len,List.length_cons,List.length_map,List.length_take,sizeLine_eq]; omega
   ·refine ⟨e.set hd h1 rfl,?_,_,_,rfl⟩
    rw [upd_same,chT_take hc1]
    unfold vI
    rw [List.map_cons,List.map_cons,List.map_append]; rfl
  ·rintro σ H' ⟨e,h1,v2,v3,rfl⟩
   rw [hxl,chP_len,List.take_length] at h1
   refine ⟨_,rfl,p,G.CP,dx,_,_,rfl,e.ins hp,T.clP,T.nP_shifts,pf_shifts _ _ _,sa,rfl,⟨_,SqL.of (e.lst hy)⟩,for_list (K := G.K) (a := sa) (xs := ys) (fun i σ H' => Ext G.L H H' /\ H' d = some (.lst (vI ((0 : Int) :: (s.changes.map fun c => (c.time : Int)) ++ (s.shifts.take i).flatMap fun x => [(x.a : Int),(x.b : Int)]))) /\ ∃ v4 v5,σ = [some (.ref p),some (.ref d),v2,v3,v4,v5,none])
    ⟨e,by rw [h1,List.take_zero,List.flatMap_nil,List.append_nil],none,none,rfl⟩ (fun i σ H' _ ⟨e,_⟩ => SqL.of (e.lst hy)) ?_ ?_⟩
   ·rintro i y σ H' hi ⟨e,h1,v4,v5,rfl⟩
    obtain ⟨a,q,rfl,hq,ha⟩ := hya i y hi
    obtain ⟨x,hx1,rfl⟩ := shP_el hq
    have ll : (vI ((0 : Int) :: (s.changes.map fun c => (c.time : Int)) ++ (s.shifts.take i).flatMap fun x => [(x.a : Int),(x.b : Int)])).length <= 300 := by
     rw [vI_len,List.length_append,List.length_cons,List.length_map,flat2_len,List.length_take]; omega
    refine ⟨a,_,rfl,SqT.of (e.tup ha),rfl,_,_,rfl,_,_,rfl,rfl,?_⟩
    refine ⟨_,rfl,.inl ⟨rfl,_,SqL.of h1⟩,_,rfl,d,_,_,rfl,rfl,h1,by rw [sizeLine_eq]; omega,?_⟩
    refine ⟨_,rfl,.inl ⟨rfl,_,SqL.of upd_same⟩,_,rfl,d,_,_,rfl,rfl,upd_same,by rw [List.length_append,List.length_singleton,sizeLine_eq]; omega,?_⟩
    refine ⟨(e.set hd h1 rfl).set hd upd_same rfl,?_,_,_,rfl⟩
    rw [upd_same,shF_take hx1]
    unfold vI
    simp [List.map_append]
   ·rintro σ H' ⟨e,h1,v4,v5,rfl⟩
    rw [hyl,shP_len,List.take_length] at h1
    have h1 : H' d = some (.lst (vI (minsI s))) := h1
    have ll : (minsI s).length <= 300 := by
     unfold minsI
     rw [List.length_append,List.length_cons,List.length_map,flat2_len]; omega
    refine ⟨_,rfl,d,rfl,⟨_,SqL.of h1⟩,?_⟩
    intro D hD
    refine lcI_list (L := G.L) (xs := vI (minsI s)) (fun i => decide ((minsI s).getD i 0 < (s.horizon : Int))) (fun i => .int ((minsI s).getD i 0)) (by rw [vI_len,sizeLine_eq]; omega) (SqL.of h1) hD (fun i x H3 hi e3 Kt N hy' hn' => ?_) fun H3 e3 hq => ?_
    ·obtain ⟨rfl,_,_⟩ := vI_at hi
     refine ⟨rfl,?_⟩
     refine ⟨_,rfl,_,rfl,p,G.CP,dx,_,_,rfl,(e.trans e3).ins hp,T.clP,T.nP_horizon,pf_horizon _ _ _,_,_,rfl,rfl,_,rfl,?_⟩
     cases z : decide ((minsI s).getD i 0 < (s.horizon : Int)) with
     | true => exact iteT ⟨_,rfl,hy' z H3 Ext.refl⟩
     | false => exact iteF (hn' z H3 Ext.refl)
    ·rw [vI_len,fil_list (minsI s) fun m => decide (m < (s.horizon : Int))] at hq
     refine ⟨D,_,rfl,SqL.of hq,Nat.le_trans (List.length_filter_le _ _) (by omega),fun ks u mem nd hu => ?_⟩
     refine ⟨u,ks,rfl,upd_same,fun ns q hp1 hp2 hq2 => ?_⟩
     have e4 : Ext G.L H3 (upd H3 u (setO P w u ks)) := Ext.new hu
     refine k q _ ?_ ?_ ?_
     ·exact ((e.trans e3).trans e4).new2 hq2
     ·exact ((e.trans e3).trans e4).free q hq2
     ·rw [upd_same,points_of hp1 hp2 nd mem]
end
theorem tj_rev_at {a : Sh} {i : Nat} {y : Nat × Nat × Nat} (hi : i < a.length) (h : a[a.length - 1 - i]? = some y) : (tj a).reverse[i]? = some (y.1,y.2.1) := by
 have hl : (tj a).length = a.length := List.length_map ..
 rw [List.getElem?_reverse (by rw [hl]; exact hi),hl]
 unfold VM.tj
 rw [List.getElem?_map,h]; rfl
def witAt (s : State) (a : Sh) (i : Nat) : List Nat := ((tj a).reverse.take i).foldl (take1 s) []
theorem witAt_more {s : State} {a : Sh} {i : Nat} {q : Nat × Nat} (h : (tj a).reverse[i]? = some q) : witAt s a (i + 1) = take1 s (witAt s a i) q := by
 unfold witAt
 rw [take_snoc h,List.foldl_append]; rfl
theorem witAt_len (s : State) (a : Sh) (i : Nat) : (witAt s a i).length <= i := by
 unfold witAt
 have h : ∀ (ps : List (Nat × Nat)) (l : List Nat),(ps.foldl (take1 s) l).length <= l.length + ps.length := by
  intro ps
  induction ps with
  | nil => intro l; simp
  | cons p r ih =>
   intro l
   rw [List.foldl_cons]
   have z := ih (take1 s l p)
   have y : (take1 s l p).length <= l.length + 1 := by
    unfold VM.take1
    split
    ·omega
    ·simp
   rw [List.length_cons]; omega
 have := h ((tj a).reverse.take i) []
 rw [List.length_take] at this
 simp at this
 omega
theorem perm_nat {ns : List Int} {l : List Nat} (hp : ns.Perm (l.map fun (n : Nat) => (n : Int))) (hs : ns.Pairwise (· <= ·)) : ∃ m : List Nat,ns = m.map (fun (n : Nat) => (n : Int)) /\ m.Perm l /\ m.Pairwise (· <= ·) := by
 have hm : ∀ x ∈ ns,((x.toNat : Nat) : Int) = x := by
  intro x hx
  obtain ⟨n,_,rfl⟩ := List.mem_map.mp (hp.mem_iff.mp hx)
  simp
 have e : (ns.map Int.toNat).map (fun (n : Nat) => (n : Int)) = ns := by
  rw [List.map_map]
  conv => rhs; rw [<- List.map_id ns]
  exact List.map_congr_left fun x hx => hm x hx
 refine ⟨ns.map Int.toNat,e.symm,?_,?_⟩
 ·have := hp.map Int.toNat
  rw [List.map_map] at this
  have z : l.map (Int.toNat ∘ fun (n : Nat) => (n : Int)) = l := by
   conv => rhs; rw [<- List.map_id l]
   exact List.map_congr_left fun x _ => by simp
  rw [z] at this
  exact this
 ·refine List.pairwise_map.mpr (hs.imp_of_mem fun {a b} ha hb z => ?_)
  have := hm a ha
  have := hm b hb
  omega
abbrev s_witness : Stmt := top 40
theorem sc_witness : FnScope ["way", "short", "taken", "minute", "j", "count", "other"] ["way", "short"] (defScope s_witness) := scM
section
variable {P : Program} {w : World} {G : Gd} {mg : Str -> Option Value} {base : Heap}
theorem ok_witness {f : Addr} {fd : FuncData} (F : Fun G.K "witness" "witness" s_witness f fd) (T : Txt mg G) (c_has : Def P w G.K mg base "has" 1 ["shift", "minute"] sp_has) : FnOk P w G.K mg base CX0 2 f fd ["way", "short"] (sp_witness G) := by
 refine F.ok sc_witness (fun vs H Q E h => ?_) (fun cdv A outer s0 H vs Q E hr h => ?_)
 ·obtain ⟨wy,l,s,pick,ms,a,rfl,hW,hl,h221,hin,hnd,k⟩ := h
  rfl
 ·have nd := sc_witness.nd
  obtain ⟨wy,l,s,pick,ms,a,rfl,hW,hl,h221,hin,hnd,k⟩ := h
  refine ⟨_,(pss_cons (ps_set (i := 2) nd rfl (.inl rfl) (pe_lst pa_nil))
   (pss_cons (ps_for PassesOwn.never rfl (pi_reversed rfl T.b_reversed (pa_cons (pv 1) pa_nil)) (tupK (K := G.K) (n := 3) rfl rfl (pgs_cons (pg_name (i := 3) nd rfl (.inl rfl)) (pgs_cons (pg_name (i := 4) nd rfl (.inr rfl)) (pgs_cons (pg_name (i := 5) nd rfl (.inl rfl)) pgs_nil))))
   (pss_one (ps_if (pt_not (pt_val (pe_callB (anyK (K := G.K) rfl rfl) rfl T.b_any boot_any (pa_cons (pe_lc (own := [("other",6)]) rfl nd (pi_list (pv 2)) (blkOk_by (show blkC ["way", "short", "taken", "minute", "j", "count", "other"] (defScope s_witness) _ _ = true by decide +kernel)) (fun _ _ _ _ _ => (pg_name (i := 6) nd rfl (.inl rfl))) (fun _ _ _ _ _ => pts_nil) (fun _ _ _ _ _ => (pe_cal c_has (hr.mono (by decide)) rfl (pa_cons (pe_ix (ixL (K := G.K) rfl) (fldK (K := G.K) rfl (pv 0) rfl) (pv 4) (fun _ _ => rfl)) (pa_cons (pv 6) pa_nil))))) pa_nil))))
   (pss_one (ps_expr (pe_bm PySem.F.plainAttrs_list PySem.F.slot_list_append PySem.F.type_list_append mt_append (pv 2) (pa_cons (pv 3) pa_nil))))
   pss_nil)))
   (pss_one (ps_ret (pe_callB (cr_sortedAny (K := G.K) rfl) rfl T.b_sorted boot_sorted (pa_cons (pv 2) pa_nil)))))),?_⟩
  obtain ⟨dx,sa',ma,ha,ka,h1,h2,h3,h4,as,h5,h6,h7⟩ := hW.ex
  have wf := hW.wf
  have h60 := wf.sl
  obtain ⟨xs,hx,hxl,hxa⟩ := h2.at
  obtain ⟨ys,hy,hyl,hya⟩ := hl.at
  have hyn : ys.length = a.length := by rw [hyl,sh3_len]
  refine ⟨Nat.zero_le _,fun d hd => ?_⟩
  have e0 : Ext G.L H (upd H d (.lst [])) := Ext.new hd
  refine ⟨_,rfl,l,_,rfl,SqL.of (e0.lst hy),?_⟩
  refine for_rev (K := G.K) (a := l) (xs := ys) (fun i σ H' => Ext G.L H H' /\ H' d = some (.lst (vN (witAt s a i))) /\ ∃ v3 v4 v5,σ = [some (.ref wy),some (.ref l),some (.ref d),v3,v4,v5,none])
   ⟨e0,upd_same,none,none,none,rfl⟩ (fun i σ H' _ ⟨e,_⟩ => SqL.of (e.lst hy)) ?_ ?_
  ·rintro i y σ H' hi0 hi ⟨e,hd1,v3,v4,v5,rfl⟩
   obtain ⟨b,p,rfl,hp,hb⟩ := hya _ y hi
   obtain ⟨y,hy1,rfl⟩ := sh3_at hp
   rw [hyn] at hy1
   have hq := tj_rev_at (by omega) hy1
   have jn : y.2.1 < s.shifts.length := hin (y.2.1,y.2.2) (by unfold VM.cr; exact List.mem_map.mpr ⟨y,List.mem_of_getElem? hy1,rfl⟩)
   have wl := witAt_len s a i
   have hj : y.2.1 < xs.length := by rw [hxl,shP_len]; exact jn
   obtain ⟨b2,p2,ex2,hp2,hb2⟩ := hxa y.2.1 (xs[y.2.1]'hj) (List.getElem?_eq_getElem hj)
   rw [shP_at jn] at hp2
   have ep2 : [((shiftOf s y.2.1).a : Int),((shiftOf s y.2.1).b : Int)] = p2 := Option.some.inj hp2
   subst ep2
   have aj : atI xs (y.2.1 : Int) = some (.ref b2) := at_of (j := y.2.1) rfl (by rw [List.getElem?_eq_getElem hj,ex2])
   refine ⟨b,_,rfl,SqT.of (e.tup hb),rfl,_,_,rfl,_,_,rfl,_,_,rfl,rfl,?_⟩
   refine ⟨_,rfl,d,rfl,⟨_,SqL.of hd1⟩,?_⟩
   intro D hD
   refine lcI_list (L := G.L) (xs := vN (witAt s a i)) (fun _ => true) (fun m => .bl (on s y.2.1 ((witAt s a i).getD m 0))) (by rw [vN_len,sizeLine_eq]; omega) (SqL.of hd1) hD (fun m x H3 hm e3 Kt N hy' hn' => ?_) fun H3 e3 hq3 => ?_
   ·obtain ⟨rfl,_,_⟩ := vN_at hm
    refine ⟨rfl,iteT (B := N H3) ?_⟩
    refine ⟨_,rfl,wy,G.CW,dx,_,_,rfl,(e.trans e3).ins h1,T.clW,T.nW_shifts,wf4_shifts _ _ _ _,_,rfl,sa',_,_,_,rfl,rfl,SqL.of ((e.trans e3).lst hx),aj,_,rfl,?_⟩
    refine ⟨b2,_,_,_,rfl,(e.trans e3).tup hb2,?_⟩
    have z := hy' rfl H3 Ext.refl
    have eh : (decide (((shiftOf s y.2.1).a : Int) <= (((witAt s a i).getD m 0 : Nat) : Int)) && decide ((((witAt s a i).getD m 0 : Nat) : Int) < ((shiftOf s y.2.1).b : Int))) = on s y.2.1 ((witAt s a i).getD m 0) := by
     unfold Vbedai.on; congr 1 <;> simp
    rw [eh]
    exact z
   ·have e4 : ((List.range (vN (witAt s a i)).length).filter fun _ => true).map (fun m => V.bl (on s y.2.1 ((witAt s a i).getD m 0))) = ((witAt s a i).map fun u => on s y.2.1 u).map V.bl := by
     rw [fil_true,vN_len,mapN (witAt s a i) fun u => V.bl (on s y.2.1 u),List.map_map]; rfl
    rw [e4] at hq3
    refine ⟨D,_,rfl,SqL.of hq3,_,rfl,?_⟩
    have eany : (((witAt s a i).map fun u => on s y.2.1 u).any id) = (witAt s a i).any fun u => on s y.2.1 u := by rw [List.any_map]; rfl
    rw [eany]
    cases z : (witAt s a i).any fun u => on s y.2.1 u with
    | true =>
     refine iteF ?_
     refine ⟨e.trans e3,?_,_,_,_,rfl⟩
     rw [witAt_more hq]
     unfold VM.take1
     rw [if_pos z]
     exact e3.lst hd1
    | false =>
     refine iteT ?_
     refine ⟨_,rfl,.inl ⟨rfl,_,SqL.of (e3.lst hd1)⟩,_,rfl,d,_,_,rfl,rfl,e3.lst hd1,by rw [vN_len,sizeLine_eq]; omega,?_⟩
     refine ⟨(e.trans e3).set hd (e3.lst hd1) rfl,?_,_,_,_,rfl⟩
     rw [upd_same,witAt_more hq]
     unfold VM.take1
     rw [if_neg (by rw [z]; simp)]
     unfold vN
     rw [List.map_append]; rfl
  ·rintro σ H' ⟨e,hd1,v3,v4,v5,rfl⟩
   rw [hyn] at hd1
   have ew : witAt s a a.length = wit s a := by
    unfold witAt VM.wit
    rw [List.take_of_length_le]
    rw [List.length_reverse]
    unfold VM.tj
    rw [List.length_map]
    exact Nat.le_refl _
   rw [ew,vN_vI] at hd1
   refine ⟨_,rfl,d,_,rfl,SqL.of hd1,fun ns q hp1 hp2 hq2 => ?_⟩
   obtain ⟨m,rfl,hm1,hm2⟩ := perm_nat hp1 hp2
   have em : m = witOf s a := wit_sorted hnd hm1 hm2
   subst em
   refine k q _ ?_ ?_ ?_
   ·exact e.new2 hq2
   ·exact e.free q hq2
   ·rw [upd_same]
end
theorem pairs_cr2 (x : Vbedai.Crews) : ((cr2 x).length : Int) :: (cr2 x).flatMap id = Vbedai.pairsOut x := by
 unfold cr2 Vbedai.pairsOut
 rw [List.length_map,List.flatMap_map]
 rfl
theorem cr2_two (x : Vbedai.Crews) : ∀ p ∈ cr2 x,p.length = 2 := by
 intro p hp
 unfold cr2 at hp
 obtain ⟨q,_,rfl⟩ := List.mem_map.mp hp
 rfl
theorem listed_eq (l : List Nat) : ((l.map fun (t : Nat) => (t : Int)).length : Int) :: (l.map fun (t : Nat) => (t : Int)) = Vbedai.listed l := by
 unfold Vbedai.listed
 rw [List.length_map]; rfl
theorem vI_app (a b : List Int) : vI a ++ vI b = vI (a ++ b) := by unfold vI; rw [List.map_append]
theorem shorts_221 {s : State} {wanted : Nat -> Nat} {pick : List Nat -> Option Nat} {ms : List Nat} (h : ms.length <= 221) : (shorts s wanted pick ms).length <= 221 := by
 have := shorts_len s wanted pick ms []
 unfold VM.shorts
 simp at this
 omega
abbrev s_fewest : Stmt := top 41
theorem sc_fewest : FnScope ["way", "needs", "short"] ["way", "needs"] (defScope s_fewest) := scM
section
variable {P : Program} {w : World} {G : Gd} {mg : Str -> Option Value} {base : Heap}
theorem ok_fewest {f : Addr} {fd : FuncData} (F : Fun G.K "fewest" "fewest" s_fewest f fd) (T : Txt mg G) (c_short_points : Def P w G.K mg base "short_points" 1 ["way", "needs"] (sp_short_points G)) (c_first_gap : Def P w G.K mg base "first_gap" 1 ["way", "needs"] (sp_first_gap G)) (c_listed : Def P w G.K mg base "listed" 1 ["numbers"] (sp_listed G)) (c_listed_pairs : Def P w G.K mg base "listed_pairs" 1 ["pairs"] (sp_listed_pairs G)) (c_witness : Def P w G.K mg base "witness" 2 ["way", "short"] (sp_witness G)) (c_put_in_all : Def P w G.K mg base "put_in_all" 1 ["short"] (sp_put_in_all G)) (c_put_on_shifts : Def P w G.K mg base "put_on_shifts" 1 ["way", "short"] (sp_put_on_shifts G)) : FnOk P w G.K mg base CX0 3 f fd ["way", "needs"] (sp_fewest G) := by
 refine F.ok sc_fewest (fun vs H Q E h => ?_) (fun cdv A outer s0 H vs Q E hr h => ?_)
 ·obtain ⟨wy,r,s,pick,ms,wanted,rfl,hW,hnd,hr1,k⟩ := h
  rfl
 ·have nd := sc_fewest.nd
  obtain ⟨wy,r,s,pick,ms,wanted,rfl,hW,hnd,hr1,k⟩ := h
  refine ⟨_,(pss_cons (ps_if (pt_cmp (pc_notN (pe_cal c_first_gap (hr.mono (by decide)) rfl (pa_cons (pv 0) (pa_cons (pv 1) pa_nil)))))
   (pss_one (ps_ret (pe_lst (pa_cons (pe_gi rfl T.m_NO_SHIFT_HAS_IT) pa_nil))))
   pss_nil)
   (pss_cons (ps_set (i := 2) nd rfl (.inl rfl) (pe_cal c_short_points (hr.mono (by decide)) rfl (pa_cons (pv 0) (pa_cons (pv 1) pa_nil))))
   (pss_one (ps_ret (pe_op op_cat (pe_op op_cat (pe_lst (pa_cons (pe_cal c_put_in_all (hr.mono (by decide)) rfl (pa_cons (pv 2) pa_nil)) pa_nil)) (pe_cal c_listed_pairs (hr.mono (by decide)) rfl (pa_cons (pe_cal c_put_on_shifts (hr.mono (by decide)) rfl (pa_cons (pv 0) (pa_cons (pv 2) pa_nil))) pa_nil))) (pe_cal c_listed (hr.mono (by decide)) rfl (pa_cons (pe_cal c_witness (hr.mono (by decide)) rfl (pa_cons (pv 0) (pa_cons (pv 2) pa_nil))) pa_nil))))))),?_⟩
  have h221 := hW.len
  have wf := hW.wf
  have h60 := wf.sl
  refine ⟨_,rfl,_,rfl,wy,r,s,pick,ms,wanted,rfl,hW,hr1,fun H1 e1 => ⟨_,rfl,?_⟩⟩
  cases q : ms.find? (gapAt s wanted pick) with
  | some t =>
   refine iteT ?_
   refine ⟨(by show 1 <= sizeLine; decide),fun a ha => ?_⟩
   refine k a _ (e1.new2 ha) (e1.free a ha) ?_
   rw [upd_same]
   unfold fewestA
   rw [q]
   rfl
  | none =>
   refine iteF ?_
   refine ⟨_,rfl,_,rfl,wy,r,s,pick,ms,wanted,rfl,hW.ext e1,e1.lst hr1,q,fun d H2 e2 hd hsh => ?_⟩
   have e12 := e1.trans e2
   have l221 := shorts_221 (s := s) (wanted := wanted) (pick := pick) h221
   have hin := shorts_in (s := s) (wanted := wanted) hW.pk ms
   refine ⟨_,rfl,d,_,rfl,hsh,l221,fun H3 e3 => ?_⟩
   refine ⟨(by show 1 <= sizeLine; decide),fun a1 ha1 => ?_⟩
   have f1 : Ext G.L H3 (upd H3 a1 (.lst [.int (total (cr (shorts s wanted pick ms)) : Int)])) := Ext.new ha1
   have g1 := (e12.trans e3).trans f1
   refine ⟨_,rfl,_,rfl,wy,d,s,pick,ms,_,rfl,hW.ext g1,hsh.ext (e3.trans f1),l221,hin,fun d2 H4 e4 hd2 hpair => ?_⟩
   have gl := gathered_len s (cr (shorts s wanted pick ms))
   have gl2 : (cr2 (gathered s (cr (shorts s wanted pick ms)))).length <= 60 := by unfold cr2; rw [List.length_map]; omega
   refine ⟨d2,_,rfl,hpair,cr2_two _,by omega,fun a2 H5 e5 ha2 ha2' => ?_⟩
   have wl := wit_len s wanted pick ms
   refine ⟨a1,a2,_,_,rfl,rfl,(e4.trans e5).lst upd_same,ha2',?_,fun a3 ha3 => ?_⟩
   ·rw [vI_len,pairs_cr2,pairsOut_len,sizeLine_eq]
    simp; omega
   ·have f3 : Ext G.L H5 (upd H5 a3 (.lst ([.int (total (cr (shorts s wanted pick ms)) : Int)] ++ vI (((cr2 (gathered s (cr (shorts s wanted pick ms)))).length : Int) :: (cr2 (gathered s (cr (shorts s wanted pick ms)))).flatMap id)))) := Ext.new ha3
    have g3 := ((g1.trans e4).trans e5).trans f3
    refine ⟨_,rfl,_,rfl,wy,d,s,pick,ms,_,rfl,hW.ext g3,hsh.ext ((((e3.trans f1).trans e4).trans e5).trans f3),l221,hin,shorts_nodup hnd,fun a4 H6 e6 ha4 ha4' => ?_⟩
    refine ⟨a4,_,rfl,ha4',?_,fun a5 H7 e7 ha5 ha5' => ?_⟩
    ·rw [List.length_map]; unfold witOf; omega
    ·refine ⟨a3,a5,_,_,rfl,rfl,(e6.trans e7).lst upd_same,ha5',?_,fun a6 ha6 => ?_⟩
     ·rw [List.length_append,vI_len,vI_len,pairs_cr2,pairsOut_len,listed_eq,listed_len,sizeLine_eq]
      unfold witOf
      simp; omega
     ·have g7 := (g3.trans e6).trans e7
      refine k a6 _ (g7.new2 ha6) (g7.free a6 ha6) ?_
      rw [upd_same]
      unfold fewestA
      rw [q,if_neg (by simp),pairs_cr2,listed_eq]
      unfold vI
      simp
      rfl
end
theorem points_nodup (s : State) : (points s).Nodup := (points_inc s).imp fun h => Nat.ne_of_lt h
abbrev s_least : Stmt := top 42
theorem sc_least : FnScope ["plan", "way"] ["plan"] (defScope s_least) := scM
section
variable {P : Program} {w : World} {G : Gd} {mg : Str -> Option Value} {base : Heap}
theorem ok_least {f : Addr} {fd : FuncData} (F : Fun G.K "least" "least" s_least f fd) (T : Txt mg G) (c_rising_way : Def P w G.K mg base "rising_way" 6 ["plan"] (sp_rising_way G)) (c_fewest : Def P w G.K mg base "fewest" 3 ["way", "needs"] (sp_fewest G)) (c_needs_on : Def P w G.K mg base "needs_on" 2 ["plan", "way"] (sp_needs_on G)) : FnOk P w G.K mg base CX0 7 f fd ["plan"] (sp_least G) := by
 refine F.ok sc_least (fun vs H Q E h => ?_) (fun cdv A outer s0 H vs Q E hr h => ?_)
 ·obtain ⟨p,sa,s,rfl,hP,k⟩ := h
  rfl
 ·have nd := sc_least.nd
  obtain ⟨p,sa,s,rfl,hP,k⟩ := h
  refine ⟨_,(pss_cons (ps_set (i := 1) nd rfl (.inl rfl) (pe_cal c_rising_way (hr.mono (by decide)) rfl (pa_cons (pv 0) pa_nil)))
   (pss_one (ps_ret (pe_cal c_fewest (hr.mono (by decide)) rfl (pa_cons (pv 1) (pa_cons (pe_cal c_needs_on (hr.mono (by decide)) rfl (pa_cons (pv 0) (pa_cons (pv 1) pa_nil))) pa_nil)))))),?_⟩
  refine ⟨_,rfl,p,sa,s,rfl,hP,fun wy H1 e1 hw hW => ?_⟩
  refine ⟨_,rfl,_,rfl,_,rfl,p,sa,s,wy,_,_,rfl,hP.ext e1,hW,fun r H2 e2 hr0 hr1 => ?_⟩
  refine ⟨wy,r,s,_,_,need s,rfl,hW.ext e2,points_nodup s,hr1,fun q H3 e3 hq hq' => ?_⟩
  have g := (e1.trans e2).trans e3
  exact k q H3 g ((e1.trans e2).free q hq) hq'
end
theorem sh_get {H : Hp} {l : Addr} {s : State} (h : LstT H l (shP s)) : ∃ xs,H l = some (.lst xs) /\ xs.length = s.shifts.length /\ ∀ j,j < s.shifts.length -> ∃ b,atI xs (j : Int) = some (.ref b) /\ H b = some (.tup [.int ((shiftOf s j).a : Int),.int ((shiftOf s j).b : Int)]) := by
 obtain ⟨xs,hx,hxl,hxa⟩ := h.at
 refine ⟨xs,hx,by rw [hxl,shP_len],fun j jn => ?_⟩
 have hj : j < xs.length := by rw [hxl,shP_len]; exact jn
 obtain ⟨b,q,ex,hq,hb⟩ := hxa j (xs[j]'hj) (List.getElem?_eq_getElem hj)
 rw [shP_at jn] at hq
 have ep : [((shiftOf s j).a : Int),((shiftOf s j).b : Int)] = q := Option.some.inj hq
 subst ep
 exact ⟨b,at_of (j := j) rfl (by rw [List.getElem?_eq_getElem hj,ex]),hb⟩
theorem okJ_nat {s : State} {z : Int} (h : okJ s z = true) : ((z.toNat : Nat) : Int) = z /\ z.toNat < s.shifts.length := by
 unfold Vbedai.okJ at h
 rw [inR_iff] at h
 simp only [Vbedai.nat,Int.ofNat_eq_natCast] at h
 omega
theorem row_vN {s : State} {r : List Int} (h : r.all (okJ s) = true) : vI r = vN (r.map Int.toNat) /\ ∀ j ∈ r.map Int.toNat,j < s.shifts.length := by
 rw [List.all_eq_true] at h
 constructor
 ·unfold vI vN
  rw [List.map_map]
  exact List.map_congr_left fun z hz => by show V.int z = V.int ((z.toNat : Nat) : Int); rw [(okJ_nat (h z hz)).1]
 ·intro j hj
  obtain ⟨z,hz,rfl⟩ := List.mem_map.mp hj
  exact (okJ_nat (h z hz)).2
theorem iref_at {rows : List (List Int)} {as : List Addr} {i : Nat} {x : V} (hl : as.length = rows.length) (h : (as.map V.ref)[i]? = some x) : ∃ a r,x = .ref a /\ as[i]? = some a /\ rows[i]? = some r := by
 rw [List.getElem?_map] at h
 cases e : as[i]? with
 | none => rw [e] at h; cases h
 | some a =>
  rw [e] at h
  have hi : i < rows.length := by rw [<- hl]; exact (List.getElem?_eq_some_iff.mp e).1
  exact ⟨a,rows[i],(Option.some.inj h).symm,rfl,List.getElem?_eq_getElem hi⟩
theorem zeros0 {n : Nat} {s : State} (h : n = s.shifts.length) : ((List.range n).filter fun _ => true).map (fun _ => V.int 0) = vI (cnts s []) := by
 rw [fil_true,h,cnts_nil]
 unfold vI numbers
 rw [List.map_map]; rfl
theorem cnts_getD {s : State} {l : List Nat} {j : Nat} (h : j < s.shifts.length) : (cnts s l).getD j 0 = (cnt l j : Int) := by
 rw [List.getD_eq_getElem?_getD,cnts_get h]; rfl
abbrev s_roster : Stmt := top 57
theorem sc_roster : FnScope ["plan", "rows", "row", "times", "shift", "person", "k", "j"] ["plan", "rows"] (defScope s_roster) := scM
section
variable {P : Program} {w : World} {G : Gd} {mg : Str -> Option Value} {base : Heap}
theorem ok_roster {f : Addr} {fd : FuncData} (F : Fun G.K "roster" "roster" s_roster f fd) (T : Txt mg G) (c_first_too_early : Def P w G.K mg base "first_too_early" 1 ["plan", "row"] (sp_first_too_early G)) (c_are_shifts : Def P w G.K mg base "are_shifts" 3 ["plan", "row"] (sp_are_shifts G)) : FnOk P w G.K mg base CX0 4 f fd ["plan", "rows"] (sp_roster G) := by
 refine F.ok sc_roster (fun vs H Q E h => ?_) (fun cdv A outer s0 H vs Q E hr h => ?_)
 ·obtain ⟨p,sa,s,l,rows,rfl,hP,hR,hl,hl2,k⟩ := h
  rfl
 ·have nd := sc_roster.nd
  obtain ⟨p,sa,s,l,rows,rfl,hP,hR,hl,hl2,k⟩ := h
  refine ⟨_,(pss_cons (ps_if (pt_not (pt_val (pe_callB (allK (K := G.K) rfl rfl) rfl T.b_all boot_all (pa_cons (pe_lc (own := [("row",2)]) rfl nd (pi_list (pv 1)) (blkOk_by (show blkC ["plan", "rows", "row", "times", "shift", "person", "k", "j"] (defScope s_roster) _ _ = true by decide +kernel)) (fun _ _ _ _ _ => (pg_name (i := 2) nd rfl (.inl rfl))) (fun _ _ _ _ _ => pts_nil) (fun _ _ _ _ _ => (pe_cal c_are_shifts (hr.mono (by decide)) rfl (pa_cons (pv 0) (pa_cons (pv 2) pa_nil))))) pa_nil))))
   (pss_one (ps_ret (pe_lst (pa_cons (pe_gi rfl T.m_BAD_LIST) pa_nil))))
   pss_nil)
   (pss_cons (ps_setLc (i := 3) (own := [("shift",4)]) rfl nd rfl rfl (sw_true rfl rfl rfl rfl) (pi_list (fldK (K := G.K) rfl (pv 0) rfl)) (blkOk_by (show blkC ["plan", "rows", "row", "times", "shift", "person", "k", "j"] (defScope s_roster) _ _ = true by decide +kernel)) (fun _ _ _ _ _ => (pg_name (i := 4) nd rfl (.inl rfl))) (fun _ _ _ _ _ => pts_nil) (fun _ _ _ _ _ => pe_int))
   (pss_cons (ps_for PassesOwn.never rfl (pi_range1 rfl T.b_range (pa_cons (pe_callB (lenK (K := G.K) rfl) rfl T.b_len PySem.boot_len (pa_cons (pv 1) pa_nil)) pa_nil)) (pg_name (i := 5) nd rfl (.inl rfl))
   (pss_cons (ps_set (i := 6) nd rfl (.inl rfl) (pe_cal c_first_too_early (hr.mono (by decide)) rfl (pa_cons (pv 0) (pa_cons (pe_ix (ixL (K := G.K) rfl) (pv 1) (pv 5) (fun _ _ => rfl)) pa_nil))))
   (pss_cons (ps_if (pt_cmp (pc_notN (pv 6)))
   (pss_one (ps_ret (pe_lst (pa_cons pe_int (pa_cons (pv 5) (pa_cons (pv 6) pa_nil))))))
   pss_nil)
   (pss_one (ps_for PassesOwn.never rfl (pi_list (pe_ix (ixL (K := G.K) rfl) (pv 1) (pv 5) (fun _ _ => rfl))) (pg_name (i := 7) nd rfl (.inl rfl))
   (pss_one (ps_augS (pv 3) (pv 7) (getK (K := G.K) rfl) pe_int ip_add set_list)))))))
   (pss_one (ps_ret (pe_op op_cat (pe_lst (pa_cons pe_int (pa_cons (pe_callB (lenK (K := G.K) rfl) rfl T.b_len PySem.boot_len (pa_cons (pv 1) pa_nil)) pa_nil))) (pv 3))))))),?_⟩
  obtain ⟨as,h1,h2,h3⟩ := hR
  have h60 := hP.wf.sl
  refine ⟨_,rfl,l,rfl,⟨_,SqL.of h1⟩,?_⟩
  intro D hD
  refine lcI_list (L := G.L) (xs := as.map V.ref) (fun _ => true) (fun i => .bl ((rows.getD i []).all (okJ s))) (by rw [List.length_map,h2,sizeLine_eq]; omega) (SqL.of h1) hD (fun i x H1 hx e Kt N hy hn => ?_) fun H1 e hq => ?_
  ·obtain ⟨a,r,rfl,ea,er⟩ := iref_at h2 hx
   have eD : rows.getD i [] = r := by rw [List.getD_eq_getElem?_getD,er]; rfl
   refine ⟨rfl,iteT (B := N H1) ?_⟩
   refine ⟨_,rfl,_,rfl,p,sa,s,a,r,rfl,hP.ext e,e.lst (h3 i a r ea er),hl2 r (List.mem_of_getElem? er),fun H2 e2 => ?_⟩
   have z := hy rfl H2 e2
   rw [eD] at z
   exact z
  ·have e2 : ((List.range (as.map V.ref).length).filter fun _ => true).map (fun i => V.bl ((rows.getD i []).all (okJ s))) = (rows.map fun r => r.all (okJ s)).map V.bl := by
    rw [fil_true,List.length_map,h2,range_getD rows [] fun r => V.bl (r.all (okJ s)),List.map_map]; rfl
   rw [e2] at hq
   refine ⟨D,_,rfl,SqL.of hq,_,rfl,?_⟩
   have ea : ((rows.map fun r => r.all (okJ s)).all id) = rows.all fun r => r.all (okJ s) := by rw [List.all_map]; rfl
   rw [ea]
   have rin := rowsIn_eq s rows
   rw [ans9,rin] at k
   cases q : rows.all fun r => r.all (okJ s) with
   | false =>
    rw [q,if_neg (by simp)] at k
    refine iteT ?_
    refine ⟨(by show 1 <= sizeLine; decide),fun b hb => ?_⟩
    refine k b _ (e.new2 hb) (e.free b hb) ?_
    rw [upd_same]; rfl
   | true =>
    rw [q,if_pos rfl] at k
    dsimp only at k
    rw [List.all_eq_true] at q
    refine iteF ?_
    have hP1 := hP.ext e
    obtain ⟨dx,ca,hp,hca,nca⟩ := hP1.ex
    obtain ⟨xs,hx,hxl,hxg⟩ := sh_get hP1.sh
    refine ⟨_,rfl,p,G.CP,dx,_,_,rfl,hp,T.clP,T.nP_shifts,pf_shifts _ _ _,sa,rfl,⟨_,SqL.of hx⟩,?_⟩
    intro c hc
    refine lcI_list (L := G.L) (xs := xs) (fun _ => true) (fun _ => .int 0) (by rw [hxl,sizeLine_eq]; omega) (SqL.of hx) hc (fun i x H2 hi e2 Kt N hy hn' => ?_) fun H2 e2 hq2 => ?_
    ·exact ⟨rfl,iteT (B := N H2) (hy rfl H2 Ext.refl)⟩
    ·rw [zeros0 hxl] at hq2
     have g2 := e.trans e2
     have cH : H c = none := e.free c hc
     refine ⟨_,rfl,l,_,rfl,.inl (SqL.of (g2.lst h1)),_,rfl,by rw [List.length_map]; omega,by rw [List.length_map]; omega,?_⟩
     rw [List.length_map,h2,Int.toNat_natCast]
     refine for_range (n := rows.length) (fun i σ H' => Ext G.L H H' /\ H' c = some (.lst (vI (cnts s ((rows.map fun r => r.map Int.toNat).take i).flatten))) /\ (∀ m l',m < i -> (rows.map fun r => r.map Int.toNat)[m]? = some l' -> Vbedai.wrongAt s 0 l' = none) /\ ∃ v5 v6 v7,σ = [some (.ref p),some (.ref l),none,some (.ref c),none,v5,v6,v7])
      ⟨g2,hq2,fun m l' hm => by omega,none,none,none,rfl⟩ ?_ ?_
     ·rintro i σ H' hi ⟨e3,hc3,hno,v5,v6,v7,rfl⟩
      obtain ⟨a,ha⟩ : ∃ a,as[i]? = some a := ⟨_,List.getElem?_eq_getElem (by omega)⟩
      obtain ⟨r,hr1⟩ : ∃ r,rows[i]? = some r := ⟨_,List.getElem?_eq_getElem hi⟩
      have ai : atI (as.map V.ref) (0 + (i : Int)) = some (.ref a) := at_of (j := i) (by omega) (by rw [List.getElem?_map,ha]; rfl)
      have rok := q r (List.mem_of_getElem? hr1)
      obtain ⟨ev,elt⟩ := row_vN rok
      have har := h3 i a r ha hr1
      rw [ev] at har
      have rl := hl2 r (List.mem_of_getElem? hr1)
      have xi : (rows.map fun r => r.map Int.toNat)[i]? = some (r.map Int.toNat) := by rw [List.getElem?_map,hr1]; rfl
      refine ⟨_,rfl,_,rfl,_,rfl,l,_,_,_,rfl,rfl,SqL.of (e3.lst h1),ai,p,sa,s,a,_,rfl,hP.ext e3,e3.lst har,elt,by rw [List.length_map]; exact rl,fun H4 e4 => ?_⟩
      refine ⟨_,rfl,_,rfl,?_⟩
      cases wq : Vbedai.wrongAt s 0 (r.map Int.toNat) with
      | some kk =>
       refine iteT ?_
       rw [firstWrong_some s _ 0 i kk _ xi hno wq] at k
       refine ⟨_,rfl,_,rfl,(by show 3 <= sizeLine; decide),fun b hb => ?_⟩
       have g4 := e3.trans e4
       refine k b _ (g4.new2 hb) (g4.free b hb) ?_
       rw [upd_same]
       have z1 : (0 : Int) + (i : Int) = ((0 + i : Nat) : Int) := by omega
       show some (HO.lst [V.int 1,V.int (0 + (i : Int)),V.int (kk : Int)]) = _
       rw [z1]
       rfl
      | none =>
       refine iteF ?_
       have g4 := e3.trans e4
       refine ⟨_,rfl,_,rfl,l,_,_,_,rfl,rfl,SqL.of (g4.lst h1),ai,a,rfl,⟨_,SqL.of (g4.lst har)⟩,for_list (K := G.K) (a := a) (xs := vN (r.map Int.toNat)) (fun m σ H' => Ext G.L H H' /\ H' c = some (.lst (vI (cnts s (((rows.map fun r => r.map Int.toNat).take i).flatten ++ (r.map Int.toNat).take m)))) ∧
        ∃ v6 v7,σ = [some (.ref p),some (.ref l),none,some (.ref c),none,some (.int (0 + (i : Int))),v6,v7]) ⟨g4,by rw [List.take_zero,List.append_nil]; exact e4.lst hc3,_,_,rfl⟩ (fun m σ H' _ ⟨e5,_⟩ => SqL.of (e5.lst har)) ?_ ?_⟩
       ·rintro m y σ H' hm ⟨e5,hc5,v6,v7,rfl⟩
        obtain ⟨rfl,hj1,hj2⟩ := vN_at hm
        generalize (r.map Int.toNat).getD m 0 = j at hj1
        have jn := elt j (List.mem_of_getElem? hj1)
        refine ⟨_,rfl,_,rfl,c,_,_,_,rfl,rfl,SqL.of hc5,at_of (j := j) rfl (getI (by rw [cnts_len]; exact jn)),_,_,rfl,rfl,?_⟩
        refine ⟨c,_,_,j,rfl,rfl,hc5,by rw [vI_len,cnts_len]; exact ixN_nat jn,?_⟩
        rw [set_map,cnts_getD jn]
        have z := cnts_set (l := ((rows.map fun r => r.map Int.toNat).take i).flatten ++ (r.map Int.toNat).take m) jn
        have z2 : (cnts s (((rows.map fun r => r.map Int.toNat).take i).flatten ++ (r.map Int.toNat).take m)).set j ((cnt (((rows.map fun r => r.map Int.toNat).take i).flatten ++ (r.map Int.toNat).take m) j : Int) + 1) = cnts s (((rows.map fun r => r.map Int.toNat).take i).flatten ++ (r.map Int.toNat).take (m + 1)) := by
         rw [take_snoc hj1,← List.append_assoc]; exact z
        dsimp only
        rw [z2]
        exact ⟨e5.set cH hc5 rfl,upd_same,_,_,rfl⟩
       ·rintro σ H' ⟨e5,hc5,v6,v7,rfl⟩
        rw [vN_len,List.take_length] at hc5
        refine ⟨e5,?_,fun m l' hm hl' => ?_,_,_,_,rfl⟩
        ·rw [take_snoc xi,List.flatten_append]
         simpa using hc5
        ·by_cases cm : m = i
         ·subst cm
          rw [xi] at hl'
          cases hl'
          exact wq
         ·exact hno m l' (by omega) hl'
     ·rintro σ H' ⟨e3,hc3,hno,v5,v6,v7,rfl⟩
      have fn : Vbedai.firstWrong s 0 (rows.map fun r => r.map Int.toNat) = none := firstWrong_none s _ 0 fun l' hl' => by
       obtain ⟨m,hm⟩ := List.mem_iff_getElem?.mp hl'
       have ml : m < (rows.map fun r => r.map Int.toNat).length := (List.getElem?_eq_some_iff.mp hm).1
       rw [List.length_map] at ml
       exact hno m l' ml hm
      rw [fn] at k
      have et : (rows.map fun r => r.map Int.toNat).take rows.length = rows.map fun r => r.map Int.toNat := List.take_of_length_le (by rw [List.length_map]; exact Nat.le_refl _)
      rw [et] at hc3
      refine ⟨_,rfl,l,_,rfl,.inl (SqL.of (e3.lst h1)),(by show 2 <= sizeLine; decide),fun b hb => ?_⟩
      have f1 : Ext G.L H' (upd H' b (.lst [.int 0,.int ((as.map V.ref).length : Int)])) := Ext.new hb
      refine ⟨_,rfl,b,c,_,_,rfl,rfl,upd_same,f1.lst hc3,?_,fun b2 hb2 => ?_⟩
      ·rw [vI_len,cnts_len,sizeLine_eq]; simp; omega
      ·have g5 := e3.trans f1
       refine k b2 _ (g5.new2 hb2) (g5.free b2 hb2) ?_
       rw [upd_same,List.length_map,h2,List.length_map]
       rfl
end
structure RowsW (H0 H : Hp) (d f : Addr) (as : List Addr) (rows : List (List Nat)) : Prop where
 lst : H d = some (.lst (as.map V.ref))
 len : as.length = rows.length
 at_ : ∀ (i : Nat) (a : Addr) (r : List Nat),as[i]? = some a -> rows[i]? = some r -> H a = some (.lst (vN r))
 nd : as.Nodup
 ap : ∀ a ∈ as,a ≠ d /\ a ≠ f /\ H0 a = none
theorem RowsW.ext {L : List Tbl} {H0 H H' : Hp} {d f : Addr} {as : List Addr} {rows : List (List Nat)} (h : RowsW H0 H d f as rows) (e : Ext L H H') : RowsW H0 H' d f as rows :=
 ⟨e.lst h.lst,h.len,fun i a r h1 h2 => e.lst (h.at_ i a r h1 h2),h.nd,h.ap⟩
theorem RowsW.free {H0 H : Hp} {d f : Addr} {as : List Addr} {rows : List (List Nat)} {o : HO} (h : RowsW H0 H d f as rows) (df : d ≠ f) : RowsW H0 (upd H f o) d f as rows :=
 ⟨by rw [upd_ne df]; exact h.lst,h.len,fun i a r h1 h2 => by rw [upd_ne (h.ap a (List.mem_of_getElem? h1)).2.1]; exact h.at_ i a r h1 h2,h.nd,h.ap⟩
theorem RowsW.add {H0 H : Hp} {d f a : Addr} {as : List Addr} {rows : List (List Nat)} {r : List Nat} (h : RowsW H0 H d f as rows) (ha : H a = some (.lst (vN r))) (hd : a ≠ d) (hf : a ≠ f) (h0 : H0 a = none) (hn : a ∉ as) :
  RowsW H0 (upd H d (.lst (as.map V.ref ++ [.ref a]))) d f (as ++ [a]) (rows ++ [r]) := by
 refine ⟨by rw [upd_same,List.map_append]; rfl,by simp [h.len],fun i b q h1 h2 => ?_,?_,fun b hb => ?_⟩
 ·by_cases c : i < as.length
  ·rw [List.getElem?_append_left c] at h1
   rw [List.getElem?_append_left (by rw [<- h.len]; exact c)] at h2
   rw [upd_ne (h.ap b (List.mem_of_getElem? h1)).1]
   exact h.at_ i b q h1 h2
  ·rw [List.getElem?_append_right (by omega)] at h1
   rw [List.getElem?_append_right (by rw [<- h.len]; omega)] at h2
   have hm : i - as.length = 0 := by
    obtain ⟨z,_⟩ := List.getElem?_eq_some_iff.mp h1
    simp at z; omega
   rw [hm] at h1
   rw [<- h.len,hm] at h2
   cases h1; cases h2
   rw [upd_ne hd]; exact ha
 ·rw [List.nodup_append]
  refine ⟨h.nd,by simp,fun x hx y hy e => ?_⟩
  rw [List.mem_singleton] at hy
  subst hy; subst e
  exact hn hx
 ·rcases List.mem_append.mp hb with z | z
  ·exact h.ap b z
  ·rw [List.mem_singleton] at z; rw [z]; exact ⟨hd,hf,h0⟩
theorem RowsW.put {H0 H : Hp} {d f a : Addr} {as : List Addr} {rows : List (List Nat)} {r r' : List Nat} {i : Nat} (h : RowsW H0 H d f as rows) (ha : as[i]? = some a) (hr : rows[i]? = some r) : RowsW H0 (upd H a (.lst (vN r'))) d f as (rows.set i r') := by
 have apa := h.ap a (List.mem_of_getElem? ha)
 refine ⟨by rw [upd_ne apa.1.symm]; exact h.lst,by rw [List.length_set]; exact h.len,fun m b q h1 h2 => ?_,h.nd,h.ap⟩
 by_cases c : m = i
 ·subst c
  rw [ha] at h1
  cases h1
  rw [List.getElem?_set_self (List.getElem?_eq_some_iff.mp hr).1] at h2
  cases h2
  exact upd_same
 ·rw [List.getElem?_set_ne (fun q => c q.symm)] at h2
  rw [upd_ne (fun z => c (nd_ix h.nd h1 (by rw [z]; exact ha)))]
  exact h.at_ m b q h1 h2
theorem give_by {s : State} {j : Nat} {m : Vbedai.Roster} (hF : Full m) : Vbedai.give s j m = match firstLe (m.map (freeOf s)) (shiftOf s j).a with
  | none => m ++ [[j]]
  | some p => m.set p (j :: m.getD p []) := by
 unfold firstLe
 cases q : (m.map (freeOf s)).findIdx? fun f => decide (f <= (shiftOf s j).a) with
 | none =>
  rw [List.findIdx?_eq_none_iff] at q
  refine give_none fun l hl => ?_
  rw [rested_iff (hF l hl)]
  exact q _ (List.mem_map.mpr ⟨l,hl,rfl⟩)
 | some p =>
  rw [List.findIdx?_eq_some_iff_getElem] at q
  obtain ⟨hp,h1,h2⟩ := q
  rw [List.length_map] at hp
  have e1 : m[p]? = some m[p] := List.getElem?_eq_getElem hp
  have eD : m.getD p [] = m[p] := by rw [List.getD_eq_getElem?_getD,e1]; rfl
  show Vbedai.give s j m = m.set p (j :: m.getD p [])
  rw [eD]
  refine give_some e1 ?_ fun i l' hi e => ?_
  ·rw [rested_iff (hF _ (List.getElem_mem hp))]
   simpa using h1
  ·rw [rested_iff (hF l' (List.mem_of_getElem? e))]
   have hi' : i < m.length := by omega
   have z := h2 i hi
   rw [List.getElem_map] at z
   obtain ⟨_,e2⟩ := List.getElem?_eq_some_iff.mp e
   rw [e2] at z
   simpa using z
theorem firstLe_lt {fs : List Nat} {a p : Nat} (h : firstLe fs a = some p) : p < fs.length := by
 unfold firstLe at h
 rw [List.findIdx?_eq_some_iff_getElem] at h
 exact h.1
def rAt (s : State) (js : List Nat) (i : Nat) : Vbedai.Roster := Vbedai.rosterOf s (js.take i)
theorem rAt_more {s : State} {js : List Nat} {i j : Nat} (h : js[i]? = some j) : rAt s js (i + 1) = Vbedai.give s j (rAt s js i) := by
 unfold rAt Vbedai.rosterOf
 rw [take_snoc h,List.foldl_append]; rfl
theorem rAt_full (s : State) (js : List Nat) (i : Nat) : Full (rAt s js i) := gives_full _ (by intro l hl; cases hl)
theorem rAt_len (s : State) (js : List Nat) (i : Nat) : (rAt s js i).length <= i := by
 have h1 := full_len (rAt_full s js i)
 have h2 := gives_len s (js.take i) []
 unfold rAt Vbedai.rosterOf at *
 rw [h2,List.length_take] at h1
 simp at h1
 omega
theorem vN_snoc (r : List Nat) (j : Nat) : vN r ++ [.int (j : Int)] = vN (r ++ [j]) := by unfold vN; rw [List.map_append]; rfl
abbrev s_handed_out : Stmt := top 54
theorem sc_handed_out : FnScope ["plan", "taken", "rows", "free", "j", "a", "free_again", "person"] ["plan", "taken"] (defScope s_handed_out) := scM
section
variable {P : Program} {w : World} {G : Gd} {mg : Str -> Option Value} {base : Heap}
theorem ok_handed_out {f : Addr} {fd : FuncData} (F : Fun G.K "handed_out" "handed_out" s_handed_out f fd) (T : Txt mg G) (c_first_free : Def P w G.K mg base "first_free" 1 ["free", "minute"] (sp_first_free G)) : FnOk P w G.K mg base CX0 2 f fd ["plan", "taken"] (sp_handed_out G) := by
 refine F.ok sc_handed_out (fun vs H Q E h => ?_) (fun cdv A outer s0 H vs Q E hr h => ?_)
 ·obtain ⟨p,sa,s,r,js,rfl,hP,hr1,hjs,hl,k⟩ := h
  rfl
 ·have nd := sc_handed_out.nd
  obtain ⟨p,sa,s,r,js,rfl,hP,hr1,hjs,hl,k⟩ := h
  refine ⟨_,(pss_cons (ps_set (i := 2) nd rfl (.inl rfl) (pe_lst pa_nil))
   (pss_cons (ps_set (i := 3) nd rfl (.inl rfl) (pe_lst pa_nil))
   (pss_cons (ps_for PassesOwn.never rfl (pi_list (pv 1)) (pg_name (i := 4) nd rfl (.inl rfl))
   (pss_cons (ps_set (i := 5) nd rfl (.inl rfl) (pe_ix (ixT (K := G.K) rfl) (pe_ix (ixL (K := G.K) rfl) (fldK (K := G.K) rfl (pv 0) rfl) (pv 4) (fun _ _ => rfl)) pe_int (fun _ _ => rfl)))
   (pss_cons (ps_set (i := 6) nd rfl (.inl rfl) (pe_op op_add (pe_ix (ixT (K := G.K) rfl) (pe_ix (ixL (K := G.K) rfl) (fldK (K := G.K) rfl (pv 0) rfl) (pv 4) (fun _ _ => rfl)) pe_int (fun _ _ => rfl)) (fldK (K := G.K) rfl (pv 0) rfl)))
   (pss_cons (ps_set (i := 7) nd rfl (.inl rfl) (pe_cal c_first_free (hr.mono (by decide)) rfl (pa_cons (pv 3) (pa_cons (pv 5) pa_nil))))
   (pss_one (ps_if (pt_cmp (pc_isN (pv 7)))
   (pss_cons (ps_expr (pe_bm PySem.F.plainAttrs_list PySem.F.slot_list_append PySem.F.type_list_append mt_append (pv 2) (pa_cons (pe_lst (pa_cons (pv 4) pa_nil)) pa_nil)))
   (pss_one (ps_expr (pe_bm PySem.F.plainAttrs_list PySem.F.slot_list_append PySem.F.type_list_append mt_append (pv 3) (pa_cons (pv 6) pa_nil)))))
   (pss_cons (ps_expr (pe_bm PySem.F.plainAttrs_list PySem.F.slot_list_append PySem.F.type_list_append mt_append (pe_ix (ixL (K := G.K) rfl) (pv 2) (pv 7) (fun _ _ => rfl)) (pa_cons (pv 4) pa_nil)))
   (pss_one (ps_asg (pv 6) (pg_sub (pv 3) (pv 7) set_list))))))))))
   (pss_one (ps_ret (pv 2)))))),?_⟩
  refine ⟨Nat.zero_le _,fun d hd => ?_⟩
  have e0 : Ext G.L H (upd H d (.lst [])) := Ext.new hd
  refine ⟨Nat.zero_le _,fun fr hfr => ?_⟩
  have e1 : Ext G.L H (upd (upd H d (.lst [])) fr (.lst [])) := e0.new2 hfr
  have df : d ≠ fr := fun z => by rw [<- z,upd_same] at hfr; cases hfr
  have frH : H fr = none := e0.free fr hfr
  refine ⟨_,rfl,r,rfl,⟨_,SqL.of (e1.lst hr1)⟩,for_list (K := G.K) (a := r) (xs := vN js) (fun i σ H' => Ext G.L H H' /\ (∃ as,RowsW H H' d fr as ((rAt s js i).map fun m => m.reverse)) /\ H' fr = some (.lst (vN ((rAt s js i).map (freeOf s)))) /\ ∃ v4 v5 v6 v7,σ = [some (.ref p),some (.ref r),some (.ref d),some (.ref fr),v4,v5,v6,v7])
   ⟨e1,⟨[],⟨by rw [upd_ne df,upd_same]; rfl,rfl,fun i a q h => by simp at h,.nil,fun a h => by cases h⟩⟩,upd_same,none,none,none,none,rfl⟩ (fun i σ H' _ ⟨e,_⟩ => SqL.of (e.lst hr1)) ?_ ?_⟩
  ·rintro i y σ H' hi ⟨e,⟨as,hW⟩,hf,v4,v5,v6,v7,rfl⟩
   obtain ⟨rfl,hj,hil⟩ := vN_at hi
   generalize js.getD i 0 = j at hj
   have jn := hjs j (List.mem_of_getElem? hj)
   have hP1 := hP.ext e
   obtain ⟨dx,ca,hp,hca,nca⟩ := hP1.ex
   obtain ⟨xs,hx,hxl,hxg⟩ := sh_get hP1.sh
   obtain ⟨b,hb1,hb2⟩ := hxg j jn
   have rl := rAt_len s js i
   refine ⟨_,rfl,p,G.CP,dx,_,_,rfl,hp,T.clP,T.nP_shifts,pf_shifts _ _ _,_,rfl,sa,_,_,_,rfl,rfl,SqL.of hx,hb1,b,_,_,_,rfl,rfl,SqT.of hb2,atI_nat (j := 0) rfl,?_⟩
   refine ⟨_,rfl,p,G.CP,dx,_,_,rfl,hp,T.clP,T.nP_shifts,pf_shifts _ _ _,_,rfl,sa,_,_,_,rfl,rfl,SqL.of hx,hb1,b,_,_,_,rfl,rfl,SqT.of hb2,atI_nat (j := 1) rfl,?_⟩
   refine ⟨_,rfl,p,G.CP,dx,_,_,rfl,hp,T.clP,T.nP_rest,pf_rest _ _ _,_,_,rfl,rfl,?_⟩
   have ef : ((shiftOf s j).b : Int) + (s.rest : Int) = ((freeOf s [j] : Nat) : Int) := by unfold VM.freeOf; simp
   dsimp only
   rw [ef]
   refine ⟨_,rfl,_,rfl,fr,_,(shiftOf s j).a,rfl,hf,by rw [List.length_map]; omega,fun H2 e2 => ?_⟩
   have g2 := e.trans e2
   have hW2 := hW.ext e2
   have hf2 := e2.lst hf
   have gb := give_by (s := s) (j := j) (rAt_full s js i)
   have rm := rAt_more (s := s) hj
   refine ⟨_,rfl,_,rfl,?_⟩
   cases q : firstLe ((rAt s js i).map (freeOf s)) (shiftOf s j).a with
   | none =>
    refine iteT ?_
    rw [q] at gb
    rw [gb] at rm
    refine ⟨_,rfl,.inl ⟨rfl,_,SqL.of hW2.lst⟩,_,rfl,(by show 1 <= sizeLine; decide),fun a ha => ?_⟩
    have f1 : Ext G.L H2 (upd H2 a (.lst [.int (j : Int)])) := Ext.new ha
    have hW3 := hW2.ext f1
    have ad : a ≠ d := fun z => by rw [z,hW2.lst] at ha; cases ha
    have af : a ≠ fr := fun z => by rw [z,hf2] at ha; cases ha
    have an : a ∉ as := fun z => by
     obtain ⟨m,hm⟩ := List.mem_iff_getElem?.mp z
     have ml : m < ((rAt s js i).map fun m => m.reverse).length := by rw [<- hW2.len]; exact (List.getElem?_eq_some_iff.mp hm).1
     rw [hW2.at_ m a _ hm (List.getElem?_eq_getElem ml)] at ha; cases ha
    refine ⟨d,_,_,rfl,rfl,hW3.lst,?_,?_⟩
    ·have := hW2.len
     rw [List.length_map] at this
     rw [List.length_map,this,sizeLine_eq]; omega
    ·have hW4 := hW3.add (r := [j]) (a := a) upd_same ad af ((g2).free a ha) an
     have g4 := (g2.trans f1).set (o := .lst (as.map V.ref ++ [.ref a])) hd hW3.lst rfl
     have hf4 : (upd (upd H2 a (.lst [.int (j : Int)])) d (.lst (as.map V.ref ++ [.ref a]))) fr = some (.lst (vN ((rAt s js i).map (freeOf s)))) := by rw [upd_ne df.symm]; exact f1.lst hf2
     refine ⟨_,rfl,.inl ⟨rfl,_,SqL.of hf4⟩,_,rfl,fr,_,_,rfl,rfl,hf4,by rw [vN_len,List.length_map,sizeLine_eq]; omega,?_⟩
     refine ⟨g4.set frH hf4 rfl,⟨as ++ [a],?_⟩,?_,_,_,_,_,rfl⟩
     ·rw [rm,List.map_append]
      exact hW4.free df
     ·rw [upd_same,rm,List.map_append,vN_snoc]; rfl
   | some pp =>
    refine iteF ?_
    rw [q] at gb
    dsimp only at gb
    rw [gb] at rm
    have pl : pp < (rAt s js i).length := by have := firstLe_lt q; rw [List.length_map] at this; exact this
    have e1 : (rAt s js i)[pp]? = some ((rAt s js i).getD pp []) := by rw [List.getD_eq_getElem?_getD,List.getElem?_eq_getElem pl]; rfl
    generalize (rAt s js i).getD pp [] = old at rm e1
    obtain ⟨a,ha⟩ : ∃ a,as[pp]? = some a := ⟨_,List.getElem?_eq_getElem (by rw [hW2.len,List.length_map]; exact pl)⟩
    have ro : ((rAt s js i).map fun m => m.reverse)[pp]? = some old.reverse := by rw [List.getElem?_map,e1]; rfl
    have hal := hW2.at_ pp a _ ha ro
    have apa := hW2.ap a (List.mem_of_getElem? ha)
    have ol : old.length <= 300 := by
     have h2 := gives_len s (js.take i) []
     have z : old.length <= (rAt s js i).flatten.length := by
      have := List.mem_of_getElem? e1
      obtain ⟨l1,l2,hl12⟩ := List.append_of_mem this
      rw [hl12,List.flatten_append,List.flatten_cons,List.length_append,List.length_append]; omega
     unfold rAt Vbedai.rosterOf at z
     rw [h2,List.length_take] at z
     simp at z
     omega
    refine ⟨_,rfl,_,rfl,d,_,_,V.ref a,rfl,rfl,SqL.of hW2.lst,at_of (j := pp) rfl (by rw [List.getElem?_map,ha]; rfl),.inl ⟨rfl,_,SqL.of hal⟩,_,rfl,a,_,_,rfl,rfl,hal,by rw [vN_len,List.length_reverse,sizeLine_eq]; omega,?_⟩
    rw [vN_snoc]
    have hW3 := hW2.put (r' := old.reverse ++ [j]) ha ro
    have g3 := g2.set (o := .lst (vN (old.reverse ++ [j]))) apa.2.2 hal rfl
    have hf3 : (upd H2 a (.lst (vN (old.reverse ++ [j])))) fr = some (.lst (vN ((rAt s js i).map (freeOf s)))) := by rw [upd_ne apa.2.1.symm]; exact hf2
    refine ⟨_,rfl,_,rfl,_,rfl,fr,_,_,pp,rfl,rfl,hf3,by rw [vN_len,List.length_map]; exact ixN_nat pl,?_⟩
    refine ⟨g3.set frH hf3 rfl,⟨as,?_⟩,?_,_,_,_,_,rfl⟩
    ·rw [rm,List.map_set,List.reverse_cons]
     exact hW3.free df
    ·rw [upd_same,rm,List.map_set]
     unfold vN
     rw [List.map_set]
     rfl
  ·rintro σ H' ⟨e,⟨as,hW⟩,hf,v4,v5,v6,v7,rfl⟩
   have et : rAt s js (vN js).length = Vbedai.rosterOf s js := by
    unfold rAt
    rw [vN_len,List.take_length]
   rw [et] at hW
   exact ⟨_,rfl,k d H' e hd ⟨as,hW.lst,hW.len,hW.at_⟩⟩
end
theorem dpI (K : W.Frag) (H : Hp) : ∀ r : List Nat,DpAll K H (vN r) (r.map fun (n : Nat) => PyData.int (n : Int))
 | [] => .nil
 | n :: r => .cons (.int _) (dpI K H r)
theorem dpR (K : W.Frag) {H : Hp} : ∀ {as : List Addr} {rows : List (List Nat)},as.length = rows.length -> (∀ (i : Nat) (a : Addr) (r : List Nat),as[i]? = some a -> rows[i]? = some r -> H a = some (.lst (vN r))) →
  DpAll K H (as.map V.ref) (rows.map fun r => PyData.list (r.map fun (n : Nat) => PyData.int (n : Int)))
 | [],[],_,_ => .nil
 | a :: as,r :: rows,hl,h => .cons (.lst (SqL.of (h 0 a r rfl rfl)) (dpI K H r)) (dpR K (by simpa using hl) fun i b q h1 h2 => h (i + 1) b q h1 h2)
theorem canI : ∀ r : List Nat,PyData.canLayAll0 (r.map fun (n : Nat) => PyData.int (n : Int)) = true
 | [] => rfl
 | n :: r => by
  show (PyData.canLay0 (.int _) && PyData.canLayAll0 _) = true
  rw [canI r]; rfl
theorem canR : ∀ rows : List (List Nat),PyData.canLayAll0 (rows.map fun r => PyData.list (r.map fun (n : Nat) => PyData.int (n : Int))) = true
 | [] => rfl
 | r :: rows => by
  show (PyData.canLayAll0 _ && PyData.canLayAll0 _) = true
  rw [canR rows,canI r]; rfl
theorem eqvN (rows : List (List Nat)) : PyData.eqv (.list (rows.map fun r => PyData.list (r.map fun (n : Nat) => PyData.int (n : Int)))) (.list []) = rows.isEmpty := by
 cases rows with
 | nil => rfl
 | cons a r => rfl
theorem shapedR (rows : List (List Nat)) : SeqAt.shaped (.list (rows.map fun r => PyData.list (r.map fun (n : Nat) => PyData.int (n : Int)))) = true := by
 unfold SeqAt.shaped
 rw [Bool.and_eq_true,decide_eq_true_eq]
 refine ⟨canR rows,?_⟩
 have h1 : ∀ r : List Nat,PyData.depthAll (r.map fun (n : Nat) => PyData.int (n : Int)) <= 1 := by
  intro r
  induction r with
  | nil => simp [PyData.depthAll]
  | cons n r ih => simp only [List.map_cons,PyData.depthAll,PyData.depth]; omega
 have h2 : PyData.depthAll (rows.map fun r => PyData.list (r.map fun (n : Nat) => PyData.int (n : Int))) <= 3 := by
  induction rows with
  | nil => simp [PyData.depthAll]
  | cons r rows ih =>
   simp only [List.map_cons,PyData.depthAll,PyData.depth]
   have := h1 r
   omega
 simp only [PyData.depth]
 omega
theorem people_end {s : State} {m : Vbedai.Roster} (hF : Full m) (hne : m ≠ []) : ∃ l,(m.map fun q => q.reverse)[m.length - 1]? = some l /\ ∃ j,l[0]? = some j /\ tOf s m = (shiftOf s j).a /\ l ∈ m.map fun q => q.reverse := by
 obtain ⟨x,hx⟩ : ∃ x,m.getLast? = some x := by
  cases e : m.getLast? with
  | none => rw [List.getLast?_eq_none_iff] at e; exact absurd e hne
  | some x => exact ⟨x,rfl⟩
 have hm : m[m.length - 1]? = some x := by rw [<- List.getLast?_eq_getElem?]; exact hx
 have xne := hF x (List.mem_of_getElem? hm)
 have e1 : (m.map fun q => q.reverse)[m.length - 1]? = some x.reverse := by rw [List.getElem?_map,hm]; rfl
 refine ⟨x.reverse,e1,x.getLastD 0,?_,?_,List.mem_of_getElem? e1⟩
 ·cases x with
  | nil => exact absurd rfl xne
  | cons a t =>
   rw [List.getElem?_reverse (by simp)]
   simp [List.getLastD_eq_getLast?,List.getLast?_eq_getElem?]
 ·unfold VM.tOf
  rw [hx]
theorem give_mem {s : State} {j : Nat} : ∀ {m : Vbedai.Roster} {l : List Nat} {i : Nat},l ∈ Vbedai.give s j m -> i ∈ l -> i = j ∨ ∃ l' ∈ m,i ∈ l'
 | [],l,i,h,hi => by
  simp [Vbedai.give] at h
  rw [h] at hi
  exact .inl (by simpa using hi)
 | q :: r,l,i,h,hi => by
  unfold Vbedai.give at h
  split at h
  ·rcases List.mem_cons.mp h with rfl | h
   ·rcases List.mem_cons.mp hi with z | z
    ·exact .inl z
    ·exact .inr ⟨q,by simp,z⟩
   ·exact .inr ⟨l,by simp [h],hi⟩
  ·rcases List.mem_cons.mp h with rfl | h
   ·exact .inr ⟨l,by simp,hi⟩
   ·rcases give_mem (m := r) h hi with z | ⟨l',h1,h2⟩
    ·exact .inl z
    ·exact .inr ⟨l',by simp [h1],h2⟩
theorem gives_mem {s : State} : ∀ {js : List Nat} {m : Vbedai.Roster} {l : List Nat} {i : Nat},l ∈ js.foldl (fun m j => Vbedai.give s j m) m -> i ∈ l -> i ∈ js ∨ ∃ l' ∈ m,i ∈ l'
 | [],m,l,i,h,hi => .inr ⟨l,h,hi⟩
 | j :: r,m,l,i,h,hi => by
  rw [List.foldl_cons] at h
  rcases gives_mem (js := r) h hi with z | ⟨l',h1,h2⟩
  ·exact .inl (by simp [z])
  ·rcases give_mem h1 h2 with z | z
   ·exact .inl (by simp [z])
   ·exact .inr z
theorem fm_take {rows : List (List Nat)} {i : Nat} {r : List Nat} (h : rows[i]? = some r) : (rows.take (i + 1)).flatMap Vbedai.listed = (rows.take i).flatMap Vbedai.listed ++ Vbedai.listed r := by
 rw [take_snoc h,List.flatMap_append]; simp
theorem flat_take_len (rows : List (List Nat)) (i : Nat) : ((rows.take i).flatMap Vbedai.listed).length <= rows.length + rows.flatten.length := by
 rw [fm_len]
 have e := congrArg List.flatten (List.take_append_drop i rows)
 rw [List.flatten_append] at e
 have := congrArg List.length e
 rw [List.length_append] at this
 rw [List.length_take]
 omega
abbrev s_people : Stmt := top 55
theorem sc_people : FnScope ["plan", "row", "crews", "rows", "first_of_last", "told", "shifts"] ["plan", "row"] (defScope s_people) := scM
section
variable {P : Program} {w : World} {G : Gd} {mg : Str -> Option Value} {base : Heap}
theorem ok_people {f : Addr} {fd : FuncData} (F : Fun G.K "people" "people" s_people f fd) (T : Txt mg G) (c_crews_of : Def P w G.K mg base "crews_of" 3 ["plan", "row"] (sp_crews_of G)) (c_handed_out : Def P w G.K mg base "handed_out" 2 ["plan", "taken"] (sp_handed_out G)) (c_one_by_one : Def P w G.K mg base "one_by_one" 5 ["plan", "crews"] (sp_one_by_one G)) (c_listed : Def P w G.K mg base "listed" 1 ["numbers"] (sp_listed G)) : FnOk P w G.K mg base CX0 6 f fd ["plan", "row"] (sp_people G) := by
 refine F.ok sc_people (fun vs H Q E h => ?_) (fun cdv A outer s0 H vs Q E hr h => ?_)
 ·obtain ⟨p,sa,s,r,row,rfl,hP,hr1,hl,k⟩ := h
  rfl
 ·have nd := sc_people.nd
  have hu64 := hr.units
  obtain ⟨p,sa,s,r,row,rfl,hP,hr1,hl,k⟩ := h
  refine ⟨_,(pss_cons (ps_set (i := 2) nd rfl (.inl rfl) (pe_cal c_crews_of (hr.mono (by decide)) rfl (pa_cons (pv 0) (pa_cons (pv 1) pa_nil))))
   (pss_cons (ps_if (pt_cmp (pc_isN (pv 2)))
   (pss_one (ps_ret (pe_lst (pa_cons (pe_gi rfl T.m_BAD_LIST) pa_nil))))
   pss_nil)
   (pss_cons (ps_if (pt_cmpR op_gt (pe_callB (sumK (K := G.K) rfl rfl) rfl T.b_sum boot_sum (pa_cons (pv 2) pa_nil)) (pe_gi rfl T.m_MOST_CREWS) (nomark _))
   (pss_one (ps_ret (pe_lst (pa_cons (pe_gi rfl T.m_TOO_MANY_CREWS) pa_nil))))
   pss_nil)
   (pss_cons (ps_set (i := 3) nd rfl (.inl rfl) (pe_cal c_handed_out (hr.mono (by decide)) rfl (pa_cons (pv 0) (pa_cons (pe_cal c_one_by_one (hr.mono (by decide)) rfl (pa_cons (pv 0) (pa_cons (pv 2) pa_nil))) pa_nil))))
   (pss_cons (ps_if (pt_cmpR (op_eqD hu64) (pv 3) (pe_lst pa_nil) (nomark _))
   (pss_one (ps_ret (pe_lst (pa_cons pe_int (pa_cons pe_int pa_nil)))))
   pss_nil)
   (pss_cons (ps_set (i := 4) nd rfl (.inl rfl) (pe_ix (ixL (K := G.K) rfl) (pe_ix (ixL (K := G.K) rfl) (pv 3) (pe_op op_sub (pe_callB (lenK (K := G.K) rfl) rfl T.b_len PySem.boot_len (pa_cons (pv 3) pa_nil)) pe_int) (fun _ _ => rfl)) pe_int (fun _ _ => rfl)))
   (pss_cons (ps_set (i := 5) nd rfl (.inl rfl) (pe_lst (pa_cons (pe_callB (lenK (K := G.K) rfl) rfl T.b_len PySem.boot_len (pa_cons (pv 3) pa_nil)) (pa_cons (pe_ix (ixT (K := G.K) rfl) (pe_ix (ixL (K := G.K) rfl) (fldK (K := G.K) rfl (pv 0) rfl) (pv 4) (fun _ _ => rfl)) pe_int (fun _ _ => rfl)) pa_nil))))
   (pss_cons (ps_for PassesOwn.never rfl (pi_list (pv 3)) (pg_name (i := 6) nd rfl (.inl rfl))
   (pss_one (ps_expr (pe_bm PySem.F.plainAttrs_list PySem.F.slot_list_extend PySem.F.type_list_extend mt_extend (pv 5) (pa_cons (pe_cal c_listed (hr.mono (by decide)) rfl (pa_cons (pv 6) pa_nil)) pa_nil)))))
   (pss_one (ps_ret (pv 5))))))))))),?_⟩
  refine ⟨_,rfl,_,rfl,p,sa,s,r,row,rfl,hP,hr1,hl,?_⟩
  rw [ans8] at k
  cases hx : crewsIn s row with
  | none =>
   rw [hx] at k
   intro H1 e1
   refine ⟨_,rfl,_,rfl,?_⟩
   refine iteT ?_
   refine ⟨(by show 1 <= sizeLine; decide),fun a ha => ?_⟩
   refine k a _ (e1.new2 ha) (e1.free a ha) ?_
   rw [upd_same]; rfl
  | some x =>
   rw [hx] at k
   dsimp only at k
   have ix := (crewsIn_ok s row x).mp hx
   have hin := isCrews_in ix
   intro c H1 e1 hc hc'
   refine ⟨_,rfl,_,rfl,?_⟩
   refine iteF ?_
   refine ⟨_,rfl,c,_,rfl,SqL.of hc',_,_,rfl,rfl,_,rfl,?_⟩
   rw [onAll_sum hin,show Vbedai.nat (total x) = ((total x : Nat) : Int) from rfl]
   by_cases h300 : 300 < total x
   ·rw [if_pos h300] at k
    rw [show decide ((300 : Int) < ((total x : Nat) : Int)) = true by simp; omega]
    refine iteT ?_
    refine ⟨(by show 1 <= sizeLine; decide),fun a ha => ?_⟩
    refine k a _ (e1.new2 ha) (e1.free a ha) ?_
    rw [upd_same]; rfl
   ·rw [if_neg h300,people_eq] at k
    rw [show decide ((300 : Int) < ((total x : Nat) : Int)) = false by simp; omega]
    refine iteF ?_
    have jsl := each_len (s := s) (x := x)
    refine ⟨_,rfl,_,rfl,_,rfl,p,sa,s,c,x,rfl,hP.ext e1,hc',hin,by omega,fun tk H2 e2 htk htk' => ?_⟩
    rw [<- vN_vI] at htk'
    refine ⟨p,sa,s,tk,_,rfl,hP.ext (e1.trans e2),htk',each_lt hin,by omega,fun d H3 e3 hd hR => ?_⟩
    have g3 := (e1.trans e2).trans e3
    have rle := roster_len s x
    generalize hm : Vbedai.rosterOf s (Vbedai.each s x) = m at k hR rle
    have hF : Full m := by rw [<- hm]; exact gives_full _ (by intro l hl; cases hl)
    obtain ⟨as,h1,h2,h3⟩ := hR
    rw [List.length_map] at h2
    have rfl' : (m.map fun q => q.reverse).flatten.length = m.flatten.length := flatten_rev m
    refine ⟨_,rfl,Nat.zero_le _,fun z hz => ?_⟩
    have f1 : Ext G.L H3 (upd H3 z (.lst [])) := Ext.new hz
    refine ⟨_,_,.lst (SqL.of (f1.lst h1)) (dpR G.K (rows := m.map fun q => q.reverse) (by rw [List.length_map]; exact h2) fun i a q q1 q2 => f1.lst (h3 i a q q1 q2)),.lst (SqL.of upd_same) .nil,shapedR _,rfl,_,rfl,?_⟩
    rw [eqvN]
    have g4 := g3.trans f1
    cases m with
    | nil =>
     refine iteT ?_
     refine ⟨(by show 2 <= sizeLine; decide),fun a ha => ?_⟩
     refine k a _ (g4.new2 ha) (g4.free a ha) ?_
     rw [upd_same]; rfl
    | cons m0 mr =>
     refine iteF ?_
     generalize hmm : m0 :: mr = m at *
     have hne : m ≠ [] := by rw [<- hmm]; simp
     obtain ⟨lr,hl1,j,hj,htj,hlm⟩ := people_end (s := s) hF hne
     obtain ⟨al,hal⟩ : ∃ a,as[m.length - 1]? = some a := ⟨_,List.getElem?_eq_getElem (by rw [h2]; have := List.length_pos_iff.mpr hne; omega)⟩
     have hlr := h3 _ al lr hal hl1
     have jn : j < s.shifts.length := by
      obtain ⟨q,hq1,hq2⟩ := List.mem_map.mp hlm
      have jq : j ∈ q := by
       have := List.mem_of_getElem? hj
       rw [<- hq2,List.mem_reverse] at this
       exact this
      rw [<- hm] at hq1
      rcases gives_mem hq1 jq with z | ⟨l',h1',_⟩
      ·exact each_lt hin j z
      ·cases h1'
     have mlen : ((as.map V.ref).length : Int) = (m.length : Int) := by rw [List.length_map,h2]
     have ml1 : (m.length : Int) - 1 = ((m.length - 1 : Nat) : Int) := by have := List.length_pos_iff.mpr hne; omega
     refine ⟨_,rfl,_,rfl,d,_,rfl,.inl (SqL.of (f1.lst h1)),_,_,rfl,rfl,d,_,_,V.ref al,rfl,rfl,SqL.of (f1.lst h1),at_of (j := m.length - 1) (by rw [mlen]; exact ml1) (by rw [List.getElem?_map,hal]; rfl),al,_,_,V.int (j : Int),rfl,rfl,SqL.of (f1.lst hlr),atI_nat (j := 0) (by rw [List.getElem?_map,hj]; rfl),?_⟩
     have hP4 := hP.ext g4
     obtain ⟨dx,ca,hp,hca,nca⟩ := hP4.ex
     obtain ⟨xs,hx1,hxl,hxg⟩ := sh_get hP4.sh
     obtain ⟨b,hb1,hb2⟩ := hxg j jn
     refine ⟨_,rfl,d,_,rfl,.inl (SqL.of (f1.lst h1)),?_⟩
     refine ⟨_,rfl,p,G.CP,dx,_,_,rfl,hp,T.clP,T.nP_shifts,pf_shifts _ _ _,_,rfl,sa,_,_,_,rfl,rfl,SqL.of hx1,hb1,b,_,_,_,rfl,rfl,SqT.of hb2,atI_nat (j := 0) rfl,(by show 2 <= sizeLine; decide),fun t ht => ?_⟩
     have f2 : Ext G.L _ (upd (upd H3 z (.lst [])) t (.lst [.int ((as.map V.ref).length : Int),.int ((shiftOf s j).a : Int)])) := Ext.new (L := G.L) ht
     have tH : H t = none := g4.free t ht
     refine ⟨_,rfl,d,rfl,⟨_,SqL.of ((f1.trans f2).lst h1)⟩,for_list (K := G.K) (a := d) (xs := as.map V.ref) (fun i σ H' => Ext G.L H3 H' /\ H' t = some (.lst (vI ((m.length : Int) :: (tOf s m : Int) :: ((m.map fun q => q.reverse).take i).flatMap Vbedai.listed))) /\ ∃ v4 v6,σ = [some (.ref p),some (.ref r),some (.ref c),some (.ref d),v4,some (.ref t),v6])
      ⟨f1.trans f2,?_,_,none,rfl⟩ (fun i σ H' _ ⟨e,_⟩ => SqL.of (e.lst h1)) ?_ ?_⟩
     ·rw [upd_same,mlen,htj]; rfl
     ·rintro i y σ H' hi ⟨e,ht',v4,v6,rfl⟩
      obtain ⟨a,rr,rfl,ha,hrr⟩ : ∃ a rr,y = .ref a /\ as[i]? = some a /\ (m.map fun q => q.reverse)[i]? = some rr := by
       rw [List.getElem?_map] at hi
       cases ea : as[i]? with
       | none => rw [ea] at hi; cases hi
       | some a =>
        rw [ea] at hi
        have il : i < (m.map fun q => q.reverse).length := by rw [List.length_map,← h2]; exact (List.getElem?_eq_some_iff.mp ea).1
        exact ⟨a,_,(Option.some.inj hi).symm,rfl,List.getElem?_eq_getElem il⟩
      have har := e.lst (h3 i a rr ha hrr)
      rw [vN_vI] at har
      have rrl : rr.length <= 300 := by
       have := List.mem_of_getElem? hrr
       obtain ⟨l1,l2,hl12⟩ := List.append_of_mem this
       have z := congrArg (fun q => (List.flatten q).length) hl12
       simp only [List.flatten_append,List.flatten_cons,List.length_append] at z
       rw [rfl'] at z
       omega
      have tl := flat_take_len (m.map fun q => q.reverse) i
      rw [rfl',List.length_map] at tl
      refine ⟨_,rfl,.inl ⟨rfl,_,SqL.of ht'⟩,_,rfl,a,_,rfl,har,by rw [List.length_map]; omega,fun b2 H5 e5 hb2' hb2'' => ?_⟩
      refine ⟨t,b2,_,_,rfl,rfl,e5.lst ht',hb2'',?_,?_⟩
      ·rw [vI_len,vI_len,List.length_cons,List.length_cons,List.length_cons,List.length_map,sizeLine_eq]; omega
      ·refine ⟨(e.trans e5).set (g3.free t (by
        have := upd_free ht; exact this) |> fun _ => upd_free ht) (e5.lst ht') rfl,?_,_,_,rfl⟩
       rw [upd_same,fm_take hrr,listed_eq,vI_app]
       rfl
     ·rintro σ H' ⟨e,ht',v4,v6,rfl⟩
      rw [List.length_map,h2,List.take_of_length_le (by rw [List.length_map]; exact Nat.le_refl _)] at ht'
      refine ⟨_,rfl,k t H' (g3.trans e) tH ?_⟩
      rw [ht',List.length_map]
end
theorem TabsOk.set {L : List Tbl} {H : Hp} {D : Addr} {o : HO} (h : TabsOk L H) (hD : ∀ u,H D = some u -> plain u = true) : TabsOk L (upd H D o) := fun t ht => (h t ht).set hD
theorem lstT_nil {H : Hp} {l : Addr} (h : H l = some (.lst [])) : LstT H l [] := ⟨[],h,rfl,fun i a p e => by simp at e⟩
theorem RetC.same {G : Gd} {H : Hp} {Q : VK} {p sa : Addr} {s s' : State} {ns : List Int} (k : RetC G H Q p sa s' ns) (hP : PlanAt G H p sa s) (es : s' = s) : RetL G H Q ns := by
 intro q H' e hq hq'
 subst es
 obtain ⟨xs,hx,_⟩ := hP.sh.at
 refine k q H' sa (hP.ext e) (.inl rfl) hq (fun z => by rw [z,hx] at hq; cases hq) hq' fun b o e1 t _ _ => e.1 b o e1 t
theorem one_ret {G : Gd} {H : Hp} {Q : VK} {z : Int} (k : RetL G H Q [z]) : ∀ a,H a = none -> Q (.ref a) (upd H a (.lst [.int z])) := fun a ha => k a _ (Ext.new ha) ha (by rw [upd_same]; rfl)
theorem LstT.upd {H : Hp} {l D : Addr} {ps : List (List Int)} {o : HO} (h : LstT H l ps) (hl : l ≠ D) (ht : ∀ xs,H D ≠ some (.tup xs)) : LstT (upd H D o) l ps := by
 obtain ⟨as,h1,h2,h3⟩ := h
 refine ⟨as,by rw [upd_ne hl]; exact h1,h2,fun i a p e1 e2 => ?_⟩
 have z := h3 i a p e1 e2
 rw [upd_ne (fun y => by rw [y] at z; exact ht _ z)]
 exact z
abbrev s_begin : Stmt := top 62
theorem sc_begin : FnScope ["plan", "horizon", "rest"] ["plan", "horizon", "rest"] (defScope s_begin) := scM
section
variable {P : Program} {w : World} {G : Gd} {mg : Str -> Option Value} {base : Heap}
theorem ok_begin {f : Addr} {fd : FuncData} (F : Fun G.K "begin" "begin" s_begin f fd) (T : Txt mg G) (c_within : Def P w G.K mg base "within" 1 ["number", "low", "high"] sp_within) : FnOk P w G.K mg base CX0 2 f fd ["plan", "horizon", "rest"] (sp_begin G) := by
 refine F.ok sc_begin (fun vs H Q E h => ?_) (fun cdv A outer s0 H vs Q E hr h => ?_)
 ·obtain ⟨p,sa,s,a,b,rfl,hP,k⟩ := h
  rfl
 ·have nd := sc_begin.nd
  have hu := hu_of hr
  obtain ⟨p,sa,s,a,b,rfl,hP,k⟩ := h
  refine ⟨_,(pss_cons (ps_if (PW.pt (pw_or (pt_not (pt_val (pe_cal c_within (hr.mono (by decide)) rfl (pa_cons (pv 1) (pa_cons pe_int (pa_cons (pe_gi rfl T.m_MOST_MINUTES) pa_nil)))))) (pw_or1 (pt_not (pt_val (pe_cal c_within (hr.mono (by decide)) rfl (pa_cons (pv 2) (pa_cons pe_int (pa_cons (pe_gi rfl T.m_MOST_MINUTES) pa_nil)))))))))
   (pss_one (ps_ret (pe_lst (pa_cons (pe_gi rfl T.m_OUT_OF_RANGE) pa_nil))))
   pss_nil)
   (pss_cons (ps_fld (pv 0) (pv 1) rfl)
   (pss_cons (ps_fld (pv 0) (pv 2) rfl)
   (pss_cons (ps_fld (pv 0) (pe_lst pa_nil) rfl)
   (pss_cons (ps_fld (pv 0) (pe_lst pa_nil) rfl)
   (pss_one (ps_ret (pe_lst (pa_cons pe_int pa_nil))))))))),?_⟩
  have est : stOf s [[0,a,b]] = (if (inR a 1 1000000 && inR b 0 1000000) = false then (s,[-1]) else (⟨a.toNat,[],[],b.toNat⟩,[0]) : State × List Int).1 := rfl
  have ean : ansOf s [[0,a,b]] = (if (inR a 1 1000000 && inR b 0 1000000) = false then (s,[-1]) else (⟨a.toNat,[],[],b.toNat⟩,[0]) : State × List Int).2 := rfl
  have bad : (inR a 1 1000000 && inR b 0 1000000) = false -> ∀ q,H q = none -> Q (.ref q) (upd H q (.lst [.int (-1)])) := fun z => by
   rw [ean,est,if_pos z] at k
   exact one_ret (k.same hP rfl)
  refine ⟨_,rfl,a,1,1000000,rfl,_,rfl,?_⟩
  cases q1 : inR a 1 1000000 with
  | false =>
   refine iteT ?_
   refine iteT ?_
   exact ⟨(by show 1 <= sizeLine; decide),bad (by rw [q1]; rfl)⟩
  | true =>
   refine iteF ?_
   refine ⟨_,rfl,b,0,1000000,rfl,_,rfl,?_⟩
   cases q2 : inR b 0 1000000 with
   | false =>
    refine iteT ?_
    exact ⟨(by show 1 <= sizeLine; decide),bad (by rw [q1,q2]; rfl)⟩
   | true =>
    refine iteF ?_
    have wf' := wf_step hP.wf [[0,a,b]]
    have wf2 : Wf (stOf s [[0,a,b]]) := wf'
    rw [est,if_neg (by rw [q1,q2]; simp)] at wf2
    rw [ean,est,if_neg (by rw [q1,q2]; simp)] at k
    have ha : ((a.toNat : Nat) : Int) = a := Int.toNat_of_nonneg (by have := (inR_iff _ _ _).mp q1; omega)
    have hb : ((b.toNat : Nat) : Int) = b := Int.toNat_of_nonneg (by have := (inR_iff _ _ _).mp q2; omega)
    obtain ⟨dx,ca,hp,hca,nca⟩ := hP.ex
    obtain ⟨xs,hx,_⟩ := hP.sh.at
    refine ⟨_,rfl,_,rfl,p,G.CP,dx,_,rfl,hp,T.clP,T.nP_horizon,(by show 4 < 1000; decide),?_⟩
    refine ⟨_,rfl,_,rfl,p,G.CP,dx,_,rfl,upd_same,T.clP,T.nP_rest,(by show 4 < 1000; decide),?_⟩
    refine ⟨Nat.zero_le _,fun c hc => ?_⟩
    have c0 : H c = none := upd_free (upd_free hc)
    have cp : c ≠ p := fun z => by rw [z,hp] at c0; cases c0
    refine ⟨_,rfl,p,G.CP,dx,_,rfl,(by rw [upd_ne cp.symm]; exact upd_same),T.clP,T.nP_changes,(by show 4 < 1000; decide),?_⟩
    refine ⟨Nat.zero_le _,fun d hd => ?_⟩
    have d1 := upd_free hd
    have dc : d ≠ c := fun z => by rw [z,upd_same] at d1; cases d1
    have d0 : H d = none := upd_free (upd_free (upd_free d1))
    have dp : d ≠ p := fun z => by rw [z,hp] at d0; cases d0
    refine ⟨_,rfl,p,G.CP,dx,_,rfl,(by rw [upd_ne dp.symm]; exact upd_same),T.clP,T.nP_shifts,(by show 4 < 1000; decide),?_⟩
    refine ⟨(by show 1 <= sizeLine; decide),fun q hq => ?_⟩
    have q0 : H q = none := upd_free (upd_free (upd_free (upd_free (upd_free (upd_free hq)))))
    have qp : q ≠ p := fun z => by rw [z,hp] at q0; cases q0
    have qd : q ≠ d := fun z => by have := upd_free hq; rw [z,upd_same] at this; cases this
    have qc : q ≠ c := fun z => by
     have y := upd_free (upd_free (upd_free hq))
     rw [z,upd_same] at y; cases y
    refine k q _ d ⟨wf2,?_,?_,dx,c,?_,?_,dc.symm⟩ (.inr d0) q0 qd ?_ fun x o e t xp xs' => ?_
    ·refine ((((((hP.tabs.set ?_).set ?_).set ?_).set ?_).set ?_).set ?_).set ?_
     ·intro u hu; rw [hp] at hu; cases hu; rfl
     ·intro u hu; rw [upd_same] at hu; cases hu; rfl
     ·intro u hu; rw [hc] at hu; cases hu
     ·intro u hu; rw [upd_ne cp.symm,upd_same] at hu; cases hu; rfl
     ·intro u hu; rw [hd] at hu; cases hu
     ·intro u hu; rw [upd_ne dp.symm,upd_same] at hu; cases hu; rfl
     ·intro u hu; rw [hq] at hu; cases hu
    ·exact lstT_nil (by rw [upd_ne qd.symm,upd_ne dp,upd_same])
    ·rw [upd_ne qp.symm,upd_same]
     unfold pf
     rw [ha,hb]; rfl
    ·exact lstT_nil (by rw [upd_ne qc.symm,upd_ne cp,upd_ne dc.symm,upd_ne cp,upd_same])
    ·rw [upd_same]; rfl
    ·rw [upd_ne (fun z => by rw [z,q0] at e; cases e),upd_ne xp,upd_ne (fun z => by rw [z,d0] at e; cases e),upd_ne xp,upd_ne (fun z => by rw [z,c0] at e; cases e),upd_ne xp,upd_ne xp]
     exact e
end
abbrev s_add_shift : Stmt := top 64
theorem sc_add_shift : FnScope ["plan", "a", "b"] ["plan", "a", "b"] (defScope s_add_shift) := scM
section
variable {P : Program} {w : World} {G : Gd} {mg : Str -> Option Value} {base : Heap}
theorem ok_add_shift {f : Addr} {fd : FuncData} (F : Fun G.K "add_shift" "add_shift" s_add_shift f fd) (T : Txt mg G) (c_within : Def P w G.K mg base "within" 1 ["number", "low", "high"] sp_within) : FnOk P w G.K mg base CX0 2 f fd ["plan", "a", "b"] (sp_add_shift G) := by
 refine F.ok sc_add_shift (fun vs H Q E h => ?_) (fun cdv A outer s0 H vs Q E hr h => ?_)
 ·obtain ⟨p,sa,s,a,b,rfl,hP,k⟩ := h
  rfl
 ·have nd := sc_add_shift.nd
  have hu := hu_of hr
  obtain ⟨p,sa,s,a,b,rfl,hP,k⟩ := h
  refine ⟨_,(pss_cons (ps_if (PW.pt (pw_or (pt_not (pt_val (pe_cal c_within (hr.mono (by decide)) rfl (pa_cons (pv 1) (pa_cons pe_int (pa_cons (fldK (K := G.K) rfl (pv 0) rfl) pa_nil)))))) (pw_or1 (pt_not (pt_val (pe_cal c_within (hr.mono (by decide)) rfl (pa_cons (pv 2) (pa_cons pe_int (pa_cons (fldK (K := G.K) rfl (pv 0) rfl) pa_nil)))))))))
   (pss_one (ps_ret (pe_lst (pa_cons (pe_gi rfl T.m_OUT_OF_RANGE) pa_nil))))
   pss_nil)
   (pss_cons (ps_if (pt_cmpR op_le (pv 2) (pv 1) (nomark _))
   (pss_one (ps_ret (pe_lst (pa_cons (pe_gi rfl T.m_NOT_GREATER) pa_nil))))
   pss_nil)
   (pss_cons (ps_if (pt_cmpR op_ge (pe_callB (lenK (K := G.K) rfl) rfl T.b_len PySem.boot_len (pa_cons (fldK (K := G.K) rfl (pv 0) rfl) pa_nil)) (pe_gi rfl T.m_MOST_SHIFTS) (nomark _))
   (pss_one (ps_ret (pe_lst (pa_cons (pe_gi rfl T.m_NO_MORE_SHIFTS) pa_nil))))
   pss_nil)
   (pss_cons (ps_expr (pe_bm PySem.F.plainAttrs_list PySem.F.slot_list_append PySem.F.type_list_append mt_append (fldK (K := G.K) rfl (pv 0) rfl) (pa_cons (pe_tup (pa_cons (pv 1) (pa_cons (pv 2) pa_nil))) pa_nil)))
   (pss_one (ps_ret (pe_lst (pa_cons (pe_op op_sub (pe_callB (lenK (K := G.K) rfl) rfl T.b_len PySem.boot_len (pa_cons (fldK (K := G.K) rfl (pv 0) rfl) pa_nil)) pe_int) pa_nil)))))))),?_⟩
  have e2 := step2 s a b
  have ean : ansOf s [[2,a,b]] = (Vbedai.step s [[2,a,b]]).2 := rfl
  have est : stOf s [[2,a,b]] = (Vbedai.step s [[2,a,b]]).1 := rfl
  have wf2 : Wf (Vbedai.step s [[2,a,b]]).1 := wf_step hP.wf [[2,a,b]]
  rw [ean,est] at k
  obtain ⟨dx,ca,hp,hca,nca⟩ := hP.ex
  have bad : ∀ z : Int,Vbedai.step s [[2,a,b]] = (s,[z]) -> ∀ q,H q = none -> Q (.ref q) (upd H q (.lst [.int z])) := fun z ez => by
   rw [ez] at k
   exact one_ret (k.same hP rfl)
  have fld : ∀ {R : V -> Hp -> Prop},R (.int (s.horizon : Int)) H -> (tFld G.K (tVar 0) "horizon") [some (.ref p),some (.int a),some (.int b)] H R := fun h => ⟨_,rfl,p,G.CP,dx,_,_,rfl,hp,T.clP,T.nP_horizon,pf_horizon _ _ _,h⟩
  refine ⟨_,rfl,_,rfl,p,G.CP,dx,_,_,rfl,hp,T.clP,T.nP_horizon,pf_horizon _ _ _,a,0,_,rfl,_,rfl,?_⟩
  cases q1 : inR a 0 (s.horizon : Int) with
  | false =>
   refine iteT ?_
   refine iteT ?_
   exact ⟨(by show 1 <= sizeLine; decide),bad (-1) (by rw [e2,if_pos (by rw [q1]; rfl)])⟩
  | true =>
   refine iteF ?_
   refine ⟨_,rfl,_,rfl,p,G.CP,dx,_,_,rfl,hp,T.clP,T.nP_horizon,pf_horizon _ _ _,b,0,_,rfl,_,rfl,?_⟩
   cases q2 : inR b 0 (s.horizon : Int) with
   | false =>
    refine iteT ?_
    exact ⟨(by show 1 <= sizeLine; decide),bad (-1) (by rw [e2,if_pos (by rw [q1,q2]; rfl)])⟩
   | true =>
    refine iteF ?_
    rw [if_neg (by rw [q1,q2]; simp)] at e2
    refine ⟨_,rfl,_,rfl,_,_,rfl,rfl,_,rfl,?_⟩
    by_cases c4 : b <= a
    ·rw [show decide (b <= a) = true by simp [c4]]
     refine iteT ?_
     exact ⟨(by show 1 <= sizeLine; decide),bad (-4) (by rw [e2,if_pos c4])⟩
    ·rw [show decide (b <= a) = false by simp [c4]]
     refine iteF ?_
     rw [if_neg c4] at e2
     obtain ⟨as,hx,hxl,hxa⟩ := hP.sh
     have hxn : as.length = s.shifts.length := by rw [hxl,shP_len]
     refine ⟨_,rfl,p,G.CP,dx,_,_,rfl,hp,T.clP,T.nP_shifts,pf_shifts _ _ _,sa,_,rfl,.inl (SqL.of hx),_,_,rfl,rfl,_,rfl,?_⟩
     rw [List.length_map,hxn]
     by_cases c60 : 60 <= s.shifts.length
     ·rw [show decide ((60 : Int) <= (s.shifts.length : Int)) = true by simp; omega]
      refine iteT ?_
      exact ⟨(by show 1 <= sizeLine; decide),bad (-6) (by rw [e2,if_pos c60])⟩
     ·rw [show decide ((60 : Int) <= (s.shifts.length : Int)) = false by simp; omega]
      refine iteF ?_
      rw [if_neg c60] at e2
      rw [e2] at k wf2
      have ha : ((a.toNat : Nat) : Int) = a := Int.toNat_of_nonneg (by have := (inR_iff _ _ _).mp q1; omega)
      have hb : ((b.toNat : Nat) : Int) = b := Int.toNat_of_nonneg (by have := (inR_iff _ _ _).mp q2; omega)
      refine ⟨_,rfl,p,G.CP,dx,_,_,rfl,hp,T.clP,T.nP_shifts,pf_shifts _ _ _,.inl ⟨rfl,_,SqL.of hx⟩,_,rfl,_,rfl,(by show 2 <= sizeLine; decide),fun t ht => ?_⟩
      have f1 : Ext G.L H (upd H t (.tup [.int a,.int b])) := Ext.new ht
      refine ⟨sa,_,_,rfl,rfl,f1.lst hx,by rw [List.length_map,hxn,sizeLine_eq]; omega,?_⟩
      have sp' : sa ≠ p := fun z => by rw [z,hp] at hx; cases hx
      have tp : t ≠ p := fun z => by rw [z,hp] at ht; cases ht
      have ts : t ≠ sa := fun z => by rw [z,hx] at ht; cases ht
      have hp2 : (upd (upd H t (.tup [.int a,.int b])) sa (.lst (as.map V.ref ++ [.ref t]))) p = some (.ins G.CP dx (pf s ca sa)) := by rw [upd_ne sp'.symm]; exact f1.ins hp
      refine ⟨_,rfl,p,G.CP,dx,_,_,rfl,hp2,T.clP,T.nP_shifts,pf_shifts _ _ _,sa,_,rfl,.inl (SqL.of upd_same),_,_,rfl,rfl,(by show 1 <= sizeLine; decide),fun q hq => ?_⟩
      have q1' := upd_free (upd_free hq)
      have qt : q ≠ t := fun z => by have y := upd_free hq; rw [z,upd_same] at y; cases y
      have qs : q ≠ sa := fun z => by rw [z,upd_same] at hq; cases hq
      have qp : q ≠ p := fun z => by rw [z,hp] at q1'; cases q1'
      obtain ⟨ys,hy,_⟩ := hca.at
      have nl : ∀ xs,(upd H t (.tup [.int a,.int b])) sa ≠ some (.tup xs) := fun xs z => by rw [f1.lst hx] at z; cases z
      refine k q _ sa ⟨wf2,?_,?_,dx,ca,?_,?_,nca⟩ (.inl rfl) q1' qs ?_ fun x o e tt xp xs' => ?_
      ·refine ((hP.tabs.set ?_).set ?_).set ?_
       ·intro u hu; rw [ht] at hu; cases hu
       ·intro u hu; rw [f1.lst hx] at hu; cases hu; rfl
       ·intro u hu; rw [hq] at hu; cases hu
      ·refine ⟨as ++ [t],by rw [upd_ne qs.symm,upd_same,List.map_append]; rfl,?_⟩
       have hs : TupsAt (upd H t (.tup [.int a,.int b])) (as ++ [t]) (shP s ++ [[((a.toNat : Nat) : Int),((b.toNat : Nat) : Int)]]) := tups_snoc ⟨hxl,hxa⟩ f1 (by rw [upd_same,ha,hb]; rfl)
       have es : shP { s with shifts := s.shifts ++ [⟨a.toNat,b.toNat⟩] } = shP s ++ [[((a.toNat : Nat) : Int),((b.toNat : Nat) : Int)]] := by unfold shP; rw [List.map_append]; rfl
       show TupsAt _ _ (shP { s with shifts := s.shifts ++ [⟨a.toNat,b.toNat⟩] })
       rw [es]
       exact tups_ext (tups_upd hs (f1.lst hx)) (Ext.new (L := G.L) hq)
      ·rw [upd_ne qp.symm]; exact hp2
      ·refine ((hca.upd (fun z => by rw [z,ht] at hy; cases hy) (fun xs z => by rw [ht] at z; cases z)).upd nca nl).upd (fun z => by rw [<- z,hy] at q1'; cases q1') (fun xs z => by rw [hq] at z; cases z)
      ·rw [upd_same,List.length_append,List.length_map,hxn,List.length_singleton]
       show some (HO.lst [V.int (((s.shifts.length + 1 : Nat) : Int) - 1)]) = some (HO.lst [V.int (s.shifts.length : Int)])
       congr 3
       simp
      ·rw [upd_ne (fun z => by rw [z,q1'] at e; cases e),upd_ne xs',upd_ne (fun z => by rw [z,ht] at e; cases e)]
       exact e
end
end Cs
end
section
set_option Elab.async false
set_option linter.all false
set_option maxRecDepth 100000
set_option maxHeartbeats 4000000
namespace Cs
open PySem PySem.Spec PyProof.Rows L2
open Vbedai (State need points shiftOf on numbers there total gathered lastEnd firstStart bare eased does leastK missing crewsIn changesIn minutesIn okJ okT inR)
open VM
open PySem.W (kla_fn CodeHd)
structure FunC (K : W.Frag) (x qual : Str) (st : Stmt) (f : Addr) (fd : FuncData) (c : Addr) : Prop where
 ex : ∃ (oc : Value) (od : Option Addr) (kV doc pm : Value) (an : Option Addr) (ct : Value) (osl : Array (Option Value)),
  fd = W.fnOf x qual (defArgs st) (defBody st) (defScope st) .none kV doc pm an (.ref c) ct /\ K.lookup f = some ⟨oc,od,.func fd,osl⟩ /\ W.codeIn K (.ref c) qual = true
 kp : W.keepIn K (.ref f) = true
theorem FunC.ok {P : Program} {w : World} {K : W.Frag} {mg : Str -> Option Value} {base : Heap} {x qual : Str} {st : Stmt} {f c : Addr} {fd : FuncData} {N ps : List Str} {k : Nat} {sp : Sp} (F : FunC K x qual st f fd c) (S : FnScope N ps (defScope st)) (len : ∀ vs H Q E,sp vs H Q E -> vs.length = ps.length)
  (hbody : ∀ (A : Around) (outer : List Env) (s : Shared) (H : Hp) (vs : List V) (Q : VK) (E : XK),Room k (A.deeper (envOfC qual (defScope st) s.heap.objs.size f (.ref c))) -> sp vs H Q E →
   ∃ t,PSs (cxOf CX0 P w K mg base N qual (defScope st) f (.ref c) A outer s H E).nox (defBody st) t /\ t { nx := fun _ H' => Q .non H',rt := Q } (start N vs) H) : FnOk P w K mg base CX0 (k + 1) f fd ps sp := by
 obtain ⟨oc,od,kV,doc,pm,an,ct,osl,rfl,lk,hcd⟩ := F.ex
 refine fn_of lk hcd S len fun A outer s H vs Q E hr hsp => ?_
 obtain ⟨t,h,q⟩ := hbody A outer s H vs Q E hr hsp
 exact ⟨t,h.nox,q⟩
theorem lamOk2 {x y q : Str} {params : Arguments} {body : Expr} {scope : Scope} (hn : scope.names = [(x,.local),(y,.free)]) (hxy : x ≠ y) (k : scope.kind = .function) (co : scope.isCoroutine = false) (gen : scope.isGenerator = false)
  (b : ∀ (cl : List (Str × Addr)) (pm cd ct u : Value),bindArgs (kla_fn "<lambda>" q params body scope cl pm cd ct) ⟨[u],[]⟩ = pure [(x,u)]) : LamOk x y q params body scope := by
 have hb : (y == x) = false := beq_eq_false_iff_ne.mpr fun z => hxy z.symm
 refine ⟨k,co,gen,?_,?_,?_,fun z hz => ?_,hxy,b⟩
 ·rw [hn]; simp
 ·rw [hn]; simp [List.lookup,hb]
 ·rw [hn]; intro z hz
  rcases List.mem_cons.mp hz with rfl | hz
  ·simp
  ·rw [List.mem_singleton] at hz; rw [hz]; simp
 ·rw [hn] at hz
  by_cases e : z = x
  ·subst e; simp at hz
  ·have e1 : (z == x) = false := beq_eq_false_iff_ne.mpr e
   by_cases e2 : z = y
   ·exact e2
   ·have e3 : (z == y) = false := beq_eq_false_iff_ne.mpr e2
    simp [List.lookup,e1,e3] at hz
theorem clo2 {x y : Str} {scope : Scope} (hn : scope.names = [(x,.local),(y,.free)]) (cells : List (Str × Addr)) : cloFrom cells scope.names [] = [(y,(cells.lookup y).getD 0)] := by
 rw [hn]; rfl
theorem free2 {x y : Str} {scope : Scope} (hn : scope.names = [(x,.local),(y,.free)]) : ∀ z ∈ scope.names,z.2 = .free -> z.1 = y := by
 rw [hn]
 intro z hz e
 rcases List.mem_cons.mp hz with rfl | hz
 ·cases e
 ·rw [List.mem_singleton] at hz; rw [hz]
structure Lams (G : Gd) (mg : Str -> Option Value) (base : Heap) (x : Str) (c : Addr) (pos : Pos) : Prop where
 bm : BM mg base
 tab : ∃ P,CodeHd base c P /\ (P,pos,(x ++ ".<locals>.") ++ "<lambda>") ∈ G.L /\ ∀ t ∈ G.L,t.1 = P -> t = (P,pos,(x ++ ".<locals>.") ++ "<lambda>")
theorem fold_max (s : State) : ∀ (ns : List Nat) (o : Option Nat),ns.foldl (maxStep fun j => ((shiftOf s j).b : Int)) o = ns.foldl (lastStep s) o
 | [],_ => rfl
 | n :: r,o => by
  rw [List.foldl_cons,List.foldl_cons,fold_max s r]
  congr 1
  cases o with
  | none => rfl
  | some b =>
   show (if ((shiftOf s b).b : Int) < ((shiftOf s n).b : Int) then some n else some b) = if (shiftOf s b).b < (shiftOf s n).b then some n else some b
   by_cases c : (shiftOf s b).b < (shiftOf s n).b
   ·rw [if_pos c,if_pos (by omega)]
   ·rw [if_neg c,if_neg (by omega)]
theorem fold_min (s : State) : ∀ (ns : List Nat) (o : Option Nat),ns.foldl (minStep fun j => ((shiftOf s j).a : Int)) o = ns.foldl (firstStep s) o
 | [],_ => rfl
 | n :: r,o => by
  rw [List.foldl_cons,List.foldl_cons,fold_min s r]
  congr 1
  cases o with
  | none => rfl
  | some b =>
   show (if ((shiftOf s n).a : Int) < ((shiftOf s b).a : Int) then some n else some b) = if (shiftOf s n).a < (shiftOf s b).a then some n else some b
   by_cases c : (shiftOf s n).a < (shiftOf s b).a
   ·rw [if_pos c,if_pos (by omega)]
   ·rw [if_neg c,if_neg (by omega)]
theorem rOpt_optV (o : Option Nat) : rOpt o = optV o := by cases o <;> rfl
abbrev s_last_to_end : Stmt := top 31
theorem sc_last_to_end : FnScope ["shifts", "numbers"] ["shifts", "numbers"] (defScope s_last_to_end) := scM
abbrev s_first_to_begin : Stmt := top 32
theorem sc_first_to_begin : FnScope ["shifts", "numbers"] ["shifts", "numbers"] (defScope s_first_to_begin) := scM
section
variable {P : Program} {w : World} {G : Gd} {mg : Str -> Option Value} {base : Heap}
theorem ok_last_to_end {f c : Addr} {fd : FuncData} (F : FunC G.K "last_to_end" "last_to_end" s_last_to_end f fd c) (T : Txt mg G) (Lm : Lams G mg base "last_to_end" c ⟨96,28,96,50⟩) : FnOk P w G.K mg base CX0 5 f fd ["shifts", "numbers"] (sp_last_to_end G) := by
 refine F.ok sc_last_to_end (fun vs H Q E h => ?_) (fun A outer s0 H vs Q E hr h => ?_)
 ·obtain ⟨l,r,s,ns,rfl,_⟩ := h
  rfl
 ·obtain ⟨l,r,s,ns,rfl,wf,tok,hl,hr1,hns,h60,k⟩ := h
  obtain ⟨P1,C,hL,one⟩ := Lm.tab
  refine ⟨_,pss_one (ps_ret (pe_maxL (L := G.L) (K := G.K) (x := "j") (y := "shifts") (q := (Str.ofString "last_to_end" ++ ".<locals>.") ++ "<lambda>") (i := 0) (k := 3) rfl
   ⟨lamOk2 rfl (by decide +kernel) rfl rfl rfl (fun _ _ _ _ _ => rfl),Lm.bm,⟨c,P1,rfl,C,hL,one⟩,rfl,rfl,free2 rfl,rfl,rfl,clo2 rfl⟩
   rfl hr rfl T.b_max (pv 1) (fun A s H f c' cl => pe_ix (ixT (K := G.K) rfl) (pe_ix (ixL (K := G.K) rfl) (pv 1) (pv 0) (fun _ _ => rfl)) pe_int (fun _ _ => rfl)))),?_⟩
  obtain ⟨xs,hx,hxl,hxa⟩ := hl.at
  refine ⟨_,rfl,r,ns,.ref l,fun j => ((shiftOf s j).b : Int),rfl,SqL.of hr1,tok,rfl,fun n hn H2 Qr e q => ?_,fun H2 e => ?_⟩
  ·have jn := hns n hn
   have hj : n < xs.length := by rw [hxl,shP_len]; exact jn
   obtain ⟨b,p,ex,hp,hb⟩ := hxa n (xs[n]'hj) (List.getElem?_eq_getElem hj)
   rw [shP_at jn] at hp
   have ep : [((shiftOf s n).a : Int),((shiftOf s n).b : Int)] = p := Option.some.inj hp
   subst ep
   exact ⟨_,rfl,_,rfl,l,_,_,_,rfl,rfl,SqL.of (e.lst hx),at_of (j := n) rfl (by rw [List.getElem?_eq_getElem hj,ex]),b,_,_,_,rfl,rfl,SqT.of (e.tup hb),atI_nat (j := 1) rfl,q⟩
  ·rw [fold_max,last_fold,rOpt_optV]
   exact k H2 e
theorem ok_first_to_begin {f c : Addr} {fd : FuncData} (F : FunC G.K "first_to_begin" "first_to_begin" s_first_to_begin f fd c) (T : Txt mg G) (Lm : Lams G mg base "first_to_begin" c ⟨98,28,98,50⟩) : FnOk P w G.K mg base CX0 5 f fd ["shifts", "numbers"] (sp_first_to_begin G) := by
 refine F.ok sc_first_to_begin (fun vs H Q E h => ?_) (fun A outer s0 H vs Q E hr h => ?_)
 ·obtain ⟨l,r,s,ns,rfl,_⟩ := h
  rfl
 ·obtain ⟨l,r,s,ns,rfl,wf,tok,hl,hr1,hns,h60,k⟩ := h
  obtain ⟨P1,C,hL,one⟩ := Lm.tab
  refine ⟨_,pss_one (ps_ret (pe_minL (L := G.L) (K := G.K) (x := "j") (y := "shifts") (q := (Str.ofString "first_to_begin" ++ ".<locals>.") ++ "<lambda>") (i := 0) (k := 3) rfl
   ⟨lamOk2 rfl (by decide +kernel) rfl rfl rfl (fun _ _ _ _ _ => rfl),Lm.bm,⟨c,P1,rfl,C,hL,one⟩,rfl,rfl,free2 rfl,rfl,rfl,clo2 rfl⟩
   rfl hr rfl T.b_min (pv 1) (fun A s H f c' cl => pe_ix (ixT (K := G.K) rfl) (pe_ix (ixL (K := G.K) rfl) (pv 1) (pv 0) (fun _ _ => rfl)) pe_int (fun _ _ => rfl)))),?_⟩
  obtain ⟨xs,hx,hxl,hxa⟩ := hl.at
  refine ⟨_,rfl,r,ns,.ref l,fun j => ((shiftOf s j).a : Int),rfl,SqL.of hr1,tok,rfl,fun n hn H2 Qr e q => ?_,fun H2 e => ?_⟩
  ·have jn := hns n hn
   have hj : n < xs.length := by rw [hxl,shP_len]; exact jn
   obtain ⟨b,p,ex,hp,hb⟩ := hxa n (xs[n]'hj) (List.getElem?_eq_getElem hj)
   rw [shP_at jn] at hp
   have ep : [((shiftOf s n).a : Int),((shiftOf s n).b : Int)] = p := Option.some.inj hp
   subst ep
   exact ⟨_,rfl,_,rfl,l,_,_,_,rfl,rfl,SqL.of (e.lst hx),at_of (j := n) rfl (by rw [List.getElem?_eq_getElem hj,ex]),b,_,_,_,rfl,rfl,SqT.of (e.tup hb),atI_nat (j := 0) rfl,q⟩
  ·rw [fold_min,first_fold,rOpt_optV]
   exact k H2 e
end
end Cs
end
section
set_option Elab.async false
set_option linter.all false
set_option maxRecDepth 100000
set_option maxHeartbeats 4000000
namespace Cs
open PySem PySem.Spec PyProof.Rows L2
open Vbedai (State need points shiftOf on numbers there total gathered lastEnd firstStart bare eased does leastK missing crewsIn changesIn minutesIn okJ okT inR)
open VM
theorem fil_all (n : Nat) : fil (fun _ => true) n = List.range n := by
 unfold fil; rw [List.filter_eq_self.mpr fun _ _ => rfl]
theorem way_ext {L : List Tbl} {H H' : Hp} {x dx C : Addr} {fs : List (Str × V)} (hx : H x = none) (hd : H dx = none) (hne : dx ≠ x) (h1 : H' x = some (.ins C dx fs)) (h2 : ∀ b,b ≠ x -> H' b = (upd (upd H dx (.own x)) x (.ins C dx [])) b) : Ext L H H' := by
 have e : H' = upd (upd (upd H dx (.own x)) x (.ins C dx [])) x (.ins C dx fs) := by
  funext b
  by_cases c : b = x
  ·subst c; rw [h1,upd_same]
  ·rw [h2 b c,upd_ne c (H := upd (upd H dx (.own x)) x (.ins C dx []))]
 rw [e]
 have e1 : Ext L H (upd H dx (.own x)) := Ext.new hd
 have e2 : Ext L H (upd (upd H dx (.own x)) x (.ins C dx [])) := e1.new2 (by rw [upd_ne hne.symm]; exact hx)
 exact e2.set hx upd_same rfl
theorem having_sub {s : State} {t j : Nat} (h : j ∈ having s t) : j < s.shifts.length := having_lt h
theorem vI_map (l : List Nat) : vI (l.map fun (n : Nat) => (n : Int)) = vN l := (vN_vI l).symm
abbrev s_rising_way : Stmt := top 33
theorem sc_rising_way : FnScope ["plan", "minutes", "having", "minute", "chosen", "numbers"] ["plan"] (defScope s_rising_way) := scM
section
variable {P : Program} {w : World} {G : Gd} {mg : Str -> Option Value} {base : Heap}
theorem ok_rising_way {f : Addr} {fd : FuncData} (F : Fun G.K "rising_way" "rising_way" s_rising_way f fd) (T : Txt mg G) (c_points : Def P w G.K mg base "points" 1 ["plan"] (sp_points G)) {fW : Addr} {fdW : FuncData} (M_Way : Mk G.K G.CW fW) (G_Way : FnOk P w G.K mg base CX0 1 fW fdW ["self", "shifts", "minutes", "having", "chosen"] (sp_Way G)) (b_Way : Binds G.K fdW ["self", "shifts", "minutes", "having", "chosen"] []) (c_shifts_with : Def P w G.K mg base "shifts_with" 2 ["shifts", "minute"] (sp_shifts_with G)) (c_last_to_end : Def P w G.K mg base "last_to_end" 5 ["shifts", "numbers"] (sp_last_to_end G)) : FnOk P w G.K mg base CX0 6 f fd ["plan"] (sp_rising_way G) := by
 refine F.ok sc_rising_way (fun vs H Q E h => ?_) (fun cdv A outer s0 H vs Q E hr h => ?_)
 ·obtain ⟨p,sa,s,rfl,hP,k⟩ := h
  rfl
 ·have nd := sc_rising_way.nd
  obtain ⟨p,sa,s,rfl,hP,k⟩ := h
  refine ⟨_,(pss_cons (ps_set (i := 1) nd rfl (.inl rfl) (pe_cal c_points (hr.mono (by decide)) rfl (pa_cons (pv 0) pa_nil)))
   (pss_cons (ps_setLc (i := 2) (own := [("minute",3)]) rfl nd rfl rfl (sw_true rfl rfl rfl rfl) (pi_list (pv 1)) (blkOk_by (show blkC ["plan", "minutes", "having", "minute", "chosen", "numbers"] (defScope s_rising_way) _ _ = true by decide +kernel)) (fun _ _ _ _ _ => (pg_name (i := 3) nd rfl (.inl rfl))) (fun _ _ _ _ _ => pts_nil) (fun _ _ _ _ _ => (pe_cal c_shifts_with (hr.mono (by decide)) rfl (pa_cons (fldK (K := G.K) rfl (pv 0) rfl) (pa_cons (pv 3) pa_nil)))))
   (pss_cons (ps_setLc (i := 4) (own := [("numbers",5)]) rfl nd rfl rfl (sw_true rfl rfl rfl rfl) (pi_list (pv 2)) (blkOk_by (show blkC ["plan", "minutes", "having", "minute", "chosen", "numbers"] (defScope s_rising_way) _ _ = true by decide +kernel)) (fun _ _ _ _ _ => (pg_name (i := 5) nd rfl (.inl rfl))) (fun _ _ _ _ _ => pts_nil) (fun _ _ _ _ _ => (pe_cal c_last_to_end (hr.mono (by decide)) rfl (pa_cons (fldK (K := G.K) rfl (pv 0) rfl) (pa_cons (pv 5) pa_nil)))))
   (pss_one (ps_ret (pe_make M_Way G_Way (hr.mono (by decide)) rfl T.m_Way b_Way .nil pass0 (pa_cons (fldK (K := G.K) rfl (pv 0) rfl) (pa_cons (pv 1) (pa_cons (pv 2) (pa_cons (pv 4) pa_nil)))))))))),?_⟩
  have h221 : (points s).length <= 221 := points_len hP.wf
  refine ⟨_,rfl,p,sa,s,rfl,hP,fun m0 H1 e1 hm hm' => ?_⟩
  ·rw [vI_map] at hm'
   refine ⟨_,rfl,m0,rfl,⟨_,SqL.of hm'⟩,?_⟩
   intro D hD
   refine lcR_list (L := G.L) (xs := vN (points s)) (fun _ => true) (fun i => .lst (vN (having s ((points s).getD i 0)))) (fun _ => rfl) (by rw [vN_len,sizeLine_eq]; omega) (SqL.of hm') hD (fun i x H2 hx e2 Kt N hy hn => ?_) fun H2 hR => ?_
   ·obtain ⟨rfl,_,_⟩ := vN_at hx
    obtain ⟨dx,ca,hp,hca,nca⟩ := (hP.ext (e1.trans e2)).ex
    refine ⟨rfl,iteT (B := N H2) ?_⟩
    refine ⟨_,rfl,p,G.CP,dx,_,_,rfl,hp,T.clP,T.nP_shifts,pf_shifts _ _ _,_,rfl,sa,s,_,rfl,hP.wf,(hP.ext (e1.trans e2)).sh,fun q H3 e3 hq hq' => ?_⟩
    rw [vI_map] at hq'
    exact hy rfl q H3 e3 hq hq'
   ·have e2 := hR.ext
    rw [vN_len,fil_all] at hR
    obtain ⟨as,h5,hat,_⟩ := hR.ex
    have hal : as.length = (points s).length := by rw [hat.len,List.length_range]
    have h7 : ∀ (i : Nat) (a : Addr) (t : Nat),as[i]? = some a -> (points s)[i]? = some t -> H2 a = some (.lst (vN (having s t))) := fun i a t ha ht => by
     have hi : i < (points s).length := (List.getElem?_eq_some_iff.mp ht).1
     have z := hat.at_ i i a (List.getElem?_range hi) ha
     rw [getD_at ht] at z
     exact z
    refine ⟨_,rfl,D,rfl,⟨_,SqL.of h5⟩,?_⟩
    intro D2 hD2
    refine lcI_list (L := G.L) (xs := as.map V.ref) (fun _ => true) (fun i => optV (lastEnd s (having s ((points s).getD i 0)))) (by rw [List.length_map,hal,sizeLine_eq]; omega) (SqL.of h5) hD2 (fun i x H3 hx e3 Kt N hy hn => ?_) fun H3 e3 hq => ?_
    ·rw [List.getElem?_map] at hx
     cases ea : as[i]? with
     | none => rw [ea] at hx; cases hx
     | some a =>
      rw [ea] at hx
      obtain rfl : V.ref a = x := Option.some.inj hx
      have hi : i < (points s).length := by rw [<- hal]; exact (List.getElem?_eq_some_iff.mp ea).1
      obtain ⟨t,ht⟩ := at_nat hi
      have hP3 := hP.ext ((e1.trans e2).trans e3)
      obtain ⟨dx,ca,hp,hca,nca⟩ := hP3.ex
      refine ⟨rfl,iteT (B := N H3) ?_⟩
      refine ⟨_,rfl,p,G.CP,dx,_,_,rfl,hp,T.clP,T.nP_shifts,pf_shifts _ _ _,_,rfl,sa,a,s,having s t,rfl,hP.wf,hP3.tabs,hP3.sh,e3.lst (h7 i a t ea ht),fun j hj => having_sub hj,having_len hP.wf t,fun H4 e4 => ?_⟩
      have z := hy rfl H4 e4
      rw [getD_at ht] at z
      exact z
    ·rw [fil_true,List.length_map,hal,mapN (points s) fun t => optV (lastEnd s (having s t))] at hq
     have g3 := (e1.trans e2).trans e3
     have hP3 := hP.ext g3
     obtain ⟨dx,ca,hp,hca,nca⟩ := hP3.ex
     refine ⟨_,rfl,p,G.CP,dx,_,_,rfl,hp,T.clP,T.nP_shifts,pf_shifts _ _ _,_,rfl,_,rfl,_,rfl,fun wy dw hw hdw hne => ?_⟩
     refine ⟨wy,dw,sa,m0,D,D2,rfl,upd_same,fun H4 q1 q2 => ⟨rfl,?_⟩⟩
     have e4 : Ext G.L H3 H4 := way_ext hw hdw hne q1 q2
     refine k wy H4 (g3.trans e4) (g3.free wy hw) ⟨hP.wf,h221,pick_last s,dw,sa,m0,D,D2,q1,(hP3.ext e4).sh,(e2.trans (e3.trans e4)).lst hm',e4.lst hq,as,(e3.trans e4).lst h5,hal,fun i a t ha ht => (e3.trans e4).lst (h7 i a t ha ht)⟩
end
theorem two_ch (s : State) : ∀ p ∈ chP s,p.length = 2 := by
 intro p hp; unfold chP at hp; obtain ⟨y,_,rfl⟩ := List.mem_map.mp hp; rfl
theorem two_sh (s : State) : ∀ p ∈ shP s,p.length = 2 := by
 intro p hp; unfold shP at hp; obtain ⟨y,_,rfl⟩ := List.mem_map.mp hp; rfl
abbrev s_all_kept : Stmt := top 71
theorem sc_all_kept : FnScope ["plan"] ["plan"] (defScope s_all_kept) := scM
section
variable {P : Program} {w : World} {G : Gd} {mg : Str -> Option Value} {base : Heap}
theorem ok_all_kept {f : Addr} {fd : FuncData} (F : Fun G.K "all_kept" "all_kept" s_all_kept f fd) (T : Txt mg G) (c_listed_pairs : Def P w G.K mg base "listed_pairs" 1 ["pairs"] (sp_listed_pairs G)) : FnOk P w G.K mg base CX0 2 f fd ["plan"] (sp_all_kept G) := by
 refine F.ok sc_all_kept (fun vs H Q E h => ?_) (fun cdv A outer s0 H vs Q E hr h => ?_)
 ·obtain ⟨p,sa,s,rfl,hP,k⟩ := h
  rfl
 ·have nd := sc_all_kept.nd
  obtain ⟨p,sa,s,rfl,hP,k⟩ := h
  refine ⟨_,(pss_one (ps_ret (pe_op op_cat (pe_op op_cat (pe_lst (pa_cons (fldK (K := G.K) rfl (pv 0) rfl) (pa_cons (fldK (K := G.K) rfl (pv 0) rfl) pa_nil))) (pe_cal c_listed_pairs (hr.mono (by decide)) rfl (pa_cons (fldK (K := G.K) rfl (pv 0) rfl) pa_nil))) (pe_cal c_listed_pairs (hr.mono (by decide)) rfl (pa_cons (fldK (K := G.K) rfl (pv 0) rfl) pa_nil))))),?_⟩
  rw [ans15] at k
  have hcl := hP.wf.cl
  have hsl := hP.wf.sl
  obtain ⟨dx,ca,hp,hca,nca⟩ := hP.ex
  refine ⟨_,rfl,p,G.CP,dx,_,_,rfl,hp,T.clP,T.nP_horizon,pf_horizon _ _ _,_,rfl,p,G.CP,dx,_,_,rfl,hp,T.clP,T.nP_rest,pf_rest _ _ _,(by show 2 <= sizeLine; decide),fun a1 h1 => ?_⟩
  have f1 : Ext G.L H (upd H a1 (.lst [.int (s.horizon : Int),.int (s.rest : Int)])) := Ext.new h1
  refine ⟨_,rfl,p,G.CP,dx,_,_,rfl,f1.ins hp,T.clP,T.nP_changes,pf_changes _ _ _,ca,_,rfl,hca.ext f1,two_ch s,by rw [chP_len]; omega,fun a2 H2 e2 h2 h2' => ?_⟩
  refine ⟨a1,a2,_,_,rfl,rfl,e2.lst upd_same,h2',?_,fun a3 h3 => ?_⟩
  ·have l1 := fm2_len _ (two_ch s)
   have l3 := chP_len s
   rw [vI_len,sizeLine_eq]
   simp only [List.length_append,List.length_cons,List.length_nil]
   omega
  ·have f3 : Ext G.L H2 (upd H2 a3 (.lst ([.int (s.horizon : Int),.int (s.rest : Int)] ++ vI (((chP s).length : Int) :: (chP s).flatMap id)))) := Ext.new h3
   have g3 := (f1.trans e2).trans f3
   refine ⟨_,rfl,p,G.CP,dx,_,_,rfl,g3.ins hp,T.clP,T.nP_shifts,pf_shifts _ _ _,sa,_,rfl,(hP.ext g3).sh,two_sh s,by rw [shP_len]; omega,fun a4 H4 e4 h4 h4' => ?_⟩
   refine ⟨a3,a4,_,_,rfl,rfl,e4.lst upd_same,h4',?_,fun a5 h5 => ?_⟩
   ·have l1 := fm2_len _ (two_ch s)
    have l2 := fm2_len _ (two_sh s)
    have l3 := chP_len s
    have l4 := shP_len s
    rw [List.length_append,vI_len,vI_len,sizeLine_eq]
    simp only [List.length_append,List.length_cons,List.length_nil]
    omega
   ·have g4 := g3.trans e4
    refine k a5 _ (g4.new2 h5) (g4.free a5 h5) ?_
    rw [upd_same,chP_len,shP_len]
    unfold chP shP vI
    rw [List.flatMap_map,List.flatMap_map]
    simp [List.map_flatMap]
end
theorem eqT {z : Int} {A B : Prop} (h : A) : if decide (V.int z = V.int z) = true then A else B := by rw [if_pos (by simp)]; exact h
theorem eqF {y z : Int} {A B : Prop} (n : y ≠ z) (h : B) : if decide (V.int y = V.int z) = true then A else B := by rw [if_neg (by simp [n])]; exact h
theorem irow1 {H : Hp} {l : Addr} {r : List Int} (h : IRowsAt H l [r]) : ∃ a,H l = some (.lst [.ref a]) /\ H a = some (.lst (vI r)) := by
 obtain ⟨as,h1,h2,h3⟩ := h
 match as,h2 with
 | [a],_ => exact ⟨a,h1,h3 0 a r rfl rfl⟩
abbrev s_make_change : Stmt := top 72
theorem sc_make_change : FnScope ["plan", "place", "numbers", "lists"] ["plan", "place", "numbers", "lists"] (defScope s_make_change) := scM
section
variable {P : Program} {w : World} {G : Gd} {mg : Str -> Option Value} {base : Heap}
theorem ok_make_change {f : Addr} {fd : FuncData} (F : Fun G.K "make_change" "make_change" s_make_change f fd) (T : Txt mg G) (c_set_rest : Def P w G.K mg base "set_rest" 2 ["plan", "rest"] (sp_set_rest G)) (c_begin : Def P w G.K mg base "begin" 2 ["plan", "horizon", "rest"] (sp_begin G)) (c_set_changes : Def P w G.K mg base "set_changes" 3 ["plan", "row"] (sp_set_changes G)) (c_add_shift : Def P w G.K mg base "add_shift" 2 ["plan", "a", "b"] (sp_add_shift G)) : FnOk P w G.K mg base CX0 4 f fd ["plan", "place", "numbers", "lists"] (sp_make_change G) := by
 refine F.ok sc_make_change (fun vs H Q E h => ?_) (fun cdv A outer s0 H vs Q E hr h => ?_)
 ·obtain ⟨p,sa,s,z,n,l,ns,xs,rfl,hC,ht,hz,k⟩ := h
  rfl
 ·have nd := sc_make_change.nd
  obtain ⟨p,sa,s,z,n,l,ns,xs,rfl,hC,ht,hz,k⟩ := h
  refine ⟨_,(pss_cons (ps_if (pt_cmpR op_eq (pv 1) pe_int (nomark _))
   (pss_one (ps_ret (pe_cal c_begin (hr.mono (by decide)) rfl (pa_cons (pv 0) (pa_cons (pe_ix (ixL (K := G.K) rfl) (pv 2) pe_int (fun _ _ => rfl)) (pa_cons (pe_ix (ixL (K := G.K) rfl) (pv 2) pe_int (fun _ _ => rfl)) pa_nil))))))
   pss_nil)
   (pss_cons (ps_if (pt_cmpR op_eq (pv 1) pe_int (nomark _))
   (pss_one (ps_ret (pe_cal c_set_changes (hr.mono (by decide)) rfl (pa_cons (pv 0) (pa_cons (pe_ix (ixL (K := G.K) rfl) (pv 3) pe_int (fun _ _ => rfl)) pa_nil)))))
   pss_nil)
   (pss_cons (ps_if (pt_cmpR op_eq (pv 1) pe_int (nomark _))
   (pss_one (ps_ret (pe_cal c_add_shift (hr.mono (by decide)) rfl (pa_cons (pv 0) (pa_cons (pe_ix (ixL (K := G.K) rfl) (pv 2) pe_int (fun _ _ => rfl)) (pa_cons (pe_ix (ixL (K := G.K) rfl) (pv 2) pe_int (fun _ _ => rfl)) pa_nil))))))
   pss_nil)
   (pss_one (ps_ret (pe_cal c_set_rest (hr.mono (by decide)) rfl (pa_cons (pv 0) (pa_cons (pe_ix (ixL (K := G.K) rfl) (pv 2) pe_int (fun _ _ => rfl)) pa_nil)))))))),?_⟩
  have hP := hC.plan
  have hn := hC.num
  cases ht with
  | c0 a b => exact ⟨_,rfl,rfl,_,rfl,eqT ⟨_,rfl,_,rfl,n,_,_,_,rfl,rfl,SqL.of hn,atI_nat (j := 0) rfl,_,rfl,n,_,_,_,rfl,rfl,SqL.of hn,atI_nat (j := 1) rfl,p,sa,s,a,b,rfl,hP,k⟩⟩
  | c1 r =>
   obtain ⟨ra,hl1,hra⟩ := irow1 hC.rows
   exact ⟨_,rfl,rfl,_,rfl,eqF (by decide) ⟨_,rfl,rfl,_,rfl,eqT ⟨_,rfl,_,rfl,l,_,_,_,rfl,rfl,SqL.of hl1,atI_nat (j := 0) rfl,p,sa,s,ra,r,rfl,hP,hra,hC.rl r (by simp),k⟩⟩⟩
  | c2 a b => exact ⟨_,rfl,rfl,_,rfl,eqF (by decide) ⟨_,rfl,rfl,_,rfl,eqF (by decide) ⟨_,rfl,rfl,_,rfl,eqT ⟨_,rfl,_,rfl,n,_,_,_,rfl,rfl,SqL.of hn,atI_nat (j := 0) rfl,_,rfl,n,_,_,_,rfl,rfl,SqL.of hn,atI_nat (j := 1) rfl,p,sa,s,a,b,rfl,hP,k⟩⟩⟩⟩
  | c3 a => exact ⟨_,rfl,rfl,_,rfl,eqF (by decide) ⟨_,rfl,rfl,_,rfl,eqF (by decide) ⟨_,rfl,rfl,_,rfl,eqF (by decide) ⟨_,rfl,_,rfl,n,_,_,_,rfl,rfl,SqL.of hn,atI_nat (j := 0) rfl,p,sa,s,a,rfl,hP,k⟩⟩⟩⟩
  | _ => exact absurd hz (by decide)
end
abbrev s_answer : Stmt := top 76
theorem sc_answer : FnScope ["plan", "place", "numbers", "lists"] ["plan", "place", "numbers", "lists"] (defScope s_answer) := scM
section
variable {P : Program} {w : World} {G : Gd} {mg : Str -> Option Value} {base : Heap}
theorem ok_answer {f : Addr} {fd : FuncData} (F : Fun G.K "answer" "answer" s_answer f fd) (T : Txt mg G) (c_ask_by_lists : Def P w G.K mg base "ask_by_lists" 8 ["plan", "place", "numbers", "lists"] (sp_ask_by_lists G)) (c_has_form : Def P w G.K mg base "has_form" 2 ["place", "numbers", "lists"] (sp_has_form G)) (c_make_change : Def P w G.K mg base "make_change" 4 ["plan", "place", "numbers", "lists"] (sp_make_change G)) (c_ask_by_numbers : Def P w G.K mg base "ask_by_numbers" 8 ["plan", "place", "numbers"] (sp_ask_by_numbers G)) {FA : Addr} (TF : TxtF mg G FA) : FnOk P w G.K mg base CX0 9 f fd ["plan", "place", "numbers", "lists"] (sp_answer G) := by
 refine F.ok sc_answer (fun vs H Q E h => ?_) (fun cdv A outer s0 H vs Q E hr h => ?_)
 ·obtain ⟨p,sa,s,z,n,l,ns,xs,rfl,hC,h9,k⟩ := h
  rfl
 ·have nd := sc_answer.nd
  obtain ⟨p,sa,s,z,n,l,ns,xs,rfl,hC,h9,k⟩ := h
  refine ⟨_,(pss_cons (ps_if (pt_not (pt_val (pe_cal c_has_form (hr.mono (by decide)) rfl (pa_cons (pv 1) (pa_cons (pv 2) (pa_cons (pv 3) pa_nil))))))
   (pss_one (ps_ret (pe_lst (pa_cons (pe_gi rfl T.m_NO_FORM) pa_nil))))
   pss_nil)
   (pss_cons (ps_if (pt_cmpR op_le (pv 1) pe_int (nomark _))
   (pss_one (ps_ret (pe_cal c_make_change (hr.mono (by decide)) rfl (pa_cons (pv 0) (pa_cons (pv 1) (pa_cons (pv 2) (pa_cons (pv 3) pa_nil)))))))
   pss_nil)
   (pss_cons (ps_if (pt_cmpR op_eq (pe_ix (ixT (K := G.K) rfl) (pe_fget (K := G.K) rfl TF.frm rfl TF.m_FORMS (pv 1) (fun _ _ => rfl)) pe_int (fun _ _ => rfl)) pe_int (nomark _))
   (pss_one (ps_ret (pe_cal c_ask_by_numbers (hr.mono (by decide)) rfl (pa_cons (pv 0) (pa_cons (pv 1) (pa_cons (pv 2) pa_nil))))))
   pss_nil)
   (pss_one (ps_ret (pe_cal c_ask_by_lists (hr.mono (by decide)) rfl (pa_cons (pv 0) (pa_cons (pv 1) (pa_cons (pv 2) (pa_cons (pv 3) pa_nil)))))))))),?_⟩
  have hP := hC.plan
  have hn := hC.num
  refine ⟨_,rfl,_,rfl,_,rfl,z,n,l,ns,xs,rfl,hn,hC.rows,_,rfl,?_⟩
  cases fo : formOk z ns.length xs.length with
  | false =>
   refine iteT ?_
   have nf := noform (s := s) fo h9
   have e1 : stOf s ((z :: ns) :: xs) = s := by unfold stOf; rw [nf]
   have e2 : ansOf s ((z :: ns) :: xs) = [-9] := by unfold ansOf; rw [nf]
   rw [e2] at k
   exact ⟨(by show 1 <= sizeLine; decide),one_ret (k.same hP e1)⟩
  | true =>
   refine iteF ?_
   have ht := told_of fo
   refine ⟨_,rfl,_,_,rfl,rfl,_,rfl,?_⟩
   by_cases hz : z <= 3
   ·rw [decide_eq_true hz]
    refine iteT ?_
    exact ⟨_,rfl,_,rfl,_,rfl,_,rfl,p,sa,s,z,n,l,ns,xs,rfl,hC,ht,hz,k⟩
   ·rw [decide_eq_false hz]
    refine iteF ?_
    have es : stOf s ((z :: ns) :: xs) = s := st_same z ns xs rfl ⟨by omega,by omega,by omega,by omega⟩
    have kk := k.same hP es
    have key : ∃ t,forms.lookup z = some t /\ ((t.2.2 = 0 /\ xs = [] /\ z ≠ 9) ∨ (t.2.2 ≠ 0 /\ (z = 9 ∨ xs ≠ []))) := by
     cases ht <;> first | exact absurd (by decide) hz | exact ⟨_,rfl,.inl ⟨rfl,rfl,by decide⟩⟩ | exact ⟨_,rfl,.inr ⟨by decide,.inl rfl⟩⟩ | exact ⟨_,rfl,.inr ⟨by decide,.inr (by simp)⟩⟩
    obtain ⟨t,fe,key⟩ := key
    refine ⟨_,rfl,z,_,rfl,fe,fun b3 t3 => ?_⟩
    refine ⟨b3,_,_,_,rfl,rfl,t3.sq _,atI_nat (j := 2) rfl,rfl,_,rfl,?_⟩
    rcases key with ⟨e0,e1,e2⟩ | ⟨e0,e1⟩
    ·subst e1
     rw [e0]
     exact eqT ⟨_,rfl,_,rfl,_,rfl,p,sa,s,z,n,ns,rfl,hP,hn,ht,e2,hz,kk⟩
    ·exact eqF e0 ⟨_,rfl,_,rfl,_,rfl,_,rfl,p,sa,s,z,n,l,ns,xs,rfl,hC,ht,e1,hz,kk⟩
end
end Cs
end
section
set_option Elab.async false
set_option linter.all false
set_option maxRecDepth 100000
set_option maxHeartbeats 4000000
namespace Cs
open PySem PySem.Spec PyProof.Rows L2
open Vbedai (State)
open VM
def sp_Plan (G : Gd) : Sp := fun vs H Q _ => ∃ p dx,vs = [.ref p] /\ H p = some (.ins G.CP dx []) ∧
 ∀ H' ca sa,H ca = none -> H sa = none -> ca ≠ sa -> ca ≠ p -> sa ≠ p -> H' p = some (.ins G.CP dx (pf Vbedai.start ca sa)) -> H' ca = some (.lst []) -> H' sa = some (.lst []) -> (∀ b o,H b = some o -> b ≠ p -> H' b = some o) -> (∀ b,H' b = none -> H b = none) -> Q .non H'
abbrev s_Plan : Stmt := inClass (top 11) 0
theorem sc_Plan : FnScope ["self"] ["self"] (defScope s_Plan) := scM
abbrev s_Way : Stmt := inClass (top 29) 0
theorem sc_Way : FnScope ["self", "shifts", "minutes", "having", "chosen"] ["self", "shifts", "minutes", "having", "chosen"] (defScope s_Way) := scM
section
variable {P : Program} {w : World} {G : Gd} {mg : Str -> Option Value} {base : Heap}
theorem ok_Way {f : Addr} {fd : FuncData} (F : Fun G.K "__init__" "Way.__init__" s_Way f fd) (T : Txt mg G) : FnOk P w G.K mg base CX0 1 f fd ["self", "shifts", "minutes", "having", "chosen"] (sp_Way G) := by
 refine F.ok sc_Way (fun vs H Q E h => ?_) (fun cdv A outer s H vs Q E hr h => ?_)
 ·obtain ⟨wy,dx,sa,ma,ha,ka,rfl,_⟩ := h
  rfl
 ·obtain ⟨wy,dx,sa,ma,ha,ka,rfl,hw,k⟩ := h
  refine ⟨_,pss_cons (ps_fld (pv 0) (pv 1) rfl) (pss_cons (ps_fld (pv 0) (pv 2) rfl) (pss_cons (ps_fld (pv 0) (pv 3) rfl) (pss_one (ps_fld (pv 0) (pv 4) rfl)))),?_⟩
  refine ⟨_,rfl,_,rfl,wy,G.CW,dx,[],rfl,hw,T.clW,T.nW_shifts,(by show 0 < 1000; decide),?_⟩
  refine ⟨_,rfl,_,rfl,wy,G.CW,dx,_,rfl,upd_same,T.clW,T.nW_minutes,(by show 1 < 1000; decide),?_⟩
  refine ⟨_,rfl,_,rfl,wy,G.CW,dx,_,rfl,upd_same,T.clW,T.nW_having,(by show 2 < 1000; decide),?_⟩
  refine ⟨_,rfl,_,rfl,wy,G.CW,dx,_,rfl,upd_same,T.clW,T.nW_chosen,(by show 3 < 1000; decide),?_⟩
  refine k _ ?_ fun b hb => ?_
  ·rw [upd_same]; rfl
  ·rw [upd_ne hb,upd_ne hb,upd_ne hb,upd_ne hb]
theorem ok_Plan {f : Addr} {fd : FuncData} (F : Fun G.K "__init__" "Plan.__init__" s_Plan f fd) (T : Txt mg G) : FnOk P w G.K mg base CX0 1 f fd ["self"] (sp_Plan G) := by
 refine F.ok sc_Plan (fun vs H Q E h => ?_) (fun cdv A outer s H vs Q E hr h => ?_)
 ·obtain ⟨p,dx,rfl,_⟩ := h
  rfl
 ·obtain ⟨p,dx,rfl,hp,k⟩ := h
  refine ⟨_,pss_cons (ps_fld (pv 0) pe_int rfl) (pss_cons (ps_fld (pv 0) pe_int rfl) (pss_cons (ps_fld (pv 0) (pe_lst pa_nil) rfl) (pss_one (ps_fld (pv 0) (pe_lst pa_nil) rfl)))),?_⟩
  refine ⟨_,rfl,p,G.CP,dx,[],rfl,hp,T.clP,T.nP_horizon,(by show 0 < 1000; decide),?_⟩
  refine ⟨_,rfl,p,G.CP,dx,_,rfl,upd_same,T.clP,T.nP_rest,(by show 1 < 1000; decide),?_⟩
  refine ⟨Nat.zero_le _,fun ca hca => ?_⟩
  have ca0 : H ca = none := by
   have z := upd_free (upd_free hca)
   exact z
  have cap : ca ≠ p := fun z => by rw [z,hp] at ca0; cases ca0
  refine ⟨_,rfl,p,G.CP,dx,_,rfl,(by rw [upd_ne cap.symm]; exact upd_same),T.clP,T.nP_changes,(by show 2 < 1000; decide),?_⟩
  refine ⟨Nat.zero_le _,fun sa hsa => ?_⟩
  have sa1 := upd_free hsa
  have sac : sa ≠ ca := fun z => by rw [z,upd_same] at sa1; cases sa1
  have sa0 : H sa = none := upd_free (upd_free (upd_free sa1))
  have sap : sa ≠ p := fun z => by rw [z,hp] at sa0; cases sa0
  refine ⟨_,rfl,p,G.CP,dx,_,rfl,(by rw [upd_ne sap.symm]; exact upd_same),T.clP,T.nP_shifts,(by show 3 < 1000; decide),?_⟩
  refine k _ ca sa ca0 sa0 sac.symm cap sap ?_ ?_ ?_ (fun b o e hb => ?_) fun b z => ?_
  ·rw [upd_same]; rfl
  ·rw [upd_ne cap,upd_ne sac.symm,upd_ne cap,upd_same]
  ·rw [upd_ne sap,upd_same]
  ·have bc : b ≠ ca := fun z => by rw [z,ca0] at e; cases e
   have bs : b ≠ sa := fun z => by rw [z,sa0] at e; cases e
   rw [upd_ne hb,upd_ne bs,upd_ne hb,upd_ne bc,upd_ne hb,upd_ne hb]; exact e
  ·exact upd_free (upd_free (upd_free (upd_free (upd_free (upd_free z)))))
end
end Cs
end
section
set_option Elab.async false
set_option linter.all false
set_option maxRecDepth 100000
set_option maxHeartbeats 4000000
namespace Cs
open PySem PySem.Spec PyProof.Rows L2
open Vbedai (State need points shiftOf on numbers there total gathered lastEnd firstStart bare eased does leastK missing crewsIn changesIn minutesIn okJ okT inR)
open VM
theorem slK {X : Cx} {K : W.Frag} (h : X.K = K) : SlR X (rSlL K) := h ▸ sl_list
theorem upd_self {H : Hp} {t : Addr} {u : HO} (h : H t = some u) : upd H t u = H := by
 funext b; unfold upd; split
 ·rename_i e; rw [e,h]
 ·rfl
theorem PlanAt.thaw {G : Gd} {H : Hp} {p sa t : Addr} {s : State} {o : Obj} {u X : HO} (h : PlanAt G H p sa s) (ht : H t = some (.frz o u)) : PlanAt G (upd H t X) p sa s := by
 obtain ⟨dx,ca,h1,h2,h3⟩ := h.ex
 have nt : ∀ xs,H t ≠ some (.tup xs) := fun xs e => by rw [ht] at e; cases e
 have ne : ∀ b l,H b = some (.lst l) -> b ≠ t := fun b l e z => by rw [z,ht] at e; cases e
 obtain ⟨l1,k1,_⟩ := id h.sh
 obtain ⟨l2,k2,_⟩ := id h2
 exact ⟨h.wf,h.tabs.set fun v e => (by rw [ht] at e; cases e; rfl),h.sh.upd (ne _ _ k1) nt,dx,ca,by rw [upd_ne (fun z => by rw [z,ht] at h1; cases h1)]; exact h1,h2.upd (ne _ _ k2) nt,h3⟩
theorem lock_ext {G : Gd} {H H' : Hp} {p sa t : Addr} {s : State} {o : Obj} {ys : List V} (h : PlanAt G (upd H t (.frz o (.lst ys))) p sa s) (e : Ext G.L H H') (ht : H t = some (.lst ys)) : PlanAt G (upd H' t (.frz o (.lst ys))) p sa s := by
 have ht' := e.lst ht
 refine h.ext ⟨fun b ob q n => ?_,fun T => ?_,fun b q => ?_⟩
 ·by_cases c : b = t
  ·subst c; rw [upd_same] at q; rw [upd_same]; exact q
  ·rw [upd_ne c] at q; rw [upd_ne c]; exact e.1 b ob q n
 ·have T1 : TabsOk G.L (upd (upd H t (.frz o (.lst ys))) t (.lst ys)) := T.set fun v q => (by rw [upd_same] at q; cases q; rfl)
  rw [upd_upd,upd_self ht] at T1
  exact (e.2 T1).set fun v q => (by rw [ht'] at q; cases q; rfl)
 ·have c : b ≠ t := fun z => by rw [z,upd_same] at q; cases q
  rw [upd_ne c] at q; rw [upd_ne c]; exact e.3 b q
def CalR (G : Gd) (H : Hp) (c : Addr) (ns : List Int) : Prop := (∃ o,H c = some (.frz o (.lst (vI ns)))) ∨ ∀ H',SqL G.K H' c (vI ns)
theorem CalR.sq {G : Gd} {H : Hp} {c : Addr} {ns : List Int} (h : CalR G H c ns) : SqL G.K H c (vI ns) := by
 rcases h with ⟨o,h⟩ | h
 ·exact .inl (.inr ⟨o,h⟩)
 ·exact h H
theorem CalR.keep {G : Gd} {H H' : Hp} {c : Addr} {ns : List Int} (h : CalR G H c ns) (k : ∀ o u,H c = some (.frz o u) -> H' c = some (.frz o u)) : CalR G H' c ns := by
 rcases h with ⟨o,h⟩ | h
 ·exact .inl ⟨o,k _ _ h⟩
 ·exact .inr h
theorem CalR.ext {G : Gd} {H H' : Hp} {c : Addr} {ns : List Int} (h : CalR G H c ns) (e : Ext G.L H H') : CalR G H' c ns := h.keep fun o u q => e.1 _ _ q rfl
theorem at_app (a : List Int) (x : Int) (b : List Int) : (vI (a ++ x :: b))[a.length]? = some (.int x) := by simp [vI]
theorem cut_app (a m b : List Int) {i j : Int} (hi : i = (a.length : Int)) (hj : j = ((a.length + m.length : Nat) : Int)) : cutV (vI (a ++ (m ++ b))) (some i) (some j) = vI m := by
 subst hi hj
 unfold cutV
 rw [HT.sIx_nat,HT.sIx_nat]
 have l : (vI (a ++ (m ++ b))).length = a.length + (m.length + b.length) := by simp [vI]
 rw [l,Nat.min_eq_left (by omega),Nat.min_eq_left (by omega)]
 have e : vI (a ++ (m ++ b)) = vI a ++ (vI m ++ vI b) := by simp [vI]
 have la : a.length = (vI a).length := by simp [vI]
 have lm : m.length = (vI m).length := by simp [vI]
 rw [e,Nat.add_sub_cancel_left]
 rw [la,List.drop_left,lm,List.take_left]
theorem flatR_len : ∀ xs : List (List Int),xs.length <= (flatR xs).length /\ ∀ r ∈ xs,r.length <= (flatR xs).length
 | [] => ⟨Nat.le_refl _,fun r h => (by cases h)⟩
 | x :: xs => by
  obtain ⟨a,b⟩ := flatR_len xs
  have e : (flatR (x :: xs)).length = 1 + x.length + (flatR xs).length := by
   show ((x.length : Int) :: (x ++ flatR xs)).length = _
   rw [List.length_cons,List.length_append]; omega
  refine ⟨by rw [e,List.length_cons]; omega,fun r hr => ?_⟩
  rcases List.mem_cons.mp hr with rfl | hr
  ·omega
  ·have := b r hr; omega
theorem flatR_at {xs : List (List Int)} {i : Nat} {x : List Int} (h : xs[i]? = some x) : flatR xs = flatR (xs.take i) ++ ((x.length : Int) :: (x ++ flatR (xs.drop (i + 1)))) := by
 obtain ⟨hi,e⟩ := List.getElem?_eq_some_iff.mp h
 have z := List.take_append_drop i xs
 rw [List.drop_eq_getElem_cons hi,e] at z
 conv => lhs; rw [<- z,flatR_append]
 rfl
theorem flatR_take {xs : List (List Int)} {i : Nat} {x : List Int} (h : xs[i]? = some x) : (flatR (xs.take (i + 1))).length = (flatR (xs.take i)).length + 1 + x.length := by
 rw [take_snoc h,flatR_append,List.length_append]
 show _ + ((x.length : Int) :: (x ++ [])).length = _
 rw [List.length_cons,List.append_nil]; omega
def sp_answers (G : Gd) : Sp := fun vs H Q _ => ∃ c ns,vs = [.ref c] /\ CalR G H c ns /\ ns.length <= 17000 /\ TabsOk G.L H /\ PyVbedai.answers_asked ns = true /\ ∀ q H',H' q = some (.lst (vI (PyVbedai.answers ns))) -> Q (.ref q) H'
def LoopW (G : Gd) (c p t : Addr) (ns : List Int) (m : Nat) (σ : L2.St) (H : Hp) : Prop :=
 ∃ (sa : Addr) (s : State) (pre rest : List Int) (f : Nat) (cs : List (List (List Int))) (dn : List Int) (v4 v5 v6 v7 v8 v9 : Option V),m = rest.length /\ σ = [some (.ref c),some (.ref p),some (.ref t),some (.int (pre.length : Int)),v4,v5,v6,v7,v8,v9] ∧
  (∀ o,PlanAt G (upd H t (.frz o (.lst (vI dn)))) p sa s) /\ t ≠ sa /\ CalR G H c ns /\ H t = some (.lst (vI dn)) /\ ns = pre ++ rest /\ PyWide.calls f rest = some cs /\ (∀ x ∈ cs,VbedaiNeutral.asked1 x = true) ∧
  dn ++ PyFlat.told (PyFlat.played VbedaiNeutral.step s cs) = PyVbedai.answers ns /\ dn.length + 1001 * cs.length <= 200200
abbrev s_answers : Stmt := top 77
theorem sc_answers : FnScope ["calls", "plan", "told", "at", "place", "behind", "numbers", "lists", "k", "first"] ["calls"] (defScope s_answers) := scM
section
variable {P : Program} {w : World} {G : Gd} {mg : Str -> Option Value} {base : Heap}
theorem ok_answers {f : Addr} {fd : FuncData} (F : Fun G.K "answers" "answers" s_answers f fd) (T : Txt mg G) {fP : Addr} {fdP : FuncData} (M_Plan : Mk G.K G.CP fP) (G_Plan : FnOk P w G.K mg base CX0 1 fP fdP ["self"] (sp_Plan G)) (b_Plan : Binds G.K fdP ["self"] []) (c_listed : Def P w G.K mg base "listed" 1 ["numbers"] (sp_listed G)) (c_answer : Def P w G.K mg base "answer" 9 ["plan", "place", "numbers", "lists"] (sp_answer G)) : FnOk P w G.K mg base CX0 10 f fd ["calls"] (sp_answers G) := by
 refine F.ok sc_answers (fun vs H Q E h => ?_) (fun cdv A outer s0 H vs Q E hr h => ?_)
 ·obtain ⟨c,ns,rfl,hc,hl,tok,hask,k⟩ := h
  rfl
 ·have nd := sc_answers.nd
  obtain ⟨c,ns,rfl,hc,hl,tok,hask,k⟩ := h
  refine ⟨_,(pss_cons (ps_set (i := 1) nd rfl (.inl rfl) (pe_make0 M_Plan G_Plan (hr.mono (by decide)) rfl T.m_Plan b_Plan .nil pass0))
   (pss_cons (ps_set (i := 2) nd rfl (.inl rfl) (pe_lst pa_nil))
   (pss_cons (ps_set (i := 3) nd rfl (.inl rfl) pe_int)
   (pss_cons (ps_while PassesOwn.never (pt_cmpR op_lt (pv 3) (pe_callB (lenK (K := G.K) rfl) rfl T.b_len PySem.boot_len (pa_cons (pv 0) pa_nil)) (nomark _))
   (pss_cons (ps_set (i := 4) nd rfl (.inl rfl) (pe_ix (ixL (K := G.K) rfl) (pv 0) (pv 3) (fun _ _ => rfl)))
   (pss_cons (ps_set (i := 5) nd rfl (.inl rfl) (pe_op op_add (pe_op op_add (pv 3) pe_int) (pe_ix (ixL (K := G.K) rfl) (pv 0) (pe_op op_add (pv 3) pe_int) (fun _ _ => rfl))))
   (pss_cons (ps_set (i := 6) nd rfl (.inl rfl) (pe_slice (slK (K := G.K) rfl) (pv 0) (po_some (pe_op op_add (pv 3) pe_int)) (po_some (pv 5))))
   (pss_cons (ps_set (i := 7) nd rfl (.inl rfl) (pe_lst pa_nil))
   (pss_cons (ps_set (i := 3) nd rfl (.inl rfl) (pe_op op_add (pv 5) pe_int))
   (pss_cons (ps_for PassesOwn.never rfl (pi_range1 rfl T.b_range (pa_cons (pe_ix (ixL (K := G.K) rfl) (pv 0) (pv 5) (fun _ _ => rfl)) pa_nil)) (pg_name (i := 8) nd rfl (.inl rfl))
   (pss_cons (ps_set (i := 9) nd rfl (.inl rfl) (pe_op op_add (pv 3) pe_int))
   (pss_cons (ps_set (i := 3) nd rfl (.inl rfl) (pe_op op_add (pv 9) (pe_ix (ixL (K := G.K) rfl) (pv 0) (pv 3) (fun _ _ => rfl))))
   (pss_one (ps_expr (pe_bm PySem.F.plainAttrs_list PySem.F.slot_list_append PySem.F.type_list_append mt_append (pv 7) (pa_cons (pe_slice (slK (K := G.K) rfl) (pv 0) (po_some (pv 9)) (po_some (pv 3))) pa_nil)))))))
   (pss_one (ps_expr (pe_bm PySem.F.plainAttrs_list PySem.F.slot_list_extend PySem.F.type_list_extend mt_extend (pv 2) (pa_cons (pe_lock (pe_cal c_listed (hr.mono (by decide)) rfl (pa_cons (pe_cal c_answer (hr.mono (by decide)) rfl (pa_cons (pv 1) (pa_cons (pv 4) (pa_cons (pv 6) (pa_cons (pv 7) pa_nil))))) pa_nil))) pa_nil)))))))))))
   (pss_one (ps_ret (pv 2))))))),?_⟩
  intro p d0 n0 m0 e0
  refine ⟨p,d0,rfl,upd_same,fun H1 ca sa hca hsa ncs ncp nsp h1p h1ca h1sa kp fr => ⟨rfl,?_⟩⟩
  have g1 : ∀ b o,H b = some o -> H1 b = some o := fun b o e => kp b o (by rw [upd_ne (ne_of_none e n0),upd_ne (ne_of_none e m0)]; exact e) (ne_of_none e n0)
  have tok1 : TabsOk G.L H1 := fun t ht => by
   rcases tok t ht with z | ⟨d,z1,z2⟩
   ·exact .inl (g1 _ _ z)
   ·exact .inr ⟨d,g1 _ _ z1,g1 _ _ z2⟩
  have hP1 : PlanAt G H1 p sa Vbedai.start := ⟨wf_start,tok1,lstT_nil h1sa,d0,ca,h1p,lstT_nil h1ca,ncs⟩
  refine ⟨Nat.zero_le _,fun t ht => ?_⟩
  obtain ⟨cs0,hcs0,h200,hall⟩ : ∃ cs,PyWide.calls ns.length ns = some cs /\ cs.length <= 200 /\ ∀ x ∈ cs,VbedaiNeutral.asked1 x = true := by
   unfold PyVbedai.answers_asked PyVbedai.calls at hask
   cases e : PyWide.calls ns.length ns with
   | none => rw [e] at hask; cases hask
   | some cs =>
    rw [e] at hask
    simp only [Bool.and_eq_true] at hask
    refine ⟨cs,rfl,of_decide_eq_true hask.1,?_⟩
    have := hask.2
    unfold VbedaiNeutral.asked at this
    rw [Bool.and_eq_true] at this
    exact fun x hx => List.all_eq_true.mp this.1 x hx
  have hans : PyVbedai.answers ns = PyFlat.told (PyFlat.played VbedaiNeutral.step Vbedai.start cs0) := by
   unfold PyVbedai.answers PyVbedai.calls
   rw [hcs0]; rfl
  have tsa : t ≠ sa := (ne_of_none h1sa ht).symm
  refine ⟨LoopW G c p t ns,⟨ns.length,sa,Vbedai.start,[],ns,ns.length,cs0,[],none,none,none,none,none,none,rfl,rfl,fun o => ?_,tsa,?_,upd_same,rfl,hcs0,hall,by rw [hans]; rfl,?_⟩,?_⟩
  ·rw [upd_upd]; exact hP1.ext (Ext.new ht)
  ·exact hc.keep fun o u q => by rw [upd_ne (ne_of_none (g1 _ _ q) ht)]; exact g1 _ _ q
  ·rw [List.length_nil]; omega
  rintro m σ H' ⟨sa,s,pre,rest,f,cs,dn,v4,v5,v6,v7,v8,v9,rfl,rfl,hP,nsa,hC,hT,hns,hcs,hall,hans,hlen⟩
  refine ⟨_,rfl,_,rfl,c,_,rfl,.inl hC.sq,_,_,rfl,rfl,_,rfl,?_⟩
  rw [vI_len]
  rcases calls_eq hcs with ⟨er,ec⟩ | ⟨f',z,nums,xs,u,cs',ec,er,hcs'⟩
  ·subst er ec
   rw [show decide ((pre.length : Int) < (ns.length : Int)) = false by rw [hns]; simp]
   refine iteF ⟨_,rfl,k t H' ?_⟩
   rw [hT,← hans]
   simp [PyFlat.played,PyFlat.told]
  ·subst er ec
   rw [show decide ((pre.length : Int) < (ns.length : Int)) = true by rw [hns]; simp; omega]
   refine iteT ⟨fun σ' H' => ∃ m',m' < _ /\ LoopW G c p t ns m' σ' H',fun _ _ h => h,?_⟩
   have i0 : (vI ns)[pre.length]? = some (.int z) := by rw [hns]; exact at_app _ _ _
   have i1 : (vI ns)[pre.length + 1]? = some (.int (nums.length : Int)) := by
    have z := at_app (pre ++ [z]) (nums.length : Int) (nums ++ (xs.length : Int) :: (flatR xs ++ u))
    rw [List.length_append,List.append_assoc] at z
    rw [hns]; exact z
   have i2 : (vI ns)[pre.length + 2 + nums.length]? = some (.int (xs.length : Int)) := by
    have z := at_app (pre ++ ([z,(nums.length : Int)] ++ nums)) (xs.length : Int) (flatR xs ++ u)
    rw [List.length_append,List.length_append,List.append_assoc,List.append_assoc,← Nat.add_assoc] at z
    rw [hns]; exact z
   have cut : ∀ {i j : Int},i = ((pre.length + 2 : Nat) : Int) -> j = ((pre.length + 2 + nums.length : Nat) : Int) -> cutV (vI ns) (some i) (some j) = vI nums := fun {i j} h1 h2 => by
    have z := cut_app (pre ++ [z,(nums.length : Int)]) nums ((xs.length : Int) :: (flatR xs ++ u)) (i := i) (j := j) (by rw [h1]; simp) (by rw [h2]; simp)
    rw [List.append_assoc] at z
    rw [hns]; exact z
   have nsl : pre.length + 2 + nums.length + 1 + (flatR xs).length + u.length = ns.length := by rw [hns]; simp; omega
   obtain ⟨fl1,fl2⟩ := flatR_len xs
   refine ⟨_,rfl,_,rfl,c,_,_,_,rfl,rfl,hC.sq,atI_nat (j := pre.length) i0,?_⟩
   refine ⟨_,rfl,_,_,rfl,rfl,_,rfl,_,rfl,_,_,rfl,rfl,c,_,_,_,rfl,rfl,hC.sq,at_of (j := pre.length + 1) (by omega) i1,_,_,rfl,rfl,?_⟩
   refine ⟨_,rfl,_,rfl,_,_,rfl,rfl,_,rfl,_,rfl,_,rfl,c,_,rfl,hC.sq,fun n1 hn1 => ?_⟩
   rw [cut (by omega) (by omega)]
   have x1 : Ext G.L H' (upd H' n1 (.lst (vI nums))) := Ext.new hn1
   refine ⟨Nat.zero_le _,fun l hl => ?_⟩
   have x2 : Ext G.L H' (upd (upd H' n1 (.lst (vI nums))) l (.lst [])) := x1.new2 hl
   refine ⟨_,rfl,_,_,rfl,rfl,?_⟩
   refine ⟨_,rfl,_,rfl,c,_,_,_,rfl,rfl,(hC.ext x2).sq,at_of (j := pre.length + 2 + nums.length) (by omega) i2,_,rfl,by omega,by omega,?_⟩
   rw [Int.toNat_natCast]
   refine for_range (fun i σ H'' => ∃ (as : List Addr) (v8 v9 : Option V),Ext G.L (upd H' n1 (.lst (vI nums))) H'' /\ H'' l = some (.lst (as.map V.ref)) /\ as.length = i /\ (∀ (j : Nat) (a : Addr) (r : List Int),as[j]? = some a -> xs[j]? = some r -> H'' a = some (.lst (vI r)) /\ H' a = none) ∧
    σ = [some (.ref c),some (.ref p),some (.ref t),some (.int ((pre.length + 2 + nums.length + 1 + (flatR (xs.take i)).length : Nat) : Int)),some (.int z),some (.int ((pre.length : Int) + 2 + (nums.length : Int))),some (.ref n1),some (.ref l),v8,v9]) ?_ ?_ ?_
   ·refine ⟨[],v8,v9,Ext.new hl,upd_same,rfl,fun j a r q => by simp at q,?_⟩
    simp [flatR]
   ·rintro i σ H'' hi ⟨as,w8,w9,e,hl',hal,hrow,rfl⟩
    obtain ⟨x,hx⟩ : ∃ x,xs[i]? = some x := ⟨_,List.getElem?_eq_getElem hi⟩
    have ft := flatR_take hx
    have fa := flatR_at hx
    have hns3 : ns = (pre ++ ([z,(nums.length : Int)] ++ (nums ++ ((xs.length : Int) :: flatR (xs.take i))))) ++ ((x.length : Int) :: (x ++ (flatR (xs.drop (i + 1)) ++ u))) := by
     rw [hns]
     conv => lhs; rw [fa]
     simp
    have l3 : (pre ++ ([z,(nums.length : Int)] ++ (nums ++ ((xs.length : Int) :: flatR (xs.take i))))).length = pre.length + 2 + nums.length + 1 + (flatR (xs.take i)).length := by simp; omega
    have i3 : (vI ns)[pre.length + 2 + nums.length + 1 + (flatR (xs.take i)).length]? = some (.int (x.length : Int)) := by
     have z := at_app (pre ++ ([z,(nums.length : Int)] ++ (nums ++ ((xs.length : Int) :: flatR (xs.take i))))) (x.length : Int) (x ++ (flatR (xs.drop (i + 1)) ++ u))
     rw [l3,← hns3] at z
     exact z
    have cut3 : ∀ {i' j' : Int},i' = ((pre.length + 2 + nums.length + 1 + (flatR (xs.take i)).length + 1 : Nat) : Int) -> j' = ((pre.length + 2 + nums.length + 1 + (flatR (xs.take i)).length + 1 + x.length : Nat) : Int) -> cutV (vI ns) (some i') (some j') = vI x := fun {i' j'} h1 h2 => by
     have z := cut_app ((pre ++ ([z,(nums.length : Int)] ++ (nums ++ ((xs.length : Int) :: flatR (xs.take i))))) ++ [(x.length : Int)]) x (flatR (xs.drop (i + 1)) ++ u) (i := i') (j := j') (by rw [h1,List.length_append,l3]; rfl) (by rw [h2,List.length_append,l3]; rfl)
     rw [List.append_assoc] at z
     have e9 : [(x.length : Int)] ++ (x ++ (flatR (xs.drop (i + 1)) ++ u)) = (x.length : Int) :: (x ++ (flatR (xs.drop (i + 1)) ++ u)) := rfl
     rw [e9,← hns3] at z
     exact z
    have g := x1.trans e
    have hC3 := (hC.ext g).sq
    refine ⟨_,rfl,_,_,rfl,rfl,?_⟩
    refine ⟨_,rfl,_,rfl,_,rfl,c,_,_,_,rfl,rfl,hC3,atI_nat (j := pre.length + 2 + nums.length + 1 + (flatR (xs.take i)).length) i3,_,_,rfl,rfl,?_⟩
    refine ⟨_,rfl,.inl ⟨rfl,_,SqL.of hl'⟩,_,rfl,_,rfl,_,rfl,_,rfl,_,rfl,c,_,rfl,hC3,fun r hr => ?_⟩
    rw [cut3 (by omega) (by omega)]
    have x3 : Ext G.L H'' (upd H'' r (.lst (vI x))) := Ext.new hr
    have lr : l ≠ r := ne_of_none hl' hr
    refine ⟨l,_,_,rfl,rfl,x3.lst hl',?_,?_⟩
    ·rw [List.length_map,hal,sizeLine_eq]; omega
    refine ⟨as ++ [r],some (.int (0 + (i : Int))),some (.int (((pre.length + 2 + nums.length + 1 + (flatR (xs.take i)).length : Nat) : Int) + 1)),(e.trans x3).set hl (x3.lst hl') rfl,?_,by rw [List.length_append,hal]; rfl,fun j a' r' q1 q2 => ?_,?_⟩
    ·rw [upd_same,List.map_append]; rfl
    ·by_cases cj : j < as.length
     ·rw [List.getElem?_append_left cj] at q1
      obtain ⟨y1,y2⟩ := hrow j a' r' q1 q2
      have al : a' ≠ l := fun z => by
       rw [z] at q1 y1 y2
       have := (List.getElem?_eq_some_iff.mp q1).1
       rw [hl'] at y1
       cases as with
       | nil => simp at q1
       | cons a0 as0 =>
        cases r' with
        | nil => simp [vI] at y1
        | cons y ys => simp [vI] at y1
      rw [upd_ne al,upd_ne (ne_of_none y1 hr)]
      exact ⟨y1,y2⟩
     ·have ej : j = as.length := by
       have := (List.getElem?_eq_some_iff.mp q1).1
       rw [List.length_append,List.length_singleton] at this
       omega
      subst ej
      rw [List.getElem?_append_right (Nat.le_refl _),Nat.sub_self] at q1
      have er : r = a' := Option.some.inj q1
      subst er
      rw [hal,hx] at q2
      have ex : x = r' := Option.some.inj q2
      subst ex
      rw [upd_ne lr.symm,upd_same]
      exact ⟨rfl,g.3 _ hr⟩
    ·rw [ft]
     have e5 : (((pre.length + 2 + nums.length + 1 + (flatR (xs.take i)).length : Nat) : Int) + 1 + (x.length : Int)) = ((pre.length + 2 + nums.length + 1 + ((flatR (xs.take i)).length + 1 + x.length) : Nat) : Int) := by omega
     rw [<- e5]
     rfl
   ·rintro σ H'' ⟨as,w8,w9,e,hl',hal,hrow,rfl⟩
    have g := x1.trans e
    have hT2 := g.lst hT
    have n1t : n1 ≠ t := (ne_of_none hT hn1).symm
    have lt : l ≠ t := fun z => by rw [z,x1.lst hT] at hl; cases hl
    rw [List.take_length]
    refine ⟨_,rfl,.inl ⟨rfl,_,SqL.of hT2⟩,t,.lst (vI dn),hT2,trivial,fun od => ?_⟩
    have hPl := lock_ext (hP od) g hT
    obtain ⟨dx,ca,hpl,_⟩ := hPl.ex
    obtain ⟨sl,hsl,_⟩ := id hPl.sh
    have hn2 : upd H'' t (.frz od (.lst (vI dn))) n1 = some (.lst (vI nums)) := by rw [upd_ne n1t]; exact e.lst upd_same
    have hrows : IRowsAt (upd H'' t (.frz od (.lst (vI dn)))) l xs := by
     refine ⟨as,by rw [upd_ne lt]; exact hl',hal,fun j a r q1 q2 => ?_⟩
     obtain ⟨y1,y2⟩ := hrow j a r q1 q2
     rw [upd_ne (fun z => by rw [z,hT] at y2; cases y2)]
     exact y1
    have pt : t ≠ p := fun z => by rw [<- z,upd_same] at hpl; cases hpl
    refine ⟨_,rfl,_,rfl,_,rfl,_,rfl,p,sa,s,z,n1,l,nums,xs,rfl,⟨hPl,hn2,hrows,by omega,fun r hr => by have := fl2 r hr; omega⟩,fun h9 hnn => ?_,fun q H4 sa' hP4 hsa' hq nq hq' keep => ?_⟩
    ·subst h9
     exact asked9 (hall _ (by simp)) hnn
    have al := ans_len hPl.wf ((z :: nums) :: xs)
    refine ⟨q,_,rfl,hq',by omega,fun r5 H5 e5 hr5 hr5' => ?_⟩
    have h4t : H4 t = some (.frz od (.lst (vI dn))) := keep t _ upd_same rfl pt nsa
    have h5t := e5.1 _ _ h4t rfl
    have tr5 : t ≠ r5 := ne_of_none h4t hr5
    refine ⟨h5t,t,r5,_,_,rfl,rfl,upd_same,by rw [upd_ne tr5.symm]; exact hr5',?_,?_⟩
    ·rw [vI_len,vI_len,List.length_cons,sizeLine_eq]; simp only [List.length_cons] at hlen; omega
    refine ⟨u.length,by simp; omega,sa',stOf s ((z :: nums) :: xs),pre ++ (z :: (nums.length : Int) :: (nums ++ (xs.length : Int) :: flatR xs)),u,f',cs',dn ++ (((ansOf s ((z :: nums) :: xs)).length : Int) :: ansOf s ((z :: nums) :: xs)),some (.int z),some (.int ((pre.length : Int) + 2 + (nums.length : Int))),some (.ref n1),some (.ref l),w8,w9,rfl,?_,fun o => ?_,?_,?_,?_,?_,hcs',fun y hy => hall y (by simp [hy]),?_,?_⟩
    ·have e6 : (pre ++ (z :: (nums.length : Int) :: (nums ++ (xs.length : Int) :: flatR xs))).length = pre.length + 2 + nums.length + 1 + (flatR xs).length := by simp; omega
     rw [e6]
    ·rw [upd_upd,upd_upd]
     exact (hP4.ext e5).thaw h5t
    ·rcases hsa' with z | z
     ·rw [z]; exact nsa
     ·exact fun y => by rw [<- y,upd_same] at z; cases z
    ·refine (hC.ext g).keep fun o u' q' => ?_
     have ct : c ≠ t := fun z => by rw [z,hT2] at q'; cases q'
     have q2 : upd H'' t (.frz od (.lst (vI dn))) c = some (.frz o u') := by rw [upd_ne ct]; exact q'
     have q4 := keep c _ q2 rfl (fun z => by rw [z,hpl] at q2; cases q2) (fun z => by rw [z,hsl] at q2; cases q2)
     rw [upd_ne ct,upd_ne ct]
     exact e5.1 _ _ q4 rfl
    ·rw [upd_same]; simp [vI]
    ·rw [hns]; simp
    ·rw [<- hans]
     show _ = dn ++ PyFlat.told ((VbedaiNeutral.step s ((z :: nums) :: xs)).2 :: PyFlat.played VbedaiNeutral.step (VbedaiNeutral.step s ((z :: nums) :: xs)).1 cs')
     rw [told_cons,List.append_assoc]
     rfl
    ·rw [List.length_append,List.length_cons]
     simp only [List.length_cons] at hlen
     omega
end
theorem sum_need (s : State) : ∀ x : List Nat,(x.map fun t => (need s t : Int)).sum = ((total (x.map fun t => (t,need s t)) : Nat) : Int)
 | [] => rfl
 | t :: r => by
  rw [List.map_cons,List.sum_cons,sum_need s r,List.map_cons,total_cons]
  simp
theorem both_eq (s : State) (x : List Nat) : Vbedai.both s x = match (List.range s.shifts.length).find? fun j => decide (1 < (x.filter fun t => on s j t).length) with
  | none => none
  | some j => some (j,(x.filter fun t => on s j t).take 2) := rfl
theorem fil_nat (x : List Nat) (p : Nat -> Bool) : ((List.range x.length).filter fun i => p (x.getD i 0)).map (fun i => V.int ((x.getD i 0 : Nat) : Int)) = vN (x.filter p) := by
 have e : x.filter p = ((List.range x.length).filter fun i => p (x.getD i 0)).map fun i => x.getD i 0 := by
  have z := range_getD x 0 id
  conv => lhs; rw [<- List.map_id x,← z]
  rw [List.filter_map]
  rfl
 rw [e]
 unfold vN
 rw [List.map_map]; rfl
theorem two_of {l : List Nat} (h : 1 < l.length) : ∃ a b r,l = a :: b :: r := by
 match l,h with
 | a :: b :: r,_ => exact ⟨a,b,r,rfl⟩
abbrev s_apart : Stmt := top 67
theorem sc_apart : FnScope ["plan", "row", "j", "had", "minute"] ["plan", "row"] (defScope s_apart) := scM
section
variable {P : Program} {w : World} {G : Gd} {mg : Str -> Option Value} {base : Heap}
theorem ok_apart {f : Addr} {fd : FuncData} (F : Fun G.K "apart" "apart" s_apart f fd) (T : Txt mg G) (c_are_minutes : Def P w G.K mg base "are_minutes" 2 ["plan", "row"] (sp_are_minutes G)) (c_has : Def P w G.K mg base "has" 1 ["shift", "minute"] sp_has) (c_need_at : Def P w G.K mg base "need_at" 1 ["plan", "minute"] (sp_need_at G)) : FnOk P w G.K mg base CX0 3 f fd ["plan", "row"] (sp_apart G) := by
 refine F.ok sc_apart (fun vs H Q E h => ?_) (fun cdv A outer s0 H vs Q E hr h => ?_)
 ·obtain ⟨p,sa,s,r,row,rfl,hP,hr1,hl,k⟩ := h
  rfl
 ·have nd := sc_apart.nd
  obtain ⟨p,sa,s,r,row,rfl,hP,hr1,hl,k⟩ := h
  refine ⟨_,(pss_cons (ps_if (pt_not (pt_val (pe_cal c_are_minutes (hr.mono (by decide)) rfl (pa_cons (pv 0) (pa_cons (pv 1) pa_nil)))))
   (pss_one (ps_ret (pe_lst (pa_cons (pe_gi rfl T.m_BAD_LIST) pa_nil))))
   pss_nil)
   (pss_cons (ps_for PassesOwn.never rfl (pi_range1 rfl T.b_range (pa_cons (pe_callB (lenK (K := G.K) rfl) rfl T.b_len PySem.boot_len (pa_cons (fldK (K := G.K) rfl (pv 0) rfl) pa_nil)) pa_nil)) (pg_name (i := 2) nd rfl (.inr rfl))
   (pss_cons (ps_setLc (i := 3) (own := [("minute",4)]) rfl nd rfl rfl (sw_true rfl rfl rfl rfl) (pi_list (pv 1)) (blkOk_by (show blkC ["plan", "row", "j", "had", "minute"] (defScope s_apart) _ _ = true by decide +kernel)) (fun _ _ _ _ _ => (pg_name (i := 4) nd rfl (.inl rfl))) (fun _ _ _ _ _ => pts_one (pt_val (pe_cal c_has (hr.mono (by decide)) rfl (pa_cons (pe_ix (ixL (K := G.K) rfl) (fldK (K := G.K) rfl (pv 0) rfl) (pv 2) (fun _ _ => rfl)) (pa_cons (pv 4) pa_nil))))) (fun _ _ _ _ _ => (pv 4)))
   (pss_one (ps_if (pt_cmpR op_ge (pe_callB (lenK (K := G.K) rfl) rfl T.b_len PySem.boot_len (pa_cons (pv 3) pa_nil)) pe_int (nomark _))
   (pss_one (ps_ret (pe_lst (pa_cons pe_int (pa_cons (pv 2) (pa_cons (pe_ix (ixL (K := G.K) rfl) (pv 3) pe_int (fun _ _ => rfl)) (pa_cons (pe_ix (ixL (K := G.K) rfl) (pv 3) pe_int (fun _ _ => rfl)) pa_nil)))))))
   pss_nil))))
   (pss_one (ps_ret (pe_lst (pa_cons pe_int (pa_cons (pe_callB (sumK (K := G.K) rfl rfl) rfl T.b_sum boot_sum (pa_cons (pe_lc (own := [("minute",4)]) rfl nd (pi_list (pv 1)) (blkOk_by (show blkC ["plan", "row", "j", "had", "minute"] (defScope s_apart) _ _ = true by decide +kernel)) (fun _ _ _ _ _ => (pg_name (i := 4) nd rfl (.inl rfl))) (fun _ _ _ _ _ => pts_nil) (fun _ _ _ _ _ => (pe_cal c_need_at (hr.mono (by decide)) rfl (pa_cons (pv 0) (pa_cons (pv 4) pa_nil))))) pa_nil)) pa_nil))))))),?_⟩
  rw [ans7] at k
  have h60 := hP.wf.sl
  refine ⟨_,rfl,_,rfl,p,sa,s,r,row,rfl,hP,hr1,hl,fun H1 e1 => ⟨_,rfl,?_⟩⟩
  cases hx : minutesIn s row with
  | none =>
   rw [hx] at k
   refine iteT ?_
   refine ⟨(by show 1 <= sizeLine; decide),fun a ha => ?_⟩
   refine k a _ (e1.new2 ha) (e1.free a ha) ?_
   rw [upd_same]; rfl
  | some x =>
   rw [hx] at k
   dsimp only at k
   have im := (isMin_iff s row x).mp hx
   have er : vI row = vN x := by rw [im.eq,vN_vI]; rfl
   have xl : x.length <= 20000 := by have := congrArg List.length im.eq; rw [List.length_map] at this; omega
   rw [er] at hr1
   refine iteF ?_
   have hP1 := hP.ext e1
   obtain ⟨dx,ca,hp,_⟩ := hP1.ex
   obtain ⟨xs,hxs,hxl,hxg⟩ := sh_get hP1.sh
   rw [both_eq] at k
   refine ⟨_,rfl,p,G.CP,dx,_,_,rfl,hp,T.clP,T.nP_shifts,pf_shifts _ _ _,sa,_,rfl,.inl (SqL.of hxs),_,rfl,by omega,by omega,?_⟩
   rw [hxl,Int.toNat_natCast]
   refine for_range (n := s.shifts.length) (fun i σ H' => Ext G.L H1 H' /\ (∀ j ∈ (List.range s.shifts.length).take i,decide (1 < (x.filter fun t => on s j t).length) = false) /\ ∃ v2 v3,σ = [some (.ref p),some (.ref r),v2,v3,none])
    ⟨Ext.refl,by simp,none,none,rfl⟩ ?_ ?_
   ·rintro i σ H' hi ⟨e,hno,v2,v3,rfl⟩
    have hri : (List.range s.shifts.length)[i]? = some i := List.getElem?_range hi
    obtain ⟨b,hb1,hb2⟩ := hxg i hi
    have hb0 : atI xs (0 + (i : Int)) = some (.ref b) := by rw [Int.zero_add]; exact hb1
    have g2 := e1.trans e
    refine ⟨_,rfl,r,rfl,⟨_,SqL.of (g2.lst hr1)⟩,?_⟩
    intro D hD
    refine lcI_list (L := G.L) (xs := vN x) (fun m => on s i (x.getD m 0)) (fun m => .int ((x.getD m 0 : Nat) : Int)) (by rw [vN_len,sizeLine_eq]; omega) (SqL.of (g2.lst hr1)) hD (fun m y H3 hm e3 Kt N hy hn' => ?_) fun H3 e3 hq => ?_
    ·obtain ⟨rfl,_,_⟩ := vN_at hm
     refine ⟨rfl,?_⟩
     refine ⟨_,rfl,p,G.CP,dx,_,_,rfl,(e.trans e3).ins hp,T.clP,T.nP_shifts,pf_shifts _ _ _,_,rfl,sa,_,_,_,rfl,rfl,SqL.of ((e.trans e3).lst hxs),hb0,_,rfl,?_⟩
     refine ⟨b,_,_,_,rfl,(e.trans e3).tup hb2,_,rfl,?_⟩
     have eh : (decide (((shiftOf s i).a : Int) <= ((x.getD m 0 : Nat) : Int)) && decide (((x.getD m 0 : Nat) : Int) < ((shiftOf s i).b : Int))) = on s i (x.getD m 0) := by
      unfold Vbedai.on; congr 1 <;> simp
     rw [eh]
     cases z : on s i (x.getD m 0) with
     | true => exact iteT ⟨_,rfl,hy z H3 Ext.refl⟩
     | false => exact iteF (hn' z H3 Ext.refl)
    ·rw [vN_len,fil_nat x fun t => on s i t] at hq
     refine ⟨_,rfl,D,_,rfl,.inl (SqL.of hq),_,_,rfl,rfl,_,rfl,?_⟩
     rw [vN_len]
     have g3 := g2.trans e3
     by_cases z : 1 < (x.filter fun t => on s i t).length
     ·rw [show decide ((2 : Int) <= ((x.filter fun t => on s i t).length : Int)) = true by simp; omega]
      refine iteT ?_
      rw [find_at hno hri (by simp [z])] at k
      dsimp only at k
      obtain ⟨t1,t2,rest,ht⟩ := two_of z
      rw [ht] at hq k
      refine ⟨_,rfl,_,rfl,D,_,_,V.int (t1 : Int),rfl,rfl,SqL.of hq,atI_nat (j := 0) rfl,_,rfl,D,_,_,V.int (t2 : Int),rfl,rfl,SqL.of hq,atI_nat (j := 1) rfl,(by show 4 <= sizeLine; decide),fun a ha => ?_⟩
      refine k a _ (g3.new2 ha) (g3.free a ha) ?_
      rw [upd_same,Int.zero_add]; rfl
     ·rw [show decide ((2 : Int) <= ((x.filter fun t => on s i t).length : Int)) = false by simp; omega]
      refine iteF ?_
      exact ⟨e.trans e3,take_all hno hri (by simp; omega),_,_,rfl⟩
   ·rintro σ H' ⟨e,hno,v2,v3,rfl⟩
    rw [List.take_of_length_le (by simp)] at hno
    rw [find_no hno] at k
    dsimp only at k
    have g2 := e1.trans e
    refine ⟨_,rfl,r,rfl,⟨_,SqL.of (g2.lst hr1)⟩,?_⟩
    intro D hD
    refine lcI_list (L := G.L) (xs := vN x) (fun _ => true) (fun m => .int (need s (x.getD m 0) : Int)) (by rw [vN_len,sizeLine_eq]; omega) (SqL.of (g2.lst hr1)) hD (fun m y H3 hm e3 Kt N hy hn' => ?_) fun H3 e3 hq => ?_
    ·obtain ⟨rfl,_,_⟩ := vN_at hm
     refine ⟨rfl,iteT (B := N H3) ?_⟩
     exact ⟨_,rfl,_,rfl,p,sa,s,_,rfl,hP.ext (g2.trans e3),hy rfl H3 Ext.refl⟩
    ·have e5 : ((List.range (vN x).length).filter fun _ => true).map (fun m => V.int (need s (x.getD m 0) : Int)) = vI (x.map fun t => (need s t : Int)) := by
      rw [fil_true,vN_len,mapN x fun t => V.int (need s t : Int)]
      unfold vI
      rw [List.map_map]; rfl
     rw [e5] at hq
     refine ⟨D,_,rfl,SqL.of hq,(by show 2 <= sizeLine; decide),fun a ha => ?_⟩
     have g3 := g2.trans e3
     refine k a _ (g3.new2 ha) (g3.free a ha) ?_
     rw [upd_same,sum_need]; rfl
end
abbrev s_ask_by_lists : Stmt := top 74
theorem sc_ask_by_lists : FnScope ["plan", "place", "numbers", "lists"] ["plan", "place", "numbers", "lists"] (defScope s_ask_by_lists) := scM
section
variable {P : Program} {w : World} {G : Gd} {mg : Str -> Option Value} {base : Heap}
theorem ok_ask_by_lists {f : Addr} {fd : FuncData} (F : Fun G.K "ask_by_lists" "ask_by_lists" s_ask_by_lists f fd) (T : Txt mg G) (c_hours : Def P w G.K mg base "hours" 4 ["plan", "row"] (sp_hours G)) (c_covers : Def P w G.K mg base "covers" 4 ["plan", "row"] (sp_covers G)) (c_apart : Def P w G.K mg base "apart" 3 ["plan", "row"] (sp_apart G)) (c_people : Def P w G.K mg base "people" 6 ["plan", "row"] (sp_people G)) (c_roster : Def P w G.K mg base "roster" 4 ["plan", "rows"] (sp_roster G)) (c_there : Def P w G.K mg base "there" 4 ["plan", "minute", "row"] (sp_there G)) (c_ill : Def P w G.K mg base "ill" 7 ["plan", "j", "k", "row"] (sp_ill G)) : FnOk P w G.K mg base CX0 8 f fd ["plan", "place", "numbers", "lists"] (sp_ask_by_lists G) := by
 refine F.ok sc_ask_by_lists (fun vs H Q E h => ?_) (fun cdv A outer s0 H vs Q E hr h => ?_)
 ·obtain ⟨p,sa,s,z,n,l,ns,xs,rfl,hC,ht,hx,hz,k⟩ := h
  rfl
 ·have nd := sc_ask_by_lists.nd
  obtain ⟨p,sa,s,z,n,l,ns,xs,rfl,hC,ht,hx,hz,k⟩ := h
  refine ⟨_,(pss_cons (ps_if (pt_cmpR op_eq (pv 1) pe_int (nomark _))
   (pss_one (ps_ret (pe_cal c_covers (hr.mono (by decide)) rfl (pa_cons (pv 0) (pa_cons (pe_ix (ixL (K := G.K) rfl) (pv 3) pe_int (fun _ _ => rfl)) pa_nil)))))
   pss_nil)
   (pss_cons (ps_if (pt_cmpR op_eq (pv 1) pe_int (nomark _))
   (pss_one (ps_ret (pe_cal c_apart (hr.mono (by decide)) rfl (pa_cons (pv 0) (pa_cons (pe_ix (ixL (K := G.K) rfl) (pv 3) pe_int (fun _ _ => rfl)) pa_nil)))))
   pss_nil)
   (pss_cons (ps_if (pt_cmpR op_eq (pv 1) pe_int (nomark _))
   (pss_one (ps_ret (pe_cal c_people (hr.mono (by decide)) rfl (pa_cons (pv 0) (pa_cons (pe_ix (ixL (K := G.K) rfl) (pv 3) pe_int (fun _ _ => rfl)) pa_nil)))))
   pss_nil)
   (pss_cons (ps_if (pt_cmpR op_eq (pv 1) pe_int (nomark _))
   (pss_one (ps_ret (pe_cal c_roster (hr.mono (by decide)) rfl (pa_cons (pv 0) (pa_cons (pv 3) pa_nil)))))
   pss_nil)
   (pss_cons (ps_if (pt_cmpR op_eq (pv 1) pe_int (nomark _))
   (pss_one (ps_ret (pe_cal c_there (hr.mono (by decide)) rfl (pa_cons (pv 0) (pa_cons (pe_ix (ixL (K := G.K) rfl) (pv 2) pe_int (fun _ _ => rfl)) (pa_cons (pe_ix (ixL (K := G.K) rfl) (pv 3) pe_int (fun _ _ => rfl)) pa_nil))))))
   pss_nil)
   (pss_cons (ps_if (pt_cmpR op_eq (pv 1) pe_int (nomark _))
   (pss_one (ps_ret (pe_cal c_ill (hr.mono (by decide)) rfl (pa_cons (pv 0) (pa_cons (pe_ix (ixL (K := G.K) rfl) (pv 2) pe_int (fun _ _ => rfl)) (pa_cons (pe_ix (ixL (K := G.K) rfl) (pv 2) pe_int (fun _ _ => rfl)) (pa_cons (pe_ix (ixL (K := G.K) rfl) (pv 3) pe_int (fun _ _ => rfl)) pa_nil)))))))
   pss_nil)
   (pss_one (ps_ret (pe_cal c_hours (hr.mono (by decide)) rfl (pa_cons (pv 0) (pa_cons (pe_ix (ixL (K := G.K) rfl) (pv 3) pe_int (fun _ _ => rfl)) pa_nil))))))))))),?_⟩
  have hP := hC.plan
  have hn := hC.num
  cases ht with
  | c6 r =>
   obtain ⟨ra,hl1,hra⟩ := irow1 hC.rows
   exact ⟨_,rfl,rfl,_,rfl,eqT ⟨_,rfl,_,rfl,l,_,_,_,rfl,rfl,SqL.of hl1,atI_nat (j := 0) rfl,p,sa,s,ra,r,rfl,hP,hra,hC.rl r (by simp),k⟩⟩
  | c7 r =>
   obtain ⟨ra,hl1,hra⟩ := irow1 hC.rows
   exact ⟨_,rfl,rfl,_,rfl,eqF (by decide) ⟨_,rfl,rfl,_,rfl,eqT ⟨_,rfl,_,rfl,l,_,_,_,rfl,rfl,SqL.of hl1,atI_nat (j := 0) rfl,p,sa,s,ra,r,rfl,hP,hra,hC.rl r (by simp),k⟩⟩⟩
  | c8 r =>
   obtain ⟨ra,hl1,hra⟩ := irow1 hC.rows
   exact ⟨_,rfl,rfl,_,rfl,eqF (by decide) ⟨_,rfl,rfl,_,rfl,eqF (by decide) ⟨_,rfl,rfl,_,rfl,eqT ⟨_,rfl,_,rfl,l,_,_,_,rfl,rfl,SqL.of hl1,atI_nat (j := 0) rfl,p,sa,s,ra,r,rfl,hP,hra,hC.rl r (by simp),k⟩⟩⟩⟩
  | c9 xs =>
   exact ⟨_,rfl,rfl,_,rfl,eqF (by decide) ⟨_,rfl,rfl,_,rfl,eqF (by decide) ⟨_,rfl,rfl,_,rfl,eqF (by decide) ⟨_,rfl,rfl,_,rfl,eqT ⟨_,rfl,_,rfl,p,sa,s,l,_,rfl,hP,hC.rows,hC.xl,hC.rl,k⟩⟩⟩⟩⟩
  | c11 a r =>
   obtain ⟨ra,hl1,hra⟩ := irow1 hC.rows
   exact ⟨_,rfl,rfl,_,rfl,eqF (by decide) ⟨_,rfl,rfl,_,rfl,eqF (by decide) ⟨_,rfl,rfl,_,rfl,eqF (by decide) ⟨_,rfl,rfl,_,rfl,eqF (by decide) ⟨_,rfl,rfl,_,rfl,eqT ⟨_,rfl,_,rfl,n,_,_,_,rfl,rfl,SqL.of hn,atI_nat (j := 0) rfl,_,rfl,l,_,_,_,rfl,rfl,SqL.of hl1,atI_nat (j := 0) rfl,p,sa,s,a,ra,r,rfl,hP,hra,hC.rl r (by simp),k⟩⟩⟩⟩⟩⟩
  | c13 a b r =>
   obtain ⟨ra,hl1,hra⟩ := irow1 hC.rows
   exact ⟨_,rfl,rfl,_,rfl,eqF (by decide) ⟨_,rfl,rfl,_,rfl,eqF (by decide) ⟨_,rfl,rfl,_,rfl,eqF (by decide) ⟨_,rfl,rfl,_,rfl,eqF (by decide) ⟨_,rfl,rfl,_,rfl,eqF (by decide) ⟨_,rfl,rfl,_,rfl,eqT ⟨_,rfl,_,rfl,n,_,_,_,rfl,rfl,SqL.of hn,atI_nat (j := 0) rfl,_,rfl,n,_,_,_,rfl,rfl,SqL.of hn,atI_nat (j := 1) rfl,_,rfl,l,_,_,_,rfl,rfl,SqL.of hl1,atI_nat (j := 0) rfl,p,sa,s,a,b,ra,r,rfl,hP,hra,hC.rl r (by simp),k⟩⟩⟩⟩⟩⟩⟩
  | c14 r =>
   obtain ⟨ra,hl1,hra⟩ := irow1 hC.rows
   exact ⟨_,rfl,rfl,_,rfl,eqF (by decide) ⟨_,rfl,rfl,_,rfl,eqF (by decide) ⟨_,rfl,rfl,_,rfl,eqF (by decide) ⟨_,rfl,rfl,_,rfl,eqF (by decide) ⟨_,rfl,rfl,_,rfl,eqF (by decide) ⟨_,rfl,rfl,_,rfl,eqF (by decide) ⟨_,rfl,_,rfl,l,_,_,_,rfl,rfl,SqL.of hl1,atI_nat (j := 0) rfl,p,sa,s,ra,r,rfl,hP,hra,hC.rl r (by simp),k⟩⟩⟩⟩⟩⟩⟩
  | _ => first | exact absurd (by decide) hz | (exfalso; rcases hx with h | h; exact absurd h (by decide); exact h rfl)
end
abbrev s_ask_by_numbers : Stmt := top 73
theorem sc_ask_by_numbers : FnScope ["plan", "place", "numbers"] ["plan", "place", "numbers"] (defScope s_ask_by_numbers) := scM
section
variable {P : Program} {w : World} {G : Gd} {mg : Str -> Option Value} {base : Heap}
theorem ok_ask_by_numbers {f : Addr} {fd : FuncData} (F : Fun G.K "ask_by_numbers" "ask_by_numbers" s_ask_by_numbers f fd) (T : Txt mg G) (c_all_kept : Def P w G.K mg base "all_kept" 2 ["plan"] (sp_all_kept G)) (c_least : Def P w G.K mg base "least" 7 ["plan"] (sp_least G)) (c_back : Def P w G.K mg base "back" 7 ["plan"] (sp_back G)) (c_need : Def P w G.K mg base "need" 2 ["plan", "minute"] (sp_need G)) (c_shortage : Def P w G.K mg base "shortage" 7 ["plan", "n"] (sp_shortage G)) : FnOk P w G.K mg base CX0 8 f fd ["plan", "place", "numbers"] (sp_ask_by_numbers G) := by
 refine F.ok sc_ask_by_numbers (fun vs H Q E h => ?_) (fun cdv A outer s0 H vs Q E hr h => ?_)
 ·obtain ⟨p,sa,s,z,n,ns,rfl,hP,hn,ht,h9,hz,k⟩ := h
  rfl
 ·have nd := sc_ask_by_numbers.nd
  obtain ⟨p,sa,s,z,n,ns,rfl,hP,hn,ht,h9,hz,k⟩ := h
  refine ⟨_,(pss_cons (ps_if (pt_cmpR op_eq (pv 1) pe_int (nomark _))
   (pss_one (ps_ret (pe_cal c_least (hr.mono (by decide)) rfl (pa_cons (pv 0) pa_nil))))
   pss_nil)
   (pss_cons (ps_if (pt_cmpR op_eq (pv 1) pe_int (nomark _))
   (pss_one (ps_ret (pe_cal c_back (hr.mono (by decide)) rfl (pa_cons (pv 0) pa_nil))))
   pss_nil)
   (pss_cons (ps_if (pt_cmpR op_eq (pv 1) pe_int (nomark _))
   (pss_one (ps_ret (pe_cal c_need (hr.mono (by decide)) rfl (pa_cons (pv 0) (pa_cons (pe_ix (ixL (K := G.K) rfl) (pv 2) pe_int (fun _ _ => rfl)) pa_nil)))))
   pss_nil)
   (pss_cons (ps_if (pt_cmpR op_eq (pv 1) pe_int (nomark _))
   (pss_one (ps_ret (pe_cal c_shortage (hr.mono (by decide)) rfl (pa_cons (pv 0) (pa_cons (pe_ix (ixL (K := G.K) rfl) (pv 2) pe_int (fun _ _ => rfl)) pa_nil)))))
   pss_nil)
   (pss_one (ps_ret (pe_cal c_all_kept (hr.mono (by decide)) rfl (pa_cons (pv 0) pa_nil)))))))),?_⟩
  have ix := SqL.of (K := G.K) hn
  cases ht with
  | c4 => rw [ans4'] at k; exact ⟨_,rfl,rfl,_,rfl,eqT ⟨_,rfl,p,sa,s,rfl,hP,k⟩⟩
  | c5 => rw [ans5'] at k; exact ⟨_,rfl,rfl,_,rfl,eqF (by decide) ⟨_,rfl,rfl,_,rfl,eqT ⟨_,rfl,p,sa,s,rfl,hP,k⟩⟩⟩
  | c10 a => exact ⟨_,rfl,rfl,_,rfl,eqF (by decide) ⟨_,rfl,rfl,_,rfl,eqF (by decide) ⟨_,rfl,rfl,_,rfl,eqT ⟨_,rfl,_,rfl,n,_,_,_,rfl,rfl,ix,atI_nat (j := 0) rfl,p,sa,s,a,rfl,hP,k⟩⟩⟩⟩
  | c12 a => exact ⟨_,rfl,rfl,_,rfl,eqF (by decide) ⟨_,rfl,rfl,_,rfl,eqF (by decide) ⟨_,rfl,rfl,_,rfl,eqF (by decide) ⟨_,rfl,rfl,_,rfl,eqT ⟨_,rfl,_,rfl,n,_,_,_,rfl,rfl,ix,atI_nat (j := 0) rfl,p,sa,s,a,rfl,hP,k⟩⟩⟩⟩⟩
  | c15 => exact ⟨_,rfl,rfl,_,rfl,eqF (by decide) ⟨_,rfl,rfl,_,rfl,eqF (by decide) ⟨_,rfl,rfl,_,rfl,eqF (by decide) ⟨_,rfl,rfl,_,rfl,eqF (by decide) ⟨_,rfl,p,sa,s,rfl,hP,k⟩⟩⟩⟩⟩
  | c9 => exact absurd rfl h9
  | _ => exact absurd (by decide) hz
end
abbrev s_back : Stmt := top 43
theorem sc_back : FnScope ["plan", "way"] ["plan"] (defScope s_back) := scM
section
variable {P : Program} {w : World} {G : Gd} {mg : Str -> Option Value} {base : Heap}
theorem ok_back {f : Addr} {fd : FuncData} (F : Fun G.K "back" "back" s_back f fd) (T : Txt mg G) (c_falling_way : Def P w G.K mg base "falling_way" 6 ["plan"] (sp_falling_way G)) (c_fewest : Def P w G.K mg base "fewest" 3 ["way", "needs"] (sp_fewest G)) (c_needs_on : Def P w G.K mg base "needs_on" 2 ["plan", "way"] (sp_needs_on G)) : FnOk P w G.K mg base CX0 7 f fd ["plan"] (sp_back G) := by
 refine F.ok sc_back (fun vs H Q E h => ?_) (fun cdv A outer s0 H vs Q E hr h => ?_)
 ·obtain ⟨p,sa,s,rfl,hP,k⟩ := h
  rfl
 ·have nd := sc_back.nd
  obtain ⟨p,sa,s,rfl,hP,k⟩ := h
  refine ⟨_,(pss_cons (ps_set (i := 1) nd rfl (.inl rfl) (pe_cal c_falling_way (hr.mono (by decide)) rfl (pa_cons (pv 0) pa_nil)))
   (pss_one (ps_ret (pe_cal c_fewest (hr.mono (by decide)) rfl (pa_cons (pv 1) (pa_cons (pe_cal c_needs_on (hr.mono (by decide)) rfl (pa_cons (pv 0) (pa_cons (pv 1) pa_nil))) pa_nil)))))),?_⟩
  refine ⟨_,rfl,p,sa,s,rfl,hP,fun wy H1 e1 hw hW => ?_⟩
  refine ⟨_,rfl,_,rfl,_,rfl,p,sa,s,wy,_,_,rfl,hP.ext e1,hW,fun r H2 e2 hr0 hr1 => ?_⟩
  refine ⟨wy,r,s,_,_,need s,rfl,hW.ext e2,List.pairwise_reverse.mpr ((points_nodup s).imp fun q => Ne.symm q),hr1,fun q H3 e3 hq hq' => ?_⟩
  have g := (e1.trans e2).trans e3
  exact k q H3 g ((e1.trans e2).free q hq) hq'
end
abbrev s_covers : Stmt := top 66
theorem sc_covers : FnScope ["plan", "row", "crews", "minute", "missing"] ["plan", "row"] (defScope s_covers) := scM
section
variable {P : Program} {w : World} {G : Gd} {mg : Str -> Option Value} {base : Heap}
theorem ok_covers {f : Addr} {fd : FuncData} (F : Fun G.K "covers" "covers" s_covers f fd) (T : Txt mg G) (c_crews_of : Def P w G.K mg base "crews_of" 3 ["plan", "row"] (sp_crews_of G)) (c_points : Def P w G.K mg base "points" 1 ["plan"] (sp_points G)) (c_missing_at : Def P w G.K mg base "missing_at" 3 ["plan", "crews", "minute"] (sp_missing_at G)) : FnOk P w G.K mg base CX0 4 f fd ["plan", "row"] (sp_covers G) := by
 refine F.ok sc_covers (fun vs H Q E h => ?_) (fun cdv A outer s0 H vs Q E hr h => ?_)
 ·obtain ⟨p,sa,s,r,row,rfl,hP,hr1,hl,k⟩ := h
  rfl
 ·have nd := sc_covers.nd
  obtain ⟨p,sa,s,r,row,rfl,hP,hr1,hl,k⟩ := h
  refine ⟨_,(pss_cons (ps_set (i := 2) nd rfl (.inl rfl) (pe_cal c_crews_of (hr.mono (by decide)) rfl (pa_cons (pv 0) (pa_cons (pv 1) pa_nil))))
   (pss_cons (ps_if (pt_cmp (pc_isN (pv 2)))
   (pss_one (ps_ret (pe_lst (pa_cons (pe_gi rfl T.m_BAD_LIST) pa_nil))))
   pss_nil)
   (pss_cons (ps_for PassesOwn.never rfl (pi_list (pe_cal c_points (hr.mono (by decide)) rfl (pa_cons (pv 0) pa_nil))) (pg_name (i := 3) nd rfl (.inl rfl))
   (pss_cons (ps_set (i := 4) nd rfl (.inl rfl) (pe_cal c_missing_at (hr.mono (by decide)) rfl (pa_cons (pv 0) (pa_cons (pv 2) (pa_cons (pv 3) pa_nil)))))
   (pss_one (ps_if (pt_cmpR op_gt (pv 4) pe_int (nomark _))
   (pss_one (ps_ret (pe_lst (pa_cons pe_int (pa_cons (pv 3) (pa_cons (pv 4) pa_nil))))))
   pss_nil))))
   (pss_one (ps_ret (pe_lst (pa_cons pe_int (pa_cons (pe_callB (sumK (K := G.K) rfl rfl) rfl T.b_sum boot_sum (pa_cons (pv 2) pa_nil)) pa_nil)))))))),?_⟩
  rw [ans6] at k
  have h221 := points_len hP.wf
  refine ⟨_,rfl,_,rfl,p,sa,s,r,row,rfl,hP,hr1,hl,?_⟩
  cases hx : crewsIn s row with
  | none =>
   rw [hx] at k
   intro H1 e1
   refine ⟨_,rfl,_,rfl,?_⟩
   refine iteT ?_
   refine ⟨(by show 1 <= sizeLine; decide),fun a ha => ?_⟩
   refine k a _ (e1.new2 ha) (e1.free a ha) ?_
   rw [upd_same]; rfl
  | some x =>
   rw [hx] at k
   dsimp only at k
   have hin := isCrews_in ((crewsIn_ok s row x).mp hx)
   intro c H1 e1 hc hc'
   refine ⟨_,rfl,_,rfl,?_⟩
   refine iteF ?_
   refine ⟨_,rfl,p,sa,s,rfl,hP.ext e1,fun m H2 e2 hm hm' => ?_⟩
   rw [<- vN_vI] at hm'
   have g2 := e1.trans e2
   refine ⟨m,rfl,⟨_,SqL.of hm'⟩,for_list (K := G.K) (a := m) (xs := vN (points s)) (fun i σ H' => Ext G.L H2 H' /\ (∀ t ∈ (points s).take i,decide (there s x t < need s t) = false) /\ ∃ v3 v4,σ = [some (.ref p),some (.ref r),some (.ref c),v3,v4])
    ⟨Ext.refl,by simp,none,none,rfl⟩ (fun i σ H' _ ⟨e,_⟩ => SqL.of (e.lst hm')) ?_ ?_⟩
   ·rintro i y σ H' hi ⟨e,hno,v3,v4,rfl⟩
    obtain ⟨rfl,ht,_⟩ := vN_at hi
    generalize (points s).getD i 0 = t at ht
    have g3 := g2.trans e
    refine ⟨_,rfl,_,rfl,_,rfl,p,sa,s,c,x,t,rfl,hP.ext g3,(e2.trans e).lst hc',hin,fun H3 e3 => ?_⟩
    refine ⟨_,rfl,_,_,rfl,rfl,_,rfl,?_⟩
    by_cases z : there s x t < need s t
    ·have mz : 0 < missing s x t := by unfold Vbedai.missing; omega
     rw [show decide ((0 : Int) < (missing s x t : Int)) = true by simp; omega]
     refine iteT ?_
     rw [find_at hno ht (by simp [z])] at k
     refine ⟨_,rfl,_,rfl,(by show 3 <= sizeLine; decide),fun a ha => ?_⟩
     have g4 := g3.trans e3
     refine k a _ (g4.new2 ha) (g4.free a ha) ?_
     rw [upd_same]; rfl
    ·have mz : missing s x t = 0 := by unfold Vbedai.missing; omega
     rw [show decide ((0 : Int) < (missing s x t : Int)) = false by simp; omega]
     refine iteF ?_
     exact ⟨e.trans e3,take_all hno ht (by simp; omega),_,_,rfl⟩
   ·rintro σ H' ⟨e,hno,v3,v4,rfl⟩
    rw [vN_len,List.take_length] at hno
    rw [find_no hno] at k
    have g3 := g2.trans e
    refine ⟨_,rfl,c,_,rfl,SqL.of ((e2.trans e).lst hc'),(by show 2 <= sizeLine; decide),fun a ha => ?_⟩
    refine k a _ (g3.new2 ha) (g3.free a ha) ?_
    rw [upd_same,onAll_sum hin]; rfl
end
abbrev s_falling_way : Stmt := top 34
theorem sc_falling_way : FnScope ["plan", "minutes", "having", "minute", "chosen", "numbers"] ["plan"] (defScope s_falling_way) := scM
section
variable {P : Program} {w : World} {G : Gd} {mg : Str -> Option Value} {base : Heap}
theorem ok_falling_way {f : Addr} {fd : FuncData} (F : Fun G.K "falling_way" "falling_way" s_falling_way f fd) (T : Txt mg G) {fW : Addr} {fdW : FuncData} (M_Way : Mk G.K G.CW fW) (G_Way : FnOk P w G.K mg base CX0 1 fW fdW ["self", "shifts", "minutes", "having", "chosen"] (sp_Way G)) (b_Way : Binds G.K fdW ["self", "shifts", "minutes", "having", "chosen"] []) (c_shifts_with : Def P w G.K mg base "shifts_with" 2 ["shifts", "minute"] (sp_shifts_with G)) (c_first_to_begin : Def P w G.K mg base "first_to_begin" 5 ["shifts", "numbers"] (sp_first_to_begin G)) (c_points : Def P w G.K mg base "points" 1 ["plan"] (sp_points G)) : FnOk P w G.K mg base CX0 6 f fd ["plan"] (sp_falling_way G) := by
 refine F.ok sc_falling_way (fun vs H Q E h => ?_) (fun cdv A outer s0 H vs Q E hr h => ?_)
 ·obtain ⟨p,sa,s,rfl,hP,k⟩ := h
  rfl
 ·have nd := sc_falling_way.nd
  obtain ⟨p,sa,s,rfl,hP,k⟩ := h
  refine ⟨_,(pss_cons (ps_set (i := 1) nd rfl (.inl rfl) (pe_listRev (K := G.K) rfl rfl rfl T.b_list rfl T.b_reversed (pa_cons (pe_cal c_points (hr.mono (by decide)) rfl (pa_cons (pv 0) pa_nil)) pa_nil)))
   (pss_cons (ps_setLc (i := 2) (own := [("minute",3)]) rfl nd rfl rfl (sw_true rfl rfl rfl rfl) (pi_list (pv 1)) (blkOk_by (show blkC ["plan", "minutes", "having", "minute", "chosen", "numbers"] (defScope s_falling_way) _ _ = true by decide +kernel)) (fun _ _ _ _ _ => (pg_name (i := 3) nd rfl (.inl rfl))) (fun _ _ _ _ _ => pts_nil) (fun _ _ _ _ _ => (pe_cal c_shifts_with (hr.mono (by decide)) rfl (pa_cons (fldK (K := G.K) rfl (pv 0) rfl) (pa_cons (pv 3) pa_nil)))))
   (pss_cons (ps_setLc (i := 4) (own := [("numbers",5)]) rfl nd rfl rfl (sw_true rfl rfl rfl rfl) (pi_list (pv 2)) (blkOk_by (show blkC ["plan", "minutes", "having", "minute", "chosen", "numbers"] (defScope s_falling_way) _ _ = true by decide +kernel)) (fun _ _ _ _ _ => (pg_name (i := 5) nd rfl (.inl rfl))) (fun _ _ _ _ _ => pts_nil) (fun _ _ _ _ _ => (pe_cal c_first_to_begin (hr.mono (by decide)) rfl (pa_cons (fldK (K := G.K) rfl (pv 0) rfl) (pa_cons (pv 5) pa_nil)))))
   (pss_one (ps_ret (pe_make M_Way G_Way (hr.mono (by decide)) rfl T.m_Way b_Way .nil pass0 (pa_cons (fldK (K := G.K) rfl (pv 0) rfl) (pa_cons (pv 1) (pa_cons (pv 2) (pa_cons (pv 4) pa_nil)))))))))),?_⟩
  have h221 : ((points s).reverse).length <= 221 := by rw [List.length_reverse]; exact points_len hP.wf
  refine ⟨_,rfl,p,sa,s,rfl,hP,fun m1 H0 e0 hm0 hm0' => ⟨m1,_,rfl,SqL.of hm0',fun m0 hm0n => ?_⟩⟩
  ·have e1 : Ext G.L H (upd H0 m0 (.lst (vI ((points s).map fun (t : Nat) => (t : Int))).reverse)) := e0.new2 hm0n
   have hm' : (upd H0 m0 (.lst (vI ((points s).map fun (t : Nat) => (t : Int))).reverse)) m0 = some (.lst (vI ((points s).reverse.map fun (t : Nat) => (t : Int)))) := by
    rw [upd_same]; unfold vI; rw [List.map_reverse,List.map_reverse]
   revert hm' e1
   generalize upd H0 m0 (.lst (vI ((points s).map fun (t : Nat) => (t : Int))).reverse) = H1
   intro e1 hm'
   rw [vI_map] at hm'
   refine ⟨_,rfl,m0,rfl,⟨_,SqL.of hm'⟩,?_⟩
   intro D hD
   refine lcR_list (L := G.L) (xs := vN ((points s).reverse)) (fun _ => true) (fun i => .lst (vN (having s (((points s).reverse).getD i 0)))) (fun _ => rfl) (by rw [vN_len,sizeLine_eq]; omega) (SqL.of hm') hD (fun i x H2 hx e2 Kt N hy hn => ?_) fun H2 hR => ?_
   ·obtain ⟨rfl,_,_⟩ := vN_at hx
    obtain ⟨dx,ca,hp,hca,nca⟩ := (hP.ext (e1.trans e2)).ex
    refine ⟨rfl,iteT (B := N H2) ?_⟩
    refine ⟨_,rfl,p,G.CP,dx,_,_,rfl,hp,T.clP,T.nP_shifts,pf_shifts _ _ _,_,rfl,sa,s,_,rfl,hP.wf,(hP.ext (e1.trans e2)).sh,fun q H3 e3 hq hq' => ?_⟩
    rw [vI_map] at hq'
    exact hy rfl q H3 e3 hq hq'
   ·have e2 := hR.ext
    rw [vN_len,fil_all] at hR
    obtain ⟨as,h5,hat,_⟩ := hR.ex
    have hal : as.length = ((points s).reverse).length := by rw [hat.len,List.length_range]
    have h7 : ∀ (i : Nat) (a : Addr) (t : Nat),as[i]? = some a -> ((points s).reverse)[i]? = some t -> H2 a = some (.lst (vN (having s t))) := fun i a t ha ht => by
     have hi : i < ((points s).reverse).length := (List.getElem?_eq_some_iff.mp ht).1
     have z := hat.at_ i i a (List.getElem?_range hi) ha
     rw [getD_at ht] at z
     exact z
    refine ⟨_,rfl,D,rfl,⟨_,SqL.of h5⟩,?_⟩
    intro D2 hD2
    refine lcI_list (L := G.L) (xs := as.map V.ref) (fun _ => true) (fun i => optV (firstStart s (having s (((points s).reverse).getD i 0)))) (by rw [List.length_map,hal,sizeLine_eq]; omega) (SqL.of h5) hD2 (fun i x H3 hx e3 Kt N hy hn => ?_) fun H3 e3 hq => ?_
    ·rw [List.getElem?_map] at hx
     cases ea : as[i]? with
     | none => rw [ea] at hx; cases hx
     | some a =>
      rw [ea] at hx
      obtain rfl : V.ref a = x := Option.some.inj hx
      have hi : i < ((points s).reverse).length := by rw [<- hal]; exact (List.getElem?_eq_some_iff.mp ea).1
      obtain ⟨t,ht⟩ := at_nat hi
      have hP3 := hP.ext ((e1.trans e2).trans e3)
      obtain ⟨dx,ca,hp,hca,nca⟩ := hP3.ex
      refine ⟨rfl,iteT (B := N H3) ?_⟩
      refine ⟨_,rfl,p,G.CP,dx,_,_,rfl,hp,T.clP,T.nP_shifts,pf_shifts _ _ _,_,rfl,sa,a,s,having s t,rfl,hP.wf,hP3.tabs,hP3.sh,e3.lst (h7 i a t ea ht),fun j hj => having_sub hj,having_len hP.wf t,fun H4 e4 => ?_⟩
      have z := hy rfl H4 e4
      rw [getD_at ht] at z
      exact z
    ·rw [fil_true,List.length_map,hal,mapN ((points s).reverse) fun t => optV (firstStart s (having s t))] at hq
     have g3 := (e1.trans e2).trans e3
     have hP3 := hP.ext g3
     obtain ⟨dx,ca,hp,hca,nca⟩ := hP3.ex
     refine ⟨_,rfl,p,G.CP,dx,_,_,rfl,hp,T.clP,T.nP_shifts,pf_shifts _ _ _,_,rfl,_,rfl,_,rfl,fun wy dw hw hdw hne => ?_⟩
     refine ⟨wy,dw,sa,m0,D,D2,rfl,upd_same,fun H4 q1 q2 => ⟨rfl,?_⟩⟩
     have e4 : Ext G.L H3 H4 := way_ext hw hdw hne q1 q2
     refine k wy H4 (g3.trans e4) (g3.free wy hw) ⟨hP.wf,h221,pick_first s,dw,sa,m0,D,D2,q1,(hP3.ext e4).sh,(e2.trans (e3.trans e4)).lst hm',e4.lst hq,as,(e3.trans e4).lst h5,hal,fun i a t ha ht => (e3.trans e4).lst (h7 i a t ha ht)⟩
end
abbrev s_fewer : Stmt := top 44
theorem sc_fewer : FnScope ["needs", "k", "need"] ["needs", "k"] (defScope s_fewer) := scM
section
variable {P : Program} {w : World} {G : Gd} {mg : Str -> Option Value} {base : Heap}
theorem ok_fewer {f : Addr} {fd : FuncData} (F : Fun G.K "fewer" "fewer" s_fewer f fd) (T : Txt mg G) : FnOk P w G.K mg base CX0 1 f fd ["needs", "k"] (sp_fewer G) := by
 refine F.ok sc_fewer (fun vs H Q E h => ?_) (fun cdv A outer s0 H vs Q E hr h => ?_)
 ·obtain ⟨r,ns,c,rfl,hr1,hl,k⟩ := h
  rfl
 ·have nd := sc_fewer.nd
  obtain ⟨r,ns,c,rfl,hr1,hl,k⟩ := h
  refine ⟨_,(pss_one (ps_ret (pe_lc (own := [("need",2)]) rfl nd (pi_list (pv 0)) (blkOk_by (show blkC ["needs", "k", "need"] (defScope s_fewer) _ _ = true by decide +kernel)) (fun _ _ _ _ _ => (pg_name (i := 2) nd rfl (.inl rfl))) (fun _ _ _ _ _ => pts_nil) (fun _ _ _ _ _ => (pe_callB (call_max2 rfl) rfl T.b_max boot_max (pa_cons pe_int (pa_cons (pe_op op_sub (pv 2) (pv 1)) pa_nil))))))),?_⟩
  refine ⟨_,rfl,r,rfl,⟨_,SqL.of hr1⟩,?_⟩
  intro D hD
  refine lcI_list (L := G.L) (xs := vN ns) (fun _ => true) (fun i => .int ((ns.getD i 0 - c : Nat) : Int)) (by rw [vN_len,sizeLine_eq]; omega) (SqL.of hr1) hD (fun i x H1 hx e Kt N hy hn => ?_) fun H1 e hq => ?_
  ·obtain ⟨rfl,_,_⟩ := vN_at hx
   refine ⟨rfl,iteT (B := N H1) ?_⟩
   refine ⟨_,rfl,_,rfl,_,_,rfl,rfl,_,_,rfl,?_⟩
   have z : (if ((ns.getD i 0 : Nat) : Int) - (c : Int) > 0 then ((ns.getD i 0 : Nat) : Int) - (c : Int) else 0) = ((ns.getD i 0 - c : Nat) : Int) := by split <;> omega
   rw [z]
   exact hy rfl H1 Ext.refl
  ·refine k D H1 e hD ?_
   rw [hq,fil_true,vN_len,mapN ns fun t => V.int ((t - c : Nat) : Int)]
   unfold vI
   rw [List.map_map]
   rfl
end
theorem fi_at {p : Nat -> Bool} : ∀ {fs : List Nat} {i f : Nat},(∀ u ∈ fs.take i,p u = false) -> fs[i]? = some f -> p f = true -> fs.findIdx? p = some i
 | [],i,f,_,h,_ => by simp at h
 | m :: r,0,f,_,h,y => by
  have e : m = f := Option.some.inj h
  subst e
  rw [List.findIdx?_cons,y]; rfl
 | m :: r,i + 1,f,n,h,y => by
  rw [List.findIdx?_cons,n m (by simp),fi_at (fs := r) (i := i) (fun u hu => n u (by simp [hu])) h y]; rfl
theorem fi_no {p : Nat -> Bool} {fs : List Nat} (h : ∀ u ∈ fs,p u = false) : fs.findIdx? p = none := by
 rw [List.findIdx?_eq_none_iff]
 intro x hx
 rw [h x hx]
abbrev s_first_free : Stmt := top 53
theorem sc_first_free : FnScope ["free", "minute", "person"] ["free", "minute"] (defScope s_first_free) := scM
section
variable {P : Program} {w : World} {G : Gd} {mg : Str -> Option Value} {base : Heap}
theorem ok_first_free {f : Addr} {fd : FuncData} (F : Fun G.K "first_free" "first_free" s_first_free f fd) (T : Txt mg G) : FnOk P w G.K mg base CX0 1 f fd ["free", "minute"] (sp_first_free G) := by
 refine F.ok sc_first_free (fun vs H Q E h => ?_) (fun cdv A outer s0 H vs Q E hr h => ?_)
 ·obtain ⟨r,fs,a,rfl,hr1,hl,k⟩ := h
  rfl
 ·have nd := sc_first_free.nd
  have hu := hu_of hr
  obtain ⟨r,fs,a,rfl,hr1,hl,k⟩ := h
  refine ⟨_,(pss_cons (ps_for PassesOwn.never rfl (pi_range1 rfl T.b_range (pa_cons (pe_callB (lenK (K := G.K) rfl) rfl T.b_len PySem.boot_len (pa_cons (pv 0) pa_nil)) pa_nil)) (pg_name (i := 2) nd rfl (.inl rfl))
   (pss_one (ps_if (pt_cmpR op_le (pe_ix (ixL (K := G.K) rfl) (pv 0) (pv 2) (fun _ _ => rfl)) (pv 1) (nomark _))
   (pss_one (ps_ret (pv 2)))
   pss_nil)))
   (pss_one (ps_ret pe_non))),?_⟩
  refine ⟨_,rfl,r,_,rfl,.inl (SqL.of hr1),_,rfl,by rw [vN_len]; omega,by rw [vN_len]; omega,?_⟩
  rw [vN_len,Int.toNat_natCast]
  refine for_range (n := fs.length) (fun i σ H' => H' = H /\ (∀ u ∈ fs.take i,decide (u <= a) = false) /\ ∃ v2,σ = [some (.ref r),some (.int (a : Int)),v2]) ⟨rfl,by simp,none,rfl⟩ ?_ ?_
  ·rintro i σ H' hi ⟨rfl,hno,v2,rfl⟩
   obtain ⟨t,ht⟩ := at_nat hi
   have a1 : atI (vN fs) (0 + (i : Int)) = some (.int (t : Int)) := at_of (j := i) (by omega) (by rw [List.getElem?_map,ht]; rfl)
   refine ⟨_,rfl,_,rfl,r,_,_,_,rfl,rfl,SqL.of hr1,a1,_,rfl,_,_,rfl,rfl,_,rfl,?_⟩
   have ed : decide ((t : Int) <= (a : Int)) = decide (t <= a) := by simp
   rw [ed]
   cases z : decide (t <= a) with
   | true =>
    refine iteT ?_
    refine ⟨_,rfl,?_⟩
    unfold firstLe at k
    rw [fi_at (p := fun f => decide (f <= a)) hno ht z] at k
    rw [Int.zero_add]
    exact k H' Ext.refl
   | false =>
    refine iteF ?_
    exact ⟨rfl,take_all hno ht z,_,rfl⟩
  ·rintro σ H' ⟨rfl,hno,v2,rfl⟩
   rw [List.take_length] at hno
   unfold firstLe at k
   rw [fi_no (p := fun f => decide (f <= a)) hno] at k
   exact k H' Ext.refl
end
abbrev s_first_too_early : Stmt := top 56
theorem sc_first_too_early : FnScope ["plan", "row", "k"] ["plan", "row"] (defScope s_first_too_early) := scM
section
variable {P : Program} {w : World} {G : Gd} {mg : Str -> Option Value} {base : Heap}
theorem ok_first_too_early {f : Addr} {fd : FuncData} (F : Fun G.K "first_too_early" "first_too_early" s_first_too_early f fd) (T : Txt mg G) : FnOk P w G.K mg base CX0 1 f fd ["plan", "row"] (sp_first_too_early G) := by
 refine F.ok sc_first_too_early (fun vs H Q E h => ?_) (fun cdv A outer s0 H vs Q E hr h => ?_)
 ·obtain ⟨p,sa,s,r,js,rfl,hP,hr1,hjs,hl,k⟩ := h
  rfl
 ·have nd := sc_first_too_early.nd
  have hu := hu_of hr
  obtain ⟨p,sa,s,r,js,rfl,hP,hr1,hjs,hl,k⟩ := h
  refine ⟨_,(pss_cons (ps_for PassesOwn.never rfl (pi_range2 rfl T.b_range (pa_cons pe_int (pa_cons (pe_callB (lenK (K := G.K) rfl) rfl T.b_len PySem.boot_len (pa_cons (pv 1) pa_nil)) pa_nil))) (pg_name (i := 2) nd rfl (.inl rfl))
   (pss_one (ps_if (pt_cmpR op_lt (pe_ix (ixT (K := G.K) rfl) (pe_ix (ixL (K := G.K) rfl) (fldK (K := G.K) rfl (pv 0) rfl) (pe_ix (ixL (K := G.K) rfl) (pv 1) (pv 2) (fun _ _ => rfl)) (fun _ _ => rfl)) pe_int (fun _ _ => rfl)) (pe_op op_add (pe_ix (ixT (K := G.K) rfl) (pe_ix (ixL (K := G.K) rfl) (fldK (K := G.K) rfl (pv 0) rfl) (pe_ix (ixL (K := G.K) rfl) (pv 1) (pe_op op_sub (pv 2) pe_int) (fun _ _ => rfl)) (fun _ _ => rfl)) pe_int (fun _ _ => rfl)) (fldK (K := G.K) rfl (pv 0) rfl)) (nomark _))
   (pss_one (ps_ret (pv 2)))
   pss_nil)))
   (pss_one (ps_ret pe_non))),?_⟩
  obtain ⟨dx,ca,hp,hca,nca⟩ := hP.ex
  obtain ⟨xs,hx,hxl,hxa⟩ := hP.sh.at
  have sh : ∀ j,j < s.shifts.length -> ∃ b,atI xs (j : Int) = some (.ref b) /\ H b = some (.tup [.int ((shiftOf s j).a : Int),.int ((shiftOf s j).b : Int)]) := fun j jn => by
   have hj : j < xs.length := by rw [hxl,shP_len]; exact jn
   obtain ⟨b,q,ex,hq,hb⟩ := hxa j (xs[j]'hj) (List.getElem?_eq_getElem hj)
   rw [shP_at jn] at hq
   have ep : [((shiftOf s j).a : Int),((shiftOf s j).b : Int)] = q := Option.some.inj hq
   subst ep
   exact ⟨b,at_of (j := j) rfl (by rw [List.getElem?_eq_getElem hj,ex]),hb⟩
  refine ⟨_,rfl,r,_,rfl,.inl (SqL.of hr1),1,_,rfl,⟨by decide,by decide,by rw [vN_len]; omega,by rw [vN_len]; omega⟩,?_⟩
  rw [vN_len]
  refine for_range (n := ((js.length : Int) - 1).toNat) (fun i σ H' => H' = H /\ (∀ m,1 <= m -> m < i + 1 -> okAt s js m) /\ ∃ v2,σ = [some (.ref p),some (.ref r),v2]) ⟨rfl,fun m h1 h2 => by omega,none,rfl⟩ ?_ ?_
  ·rintro i σ H' hi ⟨rfl,hok,v2,rfl⟩
   have hi' : i + 1 < js.length := by omega
   obtain ⟨t,ht⟩ := at_nat hi'
   obtain ⟨u,hu'⟩ := at_nat (show i < js.length by omega)
   have tn := hjs t (List.mem_of_getElem? ht)
   have un := hjs u (List.mem_of_getElem? hu')
   have a1 : atI (vN js) (1 + (i : Int)) = some (.int (t : Int)) := at_of (j := i + 1) (by omega) (by rw [List.getElem?_map,ht]; rfl)
   have a2 : atI (vN js) (1 + (i : Int) - 1) = some (.int (u : Int)) := at_of (j := i) (by omega) (by rw [List.getElem?_map,hu']; rfl)
   obtain ⟨b1,s1,t1⟩ := sh t tn
   obtain ⟨b2,s2,t2⟩ := sh u un
   refine ⟨_,rfl,p,G.CP,dx,_,_,rfl,hp,T.clP,T.nP_shifts,pf_shifts _ _ _,_,rfl,_,rfl,r,_,_,_,rfl,rfl,SqL.of hr1,a1,sa,_,_,_,rfl,rfl,SqL.of hx,s1,b1,_,_,_,rfl,rfl,SqT.of t1,atI_nat (j := 0) rfl,?_⟩
   refine ⟨_,rfl,p,G.CP,dx,_,_,rfl,hp,T.clP,T.nP_shifts,pf_shifts _ _ _,_,rfl,_,rfl,_,_,rfl,rfl,r,_,_,_,rfl,rfl,SqL.of hr1,a2,sa,_,_,_,rfl,rfl,SqL.of hx,s2,b2,_,_,_,rfl,rfl,SqT.of t2,atI_nat (j := 1) rfl,?_⟩
   refine ⟨_,rfl,p,G.CP,dx,_,_,rfl,hp,T.clP,T.nP_rest,pf_rest _ _ _,_,_,rfl,rfl,_,_,rfl,rfl,_,rfl,?_⟩
   have eok : okAt s js (i + 1) ↔ ¬ ((shiftOf s t).a : Int) < ((shiftOf s u).b : Int) + (s.rest : Int) := by
    unfold VM.okAt
    rw [getD_at ht,show i + 1 - 1 = i from rfl,getD_at hu']
    omega
   by_cases z : ((shiftOf s t).a : Int) < ((shiftOf s u).b : Int) + (s.rest : Int)
   ·rw [show decide (((shiftOf s t).a : Int) < ((shiftOf s u).b : Int) + (s.rest : Int)) = true by simp [z]]
    refine iteT ?_
    refine ⟨_,rfl,?_⟩
    rw [wrong_some s js 0 (i + 1) (by omega) hi' hok (fun q => eok.mp q z)] at k
    have e1 : (1 : Int) + (i : Int) = ((0 + (i + 1) : Nat) : Int) := by omega
    rw [e1]
    exact k H' Ext.refl
   ·rw [show decide (((shiftOf s t).a : Int) < ((shiftOf s u).b : Int) + (s.rest : Int)) = false by simp [z]]
    refine iteF ?_
    refine ⟨rfl,fun m h1 h2 => ?_,_,rfl⟩
    by_cases c : m = i + 1
    ·rw [c]; exact eok.mpr z
    ·exact hok m h1 (by omega)
  ·rintro σ H' ⟨rfl,hok,v2,rfl⟩
   rw [wrong_none s js 0 fun m h1 h2 => hok m h1 (by omega)] at k
   exact k H' Ext.refl
end
abbrev s_has : Stmt := top 13
theorem sc_has : FnScope ["shift", "minute"] ["shift", "minute"] (defScope s_has) := scM
section
variable {P : Program} {w : World} {G : Gd} {mg : Str -> Option Value} {base : Heap}
theorem ok_has {f : Addr} {fd : FuncData} (F : Fun G.K "has" "has" s_has f fd) (T : Txt mg G) : FnOk P w G.K mg base CX0 1 f fd ["shift", "minute"] sp_has := by
 refine F.ok sc_has (fun vs H Q E h => ?_) (fun cdv A outer s0 H vs Q E hr h => ?_)
 ·obtain ⟨t,a,b,m,rfl,ht,k⟩ := h
  rfl
 ·have nd := sc_has.nd
  obtain ⟨t,a,b,m,rfl,ht,k⟩ := h
  refine ⟨_,(pss_one (ps_ret (pe_and (pe_cmpR op_le (pe_ix (ixT (K := G.K) rfl) (pv 0) pe_int (fun _ _ => rfl)) (pv 1) (nomark _)) (pe_one (pe_cmpR op_lt (pv 1) (pe_ix (ixT (K := G.K) rfl) (pv 0) pe_int (fun _ _ => rfl)) (nomark _)))))),?_⟩
  refine ⟨_,rfl,t,_,_,_,rfl,rfl,SqT.of ht,atI_nat (j := 0) rfl,_,rfl,_,_,rfl,rfl,_,rfl,?_⟩
  by_cases c : a <= m
  ·rw [if_pos (by simpa using c)]
   refine ⟨_,rfl,_,rfl,t,_,_,_,rfl,rfl,SqT.of ht,atI_nat (j := 1) rfl,_,_,rfl,rfl,?_⟩
   have e : (decide (a <= m) && decide (m < b)) = decide (m < b) := by simp [c]
   rw [e] at k
   exact k
  ·rw [if_neg (by simpa using c)]
   have e : (decide (a <= m) && decide (m < b)) = false := by simp [c]
   rw [e] at k
   exact k
end
abbrev s_has_form : Stmt := top 75
theorem sc_has_form : FnScope ["place", "numbers", "lists", "form"] ["place", "numbers", "lists"] (defScope s_has_form) := scM
section
variable {P : Program} {w : World} {G : Gd} {mg : Str -> Option Value} {base : Heap}
theorem ok_has_form {f : Addr} {fd : FuncData} (F : Fun G.K "has_form" "has_form" s_has_form f fd) (T : Txt mg G) (c_within : Def P w G.K mg base "within" 1 ["number", "low", "high"] sp_within) {FA : Addr} (TF : TxtF mg G FA) : FnOk P w G.K mg base CX0 2 f fd ["place", "numbers", "lists"] (sp_has_form G) := by
 refine F.ok sc_has_form (fun vs H Q E h => ?_) (fun cdv A outer s0 H vs Q E hr h => ?_)
 ·obtain ⟨z,n,l,ns,xs,rfl,hn,hl,k⟩ := h
  rfl
 ·have nd := sc_has_form.nd
  obtain ⟨z,n,l,ns,xs,rfl,hn,hl,k⟩ := h
  refine ⟨_,(pss_cons (ps_if (pt_cmpR (op_fnotin (K := G.K) rfl TF.frm) (pv 0) (pe_glob (v := .ref FA) rfl TF.m_FORMS rfl) (by with_unfolding_all rfl))
   (pss_one (ps_ret pe_bl))
   pss_nil)
   (pss_cons (ps_set (i := 3) nd rfl (.inl rfl) (pe_fget (K := G.K) rfl TF.frm rfl TF.m_FORMS (pv 0) (fun _ _ => rfl)))
   (pss_one (ps_ret (pe_and (pe_cmpR op_eq (pe_callB (lenK (K := G.K) rfl) rfl T.b_len PySem.boot_len (pa_cons (pv 1) pa_nil)) (pe_ix (ixT (K := G.K) rfl) (pv 3) pe_int (fun _ _ => rfl)) (nomark _)) (pe_one (pe_cal c_within (hr.mono (by decide)) rfl (pa_cons (pe_callB (lenK (K := G.K) rfl) rfl T.b_len PySem.boot_len (pa_cons (pv 2) pa_nil)) (pa_cons (pe_ix (ixT (K := G.K) rfl) (pv 3) pe_int (fun _ _ => rfl)) (pa_cons (pe_ix (ixT (K := G.K) rfl) (pv 3) pe_int (fun _ _ => rfl)) pa_nil)))))))))),?_⟩
  refine ⟨_,rfl,z,rfl,rfl,_,rfl,?_⟩
  have fe := forms_eq z
  cases e : formOf z with
  | none =>
   rw [e] at fe
   have kf : formOk z ns.length xs.length = false := by unfold formOk; rw [e]
   rw [kf] at k
   rw [fe]
   exact iteT k
  | some t =>
   obtain ⟨a,b,c⟩ := t
   rw [e] at fe
   have kf : formOk z ns.length xs.length = (decide (ns.length = a) && (decide (b <= xs.length) && decide (xs.length <= c))) := by unfold formOk; rw [e]
   rw [kf] at k
   rw [fe]
   refine iteF ?_
   obtain ⟨as,hl1,hl2,_⟩ := hl
   refine ⟨_,rfl,z,_,rfl,fe,fun b3 t3 => ?_⟩
   refine ⟨_,rfl,n,_,rfl,.inl (SqL.of hn),_,rfl,b3,_,_,_,rfl,rfl,t3.sq _,atI_nat (j := 0) rfl,rfl,_,rfl,?_⟩
   rw [dec_int,vI_len]
   by_cases c1 : ns.length = a
   ·rw [show ((ns.length : Int) == (a : Int)) = true by simp [c1]]
    refine iteT ?_
    refine ⟨_,rfl,l,_,rfl,.inl (SqL.of hl1),_,rfl,b3,_,_,_,rfl,rfl,t3.sq _,atI_nat (j := 1) rfl,_,rfl,b3,_,_,_,rfl,rfl,t3.sq _,atI_nat (j := 2) rfl,_,_,_,rfl,?_⟩
    rw [List.length_map,hl2]
    have e2 : inR (xs.length : Int) (b : Int) (c : Int) = (decide (ns.length = a) && (decide (b <= xs.length) && decide (xs.length <= c))) := by
     unfold Vbedai.inR
     rw [decide_eq_true c1,Bool.true_and]
     congr 1
     ·simp
     ·simp
    rw [e2]
    exact k
   ·rw [show ((ns.length : Int) == (a : Int)) = false by rw [beq_eq_false_iff_ne]; intro z; omega]
    refine iteF ?_
    rw [decide_eq_false c1,Bool.false_and] at k
    exact k
end
abbrev s_hours : Stmt := top 70
theorem sc_hours : FnScope ["plan", "row", "crews", "j"] ["plan", "row"] (defScope s_hours) := scM
section
variable {P : Program} {w : World} {G : Gd} {mg : Str -> Option Value} {base : Heap}
theorem ok_hours {f : Addr} {fd : FuncData} (F : Fun G.K "hours" "hours" s_hours f fd) (T : Txt mg G) (c_crews_of : Def P w G.K mg base "crews_of" 3 ["plan", "row"] (sp_crews_of G)) : FnOk P w G.K mg base CX0 4 f fd ["plan", "row"] (sp_hours G) := by
 refine F.ok sc_hours (fun vs H Q E h => ?_) (fun cdv A outer s0 H vs Q E hr h => ?_)
 ·obtain ⟨p,sa,s,r,row,rfl,hP,hr1,hl,k⟩ := h
  rfl
 ·have nd := sc_hours.nd
  obtain ⟨p,sa,s,r,row,rfl,hP,hr1,hl,k⟩ := h
  refine ⟨_,(pss_cons (ps_set (i := 2) nd rfl (.inr rfl) (pe_cal c_crews_of (hr.mono (by decide)) rfl (pa_cons (pv 0) (pa_cons (pv 1) pa_nil))))
   (pss_cons (ps_if (pt_cmp (pc_isN (pv 2)))
   (pss_one (ps_ret (pe_lst (pa_cons (pe_gi rfl T.m_BAD_LIST) pa_nil))))
   pss_nil)
   (pss_one (ps_ret (pe_lst (pa_cons (pe_callB (sumK (K := G.K) rfl rfl) rfl T.b_sum boot_sum (pa_cons (pe_lc (own := [("j",3)]) rfl nd (pi_range1 rfl T.b_range (pa_cons (pe_callB (lenK (K := G.K) rfl) rfl T.b_len PySem.boot_len (pa_cons (pv 2) pa_nil)) pa_nil)) (blkOk_by (show blkC ["plan", "row", "crews", "j"] (defScope s_hours) _ _ = true by decide +kernel)) (fun _ _ _ _ _ => (pg_name (i := 3) nd rfl (.inl rfl))) (fun _ _ _ _ _ => pts_nil) (fun _ _ _ _ _ => (pe_op op_mul (pe_ix (ixL (K := G.K) rfl) (pv 2) (pv 3) (fun _ _ => rfl)) (pe_op op_sub (pe_ix (ixT (K := G.K) rfl) (pe_ix (ixL (K := G.K) rfl) (fldK (K := G.K) rfl (pv 0) rfl) (pv 3) (fun _ _ => rfl)) pe_int (fun _ _ => rfl)) (pe_ix (ixT (K := G.K) rfl) (pe_ix (ixL (K := G.K) rfl) (fldK (K := G.K) rfl (pv 0) rfl) (pv 3) (fun _ _ => rfl)) pe_int (fun _ _ => rfl)))))) pa_nil)) pa_nil)))))),?_⟩
  rw [ans14] at k
  have h60 := hP.wf.sl
  refine ⟨_,rfl,_,rfl,p,sa,s,r,row,rfl,hP,hr1,hl,?_⟩
  cases hx : crewsIn s row with
  | none =>
   rw [hx] at k
   intro H1 e1
   refine ⟨_,rfl,_,rfl,?_⟩
   refine iteT ?_
   refine ⟨(by show 1 <= sizeLine; decide),fun a ha => ?_⟩
   refine k a _ (e1.new2 ha) (e1.free a ha) ?_
   rw [upd_same]; rfl
  | some x =>
   rw [hx] at k
   dsimp only at k
   have ix := (crewsIn_ok s row x).mp hx
   have hin := isCrews_in ix
   intro c H1 e1 hc hc'
   refine ⟨_,rfl,_,rfl,?_⟩
   refine iteF ?_
   have hP1 := hP.ext e1
   obtain ⟨dx,ca,hp,_⟩ := hP1.ex
   obtain ⟨xs,hxs,hxl,hxg⟩ := sh_get hP1.sh
   refine ⟨_,rfl,c,_,rfl,.inl (SqL.of hc'),_,rfl,by rw [vI_len,onAll_len]; omega,by rw [vI_len,onAll_len]; omega,?_⟩
   rw [vI_len,onAll_len,Int.toNat_natCast]
   intro D hD
   refine lcI_range (L := G.L) (fun _ => true) (fun j => .int (Vbedai.nat (onJ x j) * (Vbedai.nat (shiftOf s j).b - Vbedai.nat (shiftOf s j).a))) (by rw [sizeLine_eq]; omega) hD (fun i H2 hi e2 Kt N hy hn' => ?_) fun H2 e2 hq => ?_
   ·obtain ⟨b,hb1,hb2⟩ := hxg i hi
    have h0 : atI xs (0 + (i : Int)) = some (.ref b) := by rw [Int.zero_add]; exact hb1
    refine ⟨rfl,iteT (B := N H2) ?_⟩
    refine ⟨_,rfl,_,rfl,c,_,_,_,rfl,rfl,SqL.of (e2.lst hc'),at_of (j := i) (by omega) (getI (by rw [onAll_len]; exact hi)),?_⟩
    refine ⟨_,rfl,p,G.CP,dx,_,_,rfl,e2.ins hp,T.clP,T.nP_shifts,pf_shifts _ _ _,_,rfl,sa,_,_,_,rfl,rfl,SqL.of (e2.lst hxs),h0,b,_,_,_,rfl,rfl,SqT.of (e2.tup hb2),atI_nat (j := 1) rfl,?_⟩
    refine ⟨_,rfl,p,G.CP,dx,_,_,rfl,e2.ins hp,T.clP,T.nP_shifts,pf_shifts _ _ _,_,rfl,sa,_,_,_,rfl,rfl,SqL.of (e2.lst hxs),h0,b,_,_,_,rfl,rfl,SqT.of (e2.tup hb2),atI_nat (j := 0) rfl,_,_,rfl,rfl,_,_,rfl,rfl,?_,?_⟩
    ·rw [onAll_getD hi]
     have := onJ_le ix i
     exact .inl ⟨by omega,by omega⟩
    ·rw [onAll_getD hi]
     exact hy rfl H2 Ext.refl
   ·rw [fil_true,map_ints (List.range s.shifts.length) fun j => Vbedai.nat (onJ x j) * (Vbedai.nat (shiftOf s j).b - Vbedai.nat (shiftOf s j).a)] at hq
    refine ⟨D,_,rfl,SqL.of hq,(by show 1 <= sizeLine; decide),fun a ha => ?_⟩
    have g2 := e1.trans e2
    refine k a _ (g2.new2 ha) (g2.free a ha) ?_
    have z := hours_eq hin
    unfold numbers at z
    rw [upd_same,z]; rfl
end
theorem onAll_ill {s : State} {x : Vbedai.Crews} {j k : Nat} (h : j < s.shifts.length) (nd : (x.map (·.1)).Nodup) (hk : k <= onJ x j) : (onAll s x).set j ((onJ x j : Int) - (k : Int)) = onAll s (illed x j k) := by
 apply List.ext_getElem?
 intro i
 rw [List.getElem?_set,onAll_len]
 by_cases c : j = i
 ·subst c
  rw [if_pos rfl,if_pos h,onAll_get h,illed_on x j k j nd,if_pos rfl]
  congr 1
  simp only [Vbedai.nat,Int.ofNat_eq_natCast]; omega
 ·rw [if_neg c]
  by_cases d : i < s.shifts.length
  ·rw [onAll_get d,onAll_get d,illed_on x j k i nd,if_neg (fun q => c q.symm)]
  ·rw [List.getElem?_eq_none (by rw [onAll_len]; omega),List.getElem?_eq_none (by rw [onAll_len]; omega)]
abbrev s_ill : Stmt := top 49
theorem sc_ill : FnScope ["plan", "j", "k", "row", "crews", "way", "minute"] ["plan", "j", "k", "row"] (defScope s_ill) := scM
section
variable {P : Program} {w : World} {G : Gd} {mg : Str -> Option Value} {base : Heap}
theorem ok_ill {f : Addr} {fd : FuncData} (F : Fun G.K "ill" "ill" s_ill f fd) (T : Txt mg G) (c_crews_of : Def P w G.K mg base "crews_of" 3 ["plan", "row"] (sp_crews_of G)) (c_rising_way : Def P w G.K mg base "rising_way" 6 ["plan"] (sp_rising_way G)) (c_fewest : Def P w G.K mg base "fewest" 3 ["way", "needs"] (sp_fewest G)) (c_is_shift : Def P w G.K mg base "is_shift" 2 ["plan", "number"] (sp_is_shift G)) (c_within : Def P w G.K mg base "within" 1 ["number", "low", "high"] sp_within) (c_missing_at : Def P w G.K mg base "missing_at" 3 ["plan", "crews", "minute"] (sp_missing_at G)) : FnOk P w G.K mg base CX0 7 f fd ["plan", "j", "k", "row"] (sp_ill G) := by
 refine F.ok sc_ill (fun vs H Q E h => ?_) (fun cdv A outer s0 H vs Q E hr h => ?_)
 ·obtain ⟨p,sa,s,j,kk,r,row,rfl,hP,hr1,hl,k⟩ := h
  rfl
 ·have nd := sc_ill.nd
  obtain ⟨p,sa,s,j,kk,r,row,rfl,hP,hr1,hl,k⟩ := h
  refine ⟨_,(pss_cons (ps_if (PW.pt (pw_or (pt_not (pt_val (pe_cal c_is_shift (hr.mono (by decide)) rfl (pa_cons (pv 0) (pa_cons (pv 1) pa_nil))))) (pw_or1 (pt_not (pt_val (pe_cal c_within (hr.mono (by decide)) rfl (pa_cons (pv 2) (pa_cons pe_int (pa_cons (pe_gi rfl T.m_MOST_ON_SHIFT) pa_nil)))))))))
   (pss_one (ps_ret (pe_lst (pa_cons (pe_gi rfl T.m_OUT_OF_RANGE) pa_nil))))
   pss_nil)
   (pss_cons (ps_set (i := 4) nd rfl (.inr rfl) (pe_cal c_crews_of (hr.mono (by decide)) rfl (pa_cons (pv 0) (pa_cons (pv 3) pa_nil))))
   (pss_cons (ps_if (pt_cmp (pc_isN (pv 4)))
   (pss_one (ps_ret (pe_lst (pa_cons (pe_gi rfl T.m_BAD_LIST) pa_nil))))
   pss_nil)
   (pss_cons (ps_if (pt_cmpR op_lt (pe_ix (ixL (K := G.K) rfl) (pv 4) (pv 1) (fun _ _ => rfl)) (pv 2) (nomark _))
   (pss_one (ps_ret (pe_lst (pa_cons (pe_gi rfl T.m_TOO_FEW_ON_SHIFT) pa_nil))))
   pss_nil)
   (pss_cons (ps_augS (pv 4) (pv 1) (getK (K := G.K) rfl) (pv 2) ip_sub set_list)
   (pss_cons (ps_set (i := 5) nd rfl (.inl rfl) (pe_cal c_rising_way (hr.mono (by decide)) rfl (pa_cons (pv 0) pa_nil)))
   (pss_one (ps_ret (pe_cal c_fewest (hr.mono (by decide)) rfl (pa_cons (pv 5) (pa_cons (pe_lc (own := [("minute",6)]) rfl nd (pi_list (fldK (K := G.K) rfl (pv 5) rfl)) (blkOk_by (show blkC ["plan", "j", "k", "row", "crews", "way", "minute"] (defScope s_ill) _ _ = true by decide +kernel)) (fun _ _ _ _ _ => (pg_name (i := 6) nd rfl (.inl rfl))) (fun _ _ _ _ _ => pts_nil) (fun _ _ _ _ _ => (pe_cal c_missing_at (hr.mono (by decide)) rfl (pa_cons (pv 0) (pa_cons (pv 4) (pa_cons (pv 6) pa_nil)))))) pa_nil))))))))))),?_⟩
  refine ⟨_,rfl,_,rfl,p,sa,s,j,rfl,hP,_,rfl,?_⟩
  have bad : (okJ s j && inR kk 1 1000) = false -> ∀ a,H a = none -> Q (.ref a) (upd H a (.lst [.int (-1)])) := fun b a ha => by
   refine k a _ (Ext.new ha) ha ?_
   rw [upd_same,ans13,if_pos b]
   rfl
  cases q : okJ s j with
  | false =>
   refine iteT ?_
   refine iteT ?_
   exact ⟨(by show 1 <= sizeLine; decide),fun a ha => bad (by rw [q]; rfl) a ha⟩
  | true =>
   refine iteF ?_
   refine ⟨_,rfl,kk,1,1000,rfl,_,rfl,?_⟩
   cases qk : inR kk 1 1000 with
   | false =>
    refine iteT ?_
    exact ⟨(by show 1 <= sizeLine; decide),fun a ha => bad (by rw [q,qk]; rfl) a ha⟩
   | true =>
    refine iteF ?_
    have hk1 : 1 <= kk /\ kk <= 1000 := (inR_iff _ _ _).mp qk
    have hj : 0 <= j /\ j <= Vbedai.nat s.shifts.length - 1 := (inR_iff _ _ _).mp q
    simp only [Vbedai.nat,Int.ofNat_eq_natCast] at hj
    have ej : ((j.toNat : Nat) : Int) = j := Int.toNat_of_nonneg hj.1
    have ekk : ((kk.toNat : Nat) : Int) = kk := Int.toNat_of_nonneg (by omega)
    have jn : j.toNat < s.shifts.length := by omega
    refine ⟨_,rfl,_,rfl,p,sa,s,r,row,rfl,hP,hr1,hl,?_⟩
    cases hx : crewsIn s row with
    | none =>
     intro H1 e1
     refine ⟨_,rfl,_,rfl,?_⟩
     refine iteT ?_
     refine ⟨(by show 1 <= sizeLine; decide),fun a ha => ?_⟩
     refine k a _ (e1.new2 ha) (e1.free a ha) ?_
     rw [upd_same,ans13,if_neg (by rw [q,qk]; simp),hx]
     rfl
    | some x =>
     have ix := (crewsIn_ok s row x).mp hx
     have hin := isCrews_in ix
     intro c H1 e1 hc hc'
     refine ⟨_,rfl,_,rfl,?_⟩
     refine iteF ?_
     have aj : atI (vI (onAll s x)) j = some (.int (onJ x j.toNat : Int)) := at_of (j := j.toNat) ej.symm (by rw [getI (by rw [onAll_len]; exact jn),onAll_getD jn])
     refine ⟨_,rfl,_,rfl,c,_,_,_,rfl,rfl,SqL.of hc',aj,_,rfl,_,_,rfl,rfl,_,rfl,?_⟩
     by_cases h3 : onJ x j.toNat < kk.toNat
     ·rw [show decide ((onJ x j.toNat : Int) < kk) = true by simp; omega]
      refine iteT ?_
      refine ⟨(by show 1 <= sizeLine; decide),fun a ha => ?_⟩
      refine k a _ (e1.new2 ha) (e1.free a ha) ?_
      rw [upd_same,ans13,if_neg (by rw [q,qk]; simp),hx]
      simp only
      rw [if_pos h3]
      rfl
     ·rw [show decide ((onJ x j.toNat : Int) < kk) = false by simp; omega]
      refine iteF ?_
      rw [ans13' (by rw [q,qk]; rfl) hx h3] at k
      refine ⟨_,rfl,_,rfl,c,_,_,_,rfl,rfl,SqL.of hc',aj,_,rfl,_,_,rfl,rfl,c,_,_,j.toNat,rfl,rfl,hc',by rw [vI_len,onAll_len,← ej]; exact ixN_nat jn,?_⟩
      rw [set_map]
      have ei := onAll_ill jn ix.nd (k := kk.toNat) (by omega)
      rw [ekk] at ei
      dsimp only
      rw [ei]
      have e2 := e1.set (o := .lst (vI (onAll s (illed x j.toNat kk.toNat)))) hc hc' rfl
      have hc2 : upd H1 c (.lst (vI (onAll s (illed x j.toNat kk.toNat)))) c = some (.lst (vI (onAll s (illed x j.toNat kk.toNat)))) := upd_same
      refine ⟨_,rfl,p,sa,s,rfl,hP.ext e2,fun wy H3 e3 hw hW => ?_⟩
      obtain ⟨dx,sa',ma,ha,ka,h1,h2,h3',h4,as,h5,h6,h7⟩ := hW.ex
      have h221 := hW.len
      have g3 := e2.trans e3
      refine ⟨_,rfl,_,rfl,wy,G.CW,dx,_,_,rfl,h1,T.clW,T.nW_minutes,wf4_minutes _ _ _ _,ma,rfl,⟨_,SqL.of h3'⟩,?_⟩
      intro D hD
      refine lcI_list (L := G.L) (xs := vN (points s)) (fun _ => true) (fun i => .int (missing s (illed x j.toNat kk.toNat) ((points s).getD i 0) : Int)) (by rw [vN_len,sizeLine_eq]; omega) (SqL.of h3') hD (fun i y H4 hi e4 Kt N hy hn => ?_) fun H4 e4 hq => ?_
      ·obtain ⟨rfl,_,_⟩ := vN_at hi
       refine ⟨rfl,iteT (B := N H4) ?_⟩
       refine ⟨_,rfl,_,rfl,_,rfl,p,sa,s,c,_,_,rfl,hP.ext (g3.trans e4),(e3.trans e4).lst hc2,illed_in hin _ _,fun H5 e5 => ?_⟩
       exact hy rfl H5 e5
      ·rw [fil_true,vN_len,mapN (points s) fun t => V.int (missing s (illed x j.toNat kk.toNat) t : Int)] at hq
       have hq2 : H4 D = some (.lst (vI ((points s).map fun t => (missing s (illed x j.toNat kk.toNat) t : Int)))) := by
        rw [hq]; unfold vI; rw [List.map_map]; rfl
       refine ⟨wy,D,s,_,_,_,rfl,hW.ext e4,points_nodup s,hq2,fun a H5 e5 ha ha' => ?_⟩
       exact k a H5 ((g3.trans e4).trans e5) ((g3.trans e4).free a ha) ha'
end
abbrev s_is_shift : Stmt := top 20
theorem sc_is_shift : FnScope ["plan", "number"] ["plan", "number"] (defScope s_is_shift) := scM
section
variable {P : Program} {w : World} {G : Gd} {mg : Str -> Option Value} {base : Heap}
theorem ok_is_shift {f : Addr} {fd : FuncData} (F : Fun G.K "is_shift" "is_shift" s_is_shift f fd) (T : Txt mg G) (c_within : Def P w G.K mg base "within" 1 ["number", "low", "high"] sp_within) : FnOk P w G.K mg base CX0 2 f fd ["plan", "number"] (sp_is_shift G) := by
 refine F.ok sc_is_shift (fun vs H Q E h => ?_) (fun cdv A outer s0 H vs Q E hr h => ?_)
 ·obtain ⟨p,sa,s,z,rfl,hP,k⟩ := h
  rfl
 ·have nd := sc_is_shift.nd
  obtain ⟨p,sa,s,z,rfl,hP,k⟩ := h
  refine ⟨_,(pss_one (ps_ret (pe_cal c_within (hr.mono (by decide)) rfl (pa_cons (pv 1) (pa_cons pe_int (pa_cons (pe_op op_sub (pe_callB (lenK (K := G.K) rfl) rfl T.b_len PySem.boot_len (pa_cons (fldK (K := G.K) rfl (pv 0) rfl) pa_nil)) pe_int) pa_nil)))))),?_⟩
  obtain ⟨dx,ca,hp,hca,nca⟩ := hP.ex
  obtain ⟨xs,hx,hxl,_⟩ := hP.sh.at
  refine ⟨_,rfl,_,rfl,p,G.CP,dx,_,_,rfl,hp,T.clP,T.nP_shifts,pf_shifts _ _ _,sa,_,rfl,.inl (SqL.of hx),_,_,rfl,rfl,?_⟩
  refine ⟨z,0,_,rfl,?_⟩
  rw [hxl,shP_len]
  exact k
end
abbrev s_least_shortage : Stmt := top 46
theorem sc_least_shortage : FnScope ["way", "needs", "n", "low", "high", "k"] ["way", "needs", "n"] (defScope s_least_shortage) := scM
section
variable {P : Program} {w : World} {G : Gd} {mg : Str -> Option Value} {base : Heap}
theorem ok_least_shortage {f : Addr} {fd : FuncData} (F : Fun G.K "least_shortage" "least_shortage" s_least_shortage f fd) (T : Txt mg G) (c_would_do : Def P w G.K mg base "would_do" 2 ["way", "needs", "n"] (sp_would_do G)) (c_fewer : Def P w G.K mg base "fewer" 1 ["needs", "k"] (sp_fewer G)) : FnOk P w G.K mg base CX0 3 f fd ["way", "needs", "n"] (sp_least_shortage G) := by
 refine F.ok sc_least_shortage (fun vs H Q E h => ?_) (fun cdv A outer s0 H vs Q E hr h => ?_)
 ·obtain ⟨wy,r,s,n,rfl,hW,hr1,k⟩ := h
  rfl
 ·have nd := sc_least_shortage.nd
  obtain ⟨wy,r,s,n,rfl,hW,hr1,k⟩ := h
  refine ⟨_,(pss_cons (ps_set (i := 3) nd rfl (.inl rfl) pe_int)
   (pss_cons (ps_set (i := 4) nd rfl (.inl rfl) (pe_gi rfl T.m_MOST_NEEDED))
   (pss_cons (ps_while PassesOwn.never (pt_cmpR op_lt (pv 3) (pv 4) (nomark _))
   (pss_cons (ps_set (i := 5) nd rfl (.inl rfl) (pe_op op_fdiv (pe_op op_add (pv 3) (pv 4)) pe_int))
   (pss_one (ps_if (pt_val (pe_cal c_would_do (hr.mono (by decide)) rfl (pa_cons (pv 0) (pa_cons (pe_cal c_fewer (hr.mono (by decide)) rfl (pa_cons (pv 1) (pa_cons (pv 5) pa_nil))) (pa_cons (pv 2) pa_nil)))))
   (pss_one (ps_set (i := 4) nd rfl (.inl rfl) (pv 5)))
   (pss_one (ps_set (i := 3) nd rfl (.inl rfl) (pe_op op_add (pv 5) pe_int)))))))
   (pss_one (ps_ret (pv 3)))))),?_⟩
  refine while_by (fun σ H' => Ext G.L H H' /\ ∃ lo hi v5,lo <= hi /\ hi <= 1000 /\ leastK s n 11 lo hi = Vbedai.shortage s n /\ σ = [some (.ref wy),some (.ref r),some (.int (n : Int)),some (.int ((lo : Nat) : Int)),some (.int ((hi : Nat) : Int)),v5])
   (fun σ _ => match σ with
    | [_,_,_,some (.int lo),some (.int hi),_] => (hi - lo).toNat
    | _ => 0) ⟨Ext.refl,0,1000,none,by omega,by omega,rfl,rfl⟩ ?_ ?_
  ·rintro σ H' ⟨e,lo,hi,v5,h1,h2,h3,rfl⟩
   refine ⟨_,rfl,_,rfl,_,_,rfl,rfl,_,rfl,?_⟩
   by_cases c : lo < hi
   ·rw [show decide ((lo : Int) < (hi : Int)) = true by simp; omega]
    refine iteT ?_
    refine ⟨_,rfl,_,rfl,_,_,rfl,rfl,_,_,rfl,rfl,⟨by decide,by decide⟩,?_⟩
    have em : ((lo : Int) + (hi : Int)) / 2 = (((lo + hi) / 2 : Nat) : Int) := by omega
    dsimp only
    rw [em]
    have l221 := hW.len
    have hr2 : H' r = some (.lst (vN ((points s).map fun t => need s t))) := by
     rw [e.lst hr1,vN_vI,List.map_map]; rfl
    refine ⟨_,rfl,_,rfl,_,rfl,r,_,(lo + hi) / 2,rfl,hr2,by rw [List.length_map]; exact l221,fun d H2 e2 hd hd' => ?_⟩
    have hd2 : H2 d = some (.lst (vI ((points s).map fun t => (eased s ((lo + hi) / 2) t : Int)))) := by
     rw [hd',List.map_map]; rfl
    refine ⟨_,rfl,wy,d,s,_,_,eased s ((lo + hi) / 2),n,rfl,hW.ext (e.trans e2),hd2,fun H3 e3 => ⟨_,rfl,?_⟩⟩
    rw [<- does_eq]
    have st := leastK_step s n 11 lo hi (by omega) c
    cases q : does s n ((lo + hi) / 2) with
    | true =>
     rw [q,if_pos rfl] at st
     refine iteT ?_
     refine ⟨_,rfl,⟨(e.trans e2).trans e3,lo,(lo + hi) / 2,_,by omega,by omega,by rw [<- st]; exact h3,rfl⟩,?_⟩
     show (((((lo + hi) / 2 : Nat) : Int)) - (lo : Int)).toNat < ((hi : Int) - (lo : Int)).toNat
     omega
    | false =>
     rw [q,if_neg (by simp)] at st
     refine iteF ?_
     refine ⟨_,rfl,_,_,rfl,rfl,⟨(e.trans e2).trans e3,(lo + hi) / 2 + 1,hi,_,by omega,by omega,by rw [<- st]; exact h3,rfl⟩,?_⟩
     show ((hi : Int) - ((((lo + hi) / 2 : Nat) : Int) + 1)).toNat < ((hi : Int) - (lo : Int)).toNat
     omega
   ·rw [show decide ((lo : Int) < (hi : Int)) = false by simp; omega]
    refine iteF ?_
    rw [leastK_end s n 11 lo hi c] at h3
    subst h3
    exact ⟨_,rfl,k H' e⟩
  ·rintro σ H' R R' hR ⟨v,h1,w2,h2,i,j,e1,e2,z,h3,h4⟩
   exact ⟨v,h1,w2,h2,i,j,e1,e2,z,h3,hR _ _ h4⟩
end
abbrev s_listed : Stmt := top 25
theorem sc_listed : FnScope ["numbers"] ["numbers"] (defScope s_listed) := scM
section
variable {P : Program} {w : World} {G : Gd} {mg : Str -> Option Value} {base : Heap}
theorem ok_listed {f : Addr} {fd : FuncData} (F : Fun G.K "listed" "listed" s_listed f fd) (T : Txt mg G) : FnOk P w G.K mg base CX0 1 f fd ["numbers"] (sp_listed G) := by
 refine F.ok sc_listed (fun vs H Q E h => ?_) (fun cdv A outer s0 H vs Q E hr h => ?_)
 ·obtain ⟨r,ns,rfl,hr1,hl,k⟩ := h
  rfl
 ·have nd := sc_listed.nd
  obtain ⟨r,ns,rfl,hr1,hl,k⟩ := h
  refine ⟨_,(pss_one (ps_ret (pe_op op_cat (pe_lst (pa_cons (pe_callB (lenK (K := G.K) rfl) rfl T.b_len PySem.boot_len (pa_cons (pv 0) pa_nil)) pa_nil)) (pv 0)))),?_⟩
  refine ⟨_,rfl,r,_,rfl,.inl (SqL.of hr1),(by show 1 <= sizeLine; decide),fun a ha => ?_⟩
  refine ⟨_,rfl,a,r,_,_,rfl,rfl,upd_same,by rw [upd_ne (ne_of_none hr1 ha)]; exact hr1,by rw [sizeLine_eq]; simp; omega,fun q hq => ?_⟩
  have e1 : Ext G.L H (upd H a (.lst [.int ((vI ns).length : Int)])) := Ext.new ha
  refine k q _ (e1.new2 hq) (e1.free q hq) ?_
  rw [upd_same,List.length_map]
  rfl
end
abbrev s_missing_at : Stmt := top 16
theorem sc_missing_at : FnScope ["plan", "crews", "minute"] ["plan", "crews", "minute"] (defScope s_missing_at) := scM
section
variable {P : Program} {w : World} {G : Gd} {mg : Str -> Option Value} {base : Heap}
theorem ok_missing_at {f : Addr} {fd : FuncData} (F : Fun G.K "missing_at" "missing_at" s_missing_at f fd) (T : Txt mg G) (c_need_at : Def P w G.K mg base "need_at" 1 ["plan", "minute"] (sp_need_at G)) (c_there_at : Def P w G.K mg base "there_at" 2 ["shifts", "crews", "minute"] (sp_there_at G)) : FnOk P w G.K mg base CX0 3 f fd ["plan", "crews", "minute"] (sp_missing_at G) := by
 refine F.ok sc_missing_at (fun vs H Q E h => ?_) (fun cdv A outer s0 H vs Q E hr h => ?_)
 ·obtain ⟨p,sa,s,c,x,t,rfl,hP,hc,hx,k⟩ := h
  rfl
 ·have nd := sc_missing_at.nd
  obtain ⟨p,sa,s,c,x,t,rfl,hP,hc,hx,k⟩ := h
  refine ⟨_,(pss_one (ps_ret (pe_callB (call_max2 rfl) rfl T.b_max boot_max (pa_cons pe_int (pa_cons (pe_op op_sub (pe_cal c_need_at (hr.mono (by decide)) rfl (pa_cons (pv 0) (pa_cons (pv 2) pa_nil))) (pe_cal c_there_at (hr.mono (by decide)) rfl (pa_cons (fldK (K := G.K) rfl (pv 0) rfl) (pa_cons (pv 1) (pa_cons (pv 2) pa_nil))))) pa_nil))))),?_⟩
  obtain ⟨dx,ca,hp,hca,nca⟩ := hP.ex
  refine ⟨_,rfl,_,rfl,p,sa,s,t,rfl,hP,?_⟩
  refine ⟨_,rfl,p,G.CP,dx,_,_,rfl,hp,T.clP,T.nP_shifts,pf_shifts _ _ _,_,rfl,_,rfl,sa,c,shP s,onAll s x,t,rfl,hP.sh,fun q hq => ?_,hc,by rw [onAll_len,shP_len],by rw [shP_len]; exact hP.wf.sl,fun H1 e => ?_⟩
  ·unfold shP at hq
   obtain ⟨y,_,rfl⟩ := List.mem_map.mp hq
   rfl
  ·refine ⟨_,_,rfl,rfl,_,_,rfl,?_⟩
   rw [thereI_eq hx]
   have z := missing_int s x t
   rw [z]
   exact k H1 e
end
abbrev s_need : Stmt := top 68
theorem sc_need : FnScope ["plan", "minute"] ["plan", "minute"] (defScope s_need) := scM
section
variable {P : Program} {w : World} {G : Gd} {mg : Str -> Option Value} {base : Heap}
theorem ok_need {f : Addr} {fd : FuncData} (F : Fun G.K "need" "need" s_need f fd) (T : Txt mg G) (c_within : Def P w G.K mg base "within" 1 ["number", "low", "high"] sp_within) (c_need_at : Def P w G.K mg base "need_at" 1 ["plan", "minute"] (sp_need_at G)) : FnOk P w G.K mg base CX0 2 f fd ["plan", "minute"] (sp_need G) := by
 refine F.ok sc_need (fun vs H Q E h => ?_) (fun cdv A outer s0 H vs Q E hr h => ?_)
 ·obtain ⟨p,sa,s,z,rfl,hP,k⟩ := h
  rfl
 ·have nd := sc_need.nd
  obtain ⟨p,sa,s,z,rfl,hP,k⟩ := h
  refine ⟨_,(pss_cons (ps_if (pt_not (pt_val (pe_cal c_within (hr.mono (by decide)) rfl (pa_cons (pv 1) (pa_cons pe_int (pa_cons (pe_op op_sub (fldK (K := G.K) rfl (pv 0) rfl) pe_int) pa_nil))))))
   (pss_one (ps_ret (pe_lst (pa_cons (pe_gi rfl T.m_OUT_OF_RANGE) pa_nil))))
   pss_nil)
   (pss_one (ps_ret (pe_lst (pa_cons (pe_cal c_need_at (hr.mono (by decide)) rfl (pa_cons (pv 0) (pa_cons (pv 1) pa_nil))) pa_nil))))),?_⟩
  obtain ⟨dx,ca,hp,hca,nca⟩ := hP.ex
  rw [ans10] at k
  refine ⟨_,rfl,_,rfl,p,G.CP,dx,_,_,rfl,hp,T.clP,T.nP_horizon,pf_horizon _ _ _,_,_,rfl,rfl,z,0,_,rfl,_,rfl,?_⟩
  have eT : inR z 0 ((s.horizon : Int) - 1) = okT s z := rfl
  rw [eT]
  cases q : okT s z with
  | false =>
   rw [if_pos q] at k
   refine iteT ?_
   exact ⟨(by show 1 <= sizeLine; decide),one_ret k⟩
  | true =>
   rw [if_neg (by rw [q]; simp)] at k
   refine iteF ?_
   have z0 : 0 <= z := ((inR_iff _ _ _).mp (show inR z 0 (Vbedai.nat s.horizon - 1) = true from q)).1
   have ez : ((z.toNat : Nat) : Int) = z := Int.toNat_of_nonneg z0
   refine ⟨_,rfl,_,rfl,p,sa,s,z.toNat,by rw [ez]; rfl,hP,(by show 1 <= sizeLine; decide),one_ret k⟩
end
end Cs
end
section
set_option Elab.async false
set_option linter.all false
set_option maxRecDepth 100000
set_option maxHeartbeats 4000000
namespace Cs
open PySem PySem.Spec PyProof.Rows L2
open Vbedai (State need points shiftOf on numbers there total gathered lastEnd firstStart bare eased does leastK missing crewsIn changesIn minutesIn okJ okT inR)
open VM
open PySem.W (kla_fn CodeHd)
theorem rep_one {α : Type} (k : Nat) (x : α) : (List.replicate k [x]).flatten = List.replicate k x := by
 induction k with
 | zero => rfl
 | succ k ih => rw [List.replicate_succ,List.flatten_cons,ih,List.replicate_succ]; rfl
abbrev s_one_by_one : Stmt := top 52
theorem sc_one_by_one : FnScope ["plan", "crews", "taken", "j"] ["plan", "crews"] (defScope s_one_by_one) := scM
section
variable {P : Program} {w : World} {G : Gd} {mg : Str -> Option Value} {base : Heap}
theorem ok_one_by_one {f c : Addr} {fd : FuncData} (F : FunC G.K "one_by_one" "one_by_one" s_one_by_one f fd c) (T : Txt mg G) (Lm : Lams G mg base "one_by_one" c ⟨192,43,192,90⟩) : FnOk P w G.K mg base CX0 5 f fd ["plan", "crews"] (sp_one_by_one G) := by
 refine F.ok sc_one_by_one (fun vs H Q E h => ?_) (fun A outer s0 H vs Q E hr h => ?_)
 ·obtain ⟨p,sa,s,cr,x,rfl,_⟩ := h
  rfl
 ·have nd := sc_one_by_one.nd
  obtain ⟨p,sa,s,cr,x,rfl,hP,hc,hin,h300,k⟩ := h
  obtain ⟨P1,C,hL,one⟩ := Lm.tab
  refine ⟨_,(pss_cons (ps_set (i := 2) nd rfl (.inl rfl) (pe_lst pa_nil))
   (pss_cons (ps_for PassesOwn.never rfl (pi_list (pe_sortL (L := G.L) (x := "number") (y := "plan") (q := (Str.ofString "one_by_one" ++ ".<locals>.") ++ "<lambda>") (i := 0) (k := 2)
    ⟨lamOk2 rfl (by decide +kernel) rfl rfl rfl (fun _ _ _ _ _ => rfl),Lm.bm,⟨c,P1,rfl,C,hL,one⟩,rfl,rfl,free2 rfl,rfl,rfl,clo2 rfl⟩
    rfl hr rfl T.b_sorted (pe_range1 rfl T.b_range (pa_cons (pe_callB (lenK (K := G.K) rfl) rfl T.b_len PySem.boot_len (pa_cons (pv 1) pa_nil)) pa_nil))
    (fun A s H f c' cl => pe_tup (pa_cons (pe_ix (ixT (K := G.K) rfl) (pe_ix (ixL (K := G.K) rfl) (fldK (K := G.K) rfl (pv 1) rfl) (pv 0) (fun _ _ => rfl)) pe_int (fun _ _ => rfl)) (pa_cons (pv 0) pa_nil))))) (pg_name (i := 3) nd rfl (.inl rfl))
   (pss_one (ps_expr (pe_bm PySem.F.plainAttrs_list PySem.F.slot_list_extend PySem.F.type_list_extend mt_extend (pv 2) (pa_cons (pe_op op_rep (pe_lst (pa_cons (pv 3) pa_nil)) (pe_ix (ixL (K := G.K) rfl) (pv 1) (pv 3) (fun _ _ => rfl))) pa_nil)))))
   (pss_one (ps_ret (pv 2))))),?_⟩
  refine ⟨Nat.zero_le _,fun a ha => ?_⟩
  have e1 : Ext G.L H (upd H a (.lst [])) := Ext.new ha
  have wf := hP.wf
  have hsl := wf.sl
  have cl : (vI (onAll s x)).length = s.shifts.length := by rw [vI_len,onAll_len]
  refine ⟨_,rfl,cr,_,rfl,.inl (SqL.of (e1.lst hc)),s.shifts.length,by rw [cl],fun r hr1 => ?_⟩
  have e2 : Ext G.L H (upd (upd H a (.lst [])) r (.rng 0 (s.shifts.length : Int))) := e1.new2 hr1
  have hP2 := hP.ext e2
  obtain ⟨dx,ca,hp,_⟩ := hP2.ex
  obtain ⟨xs,hxs,hxl,hxg⟩ := sh_get hP2.sh
  refine ⟨r,s.shifts.length,.ref p,fun j => ((shiftOf s j).a : Int),rfl,upd_same,by omega,hP2.tabs,rfl,fun j hj H3 Qr e3 q => ?_,fun H3 D js e3 nD jp js2 => ?_⟩
  ·obtain ⟨b,hb1,hb2⟩ := hxg j hj
   exact ⟨_,rfl,p,G.CP,dx,_,_,rfl,e3.ins hp,T.clP,T.nP_shifts,pf_shifts _ _ _,_,rfl,sa,_,_,_,rfl,rfl,SqL.of (e3.lst hxs),hb1,b,_,_,_,rfl,rfl,SqT.of (e3.tup hb2),atI_nat (j := 0) rfl,_,rfl,(by show 2 <= sizeLine; decide),fun t ht => q t ht⟩
  ·have g3 : Ext G.L H (upd H3 D (.lst (js.map fun (j : Nat) => V.int (j : Int)))) := (e2.trans e3).new2 nD
   have h3a : H3 a = some (.lst []) := e3.lst (by rw [upd_ne (ne_of_none (show upd H a (.lst []) a = some (.lst []) from upd_same) hr1),upd_same])
   have aD : a ≠ D := ne_of_none h3a nD
   have each := each_eq hin (js := js) jp (js2.imp fun {u v} z => (rr_iff s u v).mpr (by dsimp only at z; omega))
   have el := each_len (s := s) (x := x)
   rw [each] at el
   have pre : ∀ (i j : Nat),js[i]? = some j -> ((js.take i).flatMap fun j => List.replicate (onJ x j) j).length + onJ x j <= 300 := fun i j hi => by
    have z := congrArg (List.flatMap fun j => List.replicate (onJ x j) j) (List.take_append_drop (i + 1) js)
    rw [take_snoc hi,List.flatMap_append,List.flatMap_append] at z
    have z2 := congrArg List.length z
    rw [List.length_append,List.length_append,el] at z2
    simp only [List.flatMap_cons,List.flatMap_nil,List.append_nil,List.length_replicate] at z2
    omega
   refine ⟨D,rfl,⟨_,SqL.of upd_same⟩,for_list (K := G.K) (a := D) (xs := js.map fun (j : Nat) => V.int (j : Int)) (fun i σ H' => Ext G.L H H' /\ H' D = some (.lst (js.map fun (j : Nat) => V.int (j : Int))) /\ H' a = some (.lst (vN ((js.take i).flatMap fun j => List.replicate (onJ x j) j))) /\ ∃ v3,σ = [some (.ref p),some (.ref cr),some (.ref a),v3])
    ⟨g3,upd_same,by rw [upd_ne aD]; exact h3a,none,rfl⟩ (fun i σ H' _ ⟨_,hD,_⟩ => SqL.of hD) ?_ ?_⟩
   ·rintro i y σ H' hi ⟨e,hD,hA,v3,rfl⟩
    rw [List.getElem?_map] at hi
    cases hji : js[i]? with
    | none => rw [hji] at hi; cases hi
    | some j =>
     rw [hji] at hi
     cases hi
     have hj : j < s.shifts.length := by simpa [numbers] using jp.mem_iff.mp (List.mem_of_getElem? hji)
     have p3 := pre i j hji
     have hix : (vI (onAll s x))[j]? = some (.int (onJ x j : Int)) := by rw [getI (by rw [onAll_len]; exact hj),onAll_getD hj]
     refine ⟨_,rfl,.inl ⟨rfl,_,SqL.of hA⟩,_,rfl,(by show 1 <= sizeLine; decide),fun b1 hb1 => ?_⟩
     have x1 : Ext G.L H' (upd H' b1 (.lst [.int (j : Int)])) := Ext.new hb1
     refine ⟨_,rfl,_,rfl,cr,_,_,_,rfl,rfl,SqL.of ((e.trans x1).lst hc),at_of (j := j) rfl hix,b1,_,_,rfl,rfl,upd_same,by omega,by omega,?_,fun b2 hb2 => ?_⟩
     ·rw [Int.toNat_natCast,List.length_singleton,sizeLine_eq]; omega
     ·rw [Int.toNat_natCast,rep_one] at *
      have x2 := x1.new2 hb2 (o := .lst (List.replicate (onJ x j) (V.int (j : Int))))
      refine ⟨a,b2,_,_,rfl,rfl,x2.lst hA,upd_same,?_,?_⟩
      ·rw [vN_len,List.length_replicate,sizeLine_eq]; omega
      ·refine ⟨(e.trans x2).set ha (x2.lst hA) rfl,?_,?_,some (.int (j : Int)),rfl⟩
       ·rw [upd_ne aD.symm]; exact x2.lst hD
       ·rw [upd_same,take_snoc hji,List.flatMap_append]
        simp [vN]
   ·rintro σ H' ⟨e,hD,hA,v3,rfl⟩
    refine ⟨_,rfl,k a H' e ha ?_⟩
    rw [hA,List.length_map,List.take_length,each,vN_vI]
end
end Cs
end
section
set_option Elab.async false
set_option linter.all false
set_option maxRecDepth 100000
set_option maxHeartbeats 4000000
namespace Cs
open PySem PySem.Spec PyProof.Rows L2
open Vbedai (State need points shiftOf on numbers there total gathered lastEnd firstStart bare eased does leastK missing crewsIn changesIn minutesIn okJ okT inR)
open VM
abbrev s_set_changes : Stmt := top 63
theorem sc_set_changes : FnScope ["plan", "row", "changes"] ["plan", "row"] (defScope s_set_changes) := scM
section
variable {P : Program} {w : World} {G : Gd} {mg : Str -> Option Value} {base : Heap}
theorem ok_set_changes {f : Addr} {fd : FuncData} (F : Fun G.K "set_changes" "set_changes" s_set_changes f fd) (T : Txt mg G) (c_changes_of : Def P w G.K mg base "changes_of" 2 ["plan", "row"] (sp_changes_of G)) : FnOk P w G.K mg base CX0 3 f fd ["plan", "row"] (sp_set_changes G) := by
 refine F.ok sc_set_changes (fun vs H Q E h => ?_) (fun cdv A outer s0 H vs Q E hr h => ?_)
 ·obtain ⟨p,sa,s,r,row,rfl,hP,hr1,hl,k⟩ := h
  rfl
 ·have nd := sc_set_changes.nd
  have hu := hu_of hr
  obtain ⟨p,sa,s,r,row,rfl,hP,hr1,hl,k⟩ := h
  refine ⟨_,(pss_cons (ps_set (i := 2) nd rfl (.inl rfl) (pe_cal c_changes_of (hr.mono (by decide)) rfl (pa_cons (pv 0) (pa_cons (pv 1) pa_nil))))
   (pss_cons (ps_if (pt_cmp (pc_isN (pv 2)))
   (pss_one (ps_ret (pe_lst (pa_cons (pe_gi rfl T.m_BAD_LIST) pa_nil))))
   pss_nil)
   (pss_cons (ps_fld (pv 0) (pv 2) rfl)
   (pss_one (ps_ret (pe_lst (pa_cons pe_int pa_nil))))))),?_⟩
  have e1 := step1 s row
  have ean : ansOf s [[1],row] = (Vbedai.step s [[1],row]).2 := rfl
  have est : stOf s [[1],row] = (Vbedai.step s [[1],row]).1 := rfl
  have wf2 : Wf (Vbedai.step s [[1],row]).1 := wf_step hP.wf [[1],row]
  rw [ean,est] at k
  refine ⟨_,rfl,_,rfl,p,sa,s,r,row,rfl,hP,hr1,hl,?_⟩
  cases qx : (if 200 < row.length then none else changesIn s (-1) row) with
  | none =>
   rw [qx] at e1
   dsimp only at e1
   rw [e1] at k
   clear e1
   intro H1 e1
   refine ⟨_,rfl,_,rfl,?_⟩
   refine iteT ?_
   refine ⟨(by show 1 <= sizeLine; decide),fun q hq => ?_⟩
   exact (k.same hP rfl) q _ (e1.new2 hq) (e1.free q hq) (by rw [upd_same]; rfl)
  | some x =>
   rw [qx] at e1
   dsimp only at e1
   rw [e1] at k wf2
   clear e1
   intro c H1 e1 hc hc'
   refine ⟨_,rfl,_,rfl,?_⟩
   refine iteF ?_
   have hP1 := hP.ext e1
   obtain ⟨dx,ca,hp,hca,nca⟩ := hP1.ex
   obtain ⟨xs,hx,_⟩ := hP1.sh.at
   obtain ⟨xs0,hx0,_⟩ := hP.sh.at
   obtain ⟨dx0,ca0,hp0,_⟩ := hP.ex
   obtain ⟨ys,hy,_⟩ := hc'.at
   refine ⟨_,rfl,_,rfl,p,G.CP,dx,_,rfl,hp,T.clP,T.nP_changes,(by show 4 < 1000; decide),?_⟩
   refine ⟨(by show 1 <= sizeLine; decide),fun q hq => ?_⟩
   have q1 : H1 q = none := upd_free hq
   have q0 : H q = none := e1.free q q1
   have qp : q ≠ p := fun z => by rw [z,hp] at q1; cases q1
   have sp' : sa ≠ p := fun z => by rw [z,hp] at hx; cases hx
   have cp' : c ≠ p := fun z => by rw [z,hp] at hy; cases hy
   have nt : ∀ xs,H1 p ≠ some (.tup xs) := fun xs z => by rw [hp] at z; cases z
   refine k q _ sa ⟨wf2,?_,?_,dx,c,?_,?_,fun z => by rw [z,hx0] at hc; cases hc⟩ (.inl rfl) q0 (fun z => by rw [z,hx] at q1; cases q1) ?_ fun y o e t xp xs' => ?_
   ·refine (hP1.tabs.set ?_).set ?_
    ·intro u hu; rw [hp] at hu; cases hu; rfl
    ·intro u hu; rw [hq] at hu; cases hu
   ·exact (hP1.sh.upd sp' nt).upd (fun z => by rw [<- z,hx] at q1; cases q1) (fun xs z => by rw [hq] at z; cases z)
   ·rw [upd_ne qp.symm,upd_same]; rfl
   ·exact (hc'.upd cp' nt).upd (fun z => by rw [<- z,hy] at q1; cases q1) (fun xs z => by rw [hq] at z; cases z)
   ·rw [upd_same]; rfl
   ·rw [upd_ne (fun z => by rw [z,q0] at e; cases e),upd_ne xp]
    exact e1.1 _ _ e t
end
abbrev s_set_rest : Stmt := top 65
theorem sc_set_rest : FnScope ["plan", "rest"] ["plan", "rest"] (defScope s_set_rest) := scM
section
variable {P : Program} {w : World} {G : Gd} {mg : Str -> Option Value} {base : Heap}
theorem ok_set_rest {f : Addr} {fd : FuncData} (F : Fun G.K "set_rest" "set_rest" s_set_rest f fd) (T : Txt mg G) (c_within : Def P w G.K mg base "within" 1 ["number", "low", "high"] sp_within) : FnOk P w G.K mg base CX0 2 f fd ["plan", "rest"] (sp_set_rest G) := by
 refine F.ok sc_set_rest (fun vs H Q E h => ?_) (fun cdv A outer s0 H vs Q E hr h => ?_)
 ·obtain ⟨p,sa,s,b,rfl,hP,k⟩ := h
  rfl
 ·have nd := sc_set_rest.nd
  have hu := hu_of hr
  obtain ⟨p,sa,s,b,rfl,hP,k⟩ := h
  refine ⟨_,(pss_cons (ps_if (pt_not (pt_val (pe_cal c_within (hr.mono (by decide)) rfl (pa_cons (pv 1) (pa_cons pe_int (pa_cons (pe_gi rfl T.m_MOST_MINUTES) pa_nil))))))
   (pss_one (ps_ret (pe_lst (pa_cons (pe_gi rfl T.m_OUT_OF_RANGE) pa_nil))))
   pss_nil)
   (pss_cons (ps_fld (pv 0) (pv 1) rfl)
   (pss_one (ps_ret (pe_lst (pa_cons pe_int pa_nil)))))),?_⟩
  have est : stOf s [[3,b]] = (if inR b 0 1000000 = false then (s,[-1]) else (⟨s.horizon,s.changes,s.shifts,b.toNat⟩,[0]) : State × List Int).1 := rfl
  have ean : ansOf s [[3,b]] = (if inR b 0 1000000 = false then (s,[-1]) else (⟨s.horizon,s.changes,s.shifts,b.toNat⟩,[0]) : State × List Int).2 := rfl
  refine ⟨_,rfl,b,0,1000000,rfl,_,rfl,?_⟩
  cases q2 : inR b 0 1000000 with
  | false =>
   refine iteT ?_
   rw [ean,est,if_pos q2] at k
   exact ⟨(by show 1 <= sizeLine; decide),one_ret (k.same hP rfl)⟩
  | true =>
   refine iteF ?_
   have wf2 : Wf (stOf s [[3,b]]) := wf_step hP.wf [[3,b]]
   rw [est,if_neg (by rw [q2]; simp)] at wf2
   rw [ean,est,if_neg (by rw [q2]; simp)] at k
   have hb : ((b.toNat : Nat) : Int) = b := Int.toNat_of_nonneg (by have := (inR_iff _ _ _).mp q2; omega)
   obtain ⟨dx,ca,hp,hca,nca⟩ := hP.ex
   have hca' := hca
   obtain ⟨xs,hx,_⟩ := hP.sh.at
   obtain ⟨ys,hy,_⟩ := hca'.at
   refine ⟨_,rfl,_,rfl,p,G.CP,dx,_,rfl,hp,T.clP,T.nP_rest,(by show 4 < 1000; decide),?_⟩
   refine ⟨(by show 1 <= sizeLine; decide),fun q hq => ?_⟩
   have q0 : H q = none := upd_free hq
   have qp : q ≠ p := fun z => by rw [z,hp] at q0; cases q0
   have sp' : sa ≠ p := fun z => by rw [z,hp] at hx; cases hx
   have cp' : ca ≠ p := fun z => by rw [z,hp] at hy; cases hy
   have nt : ∀ xs,H p ≠ some (.tup xs) := fun xs z => by rw [hp] at z; cases z
   refine k q _ sa ⟨wf2,?_,?_,dx,ca,?_,?_,nca⟩ (.inl rfl) q0 (fun z => by rw [z,hx] at q0; cases q0) ?_ fun x o e t xp xs' => ?_
   ·refine (hP.tabs.set ?_).set ?_
    ·intro u hu; rw [hp] at hu; cases hu; rfl
    ·intro u hu; rw [hq] at hu; cases hu
   ·exact (hP.sh.upd sp' nt).upd (fun z => by rw [<- z,hx] at q0; cases q0) (fun xs z => by rw [hq] at z; cases z)
   ·rw [upd_ne qp.symm,upd_same]
    unfold pf
    rw [hb]; rfl
   ·exact (hca.upd cp' nt).upd (fun z => by rw [<- z,hy] at q0; cases q0) (fun xs z => by rw [hq] at z; cases z)
   ·rw [upd_same]; rfl
   ·rw [upd_ne (fun z => by rw [z,q0] at e; cases e),upd_ne xp]
    exact e
end
abbrev s_shifts_with : Stmt := top 30
theorem sc_shifts_with : FnScope ["shifts", "minute", "j"] ["shifts", "minute"] (defScope s_shifts_with) := scM
section
variable {P : Program} {w : World} {G : Gd} {mg : Str -> Option Value} {base : Heap}
theorem ok_shifts_with {f : Addr} {fd : FuncData} (F : Fun G.K "shifts_with" "shifts_with" s_shifts_with f fd) (T : Txt mg G) (c_has : Def P w G.K mg base "has" 1 ["shift", "minute"] sp_has) : FnOk P w G.K mg base CX0 2 f fd ["shifts", "minute"] (sp_shifts_with G) := by
 refine F.ok sc_shifts_with (fun vs H Q E h => ?_) (fun cdv A outer s0 H vs Q E hr h => ?_)
 ·obtain ⟨l,s,t,rfl,wf,hl,k⟩ := h
  rfl
 ·have nd := sc_shifts_with.nd
  obtain ⟨l,s,t,rfl,wf,hl,k⟩ := h
  refine ⟨_,(pss_one (ps_ret (pe_lc (own := [("j",2)]) rfl nd (pi_range1 rfl T.b_range (pa_cons (pe_callB (lenK (K := G.K) rfl) rfl T.b_len PySem.boot_len (pa_cons (pv 0) pa_nil)) pa_nil)) (blkOk_by (show blkC ["shifts", "minute", "j"] (defScope s_shifts_with) _ _ = true by decide +kernel)) (fun _ _ _ _ _ => (pg_name (i := 2) nd rfl (.inl rfl))) (fun _ _ _ _ _ => pts_one (pt_val (pe_cal c_has (hr.mono (by decide)) rfl (pa_cons (pe_ix (ixL (K := G.K) rfl) (pv 0) (pv 2) (fun _ _ => rfl)) (pa_cons (pv 1) pa_nil))))) (fun _ _ _ _ _ => (pv 2))))),?_⟩
  obtain ⟨xs,hx,hxl,hxa⟩ := hl.at
  have h60 := wf.sl
  have hn : xs.length = s.shifts.length := by rw [hxl,shP_len]
  refine ⟨_,rfl,l,_,rfl,.inl (SqL.of hx),_,rfl,by omega,by omega,?_⟩
  intro D hD
  rw [Int.toNat_natCast]
  refine lcI_range (L := G.L) (fun j => on s j t) (fun j => .int (j : Int)) (by rw [sizeLine_eq]; omega) hD (fun i H1 hi e Kt N hy hn' => ?_) fun H1 e hq => ?_
  ·have hi' : i < xs.length := hi
   obtain ⟨a,p,ex,hp,ha⟩ := hxa i xs[i] (List.getElem?_eq_getElem hi')
   rw [shP_at (by omega)] at hp
   have ep : [((shiftOf s i).a : Int),((shiftOf s i).b : Int)] = p := Option.some.inj hp
   subst ep
   refine ⟨rfl,?_⟩
   refine ⟨_,rfl,_,rfl,l,_,_,_,rfl,rfl,SqL.of (e.lst hx),at_of (j := i) (by omega) (by rw [List.getElem?_eq_getElem hi',ex]),_,rfl,?_⟩
   refine ⟨a,_,_,(t : Int),rfl,e.tup ha,_,rfl,?_⟩
   have eh : (decide (((shiftOf s i).a : Int) <= (t : Int)) && decide ((t : Int) < ((shiftOf s i).b : Int))) = on s i t := by
    unfold Vbedai.on; congr 1 <;> simp
   rw [eh]
   cases z : on s i t with
   | true =>
    refine iteT ?_
    refine ⟨_,rfl,?_⟩
    have := hy z H1 Ext.refl
    rw [Int.zero_add]
    exact this
   | false =>
    refine iteF ?_
    exact hn' z H1 Ext.refl
  ·refine k D H1 e hD ?_
   rw [hq,hn]
   unfold VM.having numbers vI
   rw [List.map_map]
   rfl
end
theorem why_eq (s : State) (wanted : Nat -> Nat) : (match bare s wanted with | some t => [(t : Int)] | none => (witOf s (shorts s wanted (lastEnd s) (points s))).map fun (t : Nat) => (t : Int)) =
  (match bare s wanted with | some t => [t] | none => witOf s (shorts s wanted (lastEnd s) (points s))).map fun (t : Nat) => (t : Int) := by
 cases bare s wanted <;> rfl
theorem why_len {s : State} (wf : Wf s) (wanted : Nat -> Nat) : (match bare s wanted with | some t => [t] | none => witOf s (shorts s wanted (lastEnd s) (points s))).length <= 221 := by
 cases bare s wanted with
 | none => exact Nat.le_trans (wit_len s wanted (lastEnd s) (points s)) (points_len wf)
 | some t => simp
abbrev s_shortage : Stmt := top 48
theorem sc_shortage : FnScope ["plan", "n", "way", "needs", "k"] ["plan", "n"] (defScope s_shortage) := scM
section
variable {P : Program} {w : World} {G : Gd} {mg : Str -> Option Value} {base : Heap}
theorem ok_shortage {f : Addr} {fd : FuncData} (F : Fun G.K "shortage" "shortage" s_shortage f fd) (T : Txt mg G) (c_rising_way : Def P w G.K mg base "rising_way" 6 ["plan"] (sp_rising_way G)) (c_needs_on : Def P w G.K mg base "needs_on" 2 ["plan", "way"] (sp_needs_on G)) (c_least_shortage : Def P w G.K mg base "least_shortage" 3 ["way", "needs", "n"] (sp_least_shortage G)) (c_within : Def P w G.K mg base "within" 1 ["number", "low", "high"] sp_within) (c_listed : Def P w G.K mg base "listed" 1 ["numbers"] (sp_listed G)) (c_why_not : Def P w G.K mg base "why_not" 3 ["way", "needs"] (sp_why_not G)) (c_fewer : Def P w G.K mg base "fewer" 1 ["needs", "k"] (sp_fewer G)) : FnOk P w G.K mg base CX0 7 f fd ["plan", "n"] (sp_shortage G) := by
 refine F.ok sc_shortage (fun vs H Q E h => ?_) (fun cdv A outer s0 H vs Q E hr h => ?_)
 ·obtain ⟨p,sa,s,z,rfl,hP,k⟩ := h
  rfl
 ·have nd := sc_shortage.nd
  obtain ⟨p,sa,s,z,rfl,hP,k⟩ := h
  refine ⟨_,(pss_cons (ps_if (pt_not (pt_val (pe_cal c_within (hr.mono (by decide)) rfl (pa_cons (pv 1) (pa_cons pe_int (pa_cons (pe_gi rfl T.m_MOST_ASKED) pa_nil))))))
   (pss_one (ps_ret (pe_lst (pa_cons (pe_gi rfl T.m_OUT_OF_RANGE) pa_nil))))
   pss_nil)
   (pss_cons (ps_set (i := 2) nd rfl (.inl rfl) (pe_cal c_rising_way (hr.mono (by decide)) rfl (pa_cons (pv 0) pa_nil)))
   (pss_cons (ps_set (i := 3) nd rfl (.inl rfl) (pe_cal c_needs_on (hr.mono (by decide)) rfl (pa_cons (pv 0) (pa_cons (pv 2) pa_nil))))
   (pss_cons (ps_set (i := 4) nd rfl (.inl rfl) (pe_cal c_least_shortage (hr.mono (by decide)) rfl (pa_cons (pv 2) (pa_cons (pv 3) (pa_cons (pv 1) pa_nil)))))
   (pss_cons (ps_if (pt_cmpR op_eq (pv 4) pe_int (nomark _))
   (pss_one (ps_ret (pe_lst (pa_cons pe_int (pa_cons pe_int pa_nil)))))
   pss_nil)
   (pss_one (ps_ret (pe_op op_cat (pe_lst (pa_cons (pv 4) pa_nil)) (pe_cal c_listed (hr.mono (by decide)) rfl (pa_cons (pe_cal c_why_not (hr.mono (by decide)) rfl (pa_cons (pv 2) (pa_cons (pe_cal c_fewer (hr.mono (by decide)) rfl (pa_cons (pv 3) (pa_cons (pe_op op_sub (pv 4) pe_int) pa_nil))) pa_nil))) pa_nil)))))))))),?_⟩
  refine ⟨_,rfl,z,0,100000,rfl,_,rfl,?_⟩
  cases q : inR z 0 100000 with
  | false =>
   refine iteT ?_
   refine ⟨(by show 1 <= sizeLine; decide),fun a ha => ?_⟩
   refine k a _ (Ext.new ha) ha ?_
   rw [upd_same,ans12,if_pos q]
   rfl
  | true =>
   refine iteF ?_
   have hz : 0 <= z /\ z <= 100000 := (inR_iff _ _ _).mp q
   have ez : ((z.toNat : Nat) : Int) = z := Int.toNat_of_nonneg hz.1
   have h221 := points_len hP.wf
   refine ⟨_,rfl,p,sa,s,rfl,hP,fun wy H1 e1 hw hW => ?_⟩
   refine ⟨_,rfl,_,rfl,p,sa,s,wy,_,_,rfl,hP.ext e1,hW,fun r H2 e2 hr0 hr1 => ?_⟩
   refine ⟨_,rfl,_,rfl,_,rfl,wy,r,s,z.toNat,by rw [ez]; rfl,hW.ext e2,hr1,fun H3 e3 => ?_⟩
   have g3 := (e1.trans e2).trans e3
   refine ⟨_,rfl,rfl,_,rfl,?_⟩
   have an := ans12' (s := s) q (Vbedai.shortage s z.toNat) rfl
   rw [an] at k
   by_cases c : Vbedai.shortage s z.toNat = 0
   ·rw [if_pos c] at k
    rw [c]
    refine iteT ?_
    refine ⟨(by show 2 <= sizeLine; decide),fun a ha => ?_⟩
    refine k a _ (g3.new2 ha) (g3.free a ha) ?_
    rw [upd_same]
    rfl
   ·rw [if_neg c] at k
    have c' : ¬ V.int (Vbedai.shortage s z.toNat : Int) = V.int 0 := by intro e; injection e with e; omega
    rw [show decide (V.int (Vbedai.shortage s z.toNat : Int) = V.int 0) = false by simp [c']]
    refine iteF ?_
    generalize Vbedai.shortage s z.toNat = kk at c k
    refine ⟨_,rfl,(by show 1 <= sizeLine; decide),fun a1 ha1 => ?_⟩
    have f1 : Ext G.L H3 (upd H3 a1 (.lst [.int (kk : Int)])) := Ext.new ha1
    have g4 := g3.trans f1
    have hr2 : (upd H3 a1 (.lst [.int (kk : Int)])) r = some (.lst (vN ((points s).map fun t => need s t))) := by
     rw [(e3.trans f1).lst hr1,vN_vI,List.map_map]; rfl
    have ek : (kk : Int) - 1 = ((kk - 1 : Nat) : Int) := by omega
    refine ⟨_,rfl,_,rfl,_,rfl,_,_,rfl,rfl,r,_,kk - 1,by show [V.ref r,V.int ((kk : Int) - 1)] = _; rw [ek],hr2,by rw [List.length_map]; exact h221,fun d H5 e5 hd hd' => ?_⟩
    have hd2 : H5 d = some (.lst (vI ((points s).map fun t => (eased s (kk - 1) t : Int)))) := by
     rw [hd',List.map_map]; rfl
    refine ⟨wy,d,s,eased s (kk - 1),rfl,hW.ext (((e2.trans e3).trans f1).trans e5),hd2,fun a2 H6 e6 ha2 ha2' => ?_⟩
    replace ha2' : H6 a2 = some (.lst (vI ((match bare s (eased s (kk - 1)) with | some t => [t] | none => witOf s (shorts s (eased s (kk - 1)) (lastEnd s) (points s))).map fun (t : Nat) => (t : Int)))) := by
     rw [ha2']; cases bare s (eased s (kk - 1)) <;> rfl
    have wl := why_len hP.wf (eased s (kk - 1))
    refine ⟨a2,_,rfl,ha2',by rw [List.length_map]; omega,fun a3 H7 e7 ha3 ha3' => ?_⟩
    refine ⟨a1,a3,_,_,rfl,rfl,((e5.trans e6).trans e7).lst upd_same,ha3',?_,fun a4 ha4 => ?_⟩
    ·rw [vI_len,List.length_cons,List.length_map,sizeLine_eq]
     simp; omega
    ·have g7 := ((g4.trans e5).trans e6).trans e7
     refine k a4 _ (g7.new2 ha4) (g7.free a4 ha4) ?_
     rw [upd_same,listed_eq]
     rfl
end
abbrev s_there : Stmt := top 69
theorem sc_there : FnScope ["plan", "minute", "row", "crews", "with_rests", "a", "b"] ["plan", "minute", "row"] (defScope s_there) := scM
section
variable {P : Program} {w : World} {G : Gd} {mg : Str -> Option Value} {base : Heap}
theorem ok_there {f : Addr} {fd : FuncData} (F : Fun G.K "there" "there" s_there f fd) (T : Txt mg G) (c_crews_of : Def P w G.K mg base "crews_of" 3 ["plan", "row"] (sp_crews_of G)) (c_within : Def P w G.K mg base "within" 1 ["number", "low", "high"] sp_within) (c_there_at : Def P w G.K mg base "there_at" 2 ["shifts", "crews", "minute"] (sp_there_at G)) : FnOk P w G.K mg base CX0 4 f fd ["plan", "minute", "row"] (sp_there G) := by
 refine F.ok sc_there (fun vs H Q E h => ?_) (fun cdv A outer s0 H vs Q E hr h => ?_)
 ·obtain ⟨p,sa,s,z,r,row,rfl,hP,hr1,hl,k⟩ := h
  rfl
 ·have nd := sc_there.nd
  obtain ⟨p,sa,s,z,r,row,rfl,hP,hr1,hl,k⟩ := h
  refine ⟨_,(pss_cons (ps_if (pt_not (pt_val (pe_cal c_within (hr.mono (by decide)) rfl (pa_cons (pv 1) (pa_cons pe_int (pa_cons (pe_op op_sub (fldK (K := G.K) rfl (pv 0) rfl) pe_int) pa_nil))))))
   (pss_one (ps_ret (pe_lst (pa_cons (pe_gi rfl T.m_OUT_OF_RANGE) pa_nil))))
   pss_nil)
   (pss_cons (ps_set (i := 3) nd rfl (.inl rfl) (pe_cal c_crews_of (hr.mono (by decide)) rfl (pa_cons (pv 0) (pa_cons (pv 2) pa_nil))))
   (pss_cons (ps_if (pt_cmp (pc_isN (pv 3)))
   (pss_one (ps_ret (pe_lst (pa_cons (pe_gi rfl T.m_BAD_LIST) pa_nil))))
   pss_nil)
   (pss_cons (ps_setLc (i := 4) (own := [("a",5),("b",6)]) rfl nd rfl rfl (sw_true rfl rfl rfl rfl) (pi_list (fldK (K := G.K) rfl (pv 0) rfl)) (blkOk_by (show blkC ["plan", "minute", "row", "crews", "with_rests", "a", "b"] (defScope s_there) _ _ = true by decide +kernel)) (fun _ _ _ _ _ => (tupK (K := G.K) (n := 2) rfl rfl (pgs_cons (pg_name (i := 5) nd rfl (.inl rfl)) (pgs_cons (pg_name (i := 6) nd rfl (.inl rfl)) pgs_nil)))) (fun _ _ _ _ _ => pts_nil) (fun _ _ _ _ _ => (pe_tup (pa_cons (pv 5) (pa_cons (pe_op op_add (pv 6) (fldK (K := G.K) rfl (pv 0) rfl)) pa_nil)))))
   (pss_one (ps_ret (pe_lst (pa_cons (pe_cal c_there_at (hr.mono (by decide)) rfl (pa_cons (fldK (K := G.K) rfl (pv 0) rfl) (pa_cons (pv 3) (pa_cons (pv 1) pa_nil)))) (pa_cons (pe_cal c_there_at (hr.mono (by decide)) rfl (pa_cons (pv 4) (pa_cons (pv 3) (pa_cons (pv 1) pa_nil)))) pa_nil))))))))),?_⟩
  obtain ⟨dx,ca,hp,hca,nca⟩ := hP.ex
  rw [ans11] at k
  have h60 := hP.wf.sl
  refine ⟨_,rfl,_,rfl,p,G.CP,dx,_,_,rfl,hp,T.clP,T.nP_horizon,pf_horizon _ _ _,_,_,rfl,rfl,z,0,_,rfl,_,rfl,?_⟩
  have eT : inR z 0 ((s.horizon : Int) - 1) = okT s z := rfl
  rw [eT]
  cases q : okT s z with
  | false =>
   rw [if_pos q] at k
   refine iteT ?_
   exact ⟨(by show 1 <= sizeLine; decide),one_ret k⟩
  | true =>
   rw [if_neg (by rw [q]; simp)] at k
   refine iteF ?_
   have z0 : 0 <= z := ((inR_iff _ _ _).mp (show inR z 0 (Vbedai.nat s.horizon - 1) = true from q)).1
   have ez : ((z.toNat : Nat) : Int) = z := Int.toNat_of_nonneg z0
   refine ⟨_,rfl,_,rfl,p,sa,s,r,row,rfl,hP,hr1,hl,?_⟩
   cases hx : crewsIn s row with
   | none =>
    rw [hx] at k
    intro H1 e1
    refine ⟨_,rfl,_,rfl,?_⟩
    refine iteT ?_
    refine ⟨(by show 1 <= sizeLine; decide),fun a ha => ?_⟩
    refine k a _ (e1.new2 ha) (e1.free a ha) ?_
    rw [upd_same]; rfl
   | some x =>
    rw [hx] at k
    dsimp only at k
    have hin := isCrews_in ((crewsIn_ok s row x).mp hx)
    intro c H1 e1 hc hc'
    refine ⟨_,rfl,_,rfl,?_⟩
    refine iteF ?_
    have hP1 := hP.ext e1
    obtain ⟨dx1,ca1,hp1,_⟩ := hP1.ex
    obtain ⟨xs,hxs,hxl,hxa⟩ := hP1.sh.at
    have hn : xs.length = s.shifts.length := by rw [hxl,shP_len]
    refine ⟨_,rfl,p,G.CP,dx1,_,_,rfl,hp1,T.clP,T.nP_shifts,pf_shifts _ _ _,sa,rfl,⟨_,SqL.of hxs⟩,?_⟩
    intro D hD
    refine lcR_list (L := G.L) (xs := xs) (fun _ => true) (fun i => .tup (vI ((restP s).getD i []))) (fun _ => rfl) (by rw [hn,sizeLine_eq]; omega) (SqL.of hxs) hD (fun i y H2 hi e2 Kt N hy hn' => ?_) fun H2 hR => ?_
    ·obtain ⟨b,q,rfl,hq,hb⟩ := hxa i y hi
     have il : i < s.shifts.length := by rw [<- hn]; exact (List.getElem?_eq_some_iff.mp hi).1
     rw [shP_at il] at hq
     have ep : [((shiftOf s i).a : Int),((shiftOf s i).b : Int)] = q := Option.some.inj hq
     subst ep
     refine ⟨b,_,rfl,SqT.of (e2.tup hb),rfl,_,_,rfl,_,_,rfl,rfl,rfl,iteT (B := N H2) ?_⟩
     refine ⟨_,rfl,_,rfl,_,rfl,p,G.CP,dx1,_,_,rfl,e2.ins hp1,T.clP,T.nP_rest,pf_rest _ _ _,_,_,rfl,rfl,(by show 2 <= sizeLine; decide),fun t ht => ?_⟩
     refine hy rfl t _ (Ext.new ht) ht ?_
     rw [upd_same,restP_getD il]; rfl
    ·have e2 := hR.ext
     have hwr : LstT H2 D (restP s) := by
      have z1 := refL_tups hR
      rw [fil_all,hn] at z1
      have z2 : (List.range s.shifts.length).map (fun i => (restP s).getD i []) = restP s := by
       have z3 := range_getD (restP s) [] id
       rw [restP_len] at z3
       simpa using z3
      rw [z2] at z1
      exact z1
     have g2 := e1.trans e2
     have hP2 := hP.ext g2
     obtain ⟨dx2,ca2,hp2,_⟩ := hP2.ex
     refine ⟨_,rfl,p,G.CP,dx2,_,_,rfl,hp2,T.clP,T.nP_shifts,pf_shifts _ _ _,_,rfl,_,rfl,sa,c,shP s,onAll s x,z,rfl,hP2.sh,fun q hq => ?_,e2.lst hc',by rw [onAll_len,shP_len],by rw [shP_len]; exact h60,fun H3 e3 => ?_⟩
     ·unfold shP at hq
      obtain ⟨y,_,rfl⟩ := List.mem_map.mp hq
      rfl
     ·refine ⟨_,rfl,_,rfl,_,rfl,D,c,restP s,onAll s x,z,rfl,hwr.ext e3,fun q hq => ?_,(e2.trans e3).lst hc',by rw [onAll_len,restP_len],by rw [restP_len]; exact h60,fun H4 e4 => ?_⟩
      ·unfold restP at hq
       obtain ⟨y,_,rfl⟩ := List.mem_map.mp hq
       rfl
      ·refine ⟨(by show 2 <= sizeLine; decide),fun a ha => ?_⟩
       have g4 := (g2.trans e3).trans e4
       refine k a _ (g4.new2 ha) (g4.free a ha) ?_
       have t1 := thereI_eq hin z.toNat
       have t2 := engagedI_eq hin z.toNat
       rw [ez] at t1 t2
       rw [upd_same,t1,t2]
       rfl
end
abbrev s_why_not : Stmt := top 47
theorem sc_why_not : FnScope ["way", "needs", "gap"] ["way", "needs"] (defScope s_why_not) := scM
section
variable {P : Program} {w : World} {G : Gd} {mg : Str -> Option Value} {base : Heap}
theorem ok_why_not {f : Addr} {fd : FuncData} (F : Fun G.K "why_not" "why_not" s_why_not f fd) (T : Txt mg G) (c_first_gap : Def P w G.K mg base "first_gap" 1 ["way", "needs"] (sp_first_gap G)) (c_witness : Def P w G.K mg base "witness" 2 ["way", "short"] (sp_witness G)) (c_short_points : Def P w G.K mg base "short_points" 1 ["way", "needs"] (sp_short_points G)) : FnOk P w G.K mg base CX0 3 f fd ["way", "needs"] (sp_why_not G) := by
 refine F.ok sc_why_not (fun vs H Q E h => ?_) (fun cdv A outer s0 H vs Q E hr h => ?_)
 ·obtain ⟨wy,r,s,wanted,rfl,hW,hr1,k⟩ := h
  rfl
 ·have nd := sc_why_not.nd
  obtain ⟨wy,r,s,wanted,rfl,hW,hr1,k⟩ := h
  refine ⟨_,(pss_cons (ps_set (i := 2) nd rfl (.inl rfl) (pe_cal c_first_gap (hr.mono (by decide)) rfl (pa_cons (pv 0) (pa_cons (pv 1) pa_nil))))
   (pss_cons (ps_if (pt_cmp (pc_notN (pv 2)))
   (pss_one (ps_ret (pe_lst (pa_cons (pv 2) pa_nil))))
   pss_nil)
   (pss_one (ps_ret (pe_cal c_witness (hr.mono (by decide)) rfl (pa_cons (pv 0) (pa_cons (pe_cal c_short_points (hr.mono (by decide)) rfl (pa_cons (pv 0) (pa_cons (pv 1) pa_nil))) pa_nil))))))),?_⟩
  refine ⟨_,rfl,_,rfl,wy,r,s,_,_,wanted,rfl,hW,hr1,fun H1 e1 => ?_⟩
  refine ⟨_,rfl,_,rfl,?_⟩
  have fb := find_bare (s := s) (wanted := wanted) (pick_last s)
  cases q : (points s).find? (gapAt s wanted (lastEnd s)) with
  | some t =>
   rw [q] at fb
   refine iteT ?_
   refine ⟨_,rfl,(by show 1 <= sizeLine; decide),fun a ha => ?_⟩
   refine k a _ (e1.new2 ha) (e1.free a ha) ?_
   rw [upd_same,← fb]
   rfl
  | none =>
   rw [q] at fb
   refine iteF ?_
   refine ⟨_,rfl,_,rfl,_,rfl,wy,r,s,_,_,wanted,rfl,hW.ext e1,e1.lst hr1,q,fun d H2 e2 hd hsh => ?_⟩
   refine ⟨wy,d,s,_,_,_,rfl,hW.ext (e1.trans e2),hsh,shorts_221 hW.len,shorts_in (pick_last s) _,shorts_nodup (points_nodup s),fun a H3 e3 ha ha' => ?_⟩
   refine k a H3 ((e1.trans e2).trans e3) ((e1.trans e2).free a ha) ?_
   rw [ha',← fb]
end
abbrev s_within : Stmt := top 12
theorem sc_within : FnScope ["number", "low", "high"] ["number", "low", "high"] (defScope s_within) := scM
section
variable {P : Program} {w : World} {G : Gd} {mg : Str -> Option Value} {base : Heap}
theorem ok_within {f : Addr} {fd : FuncData} (F : Fun G.K "within" "within" s_within f fd) (T : Txt mg G) : FnOk P w G.K mg base CX0 1 f fd ["number", "low", "high"] sp_within := by
 refine F.ok sc_within (fun vs H Q E h => ?_) (fun cdv A outer s0 H vs Q E hr h => ?_)
 ·obtain ⟨n,l,h,rfl,k⟩ := h
  rfl
 ·have nd := sc_within.nd
  obtain ⟨n,l,h,rfl,k⟩ := h
  refine ⟨_,(pss_one (ps_ret (pe_and (pe_cmpR op_le (pv 1) (pv 0) (nomark _)) (pe_one (pe_cmpR op_le (pv 0) (pv 2) (nomark _)))))),?_⟩
  refine ⟨_,rfl,_,rfl,_,_,rfl,rfl,_,rfl,?_⟩
  by_cases c : l <= n
  ·rw [if_pos (by simpa using c)]
   refine ⟨_,rfl,_,rfl,_,_,rfl,rfl,?_⟩
   have e : inR n l h = decide (n <= h) := by unfold Vbedai.inR; simp [c]
   rw [e] at k
   exact k
  ·rw [if_neg (by simpa using c)]
   have e : inR n l h = false := by unfold Vbedai.inR; simp [c]
   rw [e] at k
   exact k
end
abbrev s_would_do : Stmt := top 45
theorem sc_would_do : FnScope ["way", "needs", "n"] ["way", "needs", "n"] (defScope s_would_do) := scM
section
variable {P : Program} {w : World} {G : Gd} {mg : Str -> Option Value} {base : Heap}
theorem ok_would_do {f : Addr} {fd : FuncData} (F : Fun G.K "would_do" "would_do" s_would_do f fd) (T : Txt mg G) (c_first_gap : Def P w G.K mg base "first_gap" 1 ["way", "needs"] (sp_first_gap G)) (c_put_in_all : Def P w G.K mg base "put_in_all" 1 ["short"] (sp_put_in_all G)) (c_short_points : Def P w G.K mg base "short_points" 1 ["way", "needs"] (sp_short_points G)) : FnOk P w G.K mg base CX0 2 f fd ["way", "needs", "n"] (sp_would_do G) := by
 refine F.ok sc_would_do (fun vs H Q E h => ?_) (fun cdv A outer s0 H vs Q E hr h => ?_)
 ·obtain ⟨wy,r,s,pick,ms,wanted,n,rfl,hW,hr1,k⟩ := h
  rfl
 ·have nd := sc_would_do.nd
  obtain ⟨wy,r,s,pick,ms,wanted,n,rfl,hW,hr1,k⟩ := h
  refine ⟨_,(pss_one (ps_ret (pe_and (pe_cmp (pc_isN (pe_cal c_first_gap (hr.mono (by decide)) rfl (pa_cons (pv 0) (pa_cons (pv 1) pa_nil))))) (pe_one (pe_cmpR op_le (pe_cal c_put_in_all (hr.mono (by decide)) rfl (pa_cons (pe_cal c_short_points (hr.mono (by decide)) rfl (pa_cons (pv 0) (pa_cons (pv 1) pa_nil))) pa_nil)) (pv 2) (nomark _)))))),?_⟩
  refine ⟨_,rfl,_,rfl,wy,r,s,pick,ms,wanted,rfl,hW,hr1,fun H1 e1 => ⟨_,rfl,?_⟩⟩
  cases q : ms.find? (gapAt s wanted pick) with
  | some t =>
   rw [q] at k
   exact iteF (k H1 e1)
  | none =>
   rw [q] at k
   refine iteT ?_
   refine ⟨_,rfl,_,rfl,wy,r,s,pick,ms,wanted,rfl,hW.ext e1,e1.lst hr1,q,fun d H2 e2 hd hsh => ?_⟩
   refine ⟨d,_,rfl,hsh,shorts_221 hW.len,fun H3 e3 => ⟨_,rfl,_,_,rfl,rfl,?_⟩⟩
   have z := k H3 ((e1.trans e2).trans e3)
   have e : decide ((total (cr (shorts s wanted pick ms)) : Int) <= (n : Int)) = decide (total (cr (shorts s wanted pick ms)) <= n) := by simp
   show Q (.bl (decide ((total (cr (shorts s wanted pick ms)) : Int) <= (n : Int)))) H3
   rw [e]
   exact z
end
end Cs
end
section
set_option Elab.async false
set_option linter.all false
set_option maxRecDepth 100000
set_option maxHeartbeats 4000000
namespace Cs
open PySem PySem.Spec PyProof.Rows L2
open Vbedai (State need points shiftOf on numbers there total gathered lastEnd firstStart bare eased does leastK missing crewsIn changesIn minutesIn okJ okT inR)
open VM
structure FnIn (K : W.Frag) (mg : Str -> Option Value) (x : Str) (st : Stmt) : Prop where
 ex : ∃ f fd,mg x = some (.ref f) /\ Fun K x x st f fd
structure FnInC (K : W.Frag) (mg : Str -> Option Value) (x : Str) (st : Stmt) (c : Addr) : Prop where
 ex : ∃ f fd,mg x = some (.ref f) /\ FunC K x x st f fd c
section
variable {K : W.Frag} {h : Heap} {mg : Str -> Option Value} {x : Str} {st : Stmt} {f c : Addr} {oc : Value} {od an : Option Addr} {osl : Array (Option Value)} {kV doc pm cdv ct : Value}
theorem fnIn_mk (X : K.In h) (G : h.Ns mainGlobals mg) (a : W.nsIn K mainGlobals x = some (some (.ref f))) (l : K.lookup f = some ⟨oc,od,.func (W.fnOf x x (defArgs st) (defBody st) (defScope st) .none kV doc pm an cdv ct),osl⟩)
  (c : W.codeIn K cdv x = true) (k : W.keepIn K (.ref f) = true) : FnIn K mg x st := ⟨f,_,W.mg_of X G a,fun_mk l c k⟩
theorem fnInC_mk (X : K.In h) (G : h.Ns mainGlobals mg) (a : W.nsIn K mainGlobals x = some (some (.ref f))) (l : K.lookup f = some ⟨oc,od,.func (W.fnOf x x (defArgs st) (defBody st) (defScope st) .none kV doc pm an (.ref c) ct),osl⟩)
  (hc : W.codeIn K (.ref c) x = true) (k : W.keepIn K (.ref f) = true) : FnInC K mg x st c := ⟨f,_,W.mg_of X G a,⟨oc,od,kV,doc,pm,an,ct,osl,rfl,l,hc⟩,k⟩
end
theorem FunC.toFun {K : W.Frag} {x qual : Str} {st : Stmt} {f c : Addr} {fd : FuncData} (F : FunC K x qual st f fd c) : Fun K x qual st f fd := by
 obtain ⟨oc,od,kV,doc,pm,an,ct,osl,e,l,hc⟩ := F.ex
 exact ⟨⟨oc,od,kV,doc,pm,an,.ref c,ct,osl,e,l,hc⟩,F.kp⟩
section
variable {P : Program} {w : World} {K : W.Frag} {mg : Str -> Option Value} {base : Heap} {x : Str} {st : Stmt} {k : Nat} {ps : List Str} {sp : Sp} {c : Addr}
theorem def_mk (F : FnIn K mg x st) (ok : ∀ f fd,Fun K x x st f fd -> FnOk P w K mg base CX0 k f fd ps sp)
  (hb : ∀ (kV doc pm : Value) (an : Option Addr) (cdv ct : Value) (us : List Value),us.length = ps.length -> bindArgs (W.fnOf x x (defArgs st) (defBody st) (defScope st) .none kV doc pm an cdv ct) ⟨us,[]⟩ = pure (ps.zip us)) : Def P w K mg base x k ps sp := by
 obtain ⟨f,fd,hm,F⟩ := F.ex
 exact ⟨f,fd,ok f fd F,hm,F.kp,F.binds hb⟩
theorem defC_mk (F : FnInC K mg x st c) (ok : ∀ f fd,FunC K x x st f fd c -> FnOk P w K mg base CX0 k f fd ps sp)
  (hb : ∀ (kV doc pm : Value) (an : Option Addr) (cdv ct : Value) (us : List Value),us.length = ps.length -> bindArgs (W.fnOf x x (defArgs st) (defBody st) (defScope st) .none kV doc pm an cdv ct) ⟨us,[]⟩ = pure (ps.zip us)) : Def P w K mg base x k ps sp := by
 obtain ⟨f,fd,hm,F⟩ := F.ex
 exact ⟨f,fd,ok f fd F,hm,F.kp,F.toFun.binds hb⟩
end
structure AllIn (K : W.Frag) (mg : Str -> Option Value) (c1 c2 c3 : Addr) : Prop where
 i_within : FnIn K mg "within" s_within
 i_has : FnIn K mg "has" s_has
 i_need_at : FnIn K mg "need_at" s_need_at
 i_points : FnIn K mg "points" s_points
 i_listed : FnIn K mg "listed" s_listed
 i_listed_pairs : FnIn K mg "listed_pairs" s_listed_pairs
 i_first_gap : FnIn K mg "first_gap" s_first_gap
 i_short_points : FnIn K mg "short_points" s_short_points
 i_put_in_all : FnIn K mg "put_in_all" s_put_in_all
 i_put_on_shifts : FnIn K mg "put_on_shifts" s_put_on_shifts
 i_fewer : FnIn K mg "fewer" s_fewer
 i_first_free : FnIn K mg "first_free" s_first_free
 i_first_too_early : FnIn K mg "first_too_early" s_first_too_early
 i_there_at : FnIn K mg "there_at" s_there_at
 i_is_shift : FnIn K mg "is_shift" s_is_shift
 i_changes_of : FnIn K mg "changes_of" s_changes_of
 i_are_minutes : FnIn K mg "are_minutes" s_are_minutes
 i_shifts_with : FnIn K mg "shifts_with" s_shifts_with
 i_needs_on : FnIn K mg "needs_on" s_needs_on
 i_witness : FnIn K mg "witness" s_witness
 i_would_do : FnIn K mg "would_do" s_would_do
 i_handed_out : FnIn K mg "handed_out" s_handed_out
 i_begin : FnIn K mg "begin" s_begin
 i_add_shift : FnIn K mg "add_shift" s_add_shift
 i_set_rest : FnIn K mg "set_rest" s_set_rest
 i_need : FnIn K mg "need" s_need
 i_all_kept : FnIn K mg "all_kept" s_all_kept
 i_has_form : FnIn K mg "has_form" s_has_form
 i_missing_at : FnIn K mg "missing_at" s_missing_at
 i_crews_of : FnIn K mg "crews_of" s_crews_of
 i_are_shifts : FnIn K mg "are_shifts" s_are_shifts
 i_fewest : FnIn K mg "fewest" s_fewest
 i_least_shortage : FnIn K mg "least_shortage" s_least_shortage
 i_why_not : FnIn K mg "why_not" s_why_not
 i_set_changes : FnIn K mg "set_changes" s_set_changes
 i_apart : FnIn K mg "apart" s_apart
 i_roster : FnIn K mg "roster" s_roster
 i_covers : FnIn K mg "covers" s_covers
 i_there : FnIn K mg "there" s_there
 i_hours : FnIn K mg "hours" s_hours
 i_make_change : FnIn K mg "make_change" s_make_change
 i_last_to_end : FnInC K mg "last_to_end" s_last_to_end c1
 i_first_to_begin : FnInC K mg "first_to_begin" s_first_to_begin c2
 i_one_by_one : FnInC K mg "one_by_one" s_one_by_one c3
 i_rising_way : FnIn K mg "rising_way" s_rising_way
 i_falling_way : FnIn K mg "falling_way" s_falling_way
 i_people : FnIn K mg "people" s_people
 i_least : FnIn K mg "least" s_least
 i_back : FnIn K mg "back" s_back
 i_shortage : FnIn K mg "shortage" s_shortage
 i_ill : FnIn K mg "ill" s_ill
 i_ask_by_numbers : FnIn K mg "ask_by_numbers" s_ask_by_numbers
 i_ask_by_lists : FnIn K mg "ask_by_lists" s_ask_by_lists
 i_answer : FnIn K mg "answer" s_answer
 i_answers : FnIn K mg "answers" s_answers
section
variable {P : Program} {w : World} {G : Gd} {mg : Str -> Option Value} {base : Heap}
theorem all_ok {FA c1 c2 c3 fP fW : Addr} {fdP fdW : FuncData} (T : Txt mg G) (TF : TxtF mg G FA) (I : AllIn G.K mg c1 c2 c3) (L1 : Lams G mg base "last_to_end" c1 ⟨96,28,96,50⟩) (L2 : Lams G mg base "first_to_begin" c2 ⟨98,28,98,50⟩) (L3 : Lams G mg base "one_by_one" c3 ⟨192,43,192,90⟩)
  (M_Plan : Mk G.K G.CP fP) (F_Plan : Fun G.K "__init__" "Plan.__init__" s_Plan fP fdP) (M_Way : Mk G.K G.CW fW) (F_Way : Fun G.K "__init__" "Way.__init__" s_Way fW fdW) : ∀ {f : Addr} {fd : FuncData},Fun G.K "answers" "answers" s_answers f fd -> FnOk P w G.K mg base CX0 10 f fd ["calls"] (sp_answers G) := by
 have G_Plan : FnOk P w G.K mg base CX0 1 fP fdP ["self"] (sp_Plan G) := ok_Plan F_Plan T
 have G_Way : FnOk P w G.K mg base CX0 1 fW fdW ["self", "shifts", "minutes", "having", "chosen"] (sp_Way G) := ok_Way F_Way T
 have b_Plan := F_Plan.binds (ps := ["self"]) fun _ _ _ _ _ _ us hl => match us,hl with | [_],_ => rfl
 have b_Way := F_Way.binds (ps := ["self", "shifts", "minutes", "having", "chosen"]) fun _ _ _ _ _ _ us hl => match us,hl with | [_,_,_,_,_],_ => rfl
 have c_within : Def P w G.K mg base "within" 1 ["number", "low", "high"] sp_within := def_mk I.i_within (fun f fd F => ok_within F T) (fun _ _ _ _ _ _ us hl => match us,hl with | [_,_,_],_ => rfl)
 have c_has : Def P w G.K mg base "has" 1 ["shift", "minute"] sp_has := def_mk I.i_has (fun f fd F => ok_has F T) (fun _ _ _ _ _ _ us hl => match us,hl with | [_,_],_ => rfl)
 have c_need_at : Def P w G.K mg base "need_at" 1 ["plan", "minute"] (sp_need_at G) := def_mk I.i_need_at (fun f fd F => ok_need_at F T) (fun _ _ _ _ _ _ us hl => match us,hl with | [_,_],_ => rfl)
 have c_points : Def P w G.K mg base "points" 1 ["plan"] (sp_points G) := def_mk I.i_points (fun f fd F => ok_points F T) (fun _ _ _ _ _ _ us hl => match us,hl with | [_],_ => rfl)
 have c_listed : Def P w G.K mg base "listed" 1 ["numbers"] (sp_listed G) := def_mk I.i_listed (fun f fd F => ok_listed F T) (fun _ _ _ _ _ _ us hl => match us,hl with | [_],_ => rfl)
 have c_listed_pairs : Def P w G.K mg base "listed_pairs" 1 ["pairs"] (sp_listed_pairs G) := def_mk I.i_listed_pairs (fun f fd F => ok_listed_pairs F T) (fun _ _ _ _ _ _ us hl => match us,hl with | [_],_ => rfl)
 have c_first_gap : Def P w G.K mg base "first_gap" 1 ["way", "needs"] (sp_first_gap G) := def_mk I.i_first_gap (fun f fd F => ok_first_gap F T) (fun _ _ _ _ _ _ us hl => match us,hl with | [_,_],_ => rfl)
 have c_short_points : Def P w G.K mg base "short_points" 1 ["way", "needs"] (sp_short_points G) := def_mk I.i_short_points (fun f fd F => ok_short_points F T) (fun _ _ _ _ _ _ us hl => match us,hl with | [_,_],_ => rfl)
 have c_put_in_all : Def P w G.K mg base "put_in_all" 1 ["short"] (sp_put_in_all G) := def_mk I.i_put_in_all (fun f fd F => ok_put_in_all F T) (fun _ _ _ _ _ _ us hl => match us,hl with | [_],_ => rfl)
 have c_put_on_shifts : Def P w G.K mg base "put_on_shifts" 1 ["way", "short"] (sp_put_on_shifts G) := def_mk I.i_put_on_shifts (fun f fd F => ok_put_on_shifts F T) (fun _ _ _ _ _ _ us hl => match us,hl with | [_,_],_ => rfl)
 have c_fewer : Def P w G.K mg base "fewer" 1 ["needs", "k"] (sp_fewer G) := def_mk I.i_fewer (fun f fd F => ok_fewer F T) (fun _ _ _ _ _ _ us hl => match us,hl with | [_,_],_ => rfl)
 have c_first_free : Def P w G.K mg base "first_free" 1 ["free", "minute"] (sp_first_free G) := def_mk I.i_first_free (fun f fd F => ok_first_free F T) (fun _ _ _ _ _ _ us hl => match us,hl with | [_,_],_ => rfl)
 have c_first_too_early : Def P w G.K mg base "first_too_early" 1 ["plan", "row"] (sp_first_too_early G) := def_mk I.i_first_too_early (fun f fd F => ok_first_too_early F T) (fun _ _ _ _ _ _ us hl => match us,hl with | [_,_],_ => rfl)
 have c_there_at : Def P w G.K mg base "there_at" 2 ["shifts", "crews", "minute"] (sp_there_at G) := def_mk I.i_there_at (fun f fd F => ok_there_at F T c_has) (fun _ _ _ _ _ _ us hl => match us,hl with | [_,_,_],_ => rfl)
 have c_is_shift : Def P w G.K mg base "is_shift" 2 ["plan", "number"] (sp_is_shift G) := def_mk I.i_is_shift (fun f fd F => ok_is_shift F T c_within) (fun _ _ _ _ _ _ us hl => match us,hl with | [_,_],_ => rfl)
 have c_changes_of : Def P w G.K mg base "changes_of" 2 ["plan", "row"] (sp_changes_of G) := def_mk I.i_changes_of (fun f fd F => ok_changes_of F T c_within) (fun _ _ _ _ _ _ us hl => match us,hl with | [_,_],_ => rfl)
 have c_are_minutes : Def P w G.K mg base "are_minutes" 2 ["plan", "row"] (sp_are_minutes G) := def_mk I.i_are_minutes (fun f fd F => ok_are_minutes F T c_within) (fun _ _ _ _ _ _ us hl => match us,hl with | [_,_],_ => rfl)
 have c_shifts_with : Def P w G.K mg base "shifts_with" 2 ["shifts", "minute"] (sp_shifts_with G) := def_mk I.i_shifts_with (fun f fd F => ok_shifts_with F T c_has) (fun _ _ _ _ _ _ us hl => match us,hl with | [_,_],_ => rfl)
 have c_needs_on : Def P w G.K mg base "needs_on" 2 ["plan", "way"] (sp_needs_on G) := def_mk I.i_needs_on (fun f fd F => ok_needs_on F T c_need_at) (fun _ _ _ _ _ _ us hl => match us,hl with | [_,_],_ => rfl)
 have c_witness : Def P w G.K mg base "witness" 2 ["way", "short"] (sp_witness G) := def_mk I.i_witness (fun f fd F => ok_witness F T c_has) (fun _ _ _ _ _ _ us hl => match us,hl with | [_,_],_ => rfl)
 have c_would_do : Def P w G.K mg base "would_do" 2 ["way", "needs", "n"] (sp_would_do G) := def_mk I.i_would_do (fun f fd F => ok_would_do F T c_first_gap c_put_in_all c_short_points) (fun _ _ _ _ _ _ us hl => match us,hl with | [_,_,_],_ => rfl)
 have c_handed_out : Def P w G.K mg base "handed_out" 2 ["plan", "taken"] (sp_handed_out G) := def_mk I.i_handed_out (fun f fd F => ok_handed_out F T c_first_free) (fun _ _ _ _ _ _ us hl => match us,hl with | [_,_],_ => rfl)
 have c_begin : Def P w G.K mg base "begin" 2 ["plan", "horizon", "rest"] (sp_begin G) := def_mk I.i_begin (fun f fd F => ok_begin F T c_within) (fun _ _ _ _ _ _ us hl => match us,hl with | [_,_,_],_ => rfl)
 have c_add_shift : Def P w G.K mg base "add_shift" 2 ["plan", "a", "b"] (sp_add_shift G) := def_mk I.i_add_shift (fun f fd F => ok_add_shift F T c_within) (fun _ _ _ _ _ _ us hl => match us,hl with | [_,_,_],_ => rfl)
 have c_set_rest : Def P w G.K mg base "set_rest" 2 ["plan", "rest"] (sp_set_rest G) := def_mk I.i_set_rest (fun f fd F => ok_set_rest F T c_within) (fun _ _ _ _ _ _ us hl => match us,hl with | [_,_],_ => rfl)
 have c_need : Def P w G.K mg base "need" 2 ["plan", "minute"] (sp_need G) := def_mk I.i_need (fun f fd F => ok_need F T c_within c_need_at) (fun _ _ _ _ _ _ us hl => match us,hl with | [_,_],_ => rfl)
 have c_all_kept : Def P w G.K mg base "all_kept" 2 ["plan"] (sp_all_kept G) := def_mk I.i_all_kept (fun f fd F => ok_all_kept F T c_listed_pairs) (fun _ _ _ _ _ _ us hl => match us,hl with | [_],_ => rfl)
 have c_has_form : Def P w G.K mg base "has_form" 2 ["place", "numbers", "lists"] (sp_has_form G) := def_mk I.i_has_form (fun f fd F => ok_has_form F T c_within TF) (fun _ _ _ _ _ _ us hl => match us,hl with | [_,_,_],_ => rfl)
 have c_missing_at : Def P w G.K mg base "missing_at" 3 ["plan", "crews", "minute"] (sp_missing_at G) := def_mk I.i_missing_at (fun f fd F => ok_missing_at F T c_need_at c_there_at) (fun _ _ _ _ _ _ us hl => match us,hl with | [_,_,_],_ => rfl)
 have c_crews_of : Def P w G.K mg base "crews_of" 3 ["plan", "row"] (sp_crews_of G) := def_mk I.i_crews_of (fun f fd F => ok_crews_of F T c_within c_is_shift) (fun _ _ _ _ _ _ us hl => match us,hl with | [_,_],_ => rfl)
 have c_are_shifts : Def P w G.K mg base "are_shifts" 3 ["plan", "row"] (sp_are_shifts G) := def_mk I.i_are_shifts (fun f fd F => ok_are_shifts F T c_is_shift) (fun _ _ _ _ _ _ us hl => match us,hl with | [_,_],_ => rfl)
 have c_fewest : Def P w G.K mg base "fewest" 3 ["way", "needs"] (sp_fewest G) := def_mk I.i_fewest (fun f fd F => ok_fewest F T c_short_points c_first_gap c_listed c_listed_pairs c_witness c_put_in_all c_put_on_shifts) (fun _ _ _ _ _ _ us hl => match us,hl with | [_,_],_ => rfl)
 have c_least_shortage : Def P w G.K mg base "least_shortage" 3 ["way", "needs", "n"] (sp_least_shortage G) := def_mk I.i_least_shortage (fun f fd F => ok_least_shortage F T c_would_do c_fewer) (fun _ _ _ _ _ _ us hl => match us,hl with | [_,_,_],_ => rfl)
 have c_why_not : Def P w G.K mg base "why_not" 3 ["way", "needs"] (sp_why_not G) := def_mk I.i_why_not (fun f fd F => ok_why_not F T c_first_gap c_witness c_short_points) (fun _ _ _ _ _ _ us hl => match us,hl with | [_,_],_ => rfl)
 have c_set_changes : Def P w G.K mg base "set_changes" 3 ["plan", "row"] (sp_set_changes G) := def_mk I.i_set_changes (fun f fd F => ok_set_changes F T c_changes_of) (fun _ _ _ _ _ _ us hl => match us,hl with | [_,_],_ => rfl)
 have c_apart : Def P w G.K mg base "apart" 3 ["plan", "row"] (sp_apart G) := def_mk I.i_apart (fun f fd F => ok_apart F T c_are_minutes c_has c_need_at) (fun _ _ _ _ _ _ us hl => match us,hl with | [_,_],_ => rfl)
 have c_roster : Def P w G.K mg base "roster" 4 ["plan", "rows"] (sp_roster G) := def_mk I.i_roster (fun f fd F => ok_roster F T c_first_too_early c_are_shifts) (fun _ _ _ _ _ _ us hl => match us,hl with | [_,_],_ => rfl)
 have c_covers : Def P w G.K mg base "covers" 4 ["plan", "row"] (sp_covers G) := def_mk I.i_covers (fun f fd F => ok_covers F T c_crews_of c_points c_missing_at) (fun _ _ _ _ _ _ us hl => match us,hl with | [_,_],_ => rfl)
 have c_there : Def P w G.K mg base "there" 4 ["plan", "minute", "row"] (sp_there G) := def_mk I.i_there (fun f fd F => ok_there F T c_crews_of c_within c_there_at) (fun _ _ _ _ _ _ us hl => match us,hl with | [_,_,_],_ => rfl)
 have c_hours : Def P w G.K mg base "hours" 4 ["plan", "row"] (sp_hours G) := def_mk I.i_hours (fun f fd F => ok_hours F T c_crews_of) (fun _ _ _ _ _ _ us hl => match us,hl with | [_,_],_ => rfl)
 have c_make_change : Def P w G.K mg base "make_change" 4 ["plan", "place", "numbers", "lists"] (sp_make_change G) := def_mk I.i_make_change (fun f fd F => ok_make_change F T c_set_rest c_begin c_set_changes c_add_shift) (fun _ _ _ _ _ _ us hl => match us,hl with | [_,_,_,_],_ => rfl)
 have c_last_to_end : Def P w G.K mg base "last_to_end" 5 ["shifts", "numbers"] (sp_last_to_end G) := defC_mk I.i_last_to_end (fun f fd F => ok_last_to_end F T L1) (fun _ _ _ _ _ _ us hl => match us,hl with | [_,_],_ => rfl)
 have c_first_to_begin : Def P w G.K mg base "first_to_begin" 5 ["shifts", "numbers"] (sp_first_to_begin G) := defC_mk I.i_first_to_begin (fun f fd F => ok_first_to_begin F T L2) (fun _ _ _ _ _ _ us hl => match us,hl with | [_,_],_ => rfl)
 have c_one_by_one : Def P w G.K mg base "one_by_one" 5 ["plan", "crews"] (sp_one_by_one G) := defC_mk I.i_one_by_one (fun f fd F => ok_one_by_one F T L3) (fun _ _ _ _ _ _ us hl => match us,hl with | [_,_],_ => rfl)
 have c_rising_way : Def P w G.K mg base "rising_way" 6 ["plan"] (sp_rising_way G) := def_mk I.i_rising_way (fun f fd F => ok_rising_way F T c_points M_Way G_Way b_Way c_shifts_with c_last_to_end) (fun _ _ _ _ _ _ us hl => match us,hl with | [_],_ => rfl)
 have c_falling_way : Def P w G.K mg base "falling_way" 6 ["plan"] (sp_falling_way G) := def_mk I.i_falling_way (fun f fd F => ok_falling_way F T M_Way G_Way b_Way c_shifts_with c_first_to_begin c_points) (fun _ _ _ _ _ _ us hl => match us,hl with | [_],_ => rfl)
 have c_people : Def P w G.K mg base "people" 6 ["plan", "row"] (sp_people G) := def_mk I.i_people (fun f fd F => ok_people F T c_crews_of c_handed_out c_one_by_one c_listed) (fun _ _ _ _ _ _ us hl => match us,hl with | [_,_],_ => rfl)
 have c_least : Def P w G.K mg base "least" 7 ["plan"] (sp_least G) := def_mk I.i_least (fun f fd F => ok_least F T c_rising_way c_fewest c_needs_on) (fun _ _ _ _ _ _ us hl => match us,hl with | [_],_ => rfl)
 have c_back : Def P w G.K mg base "back" 7 ["plan"] (sp_back G) := def_mk I.i_back (fun f fd F => ok_back F T c_falling_way c_fewest c_needs_on) (fun _ _ _ _ _ _ us hl => match us,hl with | [_],_ => rfl)
 have c_shortage : Def P w G.K mg base "shortage" 7 ["plan", "n"] (sp_shortage G) := def_mk I.i_shortage (fun f fd F => ok_shortage F T c_rising_way c_needs_on c_least_shortage c_within c_listed c_why_not c_fewer) (fun _ _ _ _ _ _ us hl => match us,hl with | [_,_],_ => rfl)
 have c_ill : Def P w G.K mg base "ill" 7 ["plan", "j", "k", "row"] (sp_ill G) := def_mk I.i_ill (fun f fd F => ok_ill F T c_crews_of c_rising_way c_fewest c_is_shift c_within c_missing_at) (fun _ _ _ _ _ _ us hl => match us,hl with | [_,_,_,_],_ => rfl)
 have c_ask_by_numbers : Def P w G.K mg base "ask_by_numbers" 8 ["plan", "place", "numbers"] (sp_ask_by_numbers G) := def_mk I.i_ask_by_numbers (fun f fd F => ok_ask_by_numbers F T c_all_kept c_least c_back c_need c_shortage) (fun _ _ _ _ _ _ us hl => match us,hl with | [_,_,_],_ => rfl)
 have c_ask_by_lists : Def P w G.K mg base "ask_by_lists" 8 ["plan", "place", "numbers", "lists"] (sp_ask_by_lists G) := def_mk I.i_ask_by_lists (fun f fd F => ok_ask_by_lists F T c_hours c_covers c_apart c_people c_roster c_there c_ill) (fun _ _ _ _ _ _ us hl => match us,hl with | [_,_,_,_],_ => rfl)
 have c_answer : Def P w G.K mg base "answer" 9 ["plan", "place", "numbers", "lists"] (sp_answer G) := def_mk I.i_answer (fun f fd F => ok_answer F T c_ask_by_lists c_has_form c_make_change c_ask_by_numbers TF) (fun _ _ _ _ _ _ us hl => match us,hl with | [_,_,_,_],_ => rfl)
 exact fun {_ _} F => ok_answers F T M_Plan G_Plan b_Plan c_listed c_answer
end
end Cs
end
section
set_option Elab.async false
set_option linter.all false
set_option maxRecDepth 100000
set_option maxHeartbeats 4000000
namespace Cs
open PySem PySem.Spec PyProof.Rows L2
open PySem.W (nsIn findIn isFn codeIn keepIn plainGet hasDictIn plainOver makesIn fnOf CodeHd TabsAt tabObj noTabs WData)
structure BltIn (K : W.Frag) : Prop where
 len : nsIn K mainGlobals "len" = some none
 sum : nsIn K mainGlobals "sum" = some none
 max : nsIn K mainGlobals "max" = some none
 min : nsIn K mainGlobals "min" = some none
 any : nsIn K mainGlobals "any" = some none
 all : nsIn K mainGlobals "all" = some none
 sorted : nsIn K mainGlobals "sorted" = some none
 set : nsIn K mainGlobals "set" = some none
 list : nsIn K mainGlobals "list" = some none
 reversed : nsIn K mainGlobals "reversed" = some none
 range : nsIn K mainGlobals "range" = some none
def ConI (K : W.Frag) (x : Str) (z : Int) : Prop := ∃ t,nsIn K mainGlobals x = some (some (.int z t))
theorem conI {K : W.Frag} {x : Str} {z : Int} {t : Tok} (h : nsIn K mainGlobals x = some (some (.int z t))) : ConI K x z := ⟨t,h⟩
structure ConIn (K : W.Frag) : Prop where
 NO_FORM : ConI K "NO_FORM" (-9)
 OUT_OF_RANGE : ConI K "OUT_OF_RANGE" (-1)
 BAD_LIST : ConI K "BAD_LIST" (-2)
 NOT_GREATER : ConI K "NOT_GREATER" (-4)
 NO_MORE_SHIFTS : ConI K "NO_MORE_SHIFTS" (-6)
 TOO_FEW_ON_SHIFT : ConI K "TOO_FEW_ON_SHIFT" (-3)
 TOO_MANY_CREWS : ConI K "TOO_MANY_CREWS" (-11)
 NO_SHIFT_HAS_IT : ConI K "NO_SHIFT_HAS_IT" (-7)
 MOST_NEEDED : ConI K "MOST_NEEDED" 1000
 MOST_ON_SHIFT : ConI K "MOST_ON_SHIFT" 1000
 MOST_CHANGES : ConI K "MOST_CHANGES" 100
 MOST_ASKED : ConI K "MOST_ASKED" 100000
 MOST_CREWS : ConI K "MOST_CREWS" 300
 MOST_MINUTES : ConI K "MOST_MINUTES" 1000000
 MOST_SHIFTS : ConI K "MOST_SHIFTS" 60
structure ClsIn (K : W.Frag) (x qual : Str) (st : Stmt) (C : Addr) : Prop where
 at_ : nsIn K mainGlobals x = some (some (.ref C))
 cl : Cls K C
 ini : ∃ f fd,Mk K C f /\ Fun K "__init__" qual st f fd
theorem cls_mk {K : W.Frag} {x qual : Str} {st : Stmt} {C f : Addr} {oc : Value} {od an : Option Addr} {osl : Array (Option Value)} {kV doc pm cdv ct : Value} (a : nsIn K mainGlobals x = some (some (.ref C)))
  (pg : plainGet K C Str.empty = true) (hd : hasDictIn K C = true) (po : plainOver K C = true) (sa : findIn K (.ref C) "__setattr__" = some (some (.builtin "object.__setattr__"))) (mk : makesIn K C = true) (kc : keepIn K (.ref C) = true)
  (a1 : findIn K (.ref C) "__init__" = some (some (.ref f))) (i1 : isFn K (.ref f) = true) (l1 : K.lookup f = some ⟨oc,od,.func (fnOf "__init__" qual (defArgs st) (defBody st) (defScope st) .none kV doc pm an cdv ct),osl⟩) (c1 : codeIn K cdv qual = true) (k1 : keepIn K (.ref f) = true) : ClsIn K x qual st C :=
 ⟨a,⟨pg,hd,po,sa⟩,f,_,⟨mk,a1,i1,kc⟩,fun_mk l1 c1 k1⟩
structure AttrP (K : W.Frag) (C : Addr) : Prop where
 horizon : findIn K (.ref C) "horizon" = some none
 rest : findIn K (.ref C) "rest" = some none
 changes : findIn K (.ref C) "changes" = some none
 shifts : findIn K (.ref C) "shifts" = some none
structure AttrW (K : W.Frag) (C : Addr) : Prop where
 shifts : findIn K (.ref C) "shifts" = some none
 minutes : findIn K (.ref C) "minutes" = some none
 having : findIn K (.ref C) "having" = some none
 chosen : findIn K (.ref C) "chosen" = some none
def GlI.of {K : W.Frag} {h : Heap} {mg : Str -> Option Value} {x : Str} {z : Int} (X : K.In h) (N : h.Ns mainGlobals mg) (c : ConI K x z) : GlI mg x z := let ⟨t,e⟩ := c; ⟨t,W.mg_of X N e⟩
abbrev qLast : Str := (Str.ofString "last_to_end" ++ ".<locals>.") ++ "<lambda>"
abbrev qFirst : Str := (Str.ofString "first_to_begin" ++ ".<locals>.") ++ "<lambda>"
abbrev qOne : Str := (Str.ofString "one_by_one" ++ ".<locals>.") ++ "<lambda>"
theorem all_mk {P : Program} {w : World} {K : W.Frag} {h : Heap} {mg mb : Str -> Option Value} {mean : ExcName -> Option Value} {q : Program} {loose : List Str} {fa c1 P1 c2 P2 c3 P3 FA CP CW : Addr}
  (X : K.In h) (Tp : Top q loose mean mg mb h) (hfa : mg "answers" = some (.ref fa)) (n0 : noTabs K = true)
  (t1 : CodeHd h c1 P1 /\ h.get? P1 = some (tabObj #[])) (t2 : CodeHd h c2 P2 /\ h.get? P2 = some (tabObj #[])) (t3 : CodeHd h c3 P3 /\ h.get? P3 = some (tabObj #[])) (n12 : P1 ≠ P2) (n13 : P1 ≠ P3) (n23 : P2 ≠ P3)
  (aF : nsIn K mainGlobals "FORMS" = some (some (.ref FA))) (iF : formsIn K FA = true)
  (cP : ClsIn K "Plan" "Plan.__init__" s_Plan CP) (cW : ClsIn K "Way" "Way.__init__" s_Way CW) (aP : AttrP K CP) (aW : AttrW K CW) (B : BltIn K) (Cn : ConIn K) (I : AllIn K mg c1 c2 c3) :
  ∃ (fd : FuncData) (tabs : List (Addr × Addr)) (sp : Sp),(∀ (s : Shared) (us : List Value),us.length = (["calls"] : List Str).length -> BindsTo s fd ⟨us,[]⟩ ((["calls"] : List Str).zip us)) /\ TabsAt tabs h /\ noTabs K = true ∧
   (∀ base : Heap,K.In base -> base.Ns mainGlobals mg -> BM mg base -> (∀ q ∈ tabs,CodeHd base q.1 q.2) -> FnOk P w K mg base CX0 10 fa fd ["calls"] sp) ∧
   ∀ ns : List Int,ns.length <= 17000 -> PyVbedai.answers_asked ns = true -> Asked K tabs [.list (ns.map WData.int)] (.list ((PyVbedai.answers ns).map WData.int)) sp := by
 have N := Tp.g
 obtain ⟨fP,fdP,M_Plan,F_Plan⟩ := cP.ini
 obtain ⟨fW,fdW,M_Way,F_Way⟩ := cW.ini
 let G : Gd := ⟨K,CP,CW,[(P1,⟨96,28,96,50⟩,qLast),(P2,⟨98,28,98,50⟩,qFirst),(P3,⟨192,43,192,90⟩,qOne)]⟩
 have T : Txt mg G := { b_len := W.mg_none_of X N B.len,b_sum := W.mg_none_of X N B.sum,b_max := W.mg_none_of X N B.max,b_min := W.mg_none_of X N B.min,b_any := W.mg_none_of X N B.any,b_all := W.mg_none_of X N B.all,b_sorted := W.mg_none_of X N B.sorted,b_set := W.mg_none_of X N B.set,b_list := W.mg_none_of X N B.list,b_reversed := W.mg_none_of X N B.reversed,b_range := W.mg_none_of X N B.range,m_NO_FORM := .of X N Cn.NO_FORM,m_OUT_OF_RANGE := .of X N Cn.OUT_OF_RANGE,m_BAD_LIST := .of X N Cn.BAD_LIST,m_NOT_GREATER := .of X N Cn.NOT_GREATER,m_NO_MORE_SHIFTS := .of X N Cn.NO_MORE_SHIFTS,m_TOO_FEW_ON_SHIFT := .of X N Cn.TOO_FEW_ON_SHIFT,m_TOO_MANY_CREWS := .of X N Cn.TOO_MANY_CREWS,m_NO_SHIFT_HAS_IT := .of X N Cn.NO_SHIFT_HAS_IT,m_MOST_NEEDED := .of X N Cn.MOST_NEEDED,m_MOST_ON_SHIFT := .of X N Cn.MOST_ON_SHIFT,m_MOST_CHANGES := .of X N Cn.MOST_CHANGES,m_MOST_ASKED := .of X N Cn.MOST_ASKED,m_MOST_CREWS := .of X N Cn.MOST_CREWS,m_MOST_MINUTES := .of X N Cn.MOST_MINUTES,m_MOST_SHIFTS := .of X N Cn.MOST_SHIFTS,m_Plan := W.mg_of X N cP.at_,m_Way := W.mg_of X N cW.at_,clP := cP.cl,clW := cW.cl,nP_horizon := aP.horizon,nP_rest := aP.rest,nP_changes := aP.changes,nP_shifts := aP.shifts,nW_shifts := aW.shifts,nW_minutes := aW.minutes,nW_having := aW.having,nW_chosen := aW.chosen }
 have TF : TxtF mg G FA := ⟨W.mg_of X N aF,frm_mk iF⟩
 obtain ⟨f0,fd0,hm0,F0⟩ := I.i_answers.ex
 have ef := hfa.symm.trans hm0
 cases ef
 have mem : ∀ {α : Type} {a b c : α} {x : α},x ∈ [a,b,c] -> x = a ∨ x = b ∨ x = c := fun {α a b c x} h => by simpa using h
 refine ⟨fd0,[(c1,P1),(c2,P2),(c3,P3)],sp_answers G,?_,?_,n0,?_,?_⟩
 ·obtain ⟨oc,od,kV,doc,pm,an,cdv,ct,osl,rfl,lk,hcd⟩ := F0.ex
  exact fun s us hu => match us,hu with | [_],_ => .of_eq rfl
 ·intro q hq
  rcases mem hq with rfl | rfl | rfl
  ·exact t1
  ·exact t2
  ·exact t3
 ·intro base KB NB bm cd
  have one : ∀ (i : Nat) (t : Tbl),G.L[i]? = some t -> ∀ u ∈ G.L,u.1 = t.1 -> u = t := fun i t ht u hu e => by
   have ht' : t ∈ G.L := List.mem_of_getElem? ht
   rcases mem (show t ∈ [_,_,_] from ht') with rfl | rfl | rfl <;> rcases mem (show u ∈ [_,_,_] from hu) with rfl | rfl | rfl <;>
    first | rfl | exact absurd e n12 | exact absurd e n13 | exact absurd e n23 | exact absurd e.symm n12 | exact absurd e.symm n13 | exact absurd e.symm n23
  have L1 : Lams G mg base "last_to_end" c1 ⟨96,28,96,50⟩ := ⟨bm,P1,cd (c1,P1) (by simp),by simp [G],one 0 _ rfl⟩
  have L2 : Lams G mg base "first_to_begin" c2 ⟨98,28,98,50⟩ := ⟨bm,P2,cd (c2,P2) (by simp),by simp [G],one 1 _ rfl⟩
  have L3 : Lams G mg base "one_by_one" c3 ⟨192,43,192,90⟩ := ⟨bm,P3,cd (c3,P3) (by simp),by simp [G],one 2 _ rfl⟩
  exact all_ok (P := P) (w := w) (base := base) T TF I L1 L2 L3 M_Plan F_Plan M_Way F_Way F0
 ·intro ns hl ha H0 H xs hO hx up tb
  cases hx with
  | cons h1 h2 =>
   cases h2
   cases h1 with
   | lst hs hall =>
    have e := ints_dw ns _ hall
    subst e
    rename_i a
    refine ⟨a,ns,rfl,?_,hl,?_,ha,fun p H' hp => .lst (SqL.of hp) (dw_ints _)⟩
    ·rcases hs with (hs | ⟨o,hs⟩) | hs
     ·rcases hO a with z | ⟨o,u,z⟩
      ·rw [hs] at z; cases z
      ·rw [hs] at z; cases z
     ·exact .inl ⟨o,up _ _ hs⟩
     ·exact .inr fun H' => .inr hs
    ·intro t ht
     rcases mem (show t ∈ [_,_,_] from ht) with rfl | rfl | rfl
     ·exact .inl (tb (c1,P1) (by simp))
     ·exact .inl (tb (c2,P2) (by simp))
     ·exact .inl (tb (c3,P3) (by simp))
end Cs
end
namespace PySem.W.Fast
theorem tw12439458840205827940:True:=⟨⟩
theorem tw5827533316810652915:True:=⟨⟩
theorem tw7946461928515201677:True:=⟨⟩
theorem tw13418582427416911422:True:=⟨⟩
theorem tw17347217262416034343:True:=⟨⟩
theorem tw18336055868218105816:True:=⟨⟩
theorem tw8244998597003851439:True:=⟨⟩
theorem tw16976082902364659825:True:=⟨⟩
theorem tw2732656061683581234:True:=⟨⟩
theorem tw16189861277265480438:True:=⟨⟩
theorem tw15072653820458475851:True:=⟨⟩
theorem tw5706775259319523631:True:=⟨⟩
theorem tw4724951524387797992:True:=⟨⟩
theorem tw6715884423065475020:True:=⟨⟩
theorem tw11783869025915383422:True:=⟨⟩
theorem tw6722216970085605600:True:=⟨⟩
theorem tw4334170690980462726:True:=⟨⟩
theorem tw13669638945669498405:True:=⟨⟩
end PySem.W.Fast
open PySem PySem.W PyProof.Rows
set_option maxRecDepth 100000 in
set_option maxHeartbeats 0 in
theorem PySem.Challenge.cw_crewshifts_s01_answers_holds : PySem.Challenge.rw_crewshifts_s01_answers.Holds := by
  w_on; k_headS; (case hw => exact ⟨[.list [.int 4,.int 0,.int 0]],by decide +kernel,by decide +kernel⟩)
  k_fillS
  refine Cs.walk_specT (r := PySem.Challenge.rw_crewshifts_s01_answers) (k := 10) (ps := ["calls"]) (by decide +kernel) rfl rfl ⟨rfl,by decide,by decide⟩ (fun w h Y => PySem.W.kIn_of Y) ?F
  intro w mg mb mean fa h KX Tp hmg
  have R := Cs.all_mk (P := PySem.Challenge.rw_crewshifts_s01_answers.prog) (w := w) (c1 := 150) (P1 := 146) (c2 := 157) (P2 := 153) (c3 := 265) (P3 := 261) (FA := 300) (CP := 31) (CW := 135) KX Tp hmg (by kernel_rfl)
    (tab_of (x := PySem.Str.ofString "last_to_end") Tp KX rfl (by kernel_rfl)) (tab_of (x := PySem.Str.ofString "first_to_begin") Tp KX rfl (by kernel_rfl)) (tab_of (x := PySem.Str.ofString "one_by_one") Tp KX rfl (by kernel_rfl)) (by decide) (by decide) (by decide)
    (by k_is) (by kernel_rfl)
    (by refine' Cs.cls_mk ?a ?pg ?hd ?po ?sa ?mk ?kc ?a1 ?i1 ?l1 ?c1 ?k1
        (case a => k_is); (case pg => k_is); (case hd => k_is); (case po => k_is); (case sa => k_is); (case mk => k_is); (case kc => k_is); (case a1 => k_is); (case i1 => k_is); (case l1 => k_is); (case c1 => k_is); (case k1 => k_is))
    (by refine' Cs.cls_mk ?a ?pg ?hd ?po ?sa ?mk ?kc ?a1 ?i1 ?l1 ?c1 ?k1
        (case a => k_is); (case pg => k_is); (case hd => k_is); (case po => k_is); (case sa => k_is); (case mk => k_is); (case kc => k_is); (case a1 => k_is); (case i1 => k_is); (case l1 => k_is); (case c1 => k_is); (case k1 => k_is))
    (by refine' ⟨?a,?b,?c,?d⟩; (case a => k_is); (case b => k_is); (case c => k_is); (case d => k_is))
    (by refine' ⟨?a,?b,?c,?d⟩; (case a => k_is); (case b => k_is); (case c => k_is); (case d => k_is))
    (by constructor <;> k_is)
    (by constructor <;> (refine' Cs.conI ?e; (case e => k_is)))
    (by constructor <;> first
        | (refine' Cs.fnIn_mk KX Tp.g ?a ?l ?c ?k; (case a => k_is); (case l => k_is); (case c => k_is); (case k => k_is))
        | (refine' Cs.fnInC_mk KX Tp.g ?a ?l ?c ?k; (case a => k_is); (case l => k_is); (case c => k_is); (case k => k_is)))
  obtain ⟨fd,tabs,sp,h1,h2,h3,h4,h5⟩ := R
  refine ⟨fd,tabs,sp,h1,h2,h3,h4,fun a hwi hask => ?_⟩
  have q : ((Codec.inLen 0 17000 a.1 && a.1.all (Codec.inInt (-1000000000000000000) 1000000000000000000)) && true) = true := hwi
  rw [Bool.and_eq_true,Bool.and_eq_true] at q
  exact h5 a.1 (Codec.inNat_iff.mp q.1.1).2 hask
